/-
  Plain mathematics of layer 7 (lex): what a token's kind says of its bytes; two tokens side by side.
-/
import Derived.Test.YtncafadjcelloaaDoorLexMore
namespace Go.Proofs.YtncafadjcelloaaDoor
open Go.RowKit FloM ValM
set_option linter.unusedVariables false
set_option linter.unusedSimpArgs false

theorem all_span {p : UInt8 → Bool} {l : List UInt8} (h : spanL p l = l.length) : l.all p = true := span_full.1 h
theorem first_iff {l : List UInt8} {k n : Nat} (h : firstL l = some (k, n)) : measL l = (k, n) ∧ okL k (l.take n) = true := by
  unfold firstL at h
  split at h
  · rename_i ho; injection h with h; rw [h] at ho; exact ⟨h, ho⟩
  · cases h
theorem word_dig {c : UInt8} (h : digC c = true) : wordC c = true := by simp [wordC, h]
theorem word_low {c : UInt8} (h : lowC c = true) : wordC c = true := by simp [wordC, h]
theorem upp_not_word {c : UInt8} (h : uppC c = true) : wordC c = false ∧ lowC c = false := by
  simp only [uppC, decide_eq_true_eq] at h
  constructor <;> simp [wordC, lowC, digC] <;> omega
theorem low_not {c : UInt8} (h : lowC c = true) : uppC c = false := by
  simp only [lowC, decide_eq_true_eq] at h; simp [uppC]; omega
/-- What a token's kind says of its bytes. -/
theorem kind_bytes {c : UInt8} {r : List UInt8} {k : Nat} (h : firstL (c :: r) = some (k, (c :: r).length)) :
    (k = 1 ∧ lowC c = true ∧ (c :: r).all wordC = true) ∨ (k = 2 ∧ lowC c = false ∧ uppC c = true ∧ (c :: r).all nameC = true) ∨
    (k = 3 ∧ lowC c = false ∧ uppC c = false ∧ c.toNat = 35 ∧ r.all nameC = true) ∨ (k = 3 ∧ lowC c = false ∧ uppC c = false ∧ c.toNat = 45 ∧ r.all nameC = true ∧ 0 < spanL digC r) ∨
    (k = 3 ∧ lowC c = false ∧ uppC c = false ∧ digC c = true ∧ (c :: r).all nameC = true ∧ (readV (bs (c :: r))).isSome = true) ∨ k = 4 := by
  obtain ⟨hm, ho⟩ := first_iff h
  rw [List.take_length] at ho
  by_cases h1 : 0 < spanL lowC (c :: r)
  · have e : measL (c :: r) = (1, spanL wordC (c :: r)) := by unfold measL; rw [if_pos h1]
    rw [e, Prod.mk.injEq] at hm
    exact .inl ⟨hm.1.symm, span_pos.1 h1, all_span hm.2⟩
  have n1 : lowC c = false := by cases hl : lowC c with
    | false => rfl
    | true => exact absurd (span_pos.2 hl) h1
  by_cases h2 : 0 < spanL uppC (c :: r)
  · have e : measL (c :: r) = (2, spanL nameC (c :: r)) := by unfold measL; rw [if_neg h1, if_pos h2]
    rw [e, Prod.mk.injEq] at hm
    exact .inr (.inl ⟨hm.1.symm, n1, span_pos.1 h2, all_span hm.2⟩)
  have n2 : uppC c = false := by cases hl : uppC c with
    | false => rfl
    | true => exact absurd (span_pos.2 hl) h2
  by_cases h3 : c.toNat = 35
  · have e : measL (c :: r) = (3, 1 + spanL nameC r) := by unfold measL; rw [if_neg h1, if_neg h2]; simp only [if_pos h3]
    rw [e, Prod.mk.injEq, List.length_cons] at hm
    exact .inr (.inr (.inl ⟨hm.1.symm, n1, n2, h3, all_span (by omega)⟩))
  by_cases h4 : 0 < spanL digC ((c :: r).drop (signL (c :: r)))
  · have e : measL (c :: r) = (3, signL (c :: r) + spanL nameC ((c :: r).drop (signL (c :: r)))) := by unfold measL; rw [if_neg h1, if_neg h2]; simp only [if_neg h3, if_pos h4]
    rw [e, Prod.mk.injEq] at hm
    by_cases h5 : c.toNat = 45
    · have hs : signL (c :: r) = 1 := by show (if c.toNat = 45 then 1 else 0) = 1; rw [if_pos h5]
      rw [hs, List.drop_one, List.tail_cons] at h4 hm
      rw [List.length_cons] at hm
      exact .inr (.inr (.inr (.inl ⟨hm.1.symm, n1, n2, h5, all_span (by omega), h4⟩)))
    · have hs : signL (c :: r) = 0 := by show (if c.toNat = 45 then 1 else 0) = 0; rw [if_neg h5]
      rw [hs, List.drop_zero] at h4 hm
      rw [← hm.1] at ho
      exact .inr (.inr (.inr (.inr (.inl ⟨hm.1.symm, n1, n2, span_pos.1 h4, all_span (by omega), ho⟩))))
  · have e : measL (c :: r) = (4, markL (c :: r)) := by unfold measL; rw [if_neg h1, if_neg h2]; simp only [if_neg h3, if_neg h4]
    rw [e, Prod.mk.injEq] at hm
    exact .inr (.inr (.inr (.inr (.inr hm.1.symm))))
theorem isDig_10 {c : UInt8} (h : isDig 10 c = true) : digC c = true := by
  have := dig10 h; simp [digC]; omega
theorem allDig_word : ∀ l : List UInt8, allDig 10 l = true → l.all wordC = true
  | [], _ => rfl
  | c :: l, h => by
    have h : isDig 10 c = true ∧ allDig 10 l = true := by simpa [allDig] using h
    rw [List.all_cons, word_dig (isDig_10 h.1), allDig_word l h.2]; rfl
/-- A value that begins with a digit is digits alone. -/
theorem value_word {c : UInt8} {r : List UInt8} (hc : digC c = true) (hr : (readV (bs (c :: r))).isSome = true) : (c :: r).all wordC = true := by
  have hd : 48 ≤ c.toNat ∧ c.toNat ≤ 57 := by simpa [digC] using hc
  have hn : name (bs (c :: r)) = false := by show nameL (ls (bs (c :: r))) = false; exact name_first (c := c) (r := r) rfl (by omega)
  have h45 : c ≠ 45 := ne_of_toNat (by show c.toNat ≠ 45; omega)
  have h35 : c ≠ 35 := ne_of_toNat (by show c.toNat ≠ 35; omega)
  have hf : readFloL (c :: r) = none := by unfold readFloL; simp only; rw [if_neg (fun h => h35 h.1)]
  unfold readV at hr
  rw [hn, if_neg Bool.false_ne_true, ls_bs, hf] at hr
  cases hi : readIntL (c :: r) with
  | none => rw [hi] at hr; simp at hr
  | some n =>
    by_cases h0 : c = 48 ∧ r ≠ []
    · unfold readIntL at hi; simp only at hi; rw [if_neg h45, if_pos h0] at hi; cases hi
    · rw [readInt_pos c r h45 h0] at hi
      split at hi
      · rename_i h; exact allDig_word _ (digOk_iff.1 h).1
      · cases hi
theorem all_word_name {l : List UInt8} (h : l.all wordC = true) : l.all nameC = true := by
  rw [List.all_eq_true] at h ⊢; exact fun c hc => word_name (h c hc)
theorem span_all_app {p : UInt8 → Bool} {a b : List UInt8} (ha : a.all p = true) (hb : b.all p = true) : spanL p (a ++ b) = (a ++ b).length := span_full.2 (by rw [List.all_append, ha, hb]; rfl)
/-- What stands behind a token, all of its kind of bytes, makes it longer. -/
theorem meas_join {A B : List UInt8} {k : Nat} (hA : firstL A = some (k, A.length)) (hk : k ≠ 4) (hB : B.all nameC = true) (hw : k = 1 → B.all wordC = true) : measL (A ++ B) = (k, (A ++ B).length) := by
  have hp := first_pos hA
  cases A with
  | nil => simp at hp
  | cons c r =>
    rw [List.cons_append]
    rcases kind_bytes hA with ⟨rfl, h1, h2⟩ | ⟨rfl, h1, h2, h3⟩ | ⟨rfl, h1, h2, h3, h4⟩ | ⟨rfl, h1, h2, h3, h4, h5⟩ | ⟨rfl, h1, h2, h3, h4, _⟩ | h
    · unfold measL
      rw [if_pos (span_pos.2 h1), ← List.cons_append, span_all_app h2 (hw rfl)]
    · unfold measL
      rw [if_neg (by rw [span_pos, h1]; simp), if_pos (span_pos.2 h2), ← List.cons_append, span_all_app h3 hB]
    · unfold measL
      rw [if_neg (by rw [span_pos, h1]; simp), if_neg (by rw [span_pos, h2]; simp)]
      simp only [if_pos h3]
      rw [span_all_app h4 hB, List.length_cons]; congr 1; omega
    · have hs : signL (c :: (r ++ B)) = 1 := by show (if c.toNat = 45 then 1 else 0) = 1; rw [if_pos h3]
      have hd : 0 < spanL digC (r ++ B) := by
        cases r with
        | nil => simp [spanL] at h5
        | cons d r => rw [List.cons_append]; exact span_head.1 h5
      unfold measL
      rw [if_neg (by rw [span_pos, h1]; simp), if_neg (by rw [span_pos, h2]; simp)]
      simp only [if_neg (show ¬ c.toNat = 35 by omega)]
      rw [hs, List.drop_one, List.tail_cons, if_pos hd, span_all_app h4 hB, List.length_cons]; congr 1; omega
    · have hr : 48 ≤ c.toNat ∧ c.toNat ≤ 57 := by simpa [digC] using h3
      have hs : signL (c :: (r ++ B)) = 0 := by show (if c.toNat = 45 then 1 else 0) = 0; rw [if_neg (by omega)]
      unfold measL
      rw [if_neg (by rw [span_pos, h1]; simp), if_neg (by rw [span_pos, h2]; simp)]
      simp only [if_neg (show ¬ c.toNat = 35 by omega)]
      rw [hs, List.drop_zero, if_pos (span_pos.2 h3), ← List.cons_append, span_all_app h4 hB]; congr 1; omega
    · exact absurd h hk
theorem sep0 {l : List UInt8} {o : Nat × Nat} (h : measL l = o) (hk : o.1 ≠ 4) : spanL sepC l = 0 := by
  cases l with
  | nil => rfl
  | cons c r =>
    cases hs : sepC c with
    | false => exact span_no hs
    | true =>
      exfalso
      obtain ⟨h1, h2, h3, h4, h5, h6⟩ := sep_not hs
      have hc : c.toNat = 32 ∨ c.toNat = 9 ∨ c.toNat = 10 := by simpa [sepC] using hs
      apply hk
      rw [← h]
      unfold measL
      rw [span_no h3, span_no h4]
      simp only [Nat.lt_irrefl, if_false]
      have hz : signL (c :: r) = 0 := by show (if c.toNat = 45 then 1 else 0) = 0; rw [if_neg (by omega)]
      rw [if_neg (by omega), hz, List.drop_zero, span_no h5, if_neg (by omega)]
theorem side_one {A : List UInt8} {c : UInt8} {r : List UInt8} {k m : Nat} (hA : firstL A = some (k, A.length)) (hB : firstL (c :: r) = some (m, (c :: r).length)) (hk : k ≠ 4) (hm : m ≠ 4) (h45 : c.toNat ≠ 45) (h35 : c.toNat ≠ 35) (hno : ¬ (k = 1 ∧ uppC c = true)) :
    toksL 0 (A ++ c :: r) = .bad 0 ∨ toksL 0 (A ++ c :: r) = .good [⟨k, A ++ c :: r, 0⟩] := by
  have hb : (c :: r).all nameC = true ∧ (k = 1 → (c :: r).all wordC = true) := by
    rcases kind_bytes hB with ⟨rfl, h1, h2⟩ | ⟨rfl, h1, h2, h3⟩ | ⟨rfl, h1, h2, h3, h4⟩ | ⟨rfl, h1, h2, h3, h4, h5⟩ | ⟨rfl, h1, h2, h3, h4, h5⟩ | h
    · exact ⟨all_word_name h2, fun _ => h2⟩
    · exact ⟨h3, fun e => absurd ⟨e, h2⟩ hno⟩
    · exact absurd h3 h35
    · exact absurd h3 h45
    · exact ⟨h4, fun _ => value_word h3 h5⟩
    · exact absurd h hm
  have hmj := meas_join hA hk hb.1 hb.2
  have hs := sep0 hmj hk
  have hne : A ++ c :: r ≠ [] := by simp
  have hf : firstL (A ++ c :: r) = if okL k (A ++ c :: r) then some (k, (A ++ c :: r).length) else none := by
    unfold firstL; rw [hmj]; simp only [List.take_length]
  cases ho : okL k (A ++ c :: r) with
  | false =>
    rw [ho, if_neg Bool.false_ne_true] at hf
    left
    rw [toks_bad (by rw [hs]; simp) (by rw [hs]; simpa using hf), hs]
  | true =>
    rw [ho, if_pos rfl] at hf
    right
    exact toks_one hf 0
theorem side_two {A : List UInt8} {c : UInt8} {r : List UInt8} {m : Nat} (hA : firstL A = some (1, A.length)) (hB : firstL (c :: r) = some (m, (c :: r).length)) (hc : uppC c = true) :
    toksL 0 (A ++ c :: r) = .good [⟨1, A, 0⟩, ⟨m, c :: r, A.length⟩] := by
  have hp := first_pos hA
  cases A with
  | nil => simp at hp
  | cons d q =>
    have hd : lowC d = true ∧ (d :: q).all wordC = true := by
      rcases kind_bytes hA with ⟨_, h1, h2⟩ | ⟨e, _⟩ | ⟨e, _⟩ | ⟨e, _⟩ | ⟨e, _⟩ | e
      · exact ⟨h1, h2⟩
      all_goals omega
    have hmj : measL ((d :: q) ++ c :: r) = (1, (d :: q).length) := by
      rw [List.cons_append]
      unfold measL
      rw [if_pos (span_pos.2 hd.1), ← List.cons_append, span_eq (fun x y e => by injection e with e _; rw [← e]; exact (upp_not_word hc).1) hd.2]
    have hs := sep0 hmj (by simp)
    obtain ⟨_, ho⟩ := first_iff hA
    rw [List.take_length] at ho
    have hf : firstL ((d :: q) ++ c :: r) = some (1, (d :: q).length) := by
      unfold firstL; rw [hmj]; simp only [List.take_left']; rw [if_pos ho]
    rw [toks_more (k := 1) (n := (d :: q).length) (by rw [hs]; simpa using hf), hs]
    simp only [List.drop_zero, Nat.add_zero, Nat.zero_add, List.take_left', List.drop_left']
    rw [toks_one hB]; rfl
end Go.Proofs.YtncafadjcelloaaDoor

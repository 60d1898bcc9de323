/-
  Plain mathematics of layer 7 (lex): what stands behind a token plays no part; a token alone; texts side by side.
-/
import Derived.Test.YtncafadjcelloaaDoorLexMath
namespace Go.Proofs.YtncafadjcelloaaDoor
open Go.RowKit FloM ValM
set_option linter.unusedVariables false
set_option linter.unusedSimpArgs false

/-! ### A text that ends, or goes on with a separator -/
def SepHead (s : List UInt8) : Prop := ∀ c r, s = c :: r → sepC c = true
theorem sep_not {c : UInt8} (h : sepC c = true) : nameC c = false ∧ wordC c = false ∧ lowC c = false ∧ uppC c = false ∧ digC c = false ∧ markC c = false := by
  simp only [sepC, decide_eq_true_eq] at h
  have : markC c = false := by
    unfold markC marks; rw [decide_eq_false_iff_not]; rcases h with h | h | h <;> rw [h] <;> decide
  refine ⟨?_, ?_, ?_, ?_, ?_, this⟩ <;> simp [nameC, wordC, lowC, uppC, digC] <;> omega
theorem span_sep {p : UInt8 → Bool} (hp : ∀ c, sepC c = true → p c = false) {a s : List UInt8} (hs : SepHead s) : spanL p (a ++ s) = spanL p a := by
  induction a with
  | nil => cases s with
    | nil => rfl
    | cons c r => rw [List.nil_append, span_no (hp c (hs c r rfl)), span_nil]
  | cons c a ih => cases hc : p c with
    | true => rw [List.cons_append, span_yes hc, span_yes hc, ih]
    | false => rw [List.cons_append, span_no hc, span_no hc]
theorem two_sep {a s : List UInt8} (ha : a ≠ []) (hs : SepHead s) : two (a ++ s) = two a := by
  match a with
  | [] => exact absurd rfl ha
  | [c] => match s with
    | [] => rfl
    | d :: r =>
      have := hs d r rfl
      simp only [sepC, decide_eq_true_eq] at this
      simp only [List.cons_append, List.nil_append, two, decide_eq_false_iff_not]
      omega
  | c :: d :: r => rfl
theorem sign_app {a s : List UInt8} (ha : a ≠ []) : signL (a ++ s) = signL a := by cases a with
  | nil => exact absurd rfl ha
  | cons c r => rfl
theorem sign_le (a : List UInt8) : signL a ≤ 1 := by unfold signL; split <;> (try split) <;> omega
theorem meas_sep {a s : List UInt8} (ha : a ≠ []) (hs : SepHead s) : measL (a ++ s) = measL a := by
  have e1 : spanL lowC (a ++ s) = spanL lowC a := span_sep (fun c h => (sep_not h).2.2.1) hs
  have e2 : spanL wordC (a ++ s) = spanL wordC a := span_sep (fun c h => (sep_not h).2.1) hs
  have e3 : spanL uppC (a ++ s) = spanL uppC a := span_sep (fun c h => (sep_not h).2.2.2.1) hs
  have e4 : spanL nameC (a ++ s) = spanL nameC a := span_sep (fun c h => (sep_not h).1) hs
  have e5 : spanL markC (a ++ s) = spanL markC a := span_sep (fun c h => (sep_not h).2.2.2.2.2) hs
  have e6 : (a ++ s).drop (signL a) = a.drop (signL a) ++ s := List.drop_append_of_le_length (by
    have := sign_le a; have := List.length_pos_iff.2 ha; omega)
  unfold measL
  rw [e1, e2, e3, e4]
  cases a with
  | nil => exact absurd rfl ha
  | cons c r =>
    have e7 : spanL nameC (r ++ s) = spanL nameC r := span_sep (fun c h => (sep_not h).1) hs
    have e8 : spanL digC ((c :: r).drop (signL (c :: r)) ++ s) = spanL digC ((c :: r).drop (signL (c :: r))) := span_sep (fun c h => (sep_not h).2.2.2.2.1) hs
    have e9 : spanL nameC ((c :: r).drop (signL (c :: r)) ++ s) = spanL nameC ((c :: r).drop (signL (c :: r))) := span_sep (fun c h => (sep_not h).1) hs
    have e10 : markL ((c :: r) ++ s) = markL (c :: r) := by unfold markL; rw [two_sep (by simp) hs, e5]
    simp only [List.cons_append] at e6 e10 ⊢
    have e11 : signL (c :: (r ++ s)) = signL (c :: r) := rfl
    rw [e11, e6, e7, e8, e9, e10]
theorem meas_le {l : List UInt8} (h : l ≠ []) : (measL l).2 ≤ l.length := by
  unfold measL
  split
  · exact span_le _ _
  split
  · exact span_le _ _
  cases l with
  | nil => exact absurd rfl h
  | cons c r =>
    simp only
    split
    · rw [List.length_cons]; have := span_le nameC r; omega
    split
    · have h1 := span_le nameC ((c :: r).drop (signL (c :: r)))
      have h2 := sign_le (c :: r)
      rw [List.length_drop] at h1; rw [List.length_cons] at h1 ⊢; omega
    · unfold markL
      split
      · rename_i ht
        rcases r with _ | ⟨d, r⟩
        · simp [two] at ht
        · simp
      · rw [List.length_cons]; omega
theorem first_sep {a s : List UInt8} (ha : a ≠ []) (hs : SepHead s) : firstL (a ++ s) = firstL a := by
  unfold firstL
  rw [meas_sep ha hs, List.take_append_of_le_length (meas_le ha)]

/-! ### The token alone -/
theorem span_take {p : UInt8 → Bool} {l : List UInt8} {n : Nat} (h : n ≤ spanL p l) : spanL p (l.take n) = n := by
  induction l generalizing n with
  | nil => have : n = 0 := by have := span_le p []; simp at this; omega
           subst this; rfl
  | cons c l ih => cases n with
    | zero => rfl
    | succ n => cases hc : p c with
      | true => rw [span_yes hc] at h; rw [List.take_succ_cons, span_yes hc, ih (by omega)]
      | false => rw [span_no hc] at h; omega
theorem span_head {p : UInt8 → Bool} {c : UInt8} {r s : List UInt8} : (0 < spanL p (c :: r)) ↔ 0 < spanL p (c :: s) := by rw [span_pos, span_pos]
theorem not_pos {p : UInt8 → Bool} {c : UInt8} {r s : List UInt8} (h : ¬ 0 < spanL p (c :: r)) : ¬ 0 < spanL p (c :: s) := fun h' => h (span_head.1 h')
theorem meas_alone {l : List UInt8} (hne : l ≠ []) (hp : 0 < (measL l).2) : measL (l.take (measL l).2) = measL l := by
  cases l with
  | nil => exact absurd rfl hne
  | cons c r =>
    obtain ⟨n, hn⟩ : ∃ n, (measL (c :: r)).2 = n := ⟨_, rfl⟩
    rw [hn] at hp ⊢
    obtain ⟨n, rfl⟩ : ∃ m, n = m + 1 := ⟨n - 1, by omega⟩
    rw [List.take_succ_cons]
    by_cases h1 : 0 < spanL lowC (c :: r)
    · have e : measL (c :: r) = (1, spanL wordC (c :: r)) := by unfold measL; rw [if_pos h1]
      rw [e] at hn ⊢
      simp only at hn
      unfold measL; rw [if_pos (span_head.1 h1), ← List.take_succ_cons, span_take (by omega), hn]
    by_cases h2 : 0 < spanL uppC (c :: r)
    · have e : measL (c :: r) = (2, spanL nameC (c :: r)) := by unfold measL; rw [if_neg h1, if_pos h2]
      rw [e] at hn ⊢
      simp only at hn
      unfold measL; rw [if_neg (not_pos h1), if_pos (span_head.1 h2), ← List.take_succ_cons, span_take (by omega), hn]
    by_cases h3 : c.toNat = 35
    · have e : measL (c :: r) = (3, 1 + spanL nameC r) := by unfold measL; rw [if_neg h1, if_neg h2]; simp only [if_pos h3]
      rw [e] at hn ⊢
      simp only at hn
      unfold measL; rw [if_neg (not_pos h1), if_neg (not_pos h2)]; simp only [if_pos h3]
      rw [span_take (by omega), hn]; congr 1; omega
    have hsg : ∀ s, signL (c :: s) = if c.toNat = 45 then 1 else 0 := fun s => rfl
    by_cases h4 : 0 < spanL digC ((c :: r).drop (signL (c :: r)))
    · have e : measL (c :: r) = (3, signL (c :: r) + spanL nameC ((c :: r).drop (signL (c :: r)))) := by unfold measL; rw [if_neg h1, if_neg h2]; simp only [if_neg h3, if_pos h4]
      rw [e] at hn ⊢
      simp only at hn
      by_cases h5 : c.toNat = 45
      · rw [hsg, if_pos h5] at hn h4
        rw [hsg, if_pos h5]
        rw [List.drop_one, List.tail_cons] at hn h4 ⊢
        have hm : n = spanL nameC r := by omega
        rcases r with _ | ⟨d, r⟩
        · simp [spanL] at h4
        have hd := span_pos.1 h4
        rcases n with _ | n
        · rw [span_yes (dig_name hd)] at hm; omega
        unfold measL; rw [if_neg (not_pos h1), if_neg (not_pos h2)]; simp only [if_neg h3]
        rw [hsg, if_pos h5, List.drop_one, List.tail_cons, List.take_succ_cons, if_pos (span_head.1 h4), ← List.take_succ_cons, span_take (by omega), hm]
      · rw [hsg, if_neg h5] at hn h4
        rw [hsg, if_neg h5]
        rw [List.drop_zero] at hn h4 ⊢
        unfold measL; rw [if_neg (not_pos h1), if_neg (not_pos h2)]; simp only [if_neg h3]
        rw [hsg, if_neg h5, List.drop_zero, if_pos (span_head.1 h4), ← List.take_succ_cons, span_take (by omega)]; congr 1; omega
    · have e : measL (c :: r) = (4, markL (c :: r)) := by unfold measL; rw [if_neg h1, if_neg h2]; simp only [if_neg h3, if_neg h4]
      rw [e] at hn ⊢
      simp only at hn
      have h45 : c.toNat = 45 → False := fun h5 => by
        unfold markL at hn
        have h0 : two (c :: r) = false := by
          rcases r with _ | ⟨d, r⟩
          · rfl
          · simp only [two, decide_eq_false_iff_not]; omega
        rw [h0, if_neg (by simp), span_no (by unfold markC marks; rw [h5]; decide)] at hn
        simp at hn
      have hs0 : ∀ s, signL (c :: s) = 0 := fun s => by rw [hsg, if_neg h45]
      rw [hs0, List.drop_zero] at h4
      unfold measL; rw [if_neg (not_pos h1), if_neg (not_pos h2)]; simp only [if_neg h3]
      rw [hs0, List.drop_zero, if_neg (not_pos h4), ← List.take_succ_cons]
      congr 1
      unfold markL at hn ⊢
      by_cases ht : two (c :: r) = true
      · rw [if_pos ht] at hn ⊢
        obtain rfl : n = 1 := by omega
        rcases r with _ | ⟨d, r⟩
        · simp [two] at ht
        · rw [if_pos (by exact ht)]
      · rw [if_neg ht] at hn ⊢
        obtain rfl : n = 0 := by omega
        rw [if_neg (by simp [two])]
        have : 0 < spanL markC (c :: r) := by omega
        have := span_head (s := []).1 this
        have h1 : spanL markC [c] ≤ 1 := span_le _ _
        simp only [List.take_succ_cons, List.take_zero]
        omega
theorem first_alone {l : List UInt8} {k n : Nat} (h : firstL l = some (k, n)) : firstL (l.take n) = some (k, n) := by
  have hp := first_pos h
  unfold firstL at h ⊢
  split at h
  · rename_i ho
    injection h with h
    have hne : l ≠ [] := fun e => by rw [e] at hp; simp at hp
    have hm : measL (l.take n) = (k, n) := by
      have := meas_alone hne (by rw [h]; exact hp.1)
      rwa [h] at this
    rw [hm]
    rw [h] at ho
    simp only [List.take_take, Nat.min_self]
    rw [if_pos ho]
  · cases h
/-- What begins a token is no separator. -/
theorem first_head {c : UInt8} {r : List UInt8} (h : (firstL (c :: r)).isSome = true) : sepC c = false := by
  cases hs : sepC c with
  | false => rfl
  | true =>
    exfalso
    obtain ⟨h1, h2, h3, h4, h5, h6⟩ := sep_not hs
    have hc : c.toNat = 32 ∨ c.toNat = 9 ∨ c.toNat = 10 := by simpa [sepC] using hs
    have e : measL (c :: r) = (4, 0) := by
      unfold measL
      rw [span_no h3, span_no h4]
      simp only [Nat.lt_irrefl, if_false]
      have hz : signL (c :: r) = 0 := by show (if c.toNat = 45 then 1 else 0) = 0; rw [if_neg (by omega)]
      rw [if_neg (by omega), hz, List.drop_zero, span_no h5, if_neg (by omega)]
      unfold markL
      have ht : two (c :: r) = false := by
        rcases r with _ | ⟨d, r⟩
        · rfl
        · simp only [two, decide_eq_false_iff_not]; omega
      rw [ht, span_no h6]; rfl
    unfold firstL at h
    rw [e] at h
    simp [okL] at h
end Go.Proofs.YtncafadjcelloaaDoor

/-
  Plain mathematics of layer 7 (lex): spans, the first token of a text, all tokens of a text, on lists of bytes. Nothing of the dump is used here.
-/
import Derived.Test.YtahljmddnfldlaaGreatDoorValG
namespace Go.Proofs.YtahljmddnfldlaaGreatDoor
open Go.RowKit FloM ValM
set_option linter.unusedVariables false
set_option linter.unusedSimpArgs false

/-! ### Characters, spans -/
def lowC (c : UInt8) : Bool := decide (97 ≤ c.toNat ∧ c.toNat ≤ 122)
def uppC (c : UInt8) : Bool := decide (65 ≤ c.toNat ∧ c.toNat ≤ 90)
def digC (c : UInt8) : Bool := decide (48 ≤ c.toNat ∧ c.toNat ≤ 57)
def wordC (c : UInt8) : Bool := lowC c || digC c || decide (c.toNat = 95)
def nameC (c : UInt8) : Bool := lowC c || uppC c || digC c || decide (c.toNat = 95)
def sepC (c : UInt8) : Bool := decide (c.toNat = 32 ∨ c.toNat = 9 ∨ c.toNat = 10)
def marks : List Nat := [40, 41, 44, 46, 60, 61, 47, 124, 42, 43, 63, 94]
def markC (c : UInt8) : Bool := decide (c.toNat ∈ marks)
def spanL (p : UInt8 → Bool) (l : List UInt8) : Nat := (l.takeWhile p).length
section
variable {p : UInt8 → Bool} {c : UInt8} {l r a b : List UInt8}
theorem span_yes (h : p c = true) : spanL p (c :: l) = spanL p l + 1 := by simp [spanL, List.takeWhile_cons, h]
theorem span_no (h : p c = false) : spanL p (c :: l) = 0 := by simp [spanL, List.takeWhile_cons, h]
theorem span_le (p : UInt8 → Bool) (l : List UInt8) : spanL p l ≤ l.length := by
  induction l with
  | nil => simp [spanL]
  | cons c l ih => cases h : p c with
    | true => rw [span_yes h, List.length_cons]; omega
    | false => rw [span_no h]; omega
theorem span_pos : 0 < spanL p (c :: l) ↔ p c = true := by
  cases h : p c with
  | true => rw [span_yes h]; simp
  | false => rw [span_no h]; simp
/-- All of a text's first bytes are of the kind, and the next one is not. -/
theorem span_all (p : UInt8 → Bool) (l : List UInt8) : (l.take (spanL p l)).all p = true := by
  induction l with
  | nil => rfl
  | cons c l ih => cases h : p c with
    | true => rw [span_yes h, List.take_succ_cons, List.all_cons, h, ih]; rfl
    | false => rw [span_no h]; rfl
theorem span_next (p : UInt8 → Bool) (l : List UInt8) : ∀ c r, l.drop (spanL p l) = c :: r → p c = false := by
  induction l with
  | nil => intro c r h; simp [spanL] at h
  | cons d l ih =>
    intro c r h
    cases hd : p d with
    | true => rw [span_yes hd, List.drop_succ_cons] at h; exact ih c r h
    | false => rw [span_no hd, List.drop_zero] at h; injection h with h1 _; rw [← h1]; exact hd
theorem span_app (ha : a.all p = true) : spanL p (a ++ b) = a.length + spanL p b := by
  induction a with
  | nil => simp
  | cons c a ih =>
    simp only [List.all_cons, Bool.and_eq_true] at ha
    rw [List.cons_append, span_yes ha.1, ih ha.2, List.length_cons]; omega
theorem span_eq (h : ∀ c r, b = c :: r → p c = false) (ha : a.all p = true) : spanL p (a ++ b) = a.length := by
  rw [span_app ha]
  cases b with
  | nil => simp [spanL]
  | cons c r => rw [span_no (h c r rfl)]; rfl
theorem span_full : spanL p l = l.length ↔ l.all p = true := by
  constructor
  · intro h; have := span_all p l; rwa [h, List.take_length] at this
  · intro h; have := span_app (b := []) h; rwa [List.append_nil] at this
end
theorem word_name {c : UInt8} (h : wordC c = true) : nameC c = true := by
  simp only [wordC, nameC, Bool.or_eq_true] at h ⊢; rcases h with (h | h) | h <;> simp [h]
theorem dig_name {c : UInt8} (h : digC c = true) : nameC c = true := by simp [nameC, h]
/-! ### A token -/
def varL (l : List UInt8) : Bool := decide (0 < spanL uppC l) && decide (spanL nameC l = l.length) && decide (l.length ≤ 40)
def two : List UInt8 → Bool
  | a :: b :: _ => decide ((a.toNat = 60 ∧ b.toNat = 61) ∨ (a.toNat = 33 ∧ b.toNat = 61) ∨ (a.toNat = 58 ∧ b.toNat = 45) ∨ (a.toNat = 63 ∧ b.toNat = 45))
  | _ => false
def markL (l : List UInt8) : Nat := if two l then 2 else min 1 (spanL markC l)
def signL : List UInt8 → Nat
  | c :: _ => if c.toNat = 45 then 1 else 0
  | [] => 0
/-- The kind and the size of the token with which a text begins. -/
def measL (l : List UInt8) : Nat × Nat :=
  if 0 < spanL lowC l then (1, spanL wordC l)
  else if 0 < spanL uppC l then (2, spanL nameC l)
  else match l with
    | c :: r => if c.toNat = 35 then (3, 1 + spanL nameC r)
      else if 0 < spanL digC (l.drop (signL l)) then (3, signL l + spanL nameC (l.drop (signL l)))
      else (4, markL l)
    | [] => (4, 0)
def okL (k : Nat) (l : List UInt8) : Bool := if k = 1 then nameL l else if k = 2 then varL l else if k = 3 then (readV (bs l)).isSome else decide (l ≠ [])
structure Tk where
  k : Nat
  t : List UInt8
  a : Nat
  deriving DecidableEq
/-- The token with which a text begins; none: there is none, or a wrong one. -/
def firstL (l : List UInt8) : Option (Nat × Nat) := if okL (measL l).1 (l.take (measL l).2) then some (measL l) else none
theorem ok_ne {k : Nat} (h : okL k [] = true) : False := by
  unfold okL at h
  split at h
  · simp [nameL] at h
  split at h
  · simp [varL, spanL] at h
  split at h
  · have e : readV (bs []) = none := read_empty
    rw [e] at h; cases h
  · simp at h
theorem first_pos {l : List UInt8} {k n : Nat} (h : firstL l = some (k, n)) : 0 < n ∧ n ≤ l.length ∧ 0 < l.length := by
  unfold firstL at h
  split at h
  · rename_i ho
    injection h with h
    rw [h] at ho
    have hn : 0 < n ∧ 0 < l.length := by
      rcases Nat.eq_zero_or_pos n with e | e
      · rw [e, List.take_zero] at ho; exact (ok_ne ho).elim
      · refine ⟨e, ?_⟩
        rcases l with _ | ⟨c, r⟩
        · rw [List.take_nil] at ho; exact (ok_ne ho).elim
        · simp
    refine ⟨hn.1, ?_, hn.2⟩
    have hm := h
    unfold measL at hm
    split at hm
    · injection hm with _ e; rw [← e]; exact span_le _ _
    split at hm
    · injection hm with _ e; rw [← e]; exact span_le _ _
    cases l with
    | nil => have := hn.2; simp at this
    | cons c r =>
      simp only at hm
      split at hm
      · injection hm with _ e; rw [← e, List.length_cons]; have := span_le nameC r; omega
      split at hm
      · injection hm with _ e; rw [← e]
        have h1 := span_le nameC ((c :: r).drop (signL (c :: r)))
        have h2 : signL (c :: r) ≤ 1 := by show (if c.toNat = 45 then 1 else 0) ≤ 1; split <;> omega
        rw [List.length_drop] at h1; rw [List.length_cons] at h1 ⊢; omega
      · injection hm with _ e; rw [← e]; unfold markL
        split
        · rename_i ht
          rcases r with _ | ⟨d, r⟩
          · simp [two] at ht
          · simp
        · rw [List.length_cons]; omega
  · cases h
/-! ### All tokens -/
inductive Rs where
  | good (l : List Tk)
  | bad (at_ : Nat)
def Rs.pre (t : Tk) : Rs → Rs
  | .good l => .good (t :: l)
  | .bad n => .bad n
def Rs.lay (ts : List Tk) : Rs → Rs
  | .good l => .good (ts ++ l)
  | .bad n => .bad n
/-- All tokens of a text that begins at a place. -/
def toksL (a : Nat) (l : List UInt8) : Rs :=
  match hd : l.drop (spanL sepC l) with
  | [] => .good []
  | c :: r => match firstL (c :: r) with
    | none => .bad (a + spanL sepC l)
    | some (k, n) => (toksL (a + spanL sepC l + n) (r.drop (n - 1))).pre ⟨k, (c :: r).take n, a + spanL sepC l⟩
termination_by l.length
decreasing_by
  have := congrArg List.length hd
  rw [List.length_drop, List.length_cons] at this
  rw [List.length_drop]; omega
theorem toks_end {a : Nat} {l : List UInt8} (h : l.drop (spanL sepC l) = []) : toksL a l = .good [] := by
  rw [toksL]; split
  · rfl
  · rename_i e; rw [h] at e; cases e
theorem toks_bad {a : Nat} {l : List UInt8} (hne : l.drop (spanL sepC l) ≠ []) (h : firstL (l.drop (spanL sepC l)) = none) : toksL a l = .bad (a + spanL sepC l) := by
  rw [toksL]; split
  · rename_i e; exact absurd e hne
  · rename_i c r e; rw [e] at h; rw [h]
theorem toks_more {a k n : Nat} {l : List UInt8} (h : firstL (l.drop (spanL sepC l)) = some (k, n)) : toksL a l = (toksL (a + spanL sepC l + n) (l.drop (spanL sepC l + n))).pre ⟨k, (l.drop (spanL sepC l)).take n, a + spanL sepC l⟩ := by
  have hp := first_pos h
  rw [toksL]; split
  · rename_i e; rw [e] at hp; simp at hp
  · rename_i c r e
    rw [e] at h; rw [h]
    simp only
    rw [e, ← List.drop_drop, e]
    obtain ⟨n, rfl⟩ : ∃ m, n = m + 1 := ⟨n - 1, by omega⟩
    rfl
theorem lay_nil (R : Rs) : R.lay [] = R := by cases R <;> rfl
theorem lay_pre (ts : List Tk) (t : Tk) (R : Rs) : (R.pre t).lay ts = R.lay (ts ++ [t]) := by cases R <;> simp [Rs.pre, Rs.lay]
end Go.Proofs.YtahljmddnfldlaaGreatDoor
namespace Go.Proofs.YtahljmddnfldlaaGreatDoor
open Go.RowKit FloM ValM
set_option linter.unusedVariables false
set_option linter.unusedSimpArgs false

/-! ### A text that ends, or goes on with a separator -/
theorem sep_not {c : UInt8} (h : sepC c = true) : nameC c = false ∧ wordC c = false ∧ lowC c = false ∧ uppC c = false ∧ digC c = false ∧ markC c = false := by
  simp only [sepC, decide_eq_true_eq] at h
  have : markC c = false := by
    unfold markC marks; rw [decide_eq_false_iff_not]; rcases h with h | h | h <;> rw [h] <;> decide
  refine ⟨?_, ?_, ?_, ?_, ?_, this⟩ <;> simp [nameC, wordC, lowC, uppC, digC] <;> omega
theorem sign_le (a : List UInt8) : signL a ≤ 1 := by unfold signL; split <;> (try split) <;> omega
theorem meas_le {l : List UInt8} (h : l ≠ []) : (measL l).2 ≤ l.length := by
  unfold measL
  split
  · exact span_le _ _
  split
  · exact span_le _ _
  cases l with
  | nil => exact absurd rfl h
  | cons c r =>
    simp only
    split
    · rw [List.length_cons]; have := span_le nameC r; omega
    split
    · have h1 := span_le nameC ((c :: r).drop (signL (c :: r)))
      have h2 := sign_le (c :: r)
      rw [List.length_drop] at h1; rw [List.length_cons] at h1 ⊢; omega
    · unfold markL
      split
      · rename_i ht
        rcases r with _ | ⟨d, r⟩
        · simp [two] at ht
        · simp
      · rw [List.length_cons]; omega
/-! ### The token alone -/
theorem span_take {p : UInt8 → Bool} {l : List UInt8} {n : Nat} (h : n ≤ spanL p l) : spanL p (l.take n) = n := by
  induction l generalizing n with
  | nil => have : n = 0 := by have := span_le p []; simp at this; omega
           subst this; rfl
  | cons c l ih => cases n with
    | zero => rfl
    | succ n => cases hc : p c with
      | true => rw [span_yes hc] at h; rw [List.take_succ_cons, span_yes hc, ih (by omega)]
      | false => rw [span_no hc] at h; omega
theorem span_head {p : UInt8 → Bool} {c : UInt8} {r s : List UInt8} : (0 < spanL p (c :: r)) ↔ 0 < spanL p (c :: s) := by rw [span_pos, span_pos]
theorem not_pos {p : UInt8 → Bool} {c : UInt8} {r s : List UInt8} (h : ¬ 0 < spanL p (c :: r)) : ¬ 0 < spanL p (c :: s) := fun h' => h (span_head.1 h')
theorem meas_alone {l : List UInt8} (hne : l ≠ []) (hp : 0 < (measL l).2) : measL (l.take (measL l).2) = measL l := by
  cases l with
  | nil => exact absurd rfl hne
  | cons c r =>
    obtain ⟨n, hn⟩ : ∃ n, (measL (c :: r)).2 = n := ⟨_, rfl⟩
    rw [hn] at hp ⊢
    obtain ⟨n, rfl⟩ : ∃ m, n = m + 1 := ⟨n - 1, by omega⟩
    rw [List.take_succ_cons]
    by_cases h1 : 0 < spanL lowC (c :: r)
    · have e : measL (c :: r) = (1, spanL wordC (c :: r)) := by unfold measL; rw [if_pos h1]
      rw [e] at hn ⊢
      simp only at hn
      unfold measL; rw [if_pos (span_head.1 h1), ← List.take_succ_cons, span_take (by omega), hn]
    by_cases h2 : 0 < spanL uppC (c :: r)
    · have e : measL (c :: r) = (2, spanL nameC (c :: r)) := by unfold measL; rw [if_neg h1, if_pos h2]
      rw [e] at hn ⊢
      simp only at hn
      unfold measL; rw [if_neg (not_pos h1), if_pos (span_head.1 h2), ← List.take_succ_cons, span_take (by omega), hn]
    by_cases h3 : c.toNat = 35
    · have e : measL (c :: r) = (3, 1 + spanL nameC r) := by unfold measL; rw [if_neg h1, if_neg h2]; simp only [if_pos h3]
      rw [e] at hn ⊢
      simp only at hn
      unfold measL; rw [if_neg (not_pos h1), if_neg (not_pos h2)]; simp only [if_pos h3]
      rw [span_take (by omega), hn]; congr 1; omega
    have hsg : ∀ s, signL (c :: s) = if c.toNat = 45 then 1 else 0 := fun s => rfl
    by_cases h4 : 0 < spanL digC ((c :: r).drop (signL (c :: r)))
    · have e : measL (c :: r) = (3, signL (c :: r) + spanL nameC ((c :: r).drop (signL (c :: r)))) := by unfold measL; rw [if_neg h1, if_neg h2]; simp only [if_neg h3, if_pos h4]
      rw [e] at hn ⊢
      simp only at hn
      by_cases h5 : c.toNat = 45
      · rw [hsg, if_pos h5] at hn h4
        rw [hsg, if_pos h5]
        rw [List.drop_one, List.tail_cons] at hn h4 ⊢
        have hm : n = spanL nameC r := by omega
        rcases r with _ | ⟨d, r⟩
        · simp [spanL] at h4
        have hd := span_pos.1 h4
        rcases n with _ | n
        · rw [span_yes (dig_name hd)] at hm; omega
        unfold measL; rw [if_neg (not_pos h1), if_neg (not_pos h2)]; simp only [if_neg h3]
        rw [hsg, if_pos h5, List.drop_one, List.tail_cons, List.take_succ_cons, if_pos (span_head.1 h4), ← List.take_succ_cons, span_take (by omega), hm]
      · rw [hsg, if_neg h5] at hn h4
        rw [hsg, if_neg h5]
        rw [List.drop_zero] at hn h4 ⊢
        unfold measL; rw [if_neg (not_pos h1), if_neg (not_pos h2)]; simp only [if_neg h3]
        rw [hsg, if_neg h5, List.drop_zero, if_pos (span_head.1 h4), ← List.take_succ_cons, span_take (by omega)]; congr 1; omega
    · have e : measL (c :: r) = (4, markL (c :: r)) := by unfold measL; rw [if_neg h1, if_neg h2]; simp only [if_neg h3, if_neg h4]
      rw [e] at hn ⊢
      simp only at hn
      have h45 : c.toNat = 45 → False := fun h5 => by
        unfold markL at hn
        have h0 : two (c :: r) = false := by
          rcases r with _ | ⟨d, r⟩
          · rfl
          · simp only [two, decide_eq_false_iff_not]; omega
        rw [h0, if_neg (by simp), span_no (by unfold markC marks; rw [h5]; decide)] at hn
        simp at hn
      have hs0 : ∀ s, signL (c :: s) = 0 := fun s => by rw [hsg, if_neg h45]
      rw [hs0, List.drop_zero] at h4
      unfold measL; rw [if_neg (not_pos h1), if_neg (not_pos h2)]; simp only [if_neg h3]
      rw [hs0, List.drop_zero, if_neg (not_pos h4), ← List.take_succ_cons]
      congr 1
      unfold markL at hn ⊢
      by_cases ht : two (c :: r) = true
      · rw [if_pos ht] at hn ⊢
        obtain rfl : n = 1 := by omega
        rcases r with _ | ⟨d, r⟩
        · simp [two] at ht
        · rw [if_pos (by exact ht)]
      · rw [if_neg ht] at hn ⊢
        obtain rfl : n = 0 := by omega
        rw [if_neg (by simp [two])]
        have : 0 < spanL markC (c :: r) := by omega
        have := span_head (s := []).1 this
        have h1 : spanL markC [c] ≤ 1 := span_le _ _
        simp only [List.take_succ_cons, List.take_zero]
        omega
theorem first_alone {l : List UInt8} {k n : Nat} (h : firstL l = some (k, n)) : firstL (l.take n) = some (k, n) := by
  have hp := first_pos h
  unfold firstL at h ⊢
  split at h
  · rename_i ho
    injection h with h
    have hne : l ≠ [] := fun e => by rw [e] at hp; simp at hp
    have hm : measL (l.take n) = (k, n) := by
      have := meas_alone hne (by rw [h]; exact hp.1)
      rwa [h] at this
    rw [hm]
    rw [h] at ho
    simp only [List.take_take, Nat.min_self]
    rw [if_pos ho]
  · cases h
end Go.Proofs.YtahljmddnfldlaaGreatDoor
namespace Go.Proofs.YtahljmddnfldlaaGreatDoor
open Go.RowKit FloM ValM
set_option linter.unusedVariables false
set_option linter.unusedSimpArgs false

theorem toks_skip (a : Nat) (l : List UInt8) : toksL a l = toksL (a + spanL sepC l) (l.drop (spanL sepC l)) := by
  have h0 : spanL sepC (l.drop (spanL sepC l)) = 0 := by
    cases h : l.drop (spanL sepC l) with
    | nil => rfl
    | cons c r => exact span_no (span_next _ _ c r h)
  by_cases he : l.drop (spanL sepC l) = []
  · rw [toks_end he, toks_end (by rw [he]; rfl)]
  · cases hf : firstL (l.drop (spanL sepC l)) with
    | none => rw [toks_bad he hf, toks_bad (by rw [h0]; simpa using he) (by rw [h0]; simpa using hf), h0]; rfl
    | some o =>
      obtain ⟨k, n⟩ := o
      rw [toks_more hf, toks_more (a := a + spanL sepC l) (l := l.drop (spanL sepC l)) (k := k) (n := n) (by rw [h0]; simpa using hf), h0]
      simp [List.drop_drop]
def Tk.on (d : Nat) (t : Tk) : Tk := ⟨t.k, t.t, t.a + d⟩
def Rs.on (d : Nat) : Rs → Rs
  | .good l => .good (l.map (Tk.on d))
  | .bad n => .bad (n + d)
/-- What one begins with, and another text behind a separator. -/
def Rs.then (R : Rs) (S : Rs) : Rs := match R with
  | .good l => S.lay l
  | .bad n => .bad n
/-- Each token alone is one. -/
theorem toks_each : ∀ (m a : Nat) (l : List UInt8), l.length ≤ m → ∀ ts, toksL a l = .good ts → ∀ t ∈ ts, firstL t.t = some (t.k, t.t.length) := by
  intro m
  induction m with
  | zero =>
    intro a l hl ts h t ht
    have : l = [] := List.eq_nil_of_length_eq_zero (by omega)
    subst this
    rw [toks_end rfl] at h
    injection h with h; subst h; cases ht
  | succ m ih =>
    intro a l hl ts h t ht
    by_cases he : l.drop (spanL sepC l) = []
    · rw [toks_end he] at h; injection h with h; subst h; cases ht
    · cases hf : firstL (l.drop (spanL sepC l)) with
      | none => rw [toks_bad he hf] at h; cases h
      | some o =>
        obtain ⟨k, n⟩ := o
        have hp := first_pos hf
        rw [toks_more hf] at h
        cases hr : toksL (a + spanL sepC l + n) (l.drop (spanL sepC l + n)) with
        | bad m => rw [hr] at h; cases h
        | good r =>
          rw [hr] at h
          simp only [Rs.pre, Rs.good.injEq] at h
          subst h
          rcases List.mem_cons.1 ht with rfl | ht
          · have := first_alone hf
            simp only
            rw [this, List.length_take, Nat.min_eq_left hp.2.1]
          · exact ih _ _ (by rw [List.length_drop] at hp ⊢; omega) r hr t ht
/-- There are no more tokens, and no longer ones, than the text is long. -/
def sumT (ts : List Tk) : Nat := (ts.map fun t => t.t.length + 1).sum
theorem toks_sum : ∀ (m a : Nat) (l : List UInt8), l.length ≤ m → ∀ ts, toksL a l = .good ts → sumT ts ≤ 2 * l.length := by
  intro m
  induction m with
  | zero =>
    intro a l hl ts h
    have : l = [] := List.eq_nil_of_length_eq_zero (by omega)
    subst this
    rw [toks_end rfl] at h
    injection h with h; subst h; simp [sumT]
  | succ m ih =>
    intro a l hl ts h
    by_cases he : l.drop (spanL sepC l) = []
    · rw [toks_end he] at h; injection h with h; subst h; simp [sumT]
    · cases hf : firstL (l.drop (spanL sepC l)) with
      | none => rw [toks_bad he hf] at h; cases h
      | some o =>
        obtain ⟨k, n⟩ := o
        have hp := first_pos hf
        rw [toks_more hf] at h
        cases hr : toksL (a + spanL sepC l + n) (l.drop (spanL sepC l + n)) with
        | bad m => rw [hr] at h; cases h
        | good r =>
          rw [hr] at h
          simp only [Rs.pre, Rs.good.injEq] at h
          subst h
          have := ih _ _ (by rw [List.length_drop] at hp ⊢; omega) r hr
          simp only [sumT, List.map_cons, List.sum_cons] at this ⊢
          rw [List.length_take, List.length_drop]
          rw [List.length_drop] at this hp
          omega
theorem toks_len {l : List UInt8} {ts : List Tk} {a : Nat} (h : toksL a l = .good ts) : ts.length ≤ 2 * l.length := by
  have := toks_sum _ _ _ (Nat.le_refl _) _ h
  have h2 : ∀ ts : List Tk, ts.length ≤ sumT ts := fun ts => by
    induction ts with
    | nil => simp
    | cons t ts ih => simp only [sumT, List.map_cons, List.sum_cons, List.length_cons] at ih ⊢; omega
  have := h2 ts; omega
/-! ### Tokens with a space between them -/
def joinL : List Tk → List UInt8
  | [] => []
  | t :: ts => match ts with
    | [] => t.t
    | _ :: _ => t.t ++ 32 :: joinL ts
end Go.Proofs.YtahljmddnfldlaaGreatDoor
namespace Go.Proofs.YtahljmddnfldlaaGreatDoor
open Go.RowKit FloM ValM
set_option linter.unusedVariables false
set_option linter.unusedSimpArgs false

theorem varL_cons (c : UInt8) (r : List UInt8) : varL (c :: r) = (uppC c && (c :: r).all nameC && decide ((c :: r).length ≤ 40)) := by
  unfold varL
  rw [Bool.eq_iff_iff]
  simp only [Bool.and_eq_true, decide_eq_true_eq, span_pos, span_full]
theorem varL_nil : varL [] = false := by simp [varL, spanL]
section
variable {c : UInt8} {r : List UInt8}
theorem meas_low (h : lowC c = true) : measL (c :: r) = (1, spanL wordC (c :: r)) := by
  unfold measL; rw [if_pos (span_pos.2 h)]
theorem low_0 (h : lowC c = false) : ¬ 0 < spanL lowC (c :: r) := by rw [span_pos, h]; simp
theorem upp_0 (h : uppC c = false) : ¬ 0 < spanL uppC (c :: r) := by rw [span_pos, h]; simp
theorem meas_upp (h : uppC c = true) : measL (c :: r) = (2, spanL nameC (c :: r)) := by
  have h0 : lowC c = false := by simp only [uppC, lowC, decide_eq_true_eq, decide_eq_false_iff_not] at h ⊢; omega
  unfold measL; rw [if_neg (low_0 h0), if_pos (span_pos.2 h)]
theorem meas_hsh (h : c.toNat = 35) : measL (c :: r) = (3, 1 + spanL nameC r) := by
  unfold measL; rw [if_neg (low_0 (by simp [lowC]; omega)), if_neg (upp_0 (by simp [uppC]; omega))]
  simp only [h, if_true]
theorem meas_dig (h : digC c = true) : measL (c :: r) = (3, 1 + spanL nameC r) := by
  have hn : nameC c = true := dig_name h
  simp only [digC, decide_eq_true_eq] at h
  unfold measL; rw [if_neg (low_0 (by simp [lowC]; omega)), if_neg (upp_0 (by simp [uppC]; omega))]
  have hs : signL (c :: r) = 0 := by unfold signL; exact if_neg (by omega)
  simp only [hs, List.drop_zero]
  rw [if_neg (by omega), if_pos (span_pos.2 (by simp only [digC, decide_eq_true_eq]; omega)), span_yes hn, Nat.zero_add, Nat.add_comm]
theorem meas_min (h : c.toNat = 45) {d : UInt8} (hd : digC d = true) : measL (c :: d :: r) = (3, 1 + spanL nameC (d :: r)) := by
  unfold measL; rw [if_neg (low_0 (by simp [lowC]; omega)), if_neg (upp_0 (by simp [uppC]; omega))]
  have hs : signL (c :: d :: r) = 1 := by unfold signL; exact if_pos h
  simp only [hs, List.drop_succ_cons, List.drop_zero]
  rw [if_neg (by omega), if_pos (span_pos.2 hd)]
theorem meas_mrk (h1 : lowC c = false) (h2 : uppC c = false) (h3 : c.toNat ≠ 35) (h4 : digC c = false) (h5 : c.toNat = 45 → ∀ d s, r = d :: s → digC d = false) : measL (c :: r) = (4, markL (c :: r)) := by
  unfold measL; rw [if_neg (low_0 h1), if_neg (upp_0 h2)]
  simp only [if_neg h3]
  by_cases h45 : c.toNat = 45
  · have hs : signL (c :: r) = 1 := by unfold signL; exact if_pos h45
    simp only [hs, List.drop_succ_cons, List.drop_zero]
    cases r with
    | nil => rw [if_neg (by simp [spanL])]
    | cons d s => rw [if_neg (by rw [span_pos, h5 h45 d s rfl]; simp)]
  · have hs : signL (c :: r) = 0 := by unfold signL; exact if_neg h45
    simp only [hs, List.drop_zero]
    rw [if_neg (by rw [span_pos, h4]; simp)]
end
/-- The mark of one sign. -/
theorem mark_one {c : UInt8} {r : List UInt8} (h : two (c :: r) = false) : markL (c :: r) = if markC c then 1 else 0 := by
  unfold markL
  rw [if_neg (by rw [h]; simp)]
  cases hm : markC c with
  | true => rw [span_yes hm, if_pos rfl]; omega
  | false => rw [span_no hm, if_neg (by simp)]; rfl
/-- The keywords. -/
def keysB : List (List UInt8) := [[110, 111, 116], [105, 115], [112, 108, 117, 115], [109, 105, 110, 117, 115], [116, 105, 109, 101, 115], [119, 97, 108, 107], [99, 111, 117, 110, 116], [115, 117, 109], [109, 105, 110], [109, 97, 120], [109, 101, 97, 110]]
def keyL (l : List UInt8) : Bool := keysB.contains l
end Go.Proofs.YtahljmddnfldlaaGreatDoor
namespace Go.Proofs.YtahljmddnfldlaaGreatDoor
open Go.RowKit FloM ValM
set_option linter.unusedVariables false
set_option linter.unusedSimpArgs false

theorem first_iff {l : List UInt8} {k n : Nat} (h : firstL l = some (k, n)) : measL l = (k, n) ∧ okL k (l.take n) = true := by
  unfold firstL at h
  split at h
  · rename_i ho; injection h with h; rw [h] at ho; exact ⟨h, ho⟩
  · cases h
theorem sep0 {l : List UInt8} {o : Nat × Nat} (h : measL l = o) (hk : o.1 ≠ 4) : spanL sepC l = 0 := by
  cases l with
  | nil => rfl
  | cons c r =>
    cases hs : sepC c with
    | false => exact span_no hs
    | true =>
      exfalso
      obtain ⟨h1, h2, h3, h4, h5, h6⟩ := sep_not hs
      have hc : c.toNat = 32 ∨ c.toNat = 9 ∨ c.toNat = 10 := by simpa [sepC] using hs
      apply hk
      rw [← h]
      unfold measL
      rw [span_no h3, span_no h4]
      simp only [Nat.lt_irrefl, if_false]
      have hz : signL (c :: r) = 0 := by show (if c.toNat = 45 then 1 else 0) = 0; rw [if_neg (by omega)]
      rw [if_neg (by omega), hz, List.drop_zero, span_no h5, if_neg (by omega)]
end Go.Proofs.YtahljmddnfldlaaGreatDoor

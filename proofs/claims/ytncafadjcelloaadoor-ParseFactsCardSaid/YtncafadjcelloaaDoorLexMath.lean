/-
  Plain mathematics of layer 7 (lex): spans, the first token of a text, all tokens of a text, on lists of bytes. Nothing of the dump is used here.
-/
import Derived.Test.YtncafadjcelloaaDoorValEnds
namespace Go.Proofs.YtncafadjcelloaaDoor
open Go.RowKit FloM ValM
set_option linter.unusedVariables false
set_option linter.unusedSimpArgs false

/-! ### Characters, spans -/
def lowC (c : UInt8) : Bool := decide (97 ≤ c.toNat ∧ c.toNat ≤ 122)
def uppC (c : UInt8) : Bool := decide (65 ≤ c.toNat ∧ c.toNat ≤ 90)
def digC (c : UInt8) : Bool := decide (48 ≤ c.toNat ∧ c.toNat ≤ 57)
def wordC (c : UInt8) : Bool := lowC c || digC c || decide (c.toNat = 95)
def nameC (c : UInt8) : Bool := lowC c || uppC c || digC c || decide (c.toNat = 95)
def sepC (c : UInt8) : Bool := decide (c.toNat = 32 ∨ c.toNat = 9 ∨ c.toNat = 10)
def marks : List Nat := [40, 41, 44, 46, 60, 61, 47, 124, 42, 43, 63, 94]
def markC (c : UInt8) : Bool := decide (c.toNat ∈ marks)
def spanL (p : UInt8 → Bool) (l : List UInt8) : Nat := (l.takeWhile p).length
section
variable {p : UInt8 → Bool} {c : UInt8} {l r a b : List UInt8}
theorem span_nil : spanL p [] = 0 := rfl
theorem span_yes (h : p c = true) : spanL p (c :: l) = spanL p l + 1 := by simp [spanL, List.takeWhile_cons, h]
theorem span_no (h : p c = false) : spanL p (c :: l) = 0 := by simp [spanL, List.takeWhile_cons, h]
theorem span_le (p : UInt8 → Bool) (l : List UInt8) : spanL p l ≤ l.length := by
  induction l with
  | nil => simp [spanL]
  | cons c l ih => cases h : p c with
    | true => rw [span_yes h, List.length_cons]; omega
    | false => rw [span_no h]; omega
theorem span_pos : 0 < spanL p (c :: l) ↔ p c = true := by
  cases h : p c with
  | true => rw [span_yes h]; simp
  | false => rw [span_no h]; simp
/-- All of a text's first bytes are of the kind, and the next one is not. -/
theorem span_all (p : UInt8 → Bool) (l : List UInt8) : (l.take (spanL p l)).all p = true := by
  induction l with
  | nil => rfl
  | cons c l ih => cases h : p c with
    | true => rw [span_yes h, List.take_succ_cons, List.all_cons, h, ih]; rfl
    | false => rw [span_no h]; rfl
theorem span_next (p : UInt8 → Bool) (l : List UInt8) : ∀ c r, l.drop (spanL p l) = c :: r → p c = false := by
  induction l with
  | nil => intro c r h; simp [spanL] at h
  | cons d l ih =>
    intro c r h
    cases hd : p d with
    | true => rw [span_yes hd, List.drop_succ_cons] at h; exact ih c r h
    | false => rw [span_no hd, List.drop_zero] at h; injection h with h1 _; rw [← h1]; exact hd
theorem span_app (ha : a.all p = true) : spanL p (a ++ b) = a.length + spanL p b := by
  induction a with
  | nil => simp
  | cons c a ih =>
    simp only [List.all_cons, Bool.and_eq_true] at ha
    rw [List.cons_append, span_yes ha.1, ih ha.2, List.length_cons]; omega
theorem span_eq (h : ∀ c r, b = c :: r → p c = false) (ha : a.all p = true) : spanL p (a ++ b) = a.length := by
  rw [span_app ha]
  cases b with
  | nil => simp [spanL]
  | cons c r => rw [span_no (h c r rfl)]; rfl
theorem span_full : spanL p l = l.length ↔ l.all p = true := by
  constructor
  · intro h; have := span_all p l; rwa [h, List.take_length] at this
  · intro h; have := span_app (b := []) h; rwa [List.append_nil] at this
/-- Behind a beginning that the span leaves there is no difference. -/
theorem span_cut (h : spanL p a < a.length) : spanL p (a ++ b) = spanL p a := by
  induction a with
  | nil => simp at h
  | cons c a ih => cases hc : p c with
    | true => rw [List.cons_append, span_yes hc, span_yes hc, ih (by rw [span_yes hc, List.length_cons] at h; omega)]
    | false => rw [List.cons_append, span_no hc, span_no hc]
end
theorem low_name {c : UInt8} (h : lowC c = true) : nameC c = true := by simp [nameC, h]
theorem word_name {c : UInt8} (h : wordC c = true) : nameC c = true := by
  simp only [wordC, nameC, Bool.or_eq_true] at h ⊢; rcases h with (h | h) | h <;> simp [h]
theorem dig_name {c : UInt8} (h : digC c = true) : nameC c = true := by simp [nameC, h]
theorem upp_name {c : UInt8} (h : uppC c = true) : nameC c = true := by simp [nameC, h]

/-! ### A token -/
def varL (l : List UInt8) : Bool := decide (0 < spanL uppC l) && decide (spanL nameC l = l.length) && decide (l.length ≤ 40)
def two : List UInt8 → Bool
  | a :: b :: _ => decide ((a.toNat = 60 ∧ b.toNat = 61) ∨ (a.toNat = 33 ∧ b.toNat = 61) ∨ (a.toNat = 58 ∧ b.toNat = 45) ∨ (a.toNat = 63 ∧ b.toNat = 45))
  | _ => false
def markL (l : List UInt8) : Nat := if two l then 2 else min 1 (spanL markC l)
def signL : List UInt8 → Nat
  | c :: _ => if c.toNat = 45 then 1 else 0
  | [] => 0
/-- The kind and the size of the token with which a text begins. -/
def measL (l : List UInt8) : Nat × Nat :=
  if 0 < spanL lowC l then (1, spanL wordC l)
  else if 0 < spanL uppC l then (2, spanL nameC l)
  else match l with
    | c :: r => if c.toNat = 35 then (3, 1 + spanL nameC r)
      else if 0 < spanL digC (l.drop (signL l)) then (3, signL l + spanL nameC (l.drop (signL l)))
      else (4, markL l)
    | [] => (4, 0)
def okL (k : Nat) (l : List UInt8) : Bool := if k = 1 then nameL l else if k = 2 then varL l else if k = 3 then (readV (bs l)).isSome else decide (l ≠ [])
structure Tk where
  k : Nat
  t : List UInt8
  a : Nat
  deriving DecidableEq
/-- The token with which a text begins; none: there is none, or a wrong one. -/
def firstL (l : List UInt8) : Option (Nat × Nat) := if okL (measL l).1 (l.take (measL l).2) then some (measL l) else none
theorem ok_ne {k : Nat} (h : okL k [] = true) : False := by
  unfold okL at h
  split at h
  · simp [nameL] at h
  split at h
  · simp [varL, spanL] at h
  split at h
  · have e : readV (bs []) = none := read_empty
    rw [e] at h; cases h
  · simp at h
theorem first_pos {l : List UInt8} {k n : Nat} (h : firstL l = some (k, n)) : 0 < n ∧ n ≤ l.length ∧ 0 < l.length := by
  unfold firstL at h
  split at h
  · rename_i ho
    injection h with h
    rw [h] at ho
    have hn : 0 < n ∧ 0 < l.length := by
      rcases Nat.eq_zero_or_pos n with e | e
      · rw [e, List.take_zero] at ho; exact (ok_ne ho).elim
      · refine ⟨e, ?_⟩
        rcases l with _ | ⟨c, r⟩
        · rw [List.take_nil] at ho; exact (ok_ne ho).elim
        · simp
    refine ⟨hn.1, ?_, hn.2⟩
    have hm := h
    unfold measL at hm
    split at hm
    · injection hm with _ e; rw [← e]; exact span_le _ _
    split at hm
    · injection hm with _ e; rw [← e]; exact span_le _ _
    cases l with
    | nil => have := hn.2; simp at this
    | cons c r =>
      simp only at hm
      split at hm
      · injection hm with _ e; rw [← e, List.length_cons]; have := span_le nameC r; omega
      split at hm
      · injection hm with _ e; rw [← e]
        have h1 := span_le nameC ((c :: r).drop (signL (c :: r)))
        have h2 : signL (c :: r) ≤ 1 := by show (if c.toNat = 45 then 1 else 0) ≤ 1; split <;> omega
        rw [List.length_drop] at h1; rw [List.length_cons] at h1 ⊢; omega
      · injection hm with _ e; rw [← e]; unfold markL
        split
        · rename_i ht
          rcases r with _ | ⟨d, r⟩
          · simp [two] at ht
          · simp
        · rw [List.length_cons]; omega
  · cases h
/-! ### All tokens -/
inductive Rs where
  | good (l : List Tk)
  | bad (at_ : Nat)
def Rs.pre (t : Tk) : Rs → Rs
  | .good l => .good (t :: l)
  | .bad n => .bad n
def Rs.lay (ts : List Tk) : Rs → Rs
  | .good l => .good (ts ++ l)
  | .bad n => .bad n
/-- All tokens of a text that begins at a place. -/
def toksL (a : Nat) (l : List UInt8) : Rs :=
  match hd : l.drop (spanL sepC l) with
  | [] => .good []
  | c :: r => match firstL (c :: r) with
    | none => .bad (a + spanL sepC l)
    | some (k, n) => (toksL (a + spanL sepC l + n) (r.drop (n - 1))).pre ⟨k, (c :: r).take n, a + spanL sepC l⟩
termination_by l.length
decreasing_by
  have := congrArg List.length hd
  rw [List.length_drop, List.length_cons] at this
  rw [List.length_drop]; omega
theorem toks_end {a : Nat} {l : List UInt8} (h : l.drop (spanL sepC l) = []) : toksL a l = .good [] := by
  rw [toksL]; split
  · rfl
  · rename_i e; rw [h] at e; cases e
theorem toks_bad {a : Nat} {l : List UInt8} (hne : l.drop (spanL sepC l) ≠ []) (h : firstL (l.drop (spanL sepC l)) = none) : toksL a l = .bad (a + spanL sepC l) := by
  rw [toksL]; split
  · rename_i e; exact absurd e hne
  · rename_i c r e; rw [e] at h; rw [h]
theorem toks_more {a k n : Nat} {l : List UInt8} (h : firstL (l.drop (spanL sepC l)) = some (k, n)) : toksL a l = (toksL (a + spanL sepC l + n) (l.drop (spanL sepC l + n))).pre ⟨k, (l.drop (spanL sepC l)).take n, a + spanL sepC l⟩ := by
  have hp := first_pos h
  rw [toksL]; split
  · rename_i e; rw [e] at hp; simp at hp
  · rename_i c r e
    rw [e] at h; rw [h]
    simp only
    rw [e, ← List.drop_drop, e]
    obtain ⟨n, rfl⟩ : ∃ m, n = m + 1 := ⟨n - 1, by omega⟩
    rfl
theorem lay_nil (R : Rs) : R.lay [] = R := by cases R <;> rfl
theorem lay_pre (ts : List Tk) (t : Tk) (R : Rs) : (R.pre t).lay ts = R.lay (ts ++ [t]) := by cases R <;> simp [Rs.pre, Rs.lay]
end Go.Proofs.YtncafadjcelloaaDoor

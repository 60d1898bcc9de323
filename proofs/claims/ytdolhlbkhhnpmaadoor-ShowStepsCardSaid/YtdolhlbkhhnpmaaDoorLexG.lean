/-
  Plain mathematics of layer 7 (lex): spans, the first token of a text, all tokens of a text, on lists of bytes. Nothing of the dump is used here.
-/
import Derived.Test.YtdolhlbkhhnpmaaDoorValG
namespace Go.Proofs.YtdolhlbkhhnpmaaDoor
open Go.RowKit FloM ValM
set_option linter.unusedVariables false
set_option linter.unusedSimpArgs false

/-! ### Characters, spans -/
def lowC (c : UInt8) : Bool := decide (97 ≤ c.toNat ∧ c.toNat ≤ 122)
def uppC (c : UInt8) : Bool := decide (65 ≤ c.toNat ∧ c.toNat ≤ 90)
def digC (c : UInt8) : Bool := decide (48 ≤ c.toNat ∧ c.toNat ≤ 57)
def wordC (c : UInt8) : Bool := lowC c || digC c || decide (c.toNat = 95)
def nameC (c : UInt8) : Bool := lowC c || uppC c || digC c || decide (c.toNat = 95)
def sepC (c : UInt8) : Bool := decide (c.toNat = 32 ∨ c.toNat = 9 ∨ c.toNat = 10)
def marks : List Nat := [40, 41, 44, 46, 60, 61, 47, 124, 42, 43, 63, 94]
def markC (c : UInt8) : Bool := decide (c.toNat ∈ marks)
def spanL (p : UInt8 → Bool) (l : List UInt8) : Nat := (l.takeWhile p).length
section
variable {p : UInt8 → Bool} {c : UInt8} {l r a b : List UInt8}
theorem span_nil : spanL p [] = 0 := rfl
theorem span_yes (h : p c = true) : spanL p (c :: l) = spanL p l + 1 := by simp [spanL, List.takeWhile_cons, h]
theorem span_no (h : p c = false) : spanL p (c :: l) = 0 := by simp [spanL, List.takeWhile_cons, h]
theorem span_le (p : UInt8 → Bool) (l : List UInt8) : spanL p l ≤ l.length := by
  induction l with
  | nil => simp [spanL]
  | cons c l ih => cases h : p c with
    | true => rw [span_yes h, List.length_cons]; omega
    | false => rw [span_no h]; omega
theorem span_pos : 0 < spanL p (c :: l) ↔ p c = true := by
  cases h : p c with
  | true => rw [span_yes h]; simp
  | false => rw [span_no h]; simp
/-- All of a text's first bytes are of the kind, and the next one is not. -/
theorem span_all (p : UInt8 → Bool) (l : List UInt8) : (l.take (spanL p l)).all p = true := by
  induction l with
  | nil => rfl
  | cons c l ih => cases h : p c with
    | true => rw [span_yes h, List.take_succ_cons, List.all_cons, h, ih]; rfl
    | false => rw [span_no h]; rfl
theorem span_next (p : UInt8 → Bool) (l : List UInt8) : ∀ c r, l.drop (spanL p l) = c :: r → p c = false := by
  induction l with
  | nil => intro c r h; simp [spanL] at h
  | cons d l ih =>
    intro c r h
    cases hd : p d with
    | true => rw [span_yes hd, List.drop_succ_cons] at h; exact ih c r h
    | false => rw [span_no hd, List.drop_zero] at h; injection h with h1 _; rw [← h1]; exact hd
theorem span_app (ha : a.all p = true) : spanL p (a ++ b) = a.length + spanL p b := by
  induction a with
  | nil => simp
  | cons c a ih =>
    simp only [List.all_cons, Bool.and_eq_true] at ha
    rw [List.cons_append, span_yes ha.1, ih ha.2, List.length_cons]; omega
theorem span_eq (h : ∀ c r, b = c :: r → p c = false) (ha : a.all p = true) : spanL p (a ++ b) = a.length := by
  rw [span_app ha]
  cases b with
  | nil => simp [spanL]
  | cons c r => rw [span_no (h c r rfl)]; rfl
theorem span_full : spanL p l = l.length ↔ l.all p = true := by
  constructor
  · intro h; have := span_all p l; rwa [h, List.take_length] at this
  · intro h; have := span_app (b := []) h; rwa [List.append_nil] at this
/-- Behind a beginning that the span leaves there is no difference. -/
theorem span_cut (h : spanL p a < a.length) : spanL p (a ++ b) = spanL p a := by
  induction a with
  | nil => simp at h
  | cons c a ih => cases hc : p c with
    | true => rw [List.cons_append, span_yes hc, span_yes hc, ih (by rw [span_yes hc, List.length_cons] at h; omega)]
    | false => rw [List.cons_append, span_no hc, span_no hc]
end
theorem low_name {c : UInt8} (h : lowC c = true) : nameC c = true := by simp [nameC, h]
theorem word_name {c : UInt8} (h : wordC c = true) : nameC c = true := by
  simp only [wordC, nameC, Bool.or_eq_true] at h ⊢; rcases h with (h | h) | h <;> simp [h]
theorem dig_name {c : UInt8} (h : digC c = true) : nameC c = true := by simp [nameC, h]
theorem upp_name {c : UInt8} (h : uppC c = true) : nameC c = true := by simp [nameC, h]

/-! ### A token -/
def varL (l : List UInt8) : Bool := decide (0 < spanL uppC l) && decide (spanL nameC l = l.length) && decide (l.length ≤ 40)
def two : List UInt8 → Bool
  | a :: b :: _ => decide ((a.toNat = 60 ∧ b.toNat = 61) ∨ (a.toNat = 33 ∧ b.toNat = 61) ∨ (a.toNat = 58 ∧ b.toNat = 45) ∨ (a.toNat = 63 ∧ b.toNat = 45))
  | _ => false
def markL (l : List UInt8) : Nat := if two l then 2 else min 1 (spanL markC l)
def signL : List UInt8 → Nat
  | c :: _ => if c.toNat = 45 then 1 else 0
  | [] => 0
/-- The kind and the size of the token with which a text begins. -/
def measL (l : List UInt8) : Nat × Nat :=
  if 0 < spanL lowC l then (1, spanL wordC l)
  else if 0 < spanL uppC l then (2, spanL nameC l)
  else match l with
    | c :: r => if c.toNat = 35 then (3, 1 + spanL nameC r)
      else if 0 < spanL digC (l.drop (signL l)) then (3, signL l + spanL nameC (l.drop (signL l)))
      else (4, markL l)
    | [] => (4, 0)
def okL (k : Nat) (l : List UInt8) : Bool := if k = 1 then nameL l else if k = 2 then varL l else if k = 3 then (readV (bs l)).isSome else decide (l ≠ [])
structure Tk where
  k : Nat
  t : List UInt8
  a : Nat
  deriving DecidableEq
/-- The token with which a text begins; none: there is none, or a wrong one. -/
def firstL (l : List UInt8) : Option (Nat × Nat) := if okL (measL l).1 (l.take (measL l).2) then some (measL l) else none
theorem ok_ne {k : Nat} (h : okL k [] = true) : False := by
  unfold okL at h
  split at h
  · simp [nameL] at h
  split at h
  · simp [varL, spanL] at h
  split at h
  · have e : readV (bs []) = none := read_empty
    rw [e] at h; cases h
  · simp at h
theorem first_pos {l : List UInt8} {k n : Nat} (h : firstL l = some (k, n)) : 0 < n ∧ n ≤ l.length ∧ 0 < l.length := by
  unfold firstL at h
  split at h
  · rename_i ho
    injection h with h
    rw [h] at ho
    have hn : 0 < n ∧ 0 < l.length := by
      rcases Nat.eq_zero_or_pos n with e | e
      · rw [e, List.take_zero] at ho; exact (ok_ne ho).elim
      · refine ⟨e, ?_⟩
        rcases l with _ | ⟨c, r⟩
        · rw [List.take_nil] at ho; exact (ok_ne ho).elim
        · simp
    refine ⟨hn.1, ?_, hn.2⟩
    have hm := h
    unfold measL at hm
    split at hm
    · injection hm with _ e; rw [← e]; exact span_le _ _
    split at hm
    · injection hm with _ e; rw [← e]; exact span_le _ _
    cases l with
    | nil => have := hn.2; simp at this
    | cons c r =>
      simp only at hm
      split at hm
      · injection hm with _ e; rw [← e, List.length_cons]; have := span_le nameC r; omega
      split at hm
      · injection hm with _ e; rw [← e]
        have h1 := span_le nameC ((c :: r).drop (signL (c :: r)))
        have h2 : signL (c :: r) ≤ 1 := by show (if c.toNat = 45 then 1 else 0) ≤ 1; split <;> omega
        rw [List.length_drop] at h1; rw [List.length_cons] at h1 ⊢; omega
      · injection hm with _ e; rw [← e]; unfold markL
        split
        · rename_i ht
          rcases r with _ | ⟨d, r⟩
          · simp [two] at ht
          · simp
        · rw [List.length_cons]; omega
  · cases h
/-! ### All tokens -/
inductive Rs where
  | good (l : List Tk)
  | bad (at_ : Nat)
def Rs.pre (t : Tk) : Rs → Rs
  | .good l => .good (t :: l)
  | .bad n => .bad n
def Rs.lay (ts : List Tk) : Rs → Rs
  | .good l => .good (ts ++ l)
  | .bad n => .bad n
/-- All tokens of a text that begins at a place. -/
def toksL (a : Nat) (l : List UInt8) : Rs :=
  match hd : l.drop (spanL sepC l) with
  | [] => .good []
  | c :: r => match firstL (c :: r) with
    | none => .bad (a + spanL sepC l)
    | some (k, n) => (toksL (a + spanL sepC l + n) (r.drop (n - 1))).pre ⟨k, (c :: r).take n, a + spanL sepC l⟩
termination_by l.length
decreasing_by
  have := congrArg List.length hd
  rw [List.length_drop, List.length_cons] at this
  rw [List.length_drop]; omega
theorem toks_end {a : Nat} {l : List UInt8} (h : l.drop (spanL sepC l) = []) : toksL a l = .good [] := by
  rw [toksL]; split
  · rfl
  · rename_i e; rw [h] at e; cases e
theorem toks_bad {a : Nat} {l : List UInt8} (hne : l.drop (spanL sepC l) ≠ []) (h : firstL (l.drop (spanL sepC l)) = none) : toksL a l = .bad (a + spanL sepC l) := by
  rw [toksL]; split
  · rename_i e; exact absurd e hne
  · rename_i c r e; rw [e] at h; rw [h]
theorem toks_more {a k n : Nat} {l : List UInt8} (h : firstL (l.drop (spanL sepC l)) = some (k, n)) : toksL a l = (toksL (a + spanL sepC l + n) (l.drop (spanL sepC l + n))).pre ⟨k, (l.drop (spanL sepC l)).take n, a + spanL sepC l⟩ := by
  have hp := first_pos h
  rw [toksL]; split
  · rename_i e; rw [e] at hp; simp at hp
  · rename_i c r e
    rw [e] at h; rw [h]
    simp only
    rw [e, ← List.drop_drop, e]
    obtain ⟨n, rfl⟩ : ∃ m, n = m + 1 := ⟨n - 1, by omega⟩
    rfl
theorem lay_nil (R : Rs) : R.lay [] = R := by cases R <;> rfl
theorem lay_pre (ts : List Tk) (t : Tk) (R : Rs) : (R.pre t).lay ts = R.lay (ts ++ [t]) := by cases R <;> simp [Rs.pre, Rs.lay]
end Go.Proofs.YtdolhlbkhhnpmaaDoor
namespace Go.Proofs.YtdolhlbkhhnpmaaDoor
open Go.RowKit FloM ValM
set_option linter.unusedVariables false
set_option linter.unusedSimpArgs false

/-! ### A text that ends, or goes on with a separator -/
def SepHead (s : List UInt8) : Prop := ∀ c r, s = c :: r → sepC c = true
theorem sep_not {c : UInt8} (h : sepC c = true) : nameC c = false ∧ wordC c = false ∧ lowC c = false ∧ uppC c = false ∧ digC c = false ∧ markC c = false := by
  simp only [sepC, decide_eq_true_eq] at h
  have : markC c = false := by
    unfold markC marks; rw [decide_eq_false_iff_not]; rcases h with h | h | h <;> rw [h] <;> decide
  refine ⟨?_, ?_, ?_, ?_, ?_, this⟩ <;> simp [nameC, wordC, lowC, uppC, digC] <;> omega
theorem span_sep {p : UInt8 → Bool} (hp : ∀ c, sepC c = true → p c = false) {a s : List UInt8} (hs : SepHead s) : spanL p (a ++ s) = spanL p a := by
  induction a with
  | nil => cases s with
    | nil => rfl
    | cons c r => rw [List.nil_append, span_no (hp c (hs c r rfl)), span_nil]
  | cons c a ih => cases hc : p c with
    | true => rw [List.cons_append, span_yes hc, span_yes hc, ih]
    | false => rw [List.cons_append, span_no hc, span_no hc]
theorem two_sep {a s : List UInt8} (ha : a ≠ []) (hs : SepHead s) : two (a ++ s) = two a := by
  match a with
  | [] => exact absurd rfl ha
  | [c] => match s with
    | [] => rfl
    | d :: r =>
      have := hs d r rfl
      simp only [sepC, decide_eq_true_eq] at this
      simp only [List.cons_append, List.nil_append, two, decide_eq_false_iff_not]
      omega
  | c :: d :: r => rfl
theorem sign_app {a s : List UInt8} (ha : a ≠ []) : signL (a ++ s) = signL a := by cases a with
  | nil => exact absurd rfl ha
  | cons c r => rfl
theorem sign_le (a : List UInt8) : signL a ≤ 1 := by unfold signL; split <;> (try split) <;> omega
theorem meas_sep {a s : List UInt8} (ha : a ≠ []) (hs : SepHead s) : measL (a ++ s) = measL a := by
  have e1 : spanL lowC (a ++ s) = spanL lowC a := span_sep (fun c h => (sep_not h).2.2.1) hs
  have e2 : spanL wordC (a ++ s) = spanL wordC a := span_sep (fun c h => (sep_not h).2.1) hs
  have e3 : spanL uppC (a ++ s) = spanL uppC a := span_sep (fun c h => (sep_not h).2.2.2.1) hs
  have e4 : spanL nameC (a ++ s) = spanL nameC a := span_sep (fun c h => (sep_not h).1) hs
  have e5 : spanL markC (a ++ s) = spanL markC a := span_sep (fun c h => (sep_not h).2.2.2.2.2) hs
  have e6 : (a ++ s).drop (signL a) = a.drop (signL a) ++ s := List.drop_append_of_le_length (by
    have := sign_le a; have := List.length_pos_iff.2 ha; omega)
  unfold measL
  rw [e1, e2, e3, e4]
  cases a with
  | nil => exact absurd rfl ha
  | cons c r =>
    have e7 : spanL nameC (r ++ s) = spanL nameC r := span_sep (fun c h => (sep_not h).1) hs
    have e8 : spanL digC ((c :: r).drop (signL (c :: r)) ++ s) = spanL digC ((c :: r).drop (signL (c :: r))) := span_sep (fun c h => (sep_not h).2.2.2.2.1) hs
    have e9 : spanL nameC ((c :: r).drop (signL (c :: r)) ++ s) = spanL nameC ((c :: r).drop (signL (c :: r))) := span_sep (fun c h => (sep_not h).1) hs
    have e10 : markL ((c :: r) ++ s) = markL (c :: r) := by unfold markL; rw [two_sep (by simp) hs, e5]
    simp only [List.cons_append] at e6 e10 ⊢
    have e11 : signL (c :: (r ++ s)) = signL (c :: r) := rfl
    rw [e11, e6, e7, e8, e9, e10]
theorem meas_le {l : List UInt8} (h : l ≠ []) : (measL l).2 ≤ l.length := by
  unfold measL
  split
  · exact span_le _ _
  split
  · exact span_le _ _
  cases l with
  | nil => exact absurd rfl h
  | cons c r =>
    simp only
    split
    · rw [List.length_cons]; have := span_le nameC r; omega
    split
    · have h1 := span_le nameC ((c :: r).drop (signL (c :: r)))
      have h2 := sign_le (c :: r)
      rw [List.length_drop] at h1; rw [List.length_cons] at h1 ⊢; omega
    · unfold markL
      split
      · rename_i ht
        rcases r with _ | ⟨d, r⟩
        · simp [two] at ht
        · simp
      · rw [List.length_cons]; omega
theorem first_sep {a s : List UInt8} (ha : a ≠ []) (hs : SepHead s) : firstL (a ++ s) = firstL a := by
  unfold firstL
  rw [meas_sep ha hs, List.take_append_of_le_length (meas_le ha)]

/-! ### The token alone -/
theorem span_take {p : UInt8 → Bool} {l : List UInt8} {n : Nat} (h : n ≤ spanL p l) : spanL p (l.take n) = n := by
  induction l generalizing n with
  | nil => have : n = 0 := by have := span_le p []; simp at this; omega
           subst this; rfl
  | cons c l ih => cases n with
    | zero => rfl
    | succ n => cases hc : p c with
      | true => rw [span_yes hc] at h; rw [List.take_succ_cons, span_yes hc, ih (by omega)]
      | false => rw [span_no hc] at h; omega
theorem span_head {p : UInt8 → Bool} {c : UInt8} {r s : List UInt8} : (0 < spanL p (c :: r)) ↔ 0 < spanL p (c :: s) := by rw [span_pos, span_pos]
theorem not_pos {p : UInt8 → Bool} {c : UInt8} {r s : List UInt8} (h : ¬ 0 < spanL p (c :: r)) : ¬ 0 < spanL p (c :: s) := fun h' => h (span_head.1 h')
theorem meas_alone {l : List UInt8} (hne : l ≠ []) (hp : 0 < (measL l).2) : measL (l.take (measL l).2) = measL l := by
  cases l with
  | nil => exact absurd rfl hne
  | cons c r =>
    obtain ⟨n, hn⟩ : ∃ n, (measL (c :: r)).2 = n := ⟨_, rfl⟩
    rw [hn] at hp ⊢
    obtain ⟨n, rfl⟩ : ∃ m, n = m + 1 := ⟨n - 1, by omega⟩
    rw [List.take_succ_cons]
    by_cases h1 : 0 < spanL lowC (c :: r)
    · have e : measL (c :: r) = (1, spanL wordC (c :: r)) := by unfold measL; rw [if_pos h1]
      rw [e] at hn ⊢
      simp only at hn
      unfold measL; rw [if_pos (span_head.1 h1), ← List.take_succ_cons, span_take (by omega), hn]
    by_cases h2 : 0 < spanL uppC (c :: r)
    · have e : measL (c :: r) = (2, spanL nameC (c :: r)) := by unfold measL; rw [if_neg h1, if_pos h2]
      rw [e] at hn ⊢
      simp only at hn
      unfold measL; rw [if_neg (not_pos h1), if_pos (span_head.1 h2), ← List.take_succ_cons, span_take (by omega), hn]
    by_cases h3 : c.toNat = 35
    · have e : measL (c :: r) = (3, 1 + spanL nameC r) := by unfold measL; rw [if_neg h1, if_neg h2]; simp only [if_pos h3]
      rw [e] at hn ⊢
      simp only at hn
      unfold measL; rw [if_neg (not_pos h1), if_neg (not_pos h2)]; simp only [if_pos h3]
      rw [span_take (by omega), hn]; congr 1; omega
    have hsg : ∀ s, signL (c :: s) = if c.toNat = 45 then 1 else 0 := fun s => rfl
    by_cases h4 : 0 < spanL digC ((c :: r).drop (signL (c :: r)))
    · have e : measL (c :: r) = (3, signL (c :: r) + spanL nameC ((c :: r).drop (signL (c :: r)))) := by unfold measL; rw [if_neg h1, if_neg h2]; simp only [if_neg h3, if_pos h4]
      rw [e] at hn ⊢
      simp only at hn
      by_cases h5 : c.toNat = 45
      · rw [hsg, if_pos h5] at hn h4
        rw [hsg, if_pos h5]
        rw [List.drop_one, List.tail_cons] at hn h4 ⊢
        have hm : n = spanL nameC r := by omega
        rcases r with _ | ⟨d, r⟩
        · simp [spanL] at h4
        have hd := span_pos.1 h4
        rcases n with _ | n
        · rw [span_yes (dig_name hd)] at hm; omega
        unfold measL; rw [if_neg (not_pos h1), if_neg (not_pos h2)]; simp only [if_neg h3]
        rw [hsg, if_pos h5, List.drop_one, List.tail_cons, List.take_succ_cons, if_pos (span_head.1 h4), ← List.take_succ_cons, span_take (by omega), hm]
      · rw [hsg, if_neg h5] at hn h4
        rw [hsg, if_neg h5]
        rw [List.drop_zero] at hn h4 ⊢
        unfold measL; rw [if_neg (not_pos h1), if_neg (not_pos h2)]; simp only [if_neg h3]
        rw [hsg, if_neg h5, List.drop_zero, if_pos (span_head.1 h4), ← List.take_succ_cons, span_take (by omega)]; congr 1; omega
    · have e : measL (c :: r) = (4, markL (c :: r)) := by unfold measL; rw [if_neg h1, if_neg h2]; simp only [if_neg h3, if_neg h4]
      rw [e] at hn ⊢
      simp only at hn
      have h45 : c.toNat = 45 → False := fun h5 => by
        unfold markL at hn
        have h0 : two (c :: r) = false := by
          rcases r with _ | ⟨d, r⟩
          · rfl
          · simp only [two, decide_eq_false_iff_not]; omega
        rw [h0, if_neg (by simp), span_no (by unfold markC marks; rw [h5]; decide)] at hn
        simp at hn
      have hs0 : ∀ s, signL (c :: s) = 0 := fun s => by rw [hsg, if_neg h45]
      rw [hs0, List.drop_zero] at h4
      unfold measL; rw [if_neg (not_pos h1), if_neg (not_pos h2)]; simp only [if_neg h3]
      rw [hs0, List.drop_zero, if_neg (not_pos h4), ← List.take_succ_cons]
      congr 1
      unfold markL at hn ⊢
      by_cases ht : two (c :: r) = true
      · rw [if_pos ht] at hn ⊢
        obtain rfl : n = 1 := by omega
        rcases r with _ | ⟨d, r⟩
        · simp [two] at ht
        · rw [if_pos (by exact ht)]
      · rw [if_neg ht] at hn ⊢
        obtain rfl : n = 0 := by omega
        rw [if_neg (by simp [two])]
        have : 0 < spanL markC (c :: r) := by omega
        have := span_head (s := []).1 this
        have h1 : spanL markC [c] ≤ 1 := span_le _ _
        simp only [List.take_succ_cons, List.take_zero]
        omega
theorem first_alone {l : List UInt8} {k n : Nat} (h : firstL l = some (k, n)) : firstL (l.take n) = some (k, n) := by
  have hp := first_pos h
  unfold firstL at h ⊢
  split at h
  · rename_i ho
    injection h with h
    have hne : l ≠ [] := fun e => by rw [e] at hp; simp at hp
    have hm : measL (l.take n) = (k, n) := by
      have := meas_alone hne (by rw [h]; exact hp.1)
      rwa [h] at this
    rw [hm]
    rw [h] at ho
    simp only [List.take_take, Nat.min_self]
    rw [if_pos ho]
  · cases h
/-- What begins a token is no separator. -/
theorem first_head {c : UInt8} {r : List UInt8} (h : (firstL (c :: r)).isSome = true) : sepC c = false := by
  cases hs : sepC c with
  | false => rfl
  | true =>
    exfalso
    obtain ⟨h1, h2, h3, h4, h5, h6⟩ := sep_not hs
    have hc : c.toNat = 32 ∨ c.toNat = 9 ∨ c.toNat = 10 := by simpa [sepC] using hs
    have e : measL (c :: r) = (4, 0) := by
      unfold measL
      rw [span_no h3, span_no h4]
      simp only [Nat.lt_irrefl, if_false]
      have hz : signL (c :: r) = 0 := by show (if c.toNat = 45 then 1 else 0) = 0; rw [if_neg (by omega)]
      rw [if_neg (by omega), hz, List.drop_zero, span_no h5, if_neg (by omega)]
      unfold markL
      have ht : two (c :: r) = false := by
        rcases r with _ | ⟨d, r⟩
        · rfl
        · simp only [two, decide_eq_false_iff_not]; omega
      rw [ht, span_no h6]; rfl
    unfold firstL at h
    rw [e] at h
    simp [okL] at h
end Go.Proofs.YtdolhlbkhhnpmaaDoor
namespace Go.Proofs.YtdolhlbkhhnpmaaDoor
open Go.RowKit FloM ValM
set_option linter.unusedVariables false
set_option linter.unusedSimpArgs false

theorem toks_skip (a : Nat) (l : List UInt8) : toksL a l = toksL (a + spanL sepC l) (l.drop (spanL sepC l)) := by
  have h0 : spanL sepC (l.drop (spanL sepC l)) = 0 := by
    cases h : l.drop (spanL sepC l) with
    | nil => rfl
    | cons c r => exact span_no (span_next _ _ c r h)
  by_cases he : l.drop (spanL sepC l) = []
  · rw [toks_end he, toks_end (by rw [he]; rfl)]
  · cases hf : firstL (l.drop (spanL sepC l)) with
    | none => rw [toks_bad he hf, toks_bad (by rw [h0]; simpa using he) (by rw [h0]; simpa using hf), h0]; rfl
    | some o =>
      obtain ⟨k, n⟩ := o
      rw [toks_more hf, toks_more (a := a + spanL sepC l) (l := l.drop (spanL sepC l)) (k := k) (n := n) (by rw [h0]; simpa using hf), h0]
      simp [List.drop_drop]
def Tk.on (d : Nat) (t : Tk) : Tk := ⟨t.k, t.t, t.a + d⟩
def Rs.on (d : Nat) : Rs → Rs
  | .good l => .good (l.map (Tk.on d))
  | .bad n => .bad (n + d)
theorem on_pre (d : Nat) (t : Tk) (R : Rs) : (R.pre t).on d = (R.on d).pre (t.on d) := by cases R <;> rfl
theorem toks_on (d : Nat) : ∀ (m a : Nat) (l : List UInt8), l.length ≤ m → toksL (a + d) l = (toksL a l).on d := by
  intro m
  induction m with
  | zero =>
    intro a l hl
    have : l = [] := List.eq_nil_of_length_eq_zero (by omega)
    subst this
    rw [toks_end rfl, toks_end rfl]; rfl
  | succ m ih =>
    intro a l hl
    by_cases he : l.drop (spanL sepC l) = []
    · rw [toks_end he, toks_end he]; rfl
    · cases hf : firstL (l.drop (spanL sepC l)) with
      | none => rw [toks_bad he hf, toks_bad he hf]; simp only [Rs.on]; congr 1; omega
      | some o =>
        obtain ⟨k, n⟩ := o
        have hp := first_pos hf
        rw [toks_more hf, toks_more hf, on_pre, ← ih _ _ (by rw [List.length_drop] at hp ⊢; omega)]
        congr 1
        · simp only [Tk.on, Tk.mk.injEq, true_and]; omega
        · congr 1; omega
theorem toks_at (d : Nat) (l : List UInt8) : toksL d l = (toksL 0 l).on d := by
  have := toks_on d l.length 0 l (Nat.le_refl _)
  rwa [Nat.zero_add] at this
/-- What one begins with, and another text behind a separator. -/
def Rs.then (R : Rs) (S : Rs) : Rs := match R with
  | .good l => S.lay l
  | .bad n => .bad n
theorem pre_then (t : Tk) (R S : Rs) : (R.pre t).then S = (R.then S).pre t := by
  cases R <;> cases S <;> simp [Rs.pre, Rs.then, Rs.lay]
theorem toks_parts (c : UInt8) (hc : sepC c = true) (y : List UInt8) : ∀ (m a : Nat) (x : List UInt8), x.length ≤ m → toksL a (x ++ c :: y) = (toksL a x).then (toksL (a + x.length + 1) y) := by
  intro m
  induction m with
  | zero =>
    intro a x hx
    have : x = [] := List.eq_nil_of_length_eq_zero (by omega)
    subst this
    rw [toks_end (l := []) rfl, List.nil_append, toks_skip a, toks_skip (a + ([] : List UInt8).length + 1) y, span_yes hc, List.drop_succ_cons]
    simp only [Rs.then, lay_nil, List.length_nil]
    congr 1; omega
  | succ m ih =>
    intro a x hx
    by_cases he : x.drop (spanL sepC x) = []
    · have hall : spanL sepC x = x.length := by
        have h1 := span_le sepC x
        have h2 := congrArg List.length he
        rw [List.length_drop, List.length_nil] at h2; omega
      rw [toks_end he, toks_skip a, toks_skip (a + x.length + 1) y, span_app (span_full.1 hall), span_yes hc]
      simp only [Rs.then, lay_nil]
      congr 1
      · omega
      · rw [List.drop_append, List.drop_of_length_le (by omega), List.nil_append, show x.length + (spanL sepC y + 1) - x.length = spanL sepC y + 1 by omega, List.drop_succ_cons]
    · have hlt : spanL sepC x < x.length := by
        have h1 := span_le sepC x
        rcases Nat.lt_or_ge (spanL sepC x) x.length with h | h
        · exact h
        · exact absurd (List.drop_of_length_le h) he
      have hsp : spanL sepC (x ++ c :: y) = spanL sepC x := span_cut hlt
      have hdr : (x ++ c :: y).drop (spanL sepC (x ++ c :: y)) = x.drop (spanL sepC x) ++ c :: y := by
        rw [hsp, List.drop_append_of_le_length (by omega)]
      have hfs : firstL (x.drop (spanL sepC x) ++ c :: y) = firstL (x.drop (spanL sepC x)) := first_sep he fun d r e => by injection e with e _; rw [← e]; exact hc
      cases hf : firstL (x.drop (spanL sepC x)) with
      | none =>
        rw [toks_bad he hf, toks_bad (by rw [hdr]; simp) (by rw [hdr, hfs, hf]), hsp]; rfl
      | some o =>
        obtain ⟨k, n⟩ := o
        have hp := first_pos hf
        have hp2 := hp.2.1
        rw [List.length_drop] at hp2
        rw [toks_more hf, toks_more (k := k) (n := n) (by rw [hdr, hfs, hf]), pre_then]
        rw [hdr, hsp, List.take_append_of_le_length hp.2.1, List.drop_append_of_le_length (by omega), ih _ _ (by rw [List.length_drop]; omega), List.length_drop]
        congr 3; omega
/-- A text that is one token. -/
theorem toks_one {l : List UInt8} {k : Nat} (h : firstL l = some (k, l.length)) (a : Nat) : toksL a l = .good [⟨k, l, a⟩] := by
  have hp := first_pos h
  have h0 : spanL sepC l = 0 := by
    cases l with
    | nil => rfl
    | cons c r => exact span_no (first_head (by rw [h]; rfl))
  rw [toks_more (k := k) (n := l.length) (by rw [h0]; simpa using h), h0]
  simp only [List.drop_zero, Nat.add_zero, Nat.zero_add, List.take_length, List.drop_length]
  rw [toks_end rfl]; rfl
theorem one_toks {l : List UInt8} {t : Tk} (h : toksL 0 l = .good [t]) (ht : t.t = l) : firstL l = some (t.k, l.length) ∧ t.a = 0 := by
  by_cases he : l.drop (spanL sepC l) = []
  · rw [toks_end he] at h; cases h
  · cases hf : firstL (l.drop (spanL sepC l)) with
    | none => rw [toks_bad he hf] at h; cases h
    | some o =>
      obtain ⟨k, n⟩ := o
      have hp := first_pos hf
      rw [toks_more hf] at h
      cases hr : toksL (0 + spanL sepC l + n) (l.drop (spanL sepC l + n)) with
      | bad m => rw [hr] at h; cases h
      | good r =>
        rw [hr] at h
        simp only [Rs.pre, Rs.good.injEq, List.cons.injEq] at h
        obtain ⟨h1, h2⟩ := h
        have hlen : ((l.drop (spanL sepC l)).take n).length = l.length := by
          have := congrArg Tk.t h1
          simp only at this
          rw [this, ht]
        rw [List.length_take, List.length_drop] at hlen
        have hs0 : spanL sepC l = 0 := by
          have := hp.2.2; have := hp.1
          rw [List.length_drop] at *; omega
        rw [hs0, List.drop_zero] at hf
        have : n = l.length := by have := hp.2.1; rw [hs0] at this; simp at this; omega
        rw [this] at hf
        rw [← h1, hf, hs0]
        exact ⟨rfl, rfl⟩
/-- Each token alone is one. -/
theorem toks_each : ∀ (m a : Nat) (l : List UInt8), l.length ≤ m → ∀ ts, toksL a l = .good ts → ∀ t ∈ ts, firstL t.t = some (t.k, t.t.length) := by
  intro m
  induction m with
  | zero =>
    intro a l hl ts h t ht
    have : l = [] := List.eq_nil_of_length_eq_zero (by omega)
    subst this
    rw [toks_end rfl] at h
    injection h with h; subst h; cases ht
  | succ m ih =>
    intro a l hl ts h t ht
    by_cases he : l.drop (spanL sepC l) = []
    · rw [toks_end he] at h; injection h with h; subst h; cases ht
    · cases hf : firstL (l.drop (spanL sepC l)) with
      | none => rw [toks_bad he hf] at h; cases h
      | some o =>
        obtain ⟨k, n⟩ := o
        have hp := first_pos hf
        rw [toks_more hf] at h
        cases hr : toksL (a + spanL sepC l + n) (l.drop (spanL sepC l + n)) with
        | bad m => rw [hr] at h; cases h
        | good r =>
          rw [hr] at h
          simp only [Rs.pre, Rs.good.injEq] at h
          subst h
          rcases List.mem_cons.1 ht with rfl | ht
          · have := first_alone hf
            simp only
            rw [this, List.length_take, Nat.min_eq_left hp.2.1]
          · exact ih _ _ (by rw [List.length_drop] at hp ⊢; omega) r hr t ht
/-- There are no more tokens, and no longer ones, than the text is long. -/
def sumT (ts : List Tk) : Nat := (ts.map fun t => t.t.length + 1).sum
theorem toks_sum : ∀ (m a : Nat) (l : List UInt8), l.length ≤ m → ∀ ts, toksL a l = .good ts → sumT ts ≤ 2 * l.length := by
  intro m
  induction m with
  | zero =>
    intro a l hl ts h
    have : l = [] := List.eq_nil_of_length_eq_zero (by omega)
    subst this
    rw [toks_end rfl] at h
    injection h with h; subst h; simp [sumT]
  | succ m ih =>
    intro a l hl ts h
    by_cases he : l.drop (spanL sepC l) = []
    · rw [toks_end he] at h; injection h with h; subst h; simp [sumT]
    · cases hf : firstL (l.drop (spanL sepC l)) with
      | none => rw [toks_bad he hf] at h; cases h
      | some o =>
        obtain ⟨k, n⟩ := o
        have hp := first_pos hf
        rw [toks_more hf] at h
        cases hr : toksL (a + spanL sepC l + n) (l.drop (spanL sepC l + n)) with
        | bad m => rw [hr] at h; cases h
        | good r =>
          rw [hr] at h
          simp only [Rs.pre, Rs.good.injEq] at h
          subst h
          have := ih _ _ (by rw [List.length_drop] at hp ⊢; omega) r hr
          simp only [sumT, List.map_cons, List.sum_cons] at this ⊢
          rw [List.length_take, List.length_drop]
          rw [List.length_drop] at this hp
          omega
theorem toks_len {l : List UInt8} {ts : List Tk} {a : Nat} (h : toksL a l = .good ts) : ts.length ≤ 2 * l.length := by
  have := toks_sum _ _ _ (Nat.le_refl _) _ h
  have h2 : ∀ ts : List Tk, ts.length ≤ sumT ts := fun ts => by
    induction ts with
    | nil => simp
    | cons t ts ih => simp only [sumT, List.map_cons, List.sum_cons, List.length_cons] at ih ⊢; omega
  have := h2 ts; omega
/-! ### Tokens with a space between them -/
def joinL : List Tk → List UInt8
  | [] => []
  | t :: ts => match ts with
    | [] => t.t
    | _ :: _ => t.t ++ 32 :: joinL ts
theorem joinL_two (t u : Tk) (ts : List Tk) : joinL (t :: u :: ts) = t.t ++ 32 :: joinL (u :: ts) := rfl
theorem joinL_snoc : ∀ (ts : List Tk) (t : Tk), ts ≠ [] → joinL (ts ++ [t]) = joinL ts ++ 32 :: t.t
  | [], t, h => absurd rfl h
  | [u], t, _ => rfl
  | u :: v :: ts, t, _ => by
    have ih := joinL_snoc (v :: ts) t (by simp)
    rw [List.cons_append, List.cons_append, joinL_two, joinL_two, ← List.cons_append, ih, List.append_assoc]; rfl
theorem joinL_len : ∀ ts : List Tk, (joinL ts).length ≤ sumT ts
  | [] => by simp [joinL, sumT]
  | [t] => by simp [joinL, sumT]
  | t :: u :: ts => by
    have ih := joinL_len (u :: ts)
    rw [joinL_two]
    simp only [sumT, List.map_cons, List.sum_cons, List.length_append, List.length_cons] at ih ⊢; omega
theorem toks_join : ∀ ts : List Tk, (∀ t ∈ ts, firstL t.t = some (t.k, t.t.length)) → ∃ us, toksL 0 (joinL ts) = .good us ∧ us.length = ts.length ∧ ∀ (i : Nat) (t u : Tk), ts[i]? = some t → us[i]? = some u → u.k = t.k ∧ u.t = t.t
  | [], _ => ⟨[], by rw [joinL, toks_end rfl], rfl, fun i t u h => by simp at h⟩
  | [t], h => by
    refine ⟨[⟨t.k, t.t, 0⟩], toks_one (h t (List.mem_singleton.2 rfl)) 0, rfl, fun i a b ha hb => ?_⟩
    cases i with
    | zero => simp only [List.getElem?_cons_zero, Option.some.injEq] at ha hb; subst ha; subst hb; exact ⟨rfl, rfl⟩
    | succ i => simp at ha
  | t :: v :: ts, h => by
    obtain ⟨us, h1, h2, h3⟩ := toks_join (v :: ts) fun x hx => h x (List.mem_cons_of_mem _ hx)
    refine ⟨⟨t.k, t.t, 0⟩ :: us.map (Tk.on (0 + t.t.length + 1)), ?_, by simp [h2], fun i a b ha hb => ?_⟩
    · rw [joinL_two, toks_parts 32 (by decide) _ _ 0 _ (Nat.le_refl _), toks_one (h t List.mem_cons_self) 0, toks_at, h1]; rfl
    · cases i with
      | zero => simp only [List.getElem?_cons_zero, Option.some.injEq] at ha hb; subst ha; subst hb; exact ⟨rfl, rfl⟩
      | succ i =>
        rw [List.getElem?_cons_succ] at ha hb
        rw [List.getElem?_map] at hb
        cases hu : us[i]? with
        | none => rw [hu] at hb; cases hb
        | some u =>
          rw [hu] at hb; simp only [Option.map_some, Option.some.injEq] at hb; subst hb
          exact h3 i a u ha hu
end Go.Proofs.YtdolhlbkhhnpmaaDoor
namespace Go.Proofs.YtdolhlbkhhnpmaaDoor
open Go.RowKit FloM ValM
set_option linter.unusedVariables false
set_option linter.unusedSimpArgs false

/-- The signs of a word, or those of a name. -/
def runP (small : Bool) (c : UInt8) : Bool := nameC c && !(small && uppC c)
theorem runP_name : runP false = nameC := by funext c; simp [runP]
theorem runP_word : runP true = wordC := by
  funext c
  simp only [runP, nameC, wordC, uppC, lowC, digC, Bool.true_and]
  rw [Bool.eq_iff_iff]
  simp only [Bool.and_eq_true, Bool.or_eq_true, decide_eq_true_eq, Bool.not_eq_true', decide_eq_false_iff_not]
  omega
theorem varL_cons (c : UInt8) (r : List UInt8) : varL (c :: r) = (uppC c && (c :: r).all nameC && decide ((c :: r).length ≤ 40)) := by
  unfold varL
  rw [Bool.eq_iff_iff]
  simp only [Bool.and_eq_true, decide_eq_true_eq, span_pos, span_full]
theorem varL_nil : varL [] = false := by simp [varL, spanL]
section
variable {c : UInt8} {r : List UInt8}
theorem meas_low (h : lowC c = true) : measL (c :: r) = (1, spanL wordC (c :: r)) := by
  unfold measL; rw [if_pos (span_pos.2 h)]
theorem low_0 (h : lowC c = false) : ¬ 0 < spanL lowC (c :: r) := by rw [span_pos, h]; simp
theorem upp_0 (h : uppC c = false) : ¬ 0 < spanL uppC (c :: r) := by rw [span_pos, h]; simp
theorem meas_upp (h : uppC c = true) : measL (c :: r) = (2, spanL nameC (c :: r)) := by
  have h0 : lowC c = false := by simp only [uppC, lowC, decide_eq_true_eq, decide_eq_false_iff_not] at h ⊢; omega
  unfold measL; rw [if_neg (low_0 h0), if_pos (span_pos.2 h)]
theorem meas_hsh (h : c.toNat = 35) : measL (c :: r) = (3, 1 + spanL nameC r) := by
  unfold measL; rw [if_neg (low_0 (by simp [lowC]; omega)), if_neg (upp_0 (by simp [uppC]; omega))]
  simp only [h, if_true]
theorem meas_dig (h : digC c = true) : measL (c :: r) = (3, 1 + spanL nameC r) := by
  have hn : nameC c = true := dig_name h
  simp only [digC, decide_eq_true_eq] at h
  unfold measL; rw [if_neg (low_0 (by simp [lowC]; omega)), if_neg (upp_0 (by simp [uppC]; omega))]
  have hs : signL (c :: r) = 0 := by unfold signL; exact if_neg (by omega)
  simp only [hs, List.drop_zero]
  rw [if_neg (by omega), if_pos (span_pos.2 (by simp only [digC, decide_eq_true_eq]; omega)), span_yes hn, Nat.zero_add, Nat.add_comm]
theorem meas_min (h : c.toNat = 45) {d : UInt8} (hd : digC d = true) : measL (c :: d :: r) = (3, 1 + spanL nameC (d :: r)) := by
  unfold measL; rw [if_neg (low_0 (by simp [lowC]; omega)), if_neg (upp_0 (by simp [uppC]; omega))]
  have hs : signL (c :: d :: r) = 1 := by unfold signL; exact if_pos h
  simp only [hs, List.drop_succ_cons, List.drop_zero]
  rw [if_neg (by omega), if_pos (span_pos.2 hd)]
theorem meas_mrk (h1 : lowC c = false) (h2 : uppC c = false) (h3 : c.toNat ≠ 35) (h4 : digC c = false) (h5 : c.toNat = 45 → ∀ d s, r = d :: s → digC d = false) : measL (c :: r) = (4, markL (c :: r)) := by
  unfold measL; rw [if_neg (low_0 h1), if_neg (upp_0 h2)]
  simp only [if_neg h3]
  by_cases h45 : c.toNat = 45
  · have hs : signL (c :: r) = 1 := by unfold signL; exact if_pos h45
    simp only [hs, List.drop_succ_cons, List.drop_zero]
    cases r with
    | nil => rw [if_neg (by simp [spanL])]
    | cons d s => rw [if_neg (by rw [span_pos, h5 h45 d s rfl]; simp)]
  · have hs : signL (c :: r) = 0 := by unfold signL; exact if_neg h45
    simp only [hs, List.drop_zero]
    rw [if_neg (by rw [span_pos, h4]; simp)]
end
/-- The mark of one sign. -/
theorem mark_one {c : UInt8} {r : List UInt8} (h : two (c :: r) = false) : markL (c :: r) = if markC c then 1 else 0 := by
  unfold markL
  rw [if_neg (by rw [h]; simp)]
  cases hm : markC c with
  | true => rw [span_yes hm, if_pos rfl]; omega
  | false => rw [span_no hm, if_neg (by simp)]; rfl
theorem mark_cls (c : UInt8) : c.toNat = 40 ∨ c.toNat = 41 ∨ c.toNat = 44 ∨ c.toNat = 46 ∨ c.toNat = 60 ∨ c.toNat = 61 ∨ c.toNat = 47 ∨ c.toNat = 124 ∨ c.toNat = 42 ∨ c.toNat = 43 ∨ c.toNat = 63 ∨ c.toNat = 94 ∨ markC c = false := by
  cases h : markC c with
  | false => simp
  | true => simp only [markC, marks, decide_eq_true_eq, List.mem_cons, List.not_mem_nil, or_false] at h; omega
/-- The keywords. -/
def keysB : List (List UInt8) := [[110, 111, 116], [105, 115], [112, 108, 117, 115], [109, 105, 110, 117, 115], [116, 105, 109, 101, 115], [119, 97, 108, 107], [99, 111, 117, 110, 116], [115, 117, 109], [109, 105, 110], [109, 97, 120], [109, 101, 97, 110]]
def keyL (l : List UInt8) : Bool := keysB.contains l
end Go.Proofs.YtdolhlbkhhnpmaaDoor
namespace Go.Proofs.YtdolhlbkhhnpmaaDoor
open Go.RowKit FloM ValM
set_option linter.unusedVariables false
set_option linter.unusedSimpArgs false

theorem all_span {p : UInt8 → Bool} {l : List UInt8} (h : spanL p l = l.length) : l.all p = true := span_full.1 h
theorem first_iff {l : List UInt8} {k n : Nat} (h : firstL l = some (k, n)) : measL l = (k, n) ∧ okL k (l.take n) = true := by
  unfold firstL at h
  split at h
  · rename_i ho; injection h with h; rw [h] at ho; exact ⟨h, ho⟩
  · cases h
theorem word_dig {c : UInt8} (h : digC c = true) : wordC c = true := by simp [wordC, h]
theorem word_low {c : UInt8} (h : lowC c = true) : wordC c = true := by simp [wordC, h]
theorem upp_not_word {c : UInt8} (h : uppC c = true) : wordC c = false ∧ lowC c = false := by
  simp only [uppC, decide_eq_true_eq] at h
  constructor <;> simp [wordC, lowC, digC] <;> omega
theorem low_not {c : UInt8} (h : lowC c = true) : uppC c = false := by
  simp only [lowC, decide_eq_true_eq] at h; simp [uppC]; omega
/-- What a token's kind says of its bytes. -/
theorem kind_bytes {c : UInt8} {r : List UInt8} {k : Nat} (h : firstL (c :: r) = some (k, (c :: r).length)) :
    (k = 1 ∧ lowC c = true ∧ (c :: r).all wordC = true) ∨ (k = 2 ∧ lowC c = false ∧ uppC c = true ∧ (c :: r).all nameC = true) ∨
    (k = 3 ∧ lowC c = false ∧ uppC c = false ∧ c.toNat = 35 ∧ r.all nameC = true) ∨ (k = 3 ∧ lowC c = false ∧ uppC c = false ∧ c.toNat = 45 ∧ r.all nameC = true ∧ 0 < spanL digC r) ∨
    (k = 3 ∧ lowC c = false ∧ uppC c = false ∧ digC c = true ∧ (c :: r).all nameC = true ∧ (readV (bs (c :: r))).isSome = true) ∨ k = 4 := by
  obtain ⟨hm, ho⟩ := first_iff h
  rw [List.take_length] at ho
  by_cases h1 : 0 < spanL lowC (c :: r)
  · have e : measL (c :: r) = (1, spanL wordC (c :: r)) := by unfold measL; rw [if_pos h1]
    rw [e, Prod.mk.injEq] at hm
    exact .inl ⟨hm.1.symm, span_pos.1 h1, all_span hm.2⟩
  have n1 : lowC c = false := by cases hl : lowC c with
    | false => rfl
    | true => exact absurd (span_pos.2 hl) h1
  by_cases h2 : 0 < spanL uppC (c :: r)
  · have e : measL (c :: r) = (2, spanL nameC (c :: r)) := by unfold measL; rw [if_neg h1, if_pos h2]
    rw [e, Prod.mk.injEq] at hm
    exact .inr (.inl ⟨hm.1.symm, n1, span_pos.1 h2, all_span hm.2⟩)
  have n2 : uppC c = false := by cases hl : uppC c with
    | false => rfl
    | true => exact absurd (span_pos.2 hl) h2
  by_cases h3 : c.toNat = 35
  · have e : measL (c :: r) = (3, 1 + spanL nameC r) := by unfold measL; rw [if_neg h1, if_neg h2]; simp only [if_pos h3]
    rw [e, Prod.mk.injEq, List.length_cons] at hm
    exact .inr (.inr (.inl ⟨hm.1.symm, n1, n2, h3, all_span (by omega)⟩))
  by_cases h4 : 0 < spanL digC ((c :: r).drop (signL (c :: r)))
  · have e : measL (c :: r) = (3, signL (c :: r) + spanL nameC ((c :: r).drop (signL (c :: r)))) := by unfold measL; rw [if_neg h1, if_neg h2]; simp only [if_neg h3, if_pos h4]
    rw [e, Prod.mk.injEq] at hm
    by_cases h5 : c.toNat = 45
    · have hs : signL (c :: r) = 1 := by show (if c.toNat = 45 then 1 else 0) = 1; rw [if_pos h5]
      rw [hs, List.drop_one, List.tail_cons] at h4 hm
      rw [List.length_cons] at hm
      exact .inr (.inr (.inr (.inl ⟨hm.1.symm, n1, n2, h5, all_span (by omega), h4⟩)))
    · have hs : signL (c :: r) = 0 := by show (if c.toNat = 45 then 1 else 0) = 0; rw [if_neg h5]
      rw [hs, List.drop_zero] at h4 hm
      rw [← hm.1] at ho
      exact .inr (.inr (.inr (.inr (.inl ⟨hm.1.symm, n1, n2, span_pos.1 h4, all_span (by omega), ho⟩))))
  · have e : measL (c :: r) = (4, markL (c :: r)) := by unfold measL; rw [if_neg h1, if_neg h2]; simp only [if_neg h3, if_neg h4]
    rw [e, Prod.mk.injEq] at hm
    exact .inr (.inr (.inr (.inr (.inr hm.1.symm))))
theorem isDig_10 {c : UInt8} (h : isDig 10 c = true) : digC c = true := by
  have := dig10 h; simp [digC]; omega
theorem allDig_word : ∀ l : List UInt8, allDig 10 l = true → l.all wordC = true
  | [], _ => rfl
  | c :: l, h => by
    have h : isDig 10 c = true ∧ allDig 10 l = true := by simpa [allDig] using h
    rw [List.all_cons, word_dig (isDig_10 h.1), allDig_word l h.2]; rfl
/-- A value that begins with a digit is digits alone. -/
theorem value_word {c : UInt8} {r : List UInt8} (hc : digC c = true) (hr : (readV (bs (c :: r))).isSome = true) : (c :: r).all wordC = true := by
  have hd : 48 ≤ c.toNat ∧ c.toNat ≤ 57 := by simpa [digC] using hc
  have hn : name (bs (c :: r)) = false := by show nameL (ls (bs (c :: r))) = false; exact name_first (c := c) (r := r) rfl (by omega)
  have h45 : c ≠ 45 := ne_of_toNat (by show c.toNat ≠ 45; omega)
  have h35 : c ≠ 35 := ne_of_toNat (by show c.toNat ≠ 35; omega)
  have hf : readFloL (c :: r) = none := by unfold readFloL; simp only; rw [if_neg (fun h => h35 h.1)]
  unfold readV at hr
  rw [hn, if_neg Bool.false_ne_true, ls_bs, hf] at hr
  cases hi : readIntL (c :: r) with
  | none => rw [hi] at hr; simp at hr
  | some n =>
    by_cases h0 : c = 48 ∧ r ≠ []
    · unfold readIntL at hi; simp only at hi; rw [if_neg h45, if_pos h0] at hi; cases hi
    · rw [readInt_pos c r h45 h0] at hi
      split at hi
      · rename_i h; exact allDig_word _ (digOk_iff.1 h).1
      · cases hi
theorem all_word_name {l : List UInt8} (h : l.all wordC = true) : l.all nameC = true := by
  rw [List.all_eq_true] at h ⊢; exact fun c hc => word_name (h c hc)
theorem span_all_app {p : UInt8 → Bool} {a b : List UInt8} (ha : a.all p = true) (hb : b.all p = true) : spanL p (a ++ b) = (a ++ b).length := span_full.2 (by rw [List.all_append, ha, hb]; rfl)
/-- What stands behind a token, all of its kind of bytes, makes it longer. -/
theorem meas_join {A B : List UInt8} {k : Nat} (hA : firstL A = some (k, A.length)) (hk : k ≠ 4) (hB : B.all nameC = true) (hw : k = 1 → B.all wordC = true) : measL (A ++ B) = (k, (A ++ B).length) := by
  have hp := first_pos hA
  cases A with
  | nil => simp at hp
  | cons c r =>
    rw [List.cons_append]
    rcases kind_bytes hA with ⟨rfl, h1, h2⟩ | ⟨rfl, h1, h2, h3⟩ | ⟨rfl, h1, h2, h3, h4⟩ | ⟨rfl, h1, h2, h3, h4, h5⟩ | ⟨rfl, h1, h2, h3, h4, _⟩ | h
    · unfold measL
      rw [if_pos (span_pos.2 h1), ← List.cons_append, span_all_app h2 (hw rfl)]
    · unfold measL
      rw [if_neg (by rw [span_pos, h1]; simp), if_pos (span_pos.2 h2), ← List.cons_append, span_all_app h3 hB]
    · unfold measL
      rw [if_neg (by rw [span_pos, h1]; simp), if_neg (by rw [span_pos, h2]; simp)]
      simp only [if_pos h3]
      rw [span_all_app h4 hB, List.length_cons]; congr 1; omega
    · have hs : signL (c :: (r ++ B)) = 1 := by show (if c.toNat = 45 then 1 else 0) = 1; rw [if_pos h3]
      have hd : 0 < spanL digC (r ++ B) := by
        cases r with
        | nil => simp [spanL] at h5
        | cons d r => rw [List.cons_append]; exact span_head.1 h5
      unfold measL
      rw [if_neg (by rw [span_pos, h1]; simp), if_neg (by rw [span_pos, h2]; simp)]
      simp only [if_neg (show ¬ c.toNat = 35 by omega)]
      rw [hs, List.drop_one, List.tail_cons, if_pos hd, span_all_app h4 hB, List.length_cons]; congr 1; omega
    · have hr : 48 ≤ c.toNat ∧ c.toNat ≤ 57 := by simpa [digC] using h3
      have hs : signL (c :: (r ++ B)) = 0 := by show (if c.toNat = 45 then 1 else 0) = 0; rw [if_neg (by omega)]
      unfold measL
      rw [if_neg (by rw [span_pos, h1]; simp), if_neg (by rw [span_pos, h2]; simp)]
      simp only [if_neg (show ¬ c.toNat = 35 by omega)]
      rw [hs, List.drop_zero, if_pos (span_pos.2 h3), ← List.cons_append, span_all_app h4 hB]; congr 1; omega
    · exact absurd h hk
theorem sep0 {l : List UInt8} {o : Nat × Nat} (h : measL l = o) (hk : o.1 ≠ 4) : spanL sepC l = 0 := by
  cases l with
  | nil => rfl
  | cons c r =>
    cases hs : sepC c with
    | false => exact span_no hs
    | true =>
      exfalso
      obtain ⟨h1, h2, h3, h4, h5, h6⟩ := sep_not hs
      have hc : c.toNat = 32 ∨ c.toNat = 9 ∨ c.toNat = 10 := by simpa [sepC] using hs
      apply hk
      rw [← h]
      unfold measL
      rw [span_no h3, span_no h4]
      simp only [Nat.lt_irrefl, if_false]
      have hz : signL (c :: r) = 0 := by show (if c.toNat = 45 then 1 else 0) = 0; rw [if_neg (by omega)]
      rw [if_neg (by omega), hz, List.drop_zero, span_no h5, if_neg (by omega)]
theorem side_one {A : List UInt8} {c : UInt8} {r : List UInt8} {k m : Nat} (hA : firstL A = some (k, A.length)) (hB : firstL (c :: r) = some (m, (c :: r).length)) (hk : k ≠ 4) (hm : m ≠ 4) (h45 : c.toNat ≠ 45) (h35 : c.toNat ≠ 35) (hno : ¬ (k = 1 ∧ uppC c = true)) :
    toksL 0 (A ++ c :: r) = .bad 0 ∨ toksL 0 (A ++ c :: r) = .good [⟨k, A ++ c :: r, 0⟩] := by
  have hb : (c :: r).all nameC = true ∧ (k = 1 → (c :: r).all wordC = true) := by
    rcases kind_bytes hB with ⟨rfl, h1, h2⟩ | ⟨rfl, h1, h2, h3⟩ | ⟨rfl, h1, h2, h3, h4⟩ | ⟨rfl, h1, h2, h3, h4, h5⟩ | ⟨rfl, h1, h2, h3, h4, h5⟩ | h
    · exact ⟨all_word_name h2, fun _ => h2⟩
    · exact ⟨h3, fun e => absurd ⟨e, h2⟩ hno⟩
    · exact absurd h3 h35
    · exact absurd h3 h45
    · exact ⟨h4, fun _ => value_word h3 h5⟩
    · exact absurd h hm
  have hmj := meas_join hA hk hb.1 hb.2
  have hs := sep0 hmj hk
  have hne : A ++ c :: r ≠ [] := by simp
  have hf : firstL (A ++ c :: r) = if okL k (A ++ c :: r) then some (k, (A ++ c :: r).length) else none := by
    unfold firstL; rw [hmj]; simp only [List.take_length]
  cases ho : okL k (A ++ c :: r) with
  | false =>
    rw [ho, if_neg Bool.false_ne_true] at hf
    left
    rw [toks_bad (by rw [hs]; simp) (by rw [hs]; simpa using hf), hs]
  | true =>
    rw [ho, if_pos rfl] at hf
    right
    exact toks_one hf 0
theorem side_two {A : List UInt8} {c : UInt8} {r : List UInt8} {m : Nat} (hA : firstL A = some (1, A.length)) (hB : firstL (c :: r) = some (m, (c :: r).length)) (hc : uppC c = true) :
    toksL 0 (A ++ c :: r) = .good [⟨1, A, 0⟩, ⟨m, c :: r, A.length⟩] := by
  have hp := first_pos hA
  cases A with
  | nil => simp at hp
  | cons d q =>
    have hd : lowC d = true ∧ (d :: q).all wordC = true := by
      rcases kind_bytes hA with ⟨_, h1, h2⟩ | ⟨e, _⟩ | ⟨e, _⟩ | ⟨e, _⟩ | ⟨e, _⟩ | e
      · exact ⟨h1, h2⟩
      all_goals omega
    have hmj : measL ((d :: q) ++ c :: r) = (1, (d :: q).length) := by
      rw [List.cons_append]
      unfold measL
      rw [if_pos (span_pos.2 hd.1), ← List.cons_append, span_eq (fun x y e => by injection e with e _; rw [← e]; exact (upp_not_word hc).1) hd.2]
    have hs := sep0 hmj (by simp)
    obtain ⟨_, ho⟩ := first_iff hA
    rw [List.take_length] at ho
    have hf : firstL ((d :: q) ++ c :: r) = some (1, (d :: q).length) := by
      unfold firstL; rw [hmj]; simp only [List.take_left']; rw [if_pos ho]
    rw [toks_more (k := 1) (n := (d :: q).length) (by rw [hs]; simpa using hf), hs]
    simp only [List.drop_zero, Nat.add_zero, Nat.zero_add, List.take_left', List.drop_left']
    rw [toks_one hB]; rfl
end Go.Proofs.YtdolhlbkhhnpmaaDoor

/-
  Plain mathematics for the document's own lexer (antecedentref07): the token with which a text begins, told by its first bytes; a variable's name; keywords. Nothing of the dump is used here.
-/
import Derived.Test.YtncafadjcelloaaDoorLexMore
namespace Go.Proofs.YtncafadjcelloaaDoor
open Go.RowKit FloM ValM
set_option linter.unusedVariables false
set_option linter.unusedSimpArgs false

/-- The signs of a word, or those of a name. -/
def runP (small : Bool) (c : UInt8) : Bool := nameC c && !(small && uppC c)
theorem runP_name : runP false = nameC := by funext c; simp [runP]
theorem runP_word : runP true = wordC := by
  funext c
  simp only [runP, nameC, wordC, uppC, lowC, digC, Bool.true_and]
  rw [Bool.eq_iff_iff]
  simp only [Bool.and_eq_true, Bool.or_eq_true, decide_eq_true_eq, Bool.not_eq_true', decide_eq_false_iff_not]
  omega
theorem varL_cons (c : UInt8) (r : List UInt8) : varL (c :: r) = (uppC c && (c :: r).all nameC && decide ((c :: r).length ≤ 40)) := by
  unfold varL
  rw [Bool.eq_iff_iff]
  simp only [Bool.and_eq_true, decide_eq_true_eq, span_pos, span_full]
theorem varL_nil : varL [] = false := by simp [varL, spanL]
section
variable {c : UInt8} {r : List UInt8}
theorem meas_low (h : lowC c = true) : measL (c :: r) = (1, spanL wordC (c :: r)) := by
  unfold measL; rw [if_pos (span_pos.2 h)]
theorem low_0 (h : lowC c = false) : ¬ 0 < spanL lowC (c :: r) := by rw [span_pos, h]; simp
theorem upp_0 (h : uppC c = false) : ¬ 0 < spanL uppC (c :: r) := by rw [span_pos, h]; simp
theorem meas_upp (h : uppC c = true) : measL (c :: r) = (2, spanL nameC (c :: r)) := by
  have h0 : lowC c = false := by simp only [uppC, lowC, decide_eq_true_eq, decide_eq_false_iff_not] at h ⊢; omega
  unfold measL; rw [if_neg (low_0 h0), if_pos (span_pos.2 h)]
theorem meas_hsh (h : c.toNat = 35) : measL (c :: r) = (3, 1 + spanL nameC r) := by
  unfold measL; rw [if_neg (low_0 (by simp [lowC]; omega)), if_neg (upp_0 (by simp [uppC]; omega))]
  simp only [h, if_true]
theorem meas_dig (h : digC c = true) : measL (c :: r) = (3, 1 + spanL nameC r) := by
  have hn : nameC c = true := dig_name h
  simp only [digC, decide_eq_true_eq] at h
  unfold measL; rw [if_neg (low_0 (by simp [lowC]; omega)), if_neg (upp_0 (by simp [uppC]; omega))]
  have hs : signL (c :: r) = 0 := by unfold signL; exact if_neg (by omega)
  simp only [hs, List.drop_zero]
  rw [if_neg (by omega), if_pos (span_pos.2 (by simp only [digC, decide_eq_true_eq]; omega)), span_yes hn, Nat.zero_add, Nat.add_comm]
theorem meas_min (h : c.toNat = 45) {d : UInt8} (hd : digC d = true) : measL (c :: d :: r) = (3, 1 + spanL nameC (d :: r)) := by
  unfold measL; rw [if_neg (low_0 (by simp [lowC]; omega)), if_neg (upp_0 (by simp [uppC]; omega))]
  have hs : signL (c :: d :: r) = 1 := by unfold signL; exact if_pos h
  simp only [hs, List.drop_succ_cons, List.drop_zero]
  rw [if_neg (by omega), if_pos (span_pos.2 hd)]
theorem meas_mrk (h1 : lowC c = false) (h2 : uppC c = false) (h3 : c.toNat ≠ 35) (h4 : digC c = false) (h5 : c.toNat = 45 → ∀ d s, r = d :: s → digC d = false) : measL (c :: r) = (4, markL (c :: r)) := by
  unfold measL; rw [if_neg (low_0 h1), if_neg (upp_0 h2)]
  simp only [if_neg h3]
  by_cases h45 : c.toNat = 45
  · have hs : signL (c :: r) = 1 := by unfold signL; exact if_pos h45
    simp only [hs, List.drop_succ_cons, List.drop_zero]
    cases r with
    | nil => rw [if_neg (by simp [spanL])]
    | cons d s => rw [if_neg (by rw [span_pos, h5 h45 d s rfl]; simp)]
  · have hs : signL (c :: r) = 0 := by unfold signL; exact if_neg h45
    simp only [hs, List.drop_zero]
    rw [if_neg (by rw [span_pos, h4]; simp)]
end
/-- The mark of one sign. -/
theorem mark_one {c : UInt8} {r : List UInt8} (h : two (c :: r) = false) : markL (c :: r) = if markC c then 1 else 0 := by
  unfold markL
  rw [if_neg (by rw [h]; simp)]
  cases hm : markC c with
  | true => rw [span_yes hm, if_pos rfl]; omega
  | false => rw [span_no hm, if_neg (by simp)]; rfl
theorem mark_cls (c : UInt8) : c.toNat = 40 ∨ c.toNat = 41 ∨ c.toNat = 44 ∨ c.toNat = 46 ∨ c.toNat = 60 ∨ c.toNat = 61 ∨ c.toNat = 47 ∨ c.toNat = 124 ∨ c.toNat = 42 ∨ c.toNat = 43 ∨ c.toNat = 63 ∨ c.toNat = 94 ∨ markC c = false := by
  cases h : markC c with
  | false => simp
  | true => simp only [markC, marks, decide_eq_true_eq, List.mem_cons, List.not_mem_nil, or_false] at h; omega
/-- The keywords. -/
def keysB : List (List UInt8) := [[110, 111, 116], [105, 115], [112, 108, 117, 115], [109, 105, 110, 117, 115], [116, 105, 109, 101, 115], [119, 97, 108, 107], [99, 111, 117, 110, 116], [115, 117, 109], [109, 105, 110], [109, 97, 120], [109, 101, 97, 110]]
def keyL (l : List UInt8) : Bool := keysB.contains l
end Go.Proofs.YtncafadjcelloaaDoor

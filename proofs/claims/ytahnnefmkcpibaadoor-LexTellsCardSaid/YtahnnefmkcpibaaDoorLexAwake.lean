/-
  What all laws of layer 7 begin with; the contract of lex.Tokens in the forms that the laws take; keywords.
-/
import Derived.Test.YtahnnefmkcpibaaDoorLexAll
namespace Go.Proofs.YtahnnefmkcpibaaDoor
open Go.RowKit FloM ValM Go.Shelf
set_option linter.unusedVariables false
set_option linter.unusedSimpArgs false

theorem tok_good {s : ByteArray} {l : List Tk} (h : toksL 0 (ls s) = .good l) (hs : s.size ≤ 20000) (w : World) : Calls Tryd.prog 6 #[.string s] w fun e w' => ∃ (A : Option Addr) (c : Nat), e = .returned (.tuple #[.slice A l.length c, .int .i64 0, .int .i64 0]) ∧ RdK w' A l ∧ Below w.heap.size w w' := by
  have := tokens_any s w (by omega)
  rw [h] at this
  exact this
theorem tok_bad {s : ByteArray} {n : Nat} (h : toksL 0 (ls s) = .bad n) (hs : s.size ≤ 20000) (w : World) : Calls Tryd.prog 6 #[.string s] w fun e w' => e = .returned (.tuple #[.slice none 0 0, .int .i64 (n : Int), .int .i64 2]) ∧ Below w.heap.size w w' := by
  have := tokens_any s w (by omega)
  rw [h] at this
  exact this
def Rs.ts : Rs → List Tk
  | .good l => l
  | .bad _ => []
def Rs.pos : Rs → Nat
  | .good _ => 0
  | .bad n => n
def Rs.no : Rs → Int
  | .good _ => 0
  | .bad _ => 2
/-- Tokens' three answers. -/
theorem tok_q (s : ByteArray) (w : World) (hs : s.size ≤ 20000) : Calls Tryd.prog 6 #[.string s] w fun e w' => ∃ (A : Option Addr) (c : Nat), e = .returned (.tuple #[.slice A (toksL 0 (ls s)).ts.length c, .int .i64 ((toksL 0 (ls s)).pos : Nat), .int .i64 (toksL 0 (ls s)).no]) ∧ RdK w' A (toksL 0 (ls s)).ts ∧ Below w.heap.size w w' := by
  cases h : toksL 0 (ls s) with
  | good l => exact tok_good h hs w
  | bad n =>
    refine (tok_bad h hs w).mono ?_
    rintro e w' ⟨rfl, hb⟩
    exact ⟨none, 0, rfl, RdK.nil, hb⟩
/-! ### Key, Variable at the texts of awake -/
set_option maxHeartbeats 1000000 in
theorem key_walk (w : World) : Calls Tryd.prog 11 #[.string ⟨#[119, 97, 108, 107]⟩] w fun e w' => e = .returned (.bool true) ∧ w = w' := by
  go_enter Tryd.func11, Tryd.ntmps11
  go_wp2
  go_ret
  exact ⟨rfl, rfl⟩
theorem var_x1 (w : World) : Calls Tryd.prog 9 #[.string ⟨#[88, 49]⟩] w fun e w' => e = .returned (.bool true) ∧ Below w.heap.size w w' := by
  have := variable_any ⟨#[88, 49]⟩ w (by decide)
  rwa [show varL (ls ⟨#[88, 49]⟩) = true by decide] at this
def awkT : List Tk := [⟨1, [112], 0⟩, ⟨4, [40], 1⟩, ⟨2, [88], 2⟩, ⟨4, [44], 3⟩, ⟨3, [45, 53], 4⟩, ⟨4, [41], 6⟩, ⟨4, [46], 7⟩]
theorem aw_toks : toksL 0 (ls ⟨#[112, 40, 88, 44, 45, 53, 41, 46]⟩) = .good awkT := by
  show toksL 0 [112, 40, 88, 44, 45, 53, 41, 46] = _
  rw [toks_more (k := 1) (n := 1) (by decide), toks_more (k := 4) (n := 1) (by decide), toks_more (k := 2) (n := 1) (by decide), toks_more (k := 4) (n := 1) (by decide), toks_more (k := 3) (n := 2) (by decide), toks_more (k := 4) (n := 1) (by decide), toks_more (k := 4) (n := 1) (by decide), toks_end (by decide)]
  rfl
set_option maxRecDepth 20000 in
set_option maxHeartbeats 2000000 in
theorem awakeX_any (w : World) : Calls Tryd.prog 5 #[] w fun e w' => e = .returned (.bool true) ∧ Below w.heap.size w w' := by
  have hB := Below.refl w.heap.size w
  have HT := Lib.hid (tok_good aw_toks (by decide) w)
  have ht5 : ((⟨#[45, 53]⟩ : ByteArray).toList == [45, 53]) = true := by rw [toList_ls]; decide
  have ht8 : ((⟨#[88]⟩ : ByteArray).toList == [88]) = true := by rw [toList_ls]; decide
  go_enter Tryd.func5, Tryd.ntmps5
  go_wp2_with (first | (go_at_call 6; refine HT.out.mono ?_; rintro e w1 ⟨A, c, rfl, hr, hb⟩; replace hB := on hB hb; clear hb; obtain ⟨b, o, rfl, hbl, c20, c21, c22⟩ := hr 2 ⟨2, [88], 2⟩ rfl; obtain ⟨b', o', e', hbl', c40, c41, c42⟩ := hr 4 ⟨3, [45, 53], 4⟩ rfl; injection e' with e'; injection e' with e1 e2 _; subst e1 e2; replace c21 : w1.cell? ⟨b, o + 2 * 3 + 1, none⟩ = some (.string ⟨#[88]⟩) := c21; replace c41 : w1.cell? ⟨b, o + 4 * 3 + 1, none⟩ = some (.string ⟨#[45, 53]⟩) := c41; clear hr) | (go_at_call 9; refine (var_x1 _).mono ?_; rintro e w2 ⟨rfl, hb⟩; replace hB := on hB hb; clear hb) | (go_at_call 11; refine (key_walk _).mono ?_; rintro e w3 ⟨rfl, rfl⟩))
  all_goals
    go_ret
    exact ⟨rfl, hB⟩
end Go.Proofs.YtahnnefmkcpibaaDoor

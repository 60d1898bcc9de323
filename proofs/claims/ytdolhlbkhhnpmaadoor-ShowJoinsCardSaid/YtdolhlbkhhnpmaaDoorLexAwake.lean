/-
  What all laws of layer 7 begin with; the contract of lex.Tokens in the forms that the laws take; keywords.
-/
import Derived.Test.YtdolhlbkhhnpmaaDoorLexAll
namespace Go.Proofs.YtdolhlbkhhnpmaaDoor
open Go.RowKit FloM ValM Go.Shelf
set_option linter.unusedVariables false
set_option linter.unusedSimpArgs false

theorem tok_good {s : ByteArray} {l : List Tk} (h : toksL 0 (ls s) = .good l) (hs : s.size ≤ 20000) (w : World) : Calls Tryd.prog 25 #[.string s] w fun e w' => ∃ (A : Option Addr) (c : Nat), e = .returned (.tuple #[.slice A l.length c, .int .i64 0, .int .i64 0]) ∧ RdK w' A l ∧ Below w.heap.size w w' := by
  have := tokens_any s w (by omega)
  rw [h] at this
  exact this
theorem tok_bad {s : ByteArray} {n : Nat} (h : toksL 0 (ls s) = .bad n) (hs : s.size ≤ 20000) (w : World) : Calls Tryd.prog 25 #[.string s] w fun e w' => e = .returned (.tuple #[.slice none 0 0, .int .i64 (n : Int), .int .i64 2]) ∧ Below w.heap.size w w' := by
  have := tokens_any s w (by omega)
  rw [h] at this
  exact this
def Rs.ts : Rs → List Tk
  | .good l => l
  | .bad _ => []
def Rs.pos : Rs → Nat
  | .good _ => 0
  | .bad n => n
def Rs.no : Rs → Int
  | .good _ => 0
  | .bad _ => 2
/-- Tokens' three answers. -/
theorem tok_q (s : ByteArray) (w : World) (hs : s.size ≤ 20000) : Calls Tryd.prog 25 #[.string s] w fun e w' => ∃ (A : Option Addr) (c : Nat), e = .returned (.tuple #[.slice A (toksL 0 (ls s)).ts.length c, .int .i64 ((toksL 0 (ls s)).pos : Nat), .int .i64 (toksL 0 (ls s)).no]) ∧ RdK w' A (toksL 0 (ls s)).ts ∧ Below w.heap.size w w' := by
  cases h : toksL 0 (ls s) with
  | good l => exact tok_good h hs w
  | bad n =>
    refine (tok_bad h hs w).mono ?_
    rintro e w' ⟨rfl, hb⟩
    exact ⟨none, 0, rfl, RdK.nil, hb⟩
/-! ### Key, Variable at the texts of awake -/
set_option maxRecDepth 20000 in
set_option maxHeartbeats 1000000 in
theorem key_walk (w : World) : Calls Tryd.prog 55 #[.string ⟨#[119, 97, 108, 107]⟩] w fun e w' => e = .returned (.bool true) ∧ w = w' := by
  go_enter Tryd.func55, Tryd.ntmps55
  go_wp2
  go_ret
  exact ⟨rfl, rfl⟩
theorem var_x1 (w : World) : Calls Tryd.prog 69 #[.string ⟨#[88, 49]⟩] w fun e w' => e = .returned (.bool true) ∧ Below w.heap.size w w' := by
  have := variable_any ⟨#[88, 49]⟩ w (by decide)
  rwa [show varL (ls ⟨#[88, 49]⟩) = true by decide] at this
def awkT : List Tk := [⟨1, [112], 0⟩, ⟨4, [40], 1⟩, ⟨2, [88], 2⟩, ⟨4, [44], 3⟩, ⟨3, [45, 53], 4⟩, ⟨4, [41], 6⟩, ⟨4, [46], 7⟩]
theorem aw_toks : toksL 0 (ls ⟨#[112, 40, 88, 44, 45, 53, 41, 46]⟩) = .good awkT := by
  show toksL 0 [112, 40, 88, 44, 45, 53, 41, 46] = _
  rw [toks_more (k := 1) (n := 1) (by decide), toks_more (k := 4) (n := 1) (by decide), toks_more (k := 2) (n := 1) (by decide), toks_more (k := 4) (n := 1) (by decide), toks_more (k := 3) (n := 2) (by decide), toks_more (k := 4) (n := 1) (by decide), toks_more (k := 4) (n := 1) (by decide), toks_end (by decide)]
  rfl
end Go.Proofs.YtdolhlbkhhnpmaaDoor

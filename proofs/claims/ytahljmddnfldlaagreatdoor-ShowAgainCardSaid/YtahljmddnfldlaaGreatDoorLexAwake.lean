/-
  What all laws of layer 7 begin with; the contract of lex.Tokens in the forms that the laws take; keywords.
-/
import Derived.Test.YtahljmddnfldlaaGreatDoorLexAll
namespace Go.Proofs.YtahljmddnfldlaaGreatDoor
open Go.RowKit FloM ValM Go.Shelf
set_option linter.unusedVariables false
set_option linter.unusedSimpArgs false

theorem tok_good {s : ByteArray} {l : List Tk} (h : toksL 0 (ls s) = .good l) (hs : s.size ≤ 20000) (w : World) : Calls Tryz.prog 52 #[.string s] w fun e w' => ∃ (A : Option Addr) (c : Nat), e = .returned (.tuple #[.slice A l.length c, .int .i64 0, .int .i64 0]) ∧ RdK w' A l ∧ Below w.heap.size w w' := by
  have := tokens_any s w (by omega)
  rw [h] at this
  exact this
theorem tok_bad {s : ByteArray} {n : Nat} (h : toksL 0 (ls s) = .bad n) (hs : s.size ≤ 20000) (w : World) : Calls Tryz.prog 52 #[.string s] w fun e w' => e = .returned (.tuple #[.slice none 0 0, .int .i64 (n : Int), .int .i64 2]) ∧ Below w.heap.size w w' := by
  have := tokens_any s w (by omega)
  rw [h] at this
  exact this
def Rs.ts : Rs → List Tk
  | .good l => l
  | .bad _ => []
def Rs.pos : Rs → Nat
  | .good _ => 0
  | .bad n => n
def Rs.no : Rs → Int
  | .good _ => 0
  | .bad _ => 2
/-- Tokens' three answers. -/
theorem tok_q (s : ByteArray) (w : World) (hs : s.size ≤ 20000) : Calls Tryz.prog 52 #[.string s] w fun e w' => ∃ (A : Option Addr) (c : Nat), e = .returned (.tuple #[.slice A (toksL 0 (ls s)).ts.length c, .int .i64 ((toksL 0 (ls s)).pos : Nat), .int .i64 (toksL 0 (ls s)).no]) ∧ RdK w' A (toksL 0 (ls s)).ts ∧ Below w.heap.size w w' := by
  cases h : toksL 0 (ls s) with
  | good l => exact tok_good h hs w
  | bad n =>
    refine (tok_bad h hs w).mono ?_
    rintro e w' ⟨rfl, hb⟩
    exact ⟨none, 0, rfl, RdK.nil, hb⟩
/-! ### Key, Variable at the texts of awake -/
end Go.Proofs.YtahljmddnfldlaaGreatDoor

/-
  Parse, for the laws: one contract whatever comes of a text.
-/
import Derived.Test.YtdolhlbkhhnpmaaGreatDoorPrsEb
import Derived.Test.YtdolhlbkhhnpmaaGreatDoorPrsBe
import Derived.Test.YtdolhlbkhhnpmaaGreatDoorPrsTop
namespace Go.Proofs.YtdolhlbkhhnpmaaGreatDoor
open Go.RowKit FloM ValM Go.Shelf
set_option linter.unusedVariables false
set_option linter.unusedSimpArgs false
def rP : Ans Pg → Pg
  | .ok x _ => x
  | .no _ _ => ⟨[], am0⟩
def rA : Ans Pg → Nat
  | .ok _ _ => 0
  | .no a _ => a
def rK : Ans Pg → Nat
  | .ok _ _ => 0
  | .no _ k => k
/-- What Parse tells of a text. -/
abbrev TellsP (s : ByteArray) (p : Pg) (a k : Nat) : Prop := ∀ W : World, Calls Tryz.prog 16 #[.string s] W fun e w' => ∃ X : PgA, X.pg = p ∧ e = .returned (.tuple #[.agg #[.slice X.A X.r.length X.c, .string (bs X.q.p), .slice X.q.A X.q.a.length X.q.c], .int .i64 (a : Int), .int .i64 (k : Int)]) ∧ X.ok w' W.heap.size ∧ Below W.heap.size W w'
theorem parse_all (s : ByteArray) (hs : s.size ≤ 20000) : TellsP s (rP (progS s.size (toksL 0 (ls s)))) (rA (progS s.size (toksL 0 (ls s)))) (rK (progS s.size (toksL 0 (ls s)))) := fun W => by
  refine (parse_full s W hs).mono ?_
  intro e w' h
  cases hR : progS s.size (toksL 0 (ls s)) with
  | ok x r =>
    rw [hR] at h
    obtain ⟨X, h1, h2, h3, h4⟩ := h
    exact ⟨X, h1, h2, h3, h4⟩
  | no a k =>
    rw [hR] at h
    obtain ⟨h2, h4⟩ := h
    exact ⟨⟨none, 0, [], ⟨[], none, 0, []⟩⟩, rfl, h2, ⟨own_nil _ _ _ _, fun y hy => (by cases hy), own_nil _ _ _ _⟩, h4⟩
end Go.Proofs.YtdolhlbkhhnpmaaGreatDoor

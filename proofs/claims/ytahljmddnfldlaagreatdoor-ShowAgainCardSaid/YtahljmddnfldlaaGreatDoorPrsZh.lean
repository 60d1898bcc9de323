/-
  Package parse: literal, what it wants. (This text is printed by tools/mklitf.py.)
-/
import Derived.Test.YtahljmddnfldlaaGreatDoorPrsY
import Derived.RegionTactic
namespace Go.Proofs.YtahljmddnfldlaaGreatDoor
open Go.RowKit FloM ValM Go.Shelf
set_option linter.unusedVariables false
set_option linter.unusedSimpArgs false
theorem LtA.ok.frx {W W' : World} {base : Nat} {x : LtA} {X : Nat → Prop} (h : x.ok W base) (hX : ∀ k, X k → k < base) (hF : Fr X W.heap.size W W') : x.ok W' base := ⟨AmA.ok.frx h.1 hX hF, own_frx h.2 hX hF⟩
theorem LtA.ok.less {W : World} {base b' : Nat} {x : LtA} (h : x.ok W base) (hb : b' ≤ base) : x.ok W b' := ⟨AmA.ok.less h.1 hb, OwnS.less h.2 hb⟩
section
variable {W W' : World} {rb tb z o : Nat} {ts : List Tk}
theorem hd2 {off c : Nat} (H : HdAt W rb tb z ts o off c) : CellsK W tb (off + 3) (hdT z ts.tail) := by
  obtain ⟨b, o', e, hb, hc⟩ := H.rd 1 _ (hd_next z ts)
  injection e with e; injection e with e1 e2 _; subst e1 e2
  exact hc
end
end Go.Proofs.YtahljmddnfldlaaGreatDoor

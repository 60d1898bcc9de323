/-
  What a list of columns picks, one more column at a time. (Cut out of TupPick, for seats whose program has no Pick.)
-/
import Derived.Test.YtpmkhpbhimmeiaaGreatTupMem
import Derived.Test.YtpmkhpbhimmeiaaGreatTupOwn
namespace Go.Proofs.YtpmkhpbhimmeiaaGreat
open Go.RowKit FloM ValM
theorem pick_len (t : List V) (p : List Int) : (pickL t p).length ≤ p.length := List.length_filterMap_le _ _
theorem pick_snoc_some {t : List V} {p : List Int} {k : Nat} {x : Int} {v : V} (h : p[k]? = some x) (hv : col t x = some v) : pickL t (p.take (k + 1)) = pickL t (p.take k) ++ [v] := by
  rw [take_snoc' h, pickL_app, pickL_take hv, pickL_nil]
theorem pick_snoc_none {t : List V} {p : List Int} {k : Nat} {x : Int} (h : p[k]? = some x) (hv : inR t.length x = false) : pickL t (p.take (k + 1)) = pickL t (p.take k) := by
  rw [take_snoc' h, pickL_app, pickL_skip hv, pickL_nil, List.append_nil]
end Go.Proofs.YtpmkhpbhimmeiaaGreat

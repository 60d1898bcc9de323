/-
  Programs that are read: two that are alike.
-/
import Derived.Test.YtahljmddnfldlaaGreatDoorPrsTop
import Derived.Deep.RegionHeld3
import Derived.Deep.MidRow
import Derived.Deep.CutRange
import Derived.RegionTactic
import Derived.BigQuiet
import Derived.Lib.QuietBelow
namespace Go.Proofs.YtahljmddnfldlaaGreatDoor
open Go.RowKit FloM ValM Go.Shelf
set_option linter.unusedVariables false
set_option linter.unusedSimpArgs false
theorem row_at {t : TypeId} {w : World} {g : Nat} (h : w.heap.size = g) (cs : List Value) : Row t (w.alloc (.cells cs.toArray t)) g cs := by subst h; exact row_new w cs
abbrev W2 (W : World) (X Y : PgA) : World := (W.alloc (.cells #[.slice X.A X.r.length X.c, .string (bs X.q.p), .slice X.q.A X.q.a.length X.q.c] 27)).alloc (.cells #[.slice Y.A Y.r.length Y.c, .string (bs Y.q.p), .slice Y.q.A Y.q.a.length Y.q.c] 27)
end Go.Proofs.YtahljmddnfldlaaGreatDoor

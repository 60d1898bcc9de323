/-
  Package parse: literal, cmp, let, not0. (This text is printed by tools/mklitf.py.)
-/
import Derived.Test.YtdolhlbkhhnpmaaDoorPrsZh
import Derived.RegionTactic
namespace Go.Proofs.YtdolhlbkhhnpmaaDoor
open Go.RowKit FloM ValM Go.Shelf
set_option linter.unusedVariables false
set_option linter.unusedSimpArgs false
section
variable {W W' : World} {rb tb z o : Nat} {ts : List Tk}
end
end Go.Proofs.YtdolhlbkhhnpmaaDoor

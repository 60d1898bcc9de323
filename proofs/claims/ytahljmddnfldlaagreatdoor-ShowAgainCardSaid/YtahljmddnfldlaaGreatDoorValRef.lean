/-
  Contracts of the document's own way for layer 2 (package antecedentref02): Name, Right, Compare, number.
-/
import Derived.Test.YtahljmddnfldlaaGreatDoorValG
import Derived.Laws.RangeAny
import Derived.Laws.RangeString
namespace Go.Proofs.YtahljmddnfldlaaGreatDoor
open Go.RowKit FloM ValM

/-! ### Name -/
end Go.Proofs.YtahljmddnfldlaaGreatDoor

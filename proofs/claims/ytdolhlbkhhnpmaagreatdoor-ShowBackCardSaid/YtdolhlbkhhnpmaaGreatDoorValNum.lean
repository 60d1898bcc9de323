/-
  Contracts of antecedentref02.Right, Compare.
-/
import Derived.Test.YtdolhlbkhhnpmaaGreatDoorValRef
namespace Go.Proofs.YtdolhlbkhhnpmaaGreatDoor
open Go.RowKit FloM ValM

/-! ### Right and Compare -/
end Go.Proofs.YtdolhlbkhhnpmaaGreatDoor

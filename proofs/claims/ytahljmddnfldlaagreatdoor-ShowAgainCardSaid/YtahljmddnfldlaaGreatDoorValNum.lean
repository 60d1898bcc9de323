/-
  Contracts of antecedentref02.Right, Compare.
-/
import Derived.Test.YtahljmddnfldlaaGreatDoorValRef
namespace Go.Proofs.YtahljmddnfldlaaGreatDoor
open Go.RowKit FloM ValM

/-! ### Right and Compare -/
end Go.Proofs.YtahljmddnfldlaaGreatDoor

/-
  Package parse: terms, atoms, literals and rules read alike elsewhere: plain mathematics.
-/
import Derived.Test.YtahljmddnfldlaaGreatDoorPrsBa
namespace Go.Proofs.YtahljmddnfldlaaGreatDoor
open Go.RowKit FloM ValM Go.Shelf
set_option linter.unusedVariables false
set_option linter.unusedSimpArgs false
end Go.Proofs.YtahljmddnfldlaaGreatDoor

/-
  Package parse: terms, atoms, literals and rules read alike elsewhere: plain mathematics.
-/
import Derived.Test.YtdolhlbkhhnpmaaGreatDoorPrsBa
namespace Go.Proofs.YtdolhlbkhhnpmaaGreatDoor
open Go.RowKit FloM ValM Go.Shelf
set_option linter.unusedVariables false
set_option linter.unusedSimpArgs false
end Go.Proofs.YtdolhlbkhhnpmaaGreatDoor

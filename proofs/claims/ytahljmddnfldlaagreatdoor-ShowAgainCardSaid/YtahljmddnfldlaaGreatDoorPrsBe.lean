/-
  Package parse: the texts of ParseFacts, ParseJoins and ParseBlanks, and what is read of them: plain mathematics.
-/
import Derived.Test.YtahljmddnfldlaaGreatDoorPrsBd
namespace Go.Proofs.YtahljmddnfldlaaGreatDoor
open Go.RowKit FloM ValM Go.Shelf
set_option linter.unusedVariables false
set_option linter.unusedSimpArgs false
/-! ### Texts -/
end Go.Proofs.YtahljmddnfldlaaGreatDoor

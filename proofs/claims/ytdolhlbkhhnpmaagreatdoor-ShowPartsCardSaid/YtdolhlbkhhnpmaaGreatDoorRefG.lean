/-
  Contracts of the document's own lexer (antecedentref07): sign, Variable, run, mark.
-/
import Derived.Test.YtdolhlbkhhnpmaaGreatDoorLexG
import Derived.Test.YtdolhlbkhhnpmaaGreatDoorLexTok
import Derived.Test.YtdolhlbkhhnpmaaGreatDoorValNum
import Derived.Test.YtdolhlbkhhnpmaaGreatDoorValRow
import Derived.Test.YtdolhlbkhhnpmaaGreatDoorValG
import Derived.Test.YtdolhlbkhhnpmaaGreatDoorValRef
import Derived.Test.YtdolhlbkhhnpmaaGreatDoorLexKey
import Derived.Test.YtdolhlbkhhnpmaaGreatDoorLexAwake
import Derived.BigQuiet
namespace Go.Proofs.YtdolhlbkhhnpmaaGreatDoor
open Go.RowKit FloM ValM Go.Shelf
set_option linter.unusedVariables false
set_option linter.unusedSimpArgs false

/-! ### sign -/
/-! ### Variable -/
/-! ### run -/
/-! ### mark -/
end Go.Proofs.YtdolhlbkhhnpmaaGreatDoor
namespace Go.Proofs.YtdolhlbkhhnpmaaGreatDoor
open Go.RowKit FloM ValM

/-! ### Digits -/
end Go.Proofs.YtdolhlbkhhnpmaaGreatDoor
namespace Go.Proofs.YtdolhlbkhhnpmaaGreatDoor
open Go.RowKit FloM ValM

/-! ### Text -/
end Go.Proofs.YtdolhlbkhhnpmaaGreatDoor
namespace Go.Proofs.YtdolhlbkhhnpmaaGreatDoor
open Go.RowKit FloM ValM

/-! ### number -/
end Go.Proofs.YtdolhlbkhhnpmaaGreatDoor
namespace Go.Proofs.YtdolhlbkhhnpmaaGreatDoor
open Go.RowKit FloM ValM
set_option linter.unusedVariables false
set_option linter.unusedSimpArgs false

end Go.Proofs.YtdolhlbkhhnpmaaGreatDoor
namespace Go.Proofs.YtdolhlbkhhnpmaaGreatDoor
open Go.RowKit FloM ValM
set_option linter.unusedVariables false
set_option linter.unusedSimpArgs false

end Go.Proofs.YtdolhlbkhhnpmaaGreatDoor
namespace Go.Proofs.YtdolhlbkhhnpmaaGreatDoor
open Go.RowKit FloM ValM

end Go.Proofs.YtdolhlbkhhnpmaaGreatDoor
namespace Go.Proofs.YtdolhlbkhhnpmaaGreatDoor
open Go.RowKit FloM ValM Go.Shelf
set_option linter.unusedVariables false
set_option linter.unusedSimpArgs false

end Go.Proofs.YtdolhlbkhhnpmaaGreatDoor
namespace Go.Proofs.YtdolhlbkhhnpmaaGreatDoor
open Go.RowKit FloM ValM Go.Shelf
set_option linter.unusedVariables false
set_option linter.unusedSimpArgs false

/-! ### Tokens -/
/-! ### same -/
end Go.Proofs.YtdolhlbkhhnpmaaGreatDoor

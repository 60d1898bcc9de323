/-
  Contracts of the document's own lexer (antecedentref07): sign, Variable, run, mark.
-/
import Derived.Test.YtahljmddnfldlaaGreatDoorLexG
import Derived.Test.YtahljmddnfldlaaGreatDoorLexTok
import Derived.Test.YtahljmddnfldlaaGreatDoorValNum
import Derived.Test.YtahljmddnfldlaaGreatDoorValRow
import Derived.Test.YtahljmddnfldlaaGreatDoorValG
import Derived.Test.YtahljmddnfldlaaGreatDoorValRef
import Derived.Test.YtahljmddnfldlaaGreatDoorLexKey
import Derived.Test.YtahljmddnfldlaaGreatDoorLexAwake
import Derived.BigQuiet
namespace Go.Proofs.YtahljmddnfldlaaGreatDoor
open Go.RowKit FloM ValM Go.Shelf
set_option linter.unusedVariables false
set_option linter.unusedSimpArgs false

/-! ### sign -/
/-! ### Variable -/
/-! ### run -/
/-! ### mark -/
end Go.Proofs.YtahljmddnfldlaaGreatDoor
namespace Go.Proofs.YtahljmddnfldlaaGreatDoor
open Go.RowKit FloM ValM

/-! ### Digits -/
end Go.Proofs.YtahljmddnfldlaaGreatDoor
namespace Go.Proofs.YtahljmddnfldlaaGreatDoor
open Go.RowKit FloM ValM

/-! ### Text -/
end Go.Proofs.YtahljmddnfldlaaGreatDoor
namespace Go.Proofs.YtahljmddnfldlaaGreatDoor
open Go.RowKit FloM ValM

/-! ### number -/
end Go.Proofs.YtahljmddnfldlaaGreatDoor
namespace Go.Proofs.YtahljmddnfldlaaGreatDoor
open Go.RowKit FloM ValM
set_option linter.unusedVariables false
set_option linter.unusedSimpArgs false

end Go.Proofs.YtahljmddnfldlaaGreatDoor
namespace Go.Proofs.YtahljmddnfldlaaGreatDoor
open Go.RowKit FloM ValM
set_option linter.unusedVariables false
set_option linter.unusedSimpArgs false

end Go.Proofs.YtahljmddnfldlaaGreatDoor
namespace Go.Proofs.YtahljmddnfldlaaGreatDoor
open Go.RowKit FloM ValM

end Go.Proofs.YtahljmddnfldlaaGreatDoor
namespace Go.Proofs.YtahljmddnfldlaaGreatDoor
open Go.RowKit FloM ValM Go.Shelf
set_option linter.unusedVariables false
set_option linter.unusedSimpArgs false

end Go.Proofs.YtahljmddnfldlaaGreatDoor
namespace Go.Proofs.YtahljmddnfldlaaGreatDoor
open Go.RowKit FloM ValM Go.Shelf
set_option linter.unusedVariables false
set_option linter.unusedSimpArgs false

/-! ### Tokens -/
/-! ### same -/
end Go.Proofs.YtahljmddnfldlaaGreatDoor

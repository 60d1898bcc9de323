/-
  Package parse: one atom, as a question, a fact and a literal: plain mathematics (ParseFacts); tokens that are laid apart (ParseBlanks).
-/
import Derived.Test.YtahljmddnfldlaaGreatDoorPrsBc
namespace Go.Proofs.YtahljmddnfldlaaGreatDoor
open Go.RowKit FloM ValM Go.Shelf
set_option linter.unusedVariables false
set_option linter.unusedSimpArgs false
/-! ### A text that goes on with a point, or a comma -/
/-! ### Terms of an atom, as those of a head -/
def z0 (t : Tm) : Tm × Nat := (t, 0)
end Go.Proofs.YtahljmddnfldlaaGreatDoor

/-
  DERIVED. GIVEN WITH THE SEED: THE CARDS: each row of YtdolhlbkhhnpmaaDoorRows.lean that lists a variable, with what it lists TIED to the program's text (the seventh form; the later family's looks); each row that meets fmt, with fmt's text TOLD by the authors' own Lean function (tested against real Go, not proved from fmt's source: count such statements apart). THE CARD IS WHAT COUNTS. Prove the row's statement (the work); the ties are given (YtdolhlbkhhnpmaaDoorTie.lean); close each card by the builder's one call (the guide's Derived/Test/ToyasCard.lean, 'card_holds'). Laid BY PROGRAM, IN A SANDBOX (cutbox-door.mjs). By AI agents, Wed Nov 11 2026. No macro, syntax, notation, axiom, sorry.
-/
import Derived.Test.YtdolhlbkhhnpmaaDoorRows
import GoSem.ClaimSeven
namespace Go.Proofs.YtdolhlbkhhnpmaaDoor
namespace Rows

/-- THE TIED CARD OF 'antecedentlaw09.ShowPaths'. -/
def showPathsCard : Claim7 := { stood := { row := showPathsRow, standIns := [], harness := (true, "2d46134e381070d57fdd3546347d210114dc4df32198150aa53c98572682049b"), looks := true }, kinds := [], alts := [], laidByText := true, laidKinds := [.data, .pinned], laidTests := true, laidLooks := .later }
def ShowPathsCardSaid : Prop := Claim7.holds Tryd.pinned (.plain (OpenSpec.ofChange showPathsSpec)) showPathsCard

/-- THE TIED CARD OF 'antecedentlaw09.ShowSteps'. -/
def showStepsCard : Claim7 := { stood := { row := showStepsRow, standIns := [], harness := (true, "2d46134e381070d57fdd3546347d210114dc4df32198150aa53c98572682049b"), looks := true }, kinds := [], alts := [], laidByText := true, laidKinds := [.data, .pinned], laidTests := true, laidLooks := .later }
def ShowStepsCardSaid : Prop := Claim7.holds Tryd.pinned (.plain (OpenSpec.ofChange showStepsSpec)) showStepsCard

/-- THE TIED CARD OF 'antecedentlaw09.ShowJoins'. -/
def showJoinsCard : Claim7 := { stood := { row := showJoinsRow, standIns := [], harness := (true, "2d46134e381070d57fdd3546347d210114dc4df32198150aa53c98572682049b"), looks := true }, kinds := [], alts := [], laidByText := true, laidKinds := [.data, .pinned], laidTests := true, laidLooks := .later }
def ShowJoinsCardSaid : Prop := Claim7.holds Tryd.pinned (.plain (OpenSpec.ofChange showJoinsSpec)) showJoinsCard

/-- THE SECOND FORM's CARD OF 'antecedentlaw09.ShowPaths'. -/
def showPathsUptoCard : Claim7 := { stood := { row := showPathsUptoRow, standIns := [], harness := (true, "2d46134e381070d57fdd3546347d210114dc4df32198150aa53c98572682049b"), looks := true }, kinds := [], alts := [], laidByText := true, laidKinds := [.data, .pinned], laidTests := true, laidLooks := .later }
def ShowPathsUptoCardSaid : Prop := Claim7.holds Tryd.pinned (.plain (OpenSpec.upto showPathsSpec)) showPathsUptoCard

/-- THE SECOND FORM's CARD OF 'antecedentlaw09.ShowSteps'. -/
def showStepsUptoCard : Claim7 := { stood := { row := showStepsUptoRow, standIns := [], harness := (true, "2d46134e381070d57fdd3546347d210114dc4df32198150aa53c98572682049b"), looks := true }, kinds := [], alts := [], laidByText := true, laidKinds := [.data, .pinned], laidTests := true, laidLooks := .later }
def ShowStepsUptoCardSaid : Prop := Claim7.holds Tryd.pinned (.plain (OpenSpec.upto showStepsSpec)) showStepsUptoCard

/-- THE SECOND FORM's CARD OF 'antecedentlaw09.ShowJoins'. -/
def showJoinsUptoCard : Claim7 := { stood := { row := showJoinsUptoRow, standIns := [], harness := (true, "2d46134e381070d57fdd3546347d210114dc4df32198150aa53c98572682049b"), looks := true }, kinds := [], alts := [], laidByText := true, laidKinds := [.data, .pinned], laidTests := true, laidLooks := .later }
def ShowJoinsUptoCardSaid : Prop := Claim7.holds Tryd.pinned (.plain (OpenSpec.upto showJoinsSpec)) showJoinsUptoCard
end Rows
end Go.Proofs.YtdolhlbkhhnpmaaDoor

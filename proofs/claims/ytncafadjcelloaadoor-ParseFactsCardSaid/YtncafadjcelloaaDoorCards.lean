/-
  DERIVED. GIVEN WITH THE SEED: THE CARDS: each row of YtncafadjcelloaaDoorRows.lean that lists a variable, with what it lists TIED to the program's text (the seventh form; the later family's looks); each row that meets fmt, with fmt's text TOLD by the authors' own Lean function (tested against real Go, not proved from fmt's source: count such statements apart). THE CARD IS WHAT COUNTS. Prove the row's statement (the work); the ties are given (YtncafadjcelloaaDoorTie.lean); close each card by the builder's one call (the guide's Derived/Test/ToyasCard.lean, 'card_holds'). Laid BY PROGRAM, IN A SANDBOX (cutbox-door.mjs). By AI agents, Wed Nov 11 2026. No macro, syntax, notation, axiom, sorry.
-/
import Derived.Test.YtncafadjcelloaaDoorRows
import GoSem.ClaimSeven
namespace Go.Proofs.YtncafadjcelloaaDoor
namespace Rows

/-- THE TIED CARD OF 'antecedentlaw08.ParseJoins'. -/
def parseJoinsCard : Claim7 := { stood := { row := parseJoinsRow, standIns := [], harness := (true, "789d2e56a574be3ab79d332d5bc4a50938ceb4f53e7505ade4fc5052fd0194bb"), looks := true }, kinds := [], alts := [], laidByText := true, laidKinds := [.data, .pinned], laidTests := true, laidLooks := .later }
def ParseJoinsCardSaid : Prop := Claim7.holds Tryd.pinned (.plain (OpenSpec.ofChange parseJoinsSpec)) parseJoinsCard

/-- THE TIED CARD OF 'antecedentlaw08.ParseBlanks'. -/
def parseBlanksCard : Claim7 := { stood := { row := parseBlanksRow, standIns := [], harness := (true, "789d2e56a574be3ab79d332d5bc4a50938ceb4f53e7505ade4fc5052fd0194bb"), looks := true }, kinds := [], alts := [], laidByText := true, laidKinds := [.data, .pinned], laidTests := true, laidLooks := .later }
def ParseBlanksCardSaid : Prop := Claim7.holds Tryd.pinned (.plain (OpenSpec.ofChange parseBlanksSpec)) parseBlanksCard

/-- THE TIED CARD OF 'antecedentlaw08.ParsePostfix'. -/
def parsePostfixCard : Claim7 := { stood := { row := parsePostfixRow, standIns := [], harness := (true, "789d2e56a574be3ab79d332d5bc4a50938ceb4f53e7505ade4fc5052fd0194bb"), looks := true }, kinds := [], alts := [], laidByText := true, laidKinds := [.data, .pinned], laidTests := true, laidLooks := .later }
def ParsePostfixCardSaid : Prop := Claim7.holds Tryd.pinned (.plain (OpenSpec.ofChange parsePostfixSpec)) parsePostfixCard

/-- THE TIED CARD OF 'antecedentlaw08.ParseDeep'. -/
def parseDeepCard : Claim7 := { stood := { row := parseDeepRow, standIns := [], harness := (true, "789d2e56a574be3ab79d332d5bc4a50938ceb4f53e7505ade4fc5052fd0194bb"), looks := true }, kinds := [], alts := [], laidByText := true, laidKinds := [.data, .pinned], laidTests := true, laidLooks := .later }
def ParseDeepCardSaid : Prop := Claim7.holds Tryd.pinned (.plain (OpenSpec.ofChange parseDeepSpec)) parseDeepCard

/-- THE TIED CARD OF 'antecedentlaw08.ParseFacts'. -/
def parseFactsCard : Claim7 := { stood := { row := parseFactsRow, standIns := [], harness := (true, "789d2e56a574be3ab79d332d5bc4a50938ceb4f53e7505ade4fc5052fd0194bb"), looks := true }, kinds := [], alts := [], laidByText := true, laidKinds := [.data, .pinned], laidTests := true, laidLooks := .later }
def ParseFactsCardSaid : Prop := Claim7.holds Tryd.pinned (.plain (OpenSpec.ofChange parseFactsSpec)) parseFactsCard

/-- THE TIED CARD OF 'antecedentlaw09.ShowPaths'. -/
def showPathsCard : Claim7 := { stood := { row := showPathsRow, standIns := [], harness := (true, "789d2e56a574be3ab79d332d5bc4a50938ceb4f53e7505ade4fc5052fd0194bb"), looks := true }, kinds := [], alts := [], laidByText := true, laidKinds := [.data, .pinned], laidTests := true, laidLooks := .later }
def ShowPathsCardSaid : Prop := Claim7.holds Tryd.pinned (.plain (OpenSpec.ofChange showPathsSpec)) showPathsCard

/-- THE TIED CARD OF 'antecedentlaw09.ShowSteps'. -/
def showStepsCard : Claim7 := { stood := { row := showStepsRow, standIns := [], harness := (true, "789d2e56a574be3ab79d332d5bc4a50938ceb4f53e7505ade4fc5052fd0194bb"), looks := true }, kinds := [], alts := [], laidByText := true, laidKinds := [.data, .pinned], laidTests := true, laidLooks := .later }
def ShowStepsCardSaid : Prop := Claim7.holds Tryd.pinned (.plain (OpenSpec.ofChange showStepsSpec)) showStepsCard

/-- THE SECOND FORM's CARD OF 'antecedentlaw08.ParseJoins'. -/
def parseJoinsUptoCard : Claim7 := { stood := { row := parseJoinsUptoRow, standIns := [], harness := (true, "789d2e56a574be3ab79d332d5bc4a50938ceb4f53e7505ade4fc5052fd0194bb"), looks := true }, kinds := [], alts := [], laidByText := true, laidKinds := [.data, .pinned], laidTests := true, laidLooks := .later }
def ParseJoinsUptoCardSaid : Prop := Claim7.holds Tryd.pinned (.plain (OpenSpec.upto parseJoinsSpec)) parseJoinsUptoCard

/-- THE SECOND FORM's CARD OF 'antecedentlaw08.ParseBlanks'. -/
def parseBlanksUptoCard : Claim7 := { stood := { row := parseBlanksUptoRow, standIns := [], harness := (true, "789d2e56a574be3ab79d332d5bc4a50938ceb4f53e7505ade4fc5052fd0194bb"), looks := true }, kinds := [], alts := [], laidByText := true, laidKinds := [.data, .pinned], laidTests := true, laidLooks := .later }
def ParseBlanksUptoCardSaid : Prop := Claim7.holds Tryd.pinned (.plain (OpenSpec.upto parseBlanksSpec)) parseBlanksUptoCard

/-- THE SECOND FORM's CARD OF 'antecedentlaw08.ParsePostfix'. -/
def parsePostfixUptoCard : Claim7 := { stood := { row := parsePostfixUptoRow, standIns := [], harness := (true, "789d2e56a574be3ab79d332d5bc4a50938ceb4f53e7505ade4fc5052fd0194bb"), looks := true }, kinds := [], alts := [], laidByText := true, laidKinds := [.data, .pinned], laidTests := true, laidLooks := .later }
def ParsePostfixUptoCardSaid : Prop := Claim7.holds Tryd.pinned (.plain (OpenSpec.upto parsePostfixSpec)) parsePostfixUptoCard

/-- THE SECOND FORM's CARD OF 'antecedentlaw08.ParseDeep'. -/
def parseDeepUptoCard : Claim7 := { stood := { row := parseDeepUptoRow, standIns := [], harness := (true, "789d2e56a574be3ab79d332d5bc4a50938ceb4f53e7505ade4fc5052fd0194bb"), looks := true }, kinds := [], alts := [], laidByText := true, laidKinds := [.data, .pinned], laidTests := true, laidLooks := .later }
def ParseDeepUptoCardSaid : Prop := Claim7.holds Tryd.pinned (.plain (OpenSpec.upto parseDeepSpec)) parseDeepUptoCard

/-- THE SECOND FORM's CARD OF 'antecedentlaw08.ParseFacts'. -/
def parseFactsUptoCard : Claim7 := { stood := { row := parseFactsUptoRow, standIns := [], harness := (true, "789d2e56a574be3ab79d332d5bc4a50938ceb4f53e7505ade4fc5052fd0194bb"), looks := true }, kinds := [], alts := [], laidByText := true, laidKinds := [.data, .pinned], laidTests := true, laidLooks := .later }
def ParseFactsUptoCardSaid : Prop := Claim7.holds Tryd.pinned (.plain (OpenSpec.upto parseFactsSpec)) parseFactsUptoCard

/-- THE SECOND FORM's CARD OF 'antecedentlaw09.ShowPaths'. -/
def showPathsUptoCard : Claim7 := { stood := { row := showPathsUptoRow, standIns := [], harness := (true, "789d2e56a574be3ab79d332d5bc4a50938ceb4f53e7505ade4fc5052fd0194bb"), looks := true }, kinds := [], alts := [], laidByText := true, laidKinds := [.data, .pinned], laidTests := true, laidLooks := .later }
def ShowPathsUptoCardSaid : Prop := Claim7.holds Tryd.pinned (.plain (OpenSpec.upto showPathsSpec)) showPathsUptoCard

/-- THE SECOND FORM's CARD OF 'antecedentlaw09.ShowSteps'. -/
def showStepsUptoCard : Claim7 := { stood := { row := showStepsUptoRow, standIns := [], harness := (true, "789d2e56a574be3ab79d332d5bc4a50938ceb4f53e7505ade4fc5052fd0194bb"), looks := true }, kinds := [], alts := [], laidByText := true, laidKinds := [.data, .pinned], laidTests := true, laidLooks := .later }
def ShowStepsUptoCardSaid : Prop := Claim7.holds Tryd.pinned (.plain (OpenSpec.upto showStepsSpec)) showStepsUptoCard
end Rows
end Go.Proofs.YtncafadjcelloaaDoor

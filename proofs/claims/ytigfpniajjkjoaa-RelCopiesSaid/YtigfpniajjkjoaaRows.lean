/-
  No cell of these rows narrows 'for every input' (looked for: loops, veiled, ifaces, maps, wideKeys, modest, calm, conditions, laid).
  DERIVED. THE GIVEN ROWS OF THIS SEAT. 3 by the template 'for every input the law returns true; each argument reads behind the call as it read before'; 0 by the template 'total and deterministic' (their statements: YtigfpniajjkjoaaTotals.lean).
  GIVEN WITH THE SEED: the statements are not yours to turn. If you find one false, say at which input.
  Laid BY PROGRAM, IN A SANDBOX (cutbox-rows.mjs): the forced cells as the released guide's own fill.sh prints them over the translation 1b3864dd5111cb4c… (all of the seat's roots in one cut). By AI agents, Wed Nov 11 2026. No macro, syntax, notation, axiom, sorry.
-/
import Derived.Test.YtigfpniajjkjoaaChecked
import GoSem.Claim
import GoSem.ClaimJoined
import GoSem.ClaimMapViews
import Derived.JoinedTies
import Derived.KernelRfl
namespace Go.Proofs.Ytigfpniajjkjoaa
/- THE CELL 'sum', in the pinned program and in every row, IS THE sha256 OF THE DUMP (.gsa) THAT YtigfpniajjkjoaaProg.lean LOADS. Nothing in Lean hashes anything: it is a label: what it is worth is what the hold of that sum in a sandbox is worth. -/
noncomputable def Try.pinned : Pinned := { name := "ytigfpniajjkjoaa", sum := "1b3864dd5111cb4cdca504db4c3ae8d204eee5deb3dc853f931ac8692ebd3516", checked := Try.checked }
namespace Rows
def none {H : Type} : Left H := { results := [], args := [] }

/-- 'antecedentlaw05.RelCopies': WHATEVER THE INPUT: true; the input reads as it did. -/
def relCopiesSpec : ChangeSpec := { name := "relCopies", fn := fun _ => fun
  | [d1, d2, d3, d4] => { results := [.lit (.bool true)], args := [d1, d2, d3, d4] }
  | _ => none }
def relCopiesRow : OpenClaim := { program := "ytigfpniajjkjoaa", sum := "1b3864dd5111cb4cdca504db4c3ae8d204eee5deb3dc853f931ac8692ebd3516", func := "antecedent/antecedentlaw05.RelCopies", spec := "relCopies", inPlace := ["internal/bytealg.abigen_runtime_cmpstring"], unfollowed := true, recurses := true, apart := false }
def RelCopiesSaid : Prop := relCopiesRow.holds Try.pinned (OpenSpec.ofChange relCopiesSpec)

/-- ITS FALSE NEIGHBOUR: 'it returns false'. Refute it at one input. -/
def relCopiesWrong : ChangeSpec := { name := "relCopies", fn := fun _ => fun
  | [d1, d2, d3, d4] => { results := [.lit (.bool false)], args := [d1, d2, d3, d4] }
  | _ => none }
def RelCopiesWrongFalsely : Prop := relCopiesRow.holds Try.pinned (OpenSpec.ofChange relCopiesWrong)

/-- 'antecedentlaw06.TurnsBudget': WHATEVER THE INPUT: true; the input reads as it did. -/
def turnsBudgetSpec : ChangeSpec := { name := "turnsBudget", fn := fun _ => fun
  | [d1, d2, d3] => { results := [.lit (.bool true)], args := [d1, d2, d3] }
  | _ => none }
def turnsBudgetRow : OpenClaim := { program := "ytigfpniajjkjoaa", sum := "1b3864dd5111cb4cdca504db4c3ae8d204eee5deb3dc853f931ac8692ebd3516", func := "antecedent/antecedentlaw06.TurnsBudget", spec := "turnsBudget", unfollowed := true, recurses := true, apart := false }
def TurnsBudgetSaid : Prop := turnsBudgetRow.holds Try.pinned (OpenSpec.ofChange turnsBudgetSpec)

/-- ITS FALSE NEIGHBOUR: 'it returns false'. Refute it at one input. -/
def turnsBudgetWrong : ChangeSpec := { name := "turnsBudget", fn := fun _ => fun
  | [d1, d2, d3] => { results := [.lit (.bool false)], args := [d1, d2, d3] }
  | _ => none }
def TurnsBudgetWrongFalsely : Prop := turnsBudgetRow.holds Try.pinned (OpenSpec.ofChange turnsBudgetWrong)

/-- 'antecedentlaw06.TurnsWait': WHATEVER THE INPUT: true; the input reads as it did. -/
def turnsWaitSpec : ChangeSpec := { name := "turnsWait", fn := fun _ => fun
  | [d1, d2] => { results := [.lit (.bool true)], args := [d1, d2] }
  | _ => none }
def turnsWaitRow : OpenClaim := { program := "ytigfpniajjkjoaa", sum := "1b3864dd5111cb4cdca504db4c3ae8d204eee5deb3dc853f931ac8692ebd3516", func := "antecedent/antecedentlaw06.TurnsWait", spec := "turnsWait", unfollowed := true, recurses := true, apart := false }
def TurnsWaitSaid : Prop := turnsWaitRow.holds Try.pinned (OpenSpec.ofChange turnsWaitSpec)

/-- ITS FALSE NEIGHBOUR: 'it returns false'. Refute it at one input. -/
def turnsWaitWrong : ChangeSpec := { name := "turnsWait", fn := fun _ => fun
  | [d1, d2] => { results := [.lit (.bool false)], args := [d1, d2] }
  | _ => none }
def TurnsWaitWrongFalsely : Prop := turnsWaitRow.holds Try.pinned (OpenSpec.ofChange turnsWaitWrong)

/- THE SECOND FORM. 'bulk': how many values and letters a reading holds, each counted each time it is reached (what is shared counts as often as it is met; a slice's spare places count too). A statement '..UptoSaid' is the law's where the arguments, and the package variables that the reading takes, are together of bulk at most 1048576: NARROWER than '..Said'. Prove '..Said' where nothing that the law and all that it calls make is longer than what came in: it says more and counts as full. Else prove '..UptoSaid'. A law counts once. -/
mutual
def uptoBulk {H : Type} : DataW H → Nat
  | .lit (.string bytes) => bytes.length + 1
  | .lit _ => 1
  | .nil => 1
  | .ptr d => uptoBulk d + 1
  | .slice elems spare => uptoBulkAll elems + uptoBulkAll spare + 1
  | .agg parts => uptoBulkAll parts + 1
  | .iface _ d => uptoBulk d + 1
  | .map entries => uptoBulkEntries entries + 1
  | .held _ => 1
def uptoBulkAll {H : Type} : List (DataW H) → Nat
  | [] => 0
  | d :: r => uptoBulk d + uptoBulkAll r
def uptoBulkEntries {H : Type} : List (Lit × DataW H) → Nat
  | [] => 0
  | x :: r => uptoBulkEntry x + uptoBulkEntries r
def uptoBulkEntry {H : Type} : Lit × DataW H → Nat
  | (.string bytes, d) => bytes.length + uptoBulk d + 1
  | (_, d) => uptoBulk d + 1
 end
def uptoSmall : (H : Type) → List (DataW H) → Bool := fun _ ds => decide (uptoBulkAll ds ≤ 1048576)
def OpenSpec.upto (s : _root_.Go.ChangeSpec) : _root_.Go.OpenSpec := { _root_.Go.OpenSpec.ofChange s with cond := some uptoSmall }

/-- 'antecedentlaw05.RelCopies', WHERE WHAT IT READS IS OF BULK AT MOST 1048576: true; the input reads as it did. -/
def relCopiesUptoRow : OpenClaim := { program := "ytigfpniajjkjoaa", sum := "1b3864dd5111cb4cdca504db4c3ae8d204eee5deb3dc853f931ac8692ebd3516", func := "antecedent/antecedentlaw05.RelCopies", spec := "relCopies", inPlace := ["internal/bytealg.abigen_runtime_cmpstring"], unfollowed := true, recurses := true, apart := false, narrowed := true }
def RelCopiesUptoSaid : Prop := relCopiesUptoRow.holds Try.pinned (OpenSpec.upto relCopiesSpec)

/-- 'antecedentlaw06.TurnsBudget', WHERE WHAT IT READS IS OF BULK AT MOST 1048576: true; the input reads as it did. -/
def turnsBudgetUptoRow : OpenClaim := { program := "ytigfpniajjkjoaa", sum := "1b3864dd5111cb4cdca504db4c3ae8d204eee5deb3dc853f931ac8692ebd3516", func := "antecedent/antecedentlaw06.TurnsBudget", spec := "turnsBudget", unfollowed := true, recurses := true, apart := false, narrowed := true }
def TurnsBudgetUptoSaid : Prop := turnsBudgetUptoRow.holds Try.pinned (OpenSpec.upto turnsBudgetSpec)

/-- 'antecedentlaw06.TurnsWait', WHERE WHAT IT READS IS OF BULK AT MOST 1048576: true; the input reads as it did. -/
def turnsWaitUptoRow : OpenClaim := { program := "ytigfpniajjkjoaa", sum := "1b3864dd5111cb4cdca504db4c3ae8d204eee5deb3dc853f931ac8692ebd3516", func := "antecedent/antecedentlaw06.TurnsWait", spec := "turnsWait", unfollowed := true, recurses := true, apart := false, narrowed := true }
def TurnsWaitUptoSaid : Prop := turnsWaitUptoRow.holds Try.pinned (OpenSpec.upto turnsWaitSpec)

end Rows
end Go.Proofs.Ytigfpniajjkjoaa

/-
  No cell of these rows narrows 'for every input' (looked for: loops, veiled, ifaces, maps, wideKeys, modest, calm, conditions, laid).
  DERIVED. THE GIVEN ROWS OF THIS SEAT. 7 by the template 'for every input the law returns true; each argument reads behind the call as it read before'; 0 by the template 'total and deterministic' (their statements: YtlakgcdacjieeaaTotals.lean).
  GIVEN WITH THE SEED: the statements are not yours to turn. If you find one false, say at which input.
  Laid BY PROGRAM, IN A SANDBOX (cutbox-rows.mjs): the forced cells as the released guide's own fill.sh prints them over the translation 1113c8bfdeaaa659… (all of the seat's roots in one cut). By AI agents, Wed Nov 11 2026. No macro, syntax, notation, axiom, sorry.
-/
import Derived.Test.YtlakgcdacjieeaaChecked
import GoSem.Claim
import GoSem.ClaimJoined
import GoSem.ClaimMapViews
import Derived.JoinedTies
import Derived.KernelRfl
namespace Go.Proofs.Ytlakgcdacjieeaa
/- THE CELL 'sum', in the pinned program and in every row, IS THE sha256 OF THE DUMP (.gsa) THAT YtlakgcdacjieeaaProg.lean LOADS. Nothing in Lean hashes anything: it is a label: what it is worth is what the hold of that sum in a sandbox is worth. -/
noncomputable def Try.pinned : Pinned := { name := "ytlakgcdacjieeaa", sum := "1113c8bfdeaaa65970a5c5d83aacdd305018c25b5ebd4bf28d49ae194f161bda", checked := Try.checked }
namespace Rows
def none {H : Type} : Left H := { results := [], args := [] }

/-- 'antecedentlaw02.ValueTells': WHATEVER THE INPUT: true; the input reads as it did. -/
def valueTellsSpec : ChangeSpec := { name := "valueTells", fn := fun _ => fun
  | [d1, d2, d3] => { results := [.lit (.bool true)], args := [d1, d2, d3] }
  | _ => none }
def valueTellsRow : OpenClaim := { program := "ytlakgcdacjieeaa", sum := "1113c8bfdeaaa65970a5c5d83aacdd305018c25b5ebd4bf28d49ae194f161bda", func := "antecedent/antecedentlaw02.ValueTells", spec := "valueTells", inPlace := ["internal/bytealg.abigen_runtime_cmpstring"], apart := false }
def ValueTellsSaid : Prop := valueTellsRow.holds Try.pinned (OpenSpec.ofChange valueTellsSpec)

/-- ITS FALSE NEIGHBOUR: 'it returns false'. Refute it at one input. -/
def valueTellsWrong : ChangeSpec := { name := "valueTells", fn := fun _ => fun
  | [d1, d2, d3] => { results := [.lit (.bool false)], args := [d1, d2, d3] }
  | _ => none }
def ValueTellsWrongFalsely : Prop := valueTellsRow.holds Try.pinned (OpenSpec.ofChange valueTellsWrong)

/-- 'antecedentlaw02.ValueReads': WHATEVER THE INPUT: true; the input reads as it did. -/
def valueReadsSpec : ChangeSpec := { name := "valueReads", fn := fun _ => fun
  | [d] => { results := [.lit (.bool true)], args := [d] }
  | _ => none }
def valueReadsRow : OpenClaim := { program := "ytlakgcdacjieeaa", sum := "1113c8bfdeaaa65970a5c5d83aacdd305018c25b5ebd4bf28d49ae194f161bda", func := "antecedent/antecedentlaw02.ValueReads", spec := "valueReads", inPlace := ["internal/bytealg.abigen_runtime_cmpstring"], apart := false }
def ValueReadsSaid : Prop := valueReadsRow.holds Try.pinned (OpenSpec.ofChange valueReadsSpec)

/-- ITS FALSE NEIGHBOUR: 'it returns false'. Refute it at one input. -/
def valueReadsWrong : ChangeSpec := { name := "valueReads", fn := fun _ => fun
  | [d] => { results := [.lit (.bool false)], args := [d] }
  | _ => none }
def ValueReadsWrongFalsely : Prop := valueReadsRow.holds Try.pinned (OpenSpec.ofChange valueReadsWrong)

/-- 'antecedentlaw02.ValueBack': WHATEVER THE INPUT: true; the input reads as it did. -/
def valueBackSpec : ChangeSpec := { name := "valueBack", fn := fun _ => fun
  | [d1, d2] => { results := [.lit (.bool true)], args := [d1, d2] }
  | _ => none }
def valueBackRow : OpenClaim := { program := "ytlakgcdacjieeaa", sum := "1113c8bfdeaaa65970a5c5d83aacdd305018c25b5ebd4bf28d49ae194f161bda", func := "antecedent/antecedentlaw02.ValueBack", spec := "valueBack", inPlace := ["internal/bytealg.abigen_runtime_cmpstring"], apart := false }
def ValueBackSaid : Prop := valueBackRow.holds Try.pinned (OpenSpec.ofChange valueBackSpec)

/-- ITS FALSE NEIGHBOUR: 'it returns false'. Refute it at one input. -/
def valueBackWrong : ChangeSpec := { name := "valueBack", fn := fun _ => fun
  | [d1, d2] => { results := [.lit (.bool false)], args := [d1, d2] }
  | _ => none }
def ValueBackWrongFalsely : Prop := valueBackRow.holds Try.pinned (OpenSpec.ofChange valueBackWrong)

/-- 'antecedentlaw02.ValueOrder': WHATEVER THE INPUT: true; the input reads as it did. -/
def valueOrderSpec : ChangeSpec := { name := "valueOrder", fn := fun _ => fun
  | [d1, d2, d3] => { results := [.lit (.bool true)], args := [d1, d2, d3] }
  | _ => none }
def valueOrderRow : OpenClaim := { program := "ytlakgcdacjieeaa", sum := "1113c8bfdeaaa65970a5c5d83aacdd305018c25b5ebd4bf28d49ae194f161bda", func := "antecedent/antecedentlaw02.ValueOrder", spec := "valueOrder", inPlace := ["internal/bytealg.abigen_runtime_cmpstring"], apart := false }
def ValueOrderSaid : Prop := valueOrderRow.holds Try.pinned (OpenSpec.ofChange valueOrderSpec)

/-- ITS FALSE NEIGHBOUR: 'it returns false'. Refute it at one input. -/
def valueOrderWrong : ChangeSpec := { name := "valueOrder", fn := fun _ => fun
  | [d1, d2, d3] => { results := [.lit (.bool false)], args := [d1, d2, d3] }
  | _ => none }
def ValueOrderWrongFalsely : Prop := valueOrderRow.holds Try.pinned (OpenSpec.ofChange valueOrderWrong)

/-- 'antecedentlaw02.ValueUnlike': WHATEVER THE INPUT: true; the input reads as it did. -/
def valueUnlikeSpec : ChangeSpec := { name := "valueUnlike", fn := fun _ => fun
  | [d1, d2] => { results := [.lit (.bool true)], args := [d1, d2] }
  | _ => none }
def valueUnlikeRow : OpenClaim := { program := "ytlakgcdacjieeaa", sum := "1113c8bfdeaaa65970a5c5d83aacdd305018c25b5ebd4bf28d49ae194f161bda", func := "antecedent/antecedentlaw02.ValueUnlike", spec := "valueUnlike", inPlace := ["internal/bytealg.abigen_runtime_cmpstring"], apart := false }
def ValueUnlikeSaid : Prop := valueUnlikeRow.holds Try.pinned (OpenSpec.ofChange valueUnlikeSpec)

/-- ITS FALSE NEIGHBOUR: 'it returns false'. Refute it at one input. -/
def valueUnlikeWrong : ChangeSpec := { name := "valueUnlike", fn := fun _ => fun
  | [d1, d2] => { results := [.lit (.bool false)], args := [d1, d2] }
  | _ => none }
def ValueUnlikeWrongFalsely : Prop := valueUnlikeRow.holds Try.pinned (OpenSpec.ofChange valueUnlikeWrong)

/-- 'antecedentlaw02.ValueNames': WHATEVER THE INPUT: true; the input reads as it did. -/
def valueNamesSpec : ChangeSpec := { name := "valueNames", fn := fun _ => fun
  | [d1, d2, d3, d4] => { results := [.lit (.bool true)], args := [d1, d2, d3, d4] }
  | _ => none }
def valueNamesRow : OpenClaim := { program := "ytlakgcdacjieeaa", sum := "1113c8bfdeaaa65970a5c5d83aacdd305018c25b5ebd4bf28d49ae194f161bda", func := "antecedent/antecedentlaw02.ValueNames", spec := "valueNames", inPlace := ["internal/bytealg.abigen_runtime_cmpstring"], apart := false }
def ValueNamesSaid : Prop := valueNamesRow.holds Try.pinned (OpenSpec.ofChange valueNamesSpec)

/-- ITS FALSE NEIGHBOUR: 'it returns false'. Refute it at one input. -/
def valueNamesWrong : ChangeSpec := { name := "valueNames", fn := fun _ => fun
  | [d1, d2, d3, d4] => { results := [.lit (.bool false)], args := [d1, d2, d3, d4] }
  | _ => none }
def ValueNamesWrongFalsely : Prop := valueNamesRow.holds Try.pinned (OpenSpec.ofChange valueNamesWrong)

/-- 'antecedentlaw02.ValueDigits': WHATEVER THE INPUT: true; the input reads as it did. -/
def valueDigitsSpec : ChangeSpec := { name := "valueDigits", fn := fun _ => fun
  | [d1, d2] => { results := [.lit (.bool true)], args := [d1, d2] }
  | _ => none }
def valueDigitsRow : OpenClaim := { program := "ytlakgcdacjieeaa", sum := "1113c8bfdeaaa65970a5c5d83aacdd305018c25b5ebd4bf28d49ae194f161bda", func := "antecedent/antecedentlaw02.ValueDigits", spec := "valueDigits", inPlace := ["internal/bytealg.abigen_runtime_cmpstring"], apart := false }
def ValueDigitsSaid : Prop := valueDigitsRow.holds Try.pinned (OpenSpec.ofChange valueDigitsSpec)

/-- ITS FALSE NEIGHBOUR: 'it returns false'. Refute it at one input. -/
def valueDigitsWrong : ChangeSpec := { name := "valueDigits", fn := fun _ => fun
  | [d1, d2] => { results := [.lit (.bool false)], args := [d1, d2] }
  | _ => none }
def ValueDigitsWrongFalsely : Prop := valueDigitsRow.holds Try.pinned (OpenSpec.ofChange valueDigitsWrong)

/- THE SECOND FORM. 'bulk': how many values and letters a reading holds, each counted each time it is reached (what is shared counts as often as it is met; a slice's spare places count too). A statement '..UptoSaid' is the law's where the arguments, and the package variables that the reading takes, are together of bulk at most 1048576: NARROWER than '..Said'. Prove '..Said' where nothing that the law and all that it calls make is longer than what came in: it says more and counts as full. Else prove '..UptoSaid'. A law counts once. -/
mutual
def uptoBulk {H : Type} : DataW H → Nat
  | .lit (.string bytes) => bytes.length + 1
  | .lit _ => 1
  | .nil => 1
  | .ptr d => uptoBulk d + 1
  | .slice elems spare => uptoBulkAll elems + uptoBulkAll spare + 1
  | .agg parts => uptoBulkAll parts + 1
  | .iface _ d => uptoBulk d + 1
  | .map entries => uptoBulkEntries entries + 1
  | .held _ => 1
def uptoBulkAll {H : Type} : List (DataW H) → Nat
  | [] => 0
  | d :: r => uptoBulk d + uptoBulkAll r
def uptoBulkEntries {H : Type} : List (Lit × DataW H) → Nat
  | [] => 0
  | x :: r => uptoBulkEntry x + uptoBulkEntries r
def uptoBulkEntry {H : Type} : Lit × DataW H → Nat
  | (.string bytes, d) => bytes.length + uptoBulk d + 1
  | (_, d) => uptoBulk d + 1
 end
def uptoSmall : (H : Type) → List (DataW H) → Bool := fun _ ds => decide (uptoBulkAll ds ≤ 1048576)
def OpenSpec.upto (s : _root_.Go.ChangeSpec) : _root_.Go.OpenSpec := { _root_.Go.OpenSpec.ofChange s with cond := some uptoSmall }

/-- 'antecedentlaw02.ValueTells', WHERE WHAT IT READS IS OF BULK AT MOST 1048576: true; the input reads as it did. -/
def valueTellsUptoRow : OpenClaim := { program := "ytlakgcdacjieeaa", sum := "1113c8bfdeaaa65970a5c5d83aacdd305018c25b5ebd4bf28d49ae194f161bda", func := "antecedent/antecedentlaw02.ValueTells", spec := "valueTells", inPlace := ["internal/bytealg.abigen_runtime_cmpstring"], apart := false, narrowed := true }
def ValueTellsUptoSaid : Prop := valueTellsUptoRow.holds Try.pinned (OpenSpec.upto valueTellsSpec)

/-- 'antecedentlaw02.ValueReads', WHERE WHAT IT READS IS OF BULK AT MOST 1048576: true; the input reads as it did. -/
def valueReadsUptoRow : OpenClaim := { program := "ytlakgcdacjieeaa", sum := "1113c8bfdeaaa65970a5c5d83aacdd305018c25b5ebd4bf28d49ae194f161bda", func := "antecedent/antecedentlaw02.ValueReads", spec := "valueReads", inPlace := ["internal/bytealg.abigen_runtime_cmpstring"], apart := false, narrowed := true }
def ValueReadsUptoSaid : Prop := valueReadsUptoRow.holds Try.pinned (OpenSpec.upto valueReadsSpec)

/-- 'antecedentlaw02.ValueBack', WHERE WHAT IT READS IS OF BULK AT MOST 1048576: true; the input reads as it did. -/
def valueBackUptoRow : OpenClaim := { program := "ytlakgcdacjieeaa", sum := "1113c8bfdeaaa65970a5c5d83aacdd305018c25b5ebd4bf28d49ae194f161bda", func := "antecedent/antecedentlaw02.ValueBack", spec := "valueBack", inPlace := ["internal/bytealg.abigen_runtime_cmpstring"], apart := false, narrowed := true }
def ValueBackUptoSaid : Prop := valueBackUptoRow.holds Try.pinned (OpenSpec.upto valueBackSpec)

/-- 'antecedentlaw02.ValueOrder', WHERE WHAT IT READS IS OF BULK AT MOST 1048576: true; the input reads as it did. -/
def valueOrderUptoRow : OpenClaim := { program := "ytlakgcdacjieeaa", sum := "1113c8bfdeaaa65970a5c5d83aacdd305018c25b5ebd4bf28d49ae194f161bda", func := "antecedent/antecedentlaw02.ValueOrder", spec := "valueOrder", inPlace := ["internal/bytealg.abigen_runtime_cmpstring"], apart := false, narrowed := true }
def ValueOrderUptoSaid : Prop := valueOrderUptoRow.holds Try.pinned (OpenSpec.upto valueOrderSpec)

/-- 'antecedentlaw02.ValueUnlike', WHERE WHAT IT READS IS OF BULK AT MOST 1048576: true; the input reads as it did. -/
def valueUnlikeUptoRow : OpenClaim := { program := "ytlakgcdacjieeaa", sum := "1113c8bfdeaaa65970a5c5d83aacdd305018c25b5ebd4bf28d49ae194f161bda", func := "antecedent/antecedentlaw02.ValueUnlike", spec := "valueUnlike", inPlace := ["internal/bytealg.abigen_runtime_cmpstring"], apart := false, narrowed := true }
def ValueUnlikeUptoSaid : Prop := valueUnlikeUptoRow.holds Try.pinned (OpenSpec.upto valueUnlikeSpec)

/-- 'antecedentlaw02.ValueNames', WHERE WHAT IT READS IS OF BULK AT MOST 1048576: true; the input reads as it did. -/
def valueNamesUptoRow : OpenClaim := { program := "ytlakgcdacjieeaa", sum := "1113c8bfdeaaa65970a5c5d83aacdd305018c25b5ebd4bf28d49ae194f161bda", func := "antecedent/antecedentlaw02.ValueNames", spec := "valueNames", inPlace := ["internal/bytealg.abigen_runtime_cmpstring"], apart := false, narrowed := true }
def ValueNamesUptoSaid : Prop := valueNamesUptoRow.holds Try.pinned (OpenSpec.upto valueNamesSpec)

/-- 'antecedentlaw02.ValueDigits', WHERE WHAT IT READS IS OF BULK AT MOST 1048576: true; the input reads as it did. -/
def valueDigitsUptoRow : OpenClaim := { program := "ytlakgcdacjieeaa", sum := "1113c8bfdeaaa65970a5c5d83aacdd305018c25b5ebd4bf28d49ae194f161bda", func := "antecedent/antecedentlaw02.ValueDigits", spec := "valueDigits", inPlace := ["internal/bytealg.abigen_runtime_cmpstring"], apart := false, narrowed := true }
def ValueDigitsUptoSaid : Prop := valueDigitsUptoRow.holds Try.pinned (OpenSpec.upto valueDigitsSpec)

end Rows
end Go.Proofs.Ytlakgcdacjieeaa

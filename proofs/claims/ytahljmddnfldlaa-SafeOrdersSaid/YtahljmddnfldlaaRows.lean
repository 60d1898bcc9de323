/-
  No cell of these rows narrows 'for every input' (looked for: loops, veiled, ifaces, maps, wideKeys, modest, calm, conditions, laid).
  DERIVED. THE GIVEN ROWS OF THIS SEAT. 6 by the template 'for every input the law returns true; each argument reads behind the call as it read before'; 0 by the template 'total and deterministic' (their statements: YtahljmddnfldlaaTotals.lean).
  GIVEN WITH THE SEED: the statements are not yours to turn. If you find one false, say at which input.
  Laid BY PROGRAM, IN A SANDBOX (cutbox-rows.mjs): the forced cells as the released guide's own fill.sh prints them over the translation 0d6a42a5ead0b2c1… (all of the seat's roots in one cut). By AI agents, Wed Nov 11 2026. No macro, syntax, notation, axiom, sorry.
-/
import Derived.Test.YtahljmddnfldlaaChecked
import GoSem.Claim
import GoSem.ClaimJoined
import GoSem.ClaimMapViews
import Derived.JoinedTies
import Derived.KernelRfl
namespace Go.Proofs.Ytahljmddnfldlaa
/- THE CELL 'sum', in the pinned program and in every row, IS THE sha256 OF THE DUMP (.gsa) THAT YtahljmddnfldlaaProg.lean LOADS. Nothing in Lean hashes anything: it is a label: what it is worth is what the hold of that sum in a sandbox is worth. -/
noncomputable def Try.pinned : Pinned := { name := "ytahljmddnfldlaa", sum := "0d6a42a5ead0b2c1b512e3c2dbb62edf478b47c50f2a8a5f94f5a0abd452953f", checked := Try.checked }
namespace Rows
def none {H : Type} : Left H := { results := [], args := [] }

/-- 'antecedentlaw11.SafeOrders': WHATEVER THE INPUT: true; the input reads as it did. -/
def safeOrdersSpec : ChangeSpec := { name := "safeOrders", fn := fun _ => fun
  | [d1, d2] => { results := [.lit (.bool true)], args := [d1, d2] }
  | _ => none }
def safeOrdersRow : OpenClaim := { program := "ytahljmddnfldlaa", sum := "0d6a42a5ead0b2c1b512e3c2dbb62edf478b47c50f2a8a5f94f5a0abd452953f", func := "antecedent/antecedentlaw11.SafeOrders", spec := "safeOrders", unfollowed := true, recurses := true, apart := false }
def SafeOrdersSaid : Prop := safeOrdersRow.holds Try.pinned (OpenSpec.ofChange safeOrdersSpec)

/-- ITS FALSE NEIGHBOUR: 'it returns false'. Refute it at one input. -/
def safeOrdersWrong : ChangeSpec := { name := "safeOrders", fn := fun _ => fun
  | [d1, d2] => { results := [.lit (.bool false)], args := [d1, d2] }
  | _ => none }
def SafeOrdersWrongFalsely : Prop := safeOrdersRow.holds Try.pinned (OpenSpec.ofChange safeOrdersWrong)

/-- 'antecedentlaw11.SafeRules': WHATEVER THE INPUT: true; the input reads as it did. -/
def safeRulesSpec : ChangeSpec := { name := "safeRules", fn := fun _ => fun
  | [d] => { results := [.lit (.bool true)], args := [d] }
  | _ => none }
def safeRulesRow : OpenClaim := { program := "ytahljmddnfldlaa", sum := "0d6a42a5ead0b2c1b512e3c2dbb62edf478b47c50f2a8a5f94f5a0abd452953f", func := "antecedent/antecedentlaw11.SafeRules", spec := "safeRules", unfollowed := true, recurses := true, apart := false }
def SafeRulesSaid : Prop := safeRulesRow.holds Try.pinned (OpenSpec.ofChange safeRulesSpec)

/-- ITS FALSE NEIGHBOUR: 'it returns false'. Refute it at one input. -/
def safeRulesWrong : ChangeSpec := { name := "safeRules", fn := fun _ => fun
  | [d] => { results := [.lit (.bool false)], args := [d] }
  | _ => none }
def SafeRulesWrongFalsely : Prop := safeRulesRow.holds Try.pinned (OpenSpec.ofChange safeRulesWrong)

/-- 'antecedentlaw11.SafeReady': WHATEVER THE INPUT: true; the input reads as it did. -/
def safeReadySpec : ChangeSpec := { name := "safeReady", fn := fun _ => fun
  | [d] => { results := [.lit (.bool true)], args := [d] }
  | _ => none }
def safeReadyRow : OpenClaim := { program := "ytahljmddnfldlaa", sum := "0d6a42a5ead0b2c1b512e3c2dbb62edf478b47c50f2a8a5f94f5a0abd452953f", func := "antecedent/antecedentlaw11.SafeReady", spec := "safeReady", unfollowed := true, recurses := true, apart := false }
def SafeReadySaid : Prop := safeReadyRow.holds Try.pinned (OpenSpec.ofChange safeReadySpec)

/-- ITS FALSE NEIGHBOUR: 'it returns false'. Refute it at one input. -/
def safeReadyWrong : ChangeSpec := { name := "safeReady", fn := fun _ => fun
  | [d] => { results := [.lit (.bool false)], args := [d] }
  | _ => none }
def SafeReadyWrongFalsely : Prop := safeReadyRow.holds Try.pinned (OpenSpec.ofChange safeReadyWrong)

/-- 'antecedentlaw11.SafeMore': WHATEVER THE INPUT: true; the input reads as it did. -/
def safeMoreSpec : ChangeSpec := { name := "safeMore", fn := fun _ => fun
  | [d1, d2, d3] => { results := [.lit (.bool true)], args := [d1, d2, d3] }
  | _ => none }
def safeMoreRow : OpenClaim := { program := "ytahljmddnfldlaa", sum := "0d6a42a5ead0b2c1b512e3c2dbb62edf478b47c50f2a8a5f94f5a0abd452953f", func := "antecedent/antecedentlaw11.SafeMore", spec := "safeMore", unfollowed := true, recurses := true, apart := false }
def SafeMoreSaid : Prop := safeMoreRow.holds Try.pinned (OpenSpec.ofChange safeMoreSpec)

/-- ITS FALSE NEIGHBOUR: 'it returns false'. Refute it at one input. -/
def safeMoreWrong : ChangeSpec := { name := "safeMore", fn := fun _ => fun
  | [d1, d2, d3] => { results := [.lit (.bool false)], args := [d1, d2, d3] }
  | _ => none }
def SafeMoreWrongFalsely : Prop := safeMoreRow.holds Try.pinned (OpenSpec.ofChange safeMoreWrong)

/-- 'antecedentlaw11.SafeAgain': WHATEVER THE INPUT: true; the input reads as it did. -/
def safeAgainSpec : ChangeSpec := { name := "safeAgain", fn := fun _ => fun
  | [d1, d2] => { results := [.lit (.bool true)], args := [d1, d2] }
  | _ => none }
def safeAgainRow : OpenClaim := { program := "ytahljmddnfldlaa", sum := "0d6a42a5ead0b2c1b512e3c2dbb62edf478b47c50f2a8a5f94f5a0abd452953f", func := "antecedent/antecedentlaw11.SafeAgain", spec := "safeAgain", unfollowed := true, recurses := true, apart := false }
def SafeAgainSaid : Prop := safeAgainRow.holds Try.pinned (OpenSpec.ofChange safeAgainSpec)

/-- ITS FALSE NEIGHBOUR: 'it returns false'. Refute it at one input. -/
def safeAgainWrong : ChangeSpec := { name := "safeAgain", fn := fun _ => fun
  | [d1, d2] => { results := [.lit (.bool false)], args := [d1, d2] }
  | _ => none }
def SafeAgainWrongFalsely : Prop := safeAgainRow.holds Try.pinned (OpenSpec.ofChange safeAgainWrong)

/-- 'antecedentlaw11.SafeBinds': WHATEVER THE INPUT: true; the input reads as it did. -/
def safeBindsSpec : ChangeSpec := { name := "safeBinds", fn := fun _ => fun
  | [d1, d2] => { results := [.lit (.bool true)], args := [d1, d2] }
  | _ => none }
def safeBindsRow : OpenClaim := { program := "ytahljmddnfldlaa", sum := "0d6a42a5ead0b2c1b512e3c2dbb62edf478b47c50f2a8a5f94f5a0abd452953f", func := "antecedent/antecedentlaw11.SafeBinds", spec := "safeBinds", unfollowed := true, recurses := true, apart := false }
def SafeBindsSaid : Prop := safeBindsRow.holds Try.pinned (OpenSpec.ofChange safeBindsSpec)

/-- ITS FALSE NEIGHBOUR: 'it returns false'. Refute it at one input. -/
def safeBindsWrong : ChangeSpec := { name := "safeBinds", fn := fun _ => fun
  | [d1, d2] => { results := [.lit (.bool false)], args := [d1, d2] }
  | _ => none }
def SafeBindsWrongFalsely : Prop := safeBindsRow.holds Try.pinned (OpenSpec.ofChange safeBindsWrong)

/- THE SECOND FORM. 'bulk': how many values and letters a reading holds, each counted each time it is reached (what is shared counts as often as it is met; a slice's spare places count too). A statement '..UptoSaid' is the law's where the arguments, and the package variables that the reading takes, are together of bulk at most 1048576: NARROWER than '..Said'. Prove '..Said' where nothing that the law and all that it calls make is longer than what came in: it says more and counts as full. Else prove '..UptoSaid'. A law counts once. -/
mutual
def uptoBulk {H : Type} : DataW H → Nat
  | .lit (.string bytes) => bytes.length + 1
  | .lit _ => 1
  | .nil => 1
  | .ptr d => uptoBulk d + 1
  | .slice elems spare => uptoBulkAll elems + uptoBulkAll spare + 1
  | .agg parts => uptoBulkAll parts + 1
  | .iface _ d => uptoBulk d + 1
  | .map entries => uptoBulkEntries entries + 1
  | .held _ => 1
def uptoBulkAll {H : Type} : List (DataW H) → Nat
  | [] => 0
  | d :: r => uptoBulk d + uptoBulkAll r
def uptoBulkEntries {H : Type} : List (Lit × DataW H) → Nat
  | [] => 0
  | x :: r => uptoBulkEntry x + uptoBulkEntries r
def uptoBulkEntry {H : Type} : Lit × DataW H → Nat
  | (.string bytes, d) => bytes.length + uptoBulk d + 1
  | (_, d) => uptoBulk d + 1
 end
def uptoSmall : (H : Type) → List (DataW H) → Bool := fun _ ds => decide (uptoBulkAll ds ≤ 1048576)
def OpenSpec.upto (s : _root_.Go.ChangeSpec) : _root_.Go.OpenSpec := { _root_.Go.OpenSpec.ofChange s with cond := some uptoSmall }

/-- 'antecedentlaw11.SafeOrders', WHERE WHAT IT READS IS OF BULK AT MOST 1048576: true; the input reads as it did. -/
def safeOrdersUptoRow : OpenClaim := { program := "ytahljmddnfldlaa", sum := "0d6a42a5ead0b2c1b512e3c2dbb62edf478b47c50f2a8a5f94f5a0abd452953f", func := "antecedent/antecedentlaw11.SafeOrders", spec := "safeOrders", unfollowed := true, recurses := true, apart := false, narrowed := true }
def SafeOrdersUptoSaid : Prop := safeOrdersUptoRow.holds Try.pinned (OpenSpec.upto safeOrdersSpec)

/-- 'antecedentlaw11.SafeRules', WHERE WHAT IT READS IS OF BULK AT MOST 1048576: true; the input reads as it did. -/
def safeRulesUptoRow : OpenClaim := { program := "ytahljmddnfldlaa", sum := "0d6a42a5ead0b2c1b512e3c2dbb62edf478b47c50f2a8a5f94f5a0abd452953f", func := "antecedent/antecedentlaw11.SafeRules", spec := "safeRules", unfollowed := true, recurses := true, apart := false, narrowed := true }
def SafeRulesUptoSaid : Prop := safeRulesUptoRow.holds Try.pinned (OpenSpec.upto safeRulesSpec)

/-- 'antecedentlaw11.SafeReady', WHERE WHAT IT READS IS OF BULK AT MOST 1048576: true; the input reads as it did. -/
def safeReadyUptoRow : OpenClaim := { program := "ytahljmddnfldlaa", sum := "0d6a42a5ead0b2c1b512e3c2dbb62edf478b47c50f2a8a5f94f5a0abd452953f", func := "antecedent/antecedentlaw11.SafeReady", spec := "safeReady", unfollowed := true, recurses := true, apart := false, narrowed := true }
def SafeReadyUptoSaid : Prop := safeReadyUptoRow.holds Try.pinned (OpenSpec.upto safeReadySpec)

/-- 'antecedentlaw11.SafeMore', WHERE WHAT IT READS IS OF BULK AT MOST 1048576: true; the input reads as it did. -/
def safeMoreUptoRow : OpenClaim := { program := "ytahljmddnfldlaa", sum := "0d6a42a5ead0b2c1b512e3c2dbb62edf478b47c50f2a8a5f94f5a0abd452953f", func := "antecedent/antecedentlaw11.SafeMore", spec := "safeMore", unfollowed := true, recurses := true, apart := false, narrowed := true }
def SafeMoreUptoSaid : Prop := safeMoreUptoRow.holds Try.pinned (OpenSpec.upto safeMoreSpec)

/-- 'antecedentlaw11.SafeAgain', WHERE WHAT IT READS IS OF BULK AT MOST 1048576: true; the input reads as it did. -/
def safeAgainUptoRow : OpenClaim := { program := "ytahljmddnfldlaa", sum := "0d6a42a5ead0b2c1b512e3c2dbb62edf478b47c50f2a8a5f94f5a0abd452953f", func := "antecedent/antecedentlaw11.SafeAgain", spec := "safeAgain", unfollowed := true, recurses := true, apart := false, narrowed := true }
def SafeAgainUptoSaid : Prop := safeAgainUptoRow.holds Try.pinned (OpenSpec.upto safeAgainSpec)

/-- 'antecedentlaw11.SafeBinds', WHERE WHAT IT READS IS OF BULK AT MOST 1048576: true; the input reads as it did. -/
def safeBindsUptoRow : OpenClaim := { program := "ytahljmddnfldlaa", sum := "0d6a42a5ead0b2c1b512e3c2dbb62edf478b47c50f2a8a5f94f5a0abd452953f", func := "antecedent/antecedentlaw11.SafeBinds", spec := "safeBinds", unfollowed := true, recurses := true, apart := false, narrowed := true }
def SafeBindsUptoSaid : Prop := safeBindsUptoRow.holds Try.pinned (OpenSpec.upto safeBindsSpec)

end Rows
end Go.Proofs.Ytahljmddnfldlaa

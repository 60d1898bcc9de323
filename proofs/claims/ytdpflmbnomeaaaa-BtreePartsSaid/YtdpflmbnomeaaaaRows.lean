/-
  No cell of these rows narrows 'for every input' (looked for: loops, veiled, ifaces, maps, wideKeys, modest, calm, conditions, laid).
  DERIVED. THE GIVEN ROWS OF THIS SEAT. 12 by the template 'for every input the law returns true; each argument reads behind the call as it read before'; 0 by the template 'total and deterministic' (their statements: YtdpflmbnomeaaaaTotals.lean).
  GIVEN WITH THE SEED: the statements are not yours to turn. If you find one false, say at which input.
  Laid BY PROGRAM, IN A SANDBOX (cutbox-rows.mjs): the forced cells as the released guide's own fill.sh prints them over the translation 57b6f5e4f6b9173b… (all of the seat's roots in one cut). By AI agents, Wed Nov 11 2026. No macro, syntax, notation, axiom, sorry.
-/
import Derived.Test.YtdpflmbnomeaaaaChecked
import GoSem.Claim
import GoSem.ClaimJoined
import GoSem.ClaimMapViews
import Derived.JoinedTies
import Derived.KernelRfl
namespace Go.Proofs.Ytdpflmbnomeaaaa
/- THE CELL 'sum', in the pinned program and in every row, IS THE sha256 OF THE DUMP (.gsa) THAT YtdpflmbnomeaaaaProg.lean LOADS. Nothing in Lean hashes anything: it is a label: what it is worth is what the hold of that sum in a sandbox is worth. -/
noncomputable def Try.pinned : Pinned := { name := "ytdpflmbnomeaaaa", sum := "57b6f5e4f6b9173b68210547897c38610743c9af387f77c4f86f5b8ade2bf17c", checked := Try.checked }
namespace Rows
def none {H : Type} : Left H := { results := [], args := [] }

/-- 'antecedentlaw04.BtreePlays': WHATEVER THE INPUT: true; the input reads as it did. -/
def btreePlaysSpec : ChangeSpec := { name := "btreePlays", fn := fun _ => fun
  | [d1, d2, d3] => { results := [.lit (.bool true)], args := [d1, d2, d3] }
  | _ => none }
def btreePlaysRow : OpenClaim := { program := "ytdpflmbnomeaaaa", sum := "57b6f5e4f6b9173b68210547897c38610743c9af387f77c4f86f5b8ade2bf17c", func := "antecedent/antecedentlaw04.BtreePlays", spec := "btreePlays", inPlace := ["internal/bytealg.abigen_runtime_cmpstring"], unfollowed := true, recurses := true, apart := false }
def BtreePlaysSaid : Prop := btreePlaysRow.holds Try.pinned (OpenSpec.ofChange btreePlaysSpec)

/-- ITS FALSE NEIGHBOUR: 'it returns false'. Refute it at one input. -/
def btreePlaysWrong : ChangeSpec := { name := "btreePlays", fn := fun _ => fun
  | [d1, d2, d3] => { results := [.lit (.bool false)], args := [d1, d2, d3] }
  | _ => none }
def BtreePlaysWrongFalsely : Prop := btreePlaysRow.holds Try.pinned (OpenSpec.ofChange btreePlaysWrong)

/-- 'antecedentlaw04.BtreeDeep': WHATEVER THE INPUT: true; the input reads as it did. -/
def btreeDeepSpec : ChangeSpec := { name := "btreeDeep", fn := fun _ => fun
  | [d1, d2] => { results := [.lit (.bool true)], args := [d1, d2] }
  | _ => none }
def btreeDeepRow : OpenClaim := { program := "ytdpflmbnomeaaaa", sum := "57b6f5e4f6b9173b68210547897c38610743c9af387f77c4f86f5b8ade2bf17c", func := "antecedent/antecedentlaw04.BtreeDeep", spec := "btreeDeep", inPlace := ["internal/bytealg.abigen_runtime_cmpstring"], unfollowed := true, recurses := true, apart := false }
def BtreeDeepSaid : Prop := btreeDeepRow.holds Try.pinned (OpenSpec.ofChange btreeDeepSpec)

/-- ITS FALSE NEIGHBOUR: 'it returns false'. Refute it at one input. -/
def btreeDeepWrong : ChangeSpec := { name := "btreeDeep", fn := fun _ => fun
  | [d1, d2] => { results := [.lit (.bool false)], args := [d1, d2] }
  | _ => none }
def BtreeDeepWrongFalsely : Prop := btreeDeepRow.holds Try.pinned (OpenSpec.ofChange btreeDeepWrong)

/-- 'antecedentlaw04.BtreeOrder': WHATEVER THE INPUT: true; the input reads as it did. -/
def btreeOrderSpec : ChangeSpec := { name := "btreeOrder", fn := fun _ => fun
  | [d1, d2, d3] => { results := [.lit (.bool true)], args := [d1, d2, d3] }
  | _ => none }
def btreeOrderRow : OpenClaim := { program := "ytdpflmbnomeaaaa", sum := "57b6f5e4f6b9173b68210547897c38610743c9af387f77c4f86f5b8ade2bf17c", func := "antecedent/antecedentlaw04.BtreeOrder", spec := "btreeOrder", inPlace := ["internal/bytealg.abigen_runtime_cmpstring"], unfollowed := true, recurses := true, apart := false }
def BtreeOrderSaid : Prop := btreeOrderRow.holds Try.pinned (OpenSpec.ofChange btreeOrderSpec)

/-- ITS FALSE NEIGHBOUR: 'it returns false'. Refute it at one input. -/
def btreeOrderWrong : ChangeSpec := { name := "btreeOrder", fn := fun _ => fun
  | [d1, d2, d3] => { results := [.lit (.bool false)], args := [d1, d2, d3] }
  | _ => none }
def BtreeOrderWrongFalsely : Prop := btreeOrderRow.holds Try.pinned (OpenSpec.ofChange btreeOrderWrong)

/-- 'antecedentlaw04.BtreeFrom': WHATEVER THE INPUT: true; the input reads as it did. -/
def btreeFromSpec : ChangeSpec := { name := "btreeFrom", fn := fun _ => fun
  | [d1, d2, d3, d4, d5] => { results := [.lit (.bool true)], args := [d1, d2, d3, d4, d5] }
  | _ => none }
def btreeFromRow : OpenClaim := { program := "ytdpflmbnomeaaaa", sum := "57b6f5e4f6b9173b68210547897c38610743c9af387f77c4f86f5b8ade2bf17c", func := "antecedent/antecedentlaw04.BtreeFrom", spec := "btreeFrom", inPlace := ["internal/bytealg.abigen_runtime_cmpstring"], unfollowed := true, recurses := true, apart := false }
def BtreeFromSaid : Prop := btreeFromRow.holds Try.pinned (OpenSpec.ofChange btreeFromSpec)

/-- ITS FALSE NEIGHBOUR: 'it returns false'. Refute it at one input. -/
def btreeFromWrong : ChangeSpec := { name := "btreeFrom", fn := fun _ => fun
  | [d1, d2, d3, d4, d5] => { results := [.lit (.bool false)], args := [d1, d2, d3, d4, d5] }
  | _ => none }
def BtreeFromWrongFalsely : Prop := btreeFromRow.holds Try.pinned (OpenSpec.ofChange btreeFromWrong)

/-- 'antecedentlaw04.BtreeMerge': WHATEVER THE INPUT: true; the input reads as it did. -/
def btreeMergeSpec : ChangeSpec := { name := "btreeMerge", fn := fun _ => fun
  | [d1, d2, d3, d4] => { results := [.lit (.bool true)], args := [d1, d2, d3, d4] }
  | _ => none }
def btreeMergeRow : OpenClaim := { program := "ytdpflmbnomeaaaa", sum := "57b6f5e4f6b9173b68210547897c38610743c9af387f77c4f86f5b8ade2bf17c", func := "antecedent/antecedentlaw04.BtreeMerge", spec := "btreeMerge", inPlace := ["internal/bytealg.abigen_runtime_cmpstring"], unfollowed := true, recurses := true, apart := false }
def BtreeMergeSaid : Prop := btreeMergeRow.holds Try.pinned (OpenSpec.ofChange btreeMergeSpec)

/-- ITS FALSE NEIGHBOUR: 'it returns false'. Refute it at one input. -/
def btreeMergeWrong : ChangeSpec := { name := "btreeMerge", fn := fun _ => fun
  | [d1, d2, d3, d4] => { results := [.lit (.bool false)], args := [d1, d2, d3, d4] }
  | _ => none }
def BtreeMergeWrongFalsely : Prop := btreeMergeRow.holds Try.pinned (OpenSpec.ofChange btreeMergeWrong)

/-- 'antecedentlaw04.BtreeOwn': WHATEVER THE INPUT: true; the input reads as it did. -/
def btreeOwnSpec : ChangeSpec := { name := "btreeOwn", fn := fun _ => fun
  | [d1, d2, d3] => { results := [.lit (.bool true)], args := [d1, d2, d3] }
  | _ => none }
def btreeOwnRow : OpenClaim := { program := "ytdpflmbnomeaaaa", sum := "57b6f5e4f6b9173b68210547897c38610743c9af387f77c4f86f5b8ade2bf17c", func := "antecedent/antecedentlaw04.BtreeOwn", spec := "btreeOwn", inPlace := ["internal/bytealg.abigen_runtime_cmpstring"], unfollowed := true, recurses := true, apart := false }
def BtreeOwnSaid : Prop := btreeOwnRow.holds Try.pinned (OpenSpec.ofChange btreeOwnSpec)

/-- ITS FALSE NEIGHBOUR: 'it returns false'. Refute it at one input. -/
def btreeOwnWrong : ChangeSpec := { name := "btreeOwn", fn := fun _ => fun
  | [d1, d2, d3] => { results := [.lit (.bool false)], args := [d1, d2, d3] }
  | _ => none }
def BtreeOwnWrongFalsely : Prop := btreeOwnRow.holds Try.pinned (OpenSpec.ofChange btreeOwnWrong)

/-- 'antecedentlaw04.BtreeParts': WHATEVER THE INPUT: true; the input reads as it did. -/
def btreePartsSpec : ChangeSpec := { name := "btreeParts", fn := fun _ => fun
  | [d1, d2] => { results := [.lit (.bool true)], args := [d1, d2] }
  | _ => none }
def btreePartsRow : OpenClaim := { program := "ytdpflmbnomeaaaa", sum := "57b6f5e4f6b9173b68210547897c38610743c9af387f77c4f86f5b8ade2bf17c", func := "antecedent/antecedentlaw04.BtreeParts", spec := "btreeParts", inPlace := ["internal/bytealg.abigen_runtime_cmpstring"], unfollowed := true, recurses := true, apart := false }
def BtreePartsSaid : Prop := btreePartsRow.holds Try.pinned (OpenSpec.ofChange btreePartsSpec)

/-- ITS FALSE NEIGHBOUR: 'it returns false'. Refute it at one input. -/
def btreePartsWrong : ChangeSpec := { name := "btreeParts", fn := fun _ => fun
  | [d1, d2] => { results := [.lit (.bool false)], args := [d1, d2] }
  | _ => none }
def BtreePartsWrongFalsely : Prop := btreePartsRow.holds Try.pinned (OpenSpec.ofChange btreePartsWrong)

/-- 'antecedentlaw05.RelIndexes': WHATEVER THE INPUT: true; the input reads as it did. -/
def relIndexesSpec : ChangeSpec := { name := "relIndexes", fn := fun _ => fun
  | [d1, d2, d3, d4, d5] => { results := [.lit (.bool true)], args := [d1, d2, d3, d4, d5] }
  | _ => none }
def relIndexesRow : OpenClaim := { program := "ytdpflmbnomeaaaa", sum := "57b6f5e4f6b9173b68210547897c38610743c9af387f77c4f86f5b8ade2bf17c", func := "antecedent/antecedentlaw05.RelIndexes", spec := "relIndexes", inPlace := ["internal/bytealg.abigen_runtime_cmpstring"], unfollowed := true, recurses := true, apart := false }
def RelIndexesSaid : Prop := relIndexesRow.holds Try.pinned (OpenSpec.ofChange relIndexesSpec)

/-- ITS FALSE NEIGHBOUR: 'it returns false'. Refute it at one input. -/
def relIndexesWrong : ChangeSpec := { name := "relIndexes", fn := fun _ => fun
  | [d1, d2, d3, d4, d5] => { results := [.lit (.bool false)], args := [d1, d2, d3, d4, d5] }
  | _ => none }
def RelIndexesWrongFalsely : Prop := relIndexesRow.holds Try.pinned (OpenSpec.ofChange relIndexesWrong)

/-- 'antecedentlaw05.RelFinds': WHATEVER THE INPUT: true; the input reads as it did. -/
def relFindsSpec : ChangeSpec := { name := "relFinds", fn := fun _ => fun
  | [d1, d2, d3, d4] => { results := [.lit (.bool true)], args := [d1, d2, d3, d4] }
  | _ => none }
def relFindsRow : OpenClaim := { program := "ytdpflmbnomeaaaa", sum := "57b6f5e4f6b9173b68210547897c38610743c9af387f77c4f86f5b8ade2bf17c", func := "antecedent/antecedentlaw05.RelFinds", spec := "relFinds", inPlace := ["internal/bytealg.abigen_runtime_cmpstring"], unfollowed := true, recurses := true, apart := false }
def RelFindsSaid : Prop := relFindsRow.holds Try.pinned (OpenSpec.ofChange relFindsSpec)

/-- ITS FALSE NEIGHBOUR: 'it returns false'. Refute it at one input. -/
def relFindsWrong : ChangeSpec := { name := "relFinds", fn := fun _ => fun
  | [d1, d2, d3, d4] => { results := [.lit (.bool false)], args := [d1, d2, d3, d4] }
  | _ => none }
def RelFindsWrongFalsely : Prop := relFindsRow.holds Try.pinned (OpenSpec.ofChange relFindsWrong)

/-- 'antecedentlaw05.RelUses': WHATEVER THE INPUT: true; the input reads as it did. -/
def relUsesSpec : ChangeSpec := { name := "relUses", fn := fun _ => fun
  | [d1, d2, d3] => { results := [.lit (.bool true)], args := [d1, d2, d3] }
  | _ => none }
def relUsesRow : OpenClaim := { program := "ytdpflmbnomeaaaa", sum := "57b6f5e4f6b9173b68210547897c38610743c9af387f77c4f86f5b8ade2bf17c", func := "antecedent/antecedentlaw05.RelUses", spec := "relUses", inPlace := ["internal/bytealg.abigen_runtime_cmpstring"], unfollowed := true, recurses := true, apart := false }
def RelUsesSaid : Prop := relUsesRow.holds Try.pinned (OpenSpec.ofChange relUsesSpec)

/-- ITS FALSE NEIGHBOUR: 'it returns false'. Refute it at one input. -/
def relUsesWrong : ChangeSpec := { name := "relUses", fn := fun _ => fun
  | [d1, d2, d3] => { results := [.lit (.bool false)], args := [d1, d2, d3] }
  | _ => none }
def RelUsesWrongFalsely : Prop := relUsesRow.holds Try.pinned (OpenSpec.ofChange relUsesWrong)

/-- 'antecedentlaw05.RelCopies': WHATEVER THE INPUT: true; the input reads as it did. -/
def relCopiesSpec : ChangeSpec := { name := "relCopies", fn := fun _ => fun
  | [d1, d2, d3, d4] => { results := [.lit (.bool true)], args := [d1, d2, d3, d4] }
  | _ => none }
def relCopiesRow : OpenClaim := { program := "ytdpflmbnomeaaaa", sum := "57b6f5e4f6b9173b68210547897c38610743c9af387f77c4f86f5b8ade2bf17c", func := "antecedent/antecedentlaw05.RelCopies", spec := "relCopies", inPlace := ["internal/bytealg.abigen_runtime_cmpstring"], unfollowed := true, recurses := true, apart := false }
def RelCopiesSaid : Prop := relCopiesRow.holds Try.pinned (OpenSpec.ofChange relCopiesSpec)

/-- ITS FALSE NEIGHBOUR: 'it returns false'. Refute it at one input. -/
def relCopiesWrong : ChangeSpec := { name := "relCopies", fn := fun _ => fun
  | [d1, d2, d3, d4] => { results := [.lit (.bool false)], args := [d1, d2, d3, d4] }
  | _ => none }
def RelCopiesWrongFalsely : Prop := relCopiesRow.holds Try.pinned (OpenSpec.ofChange relCopiesWrong)

/-- 'antecedentlaw05.RelParts': WHATEVER THE INPUT: true; the input reads as it did. -/
def relPartsSpec : ChangeSpec := { name := "relParts", fn := fun _ => fun
  | [d1, d2, d3] => { results := [.lit (.bool true)], args := [d1, d2, d3] }
  | _ => none }
def relPartsRow : OpenClaim := { program := "ytdpflmbnomeaaaa", sum := "57b6f5e4f6b9173b68210547897c38610743c9af387f77c4f86f5b8ade2bf17c", func := "antecedent/antecedentlaw05.RelParts", spec := "relParts", inPlace := ["internal/bytealg.abigen_runtime_cmpstring"], unfollowed := true, recurses := true, apart := false }
def RelPartsSaid : Prop := relPartsRow.holds Try.pinned (OpenSpec.ofChange relPartsSpec)

/-- ITS FALSE NEIGHBOUR: 'it returns false'. Refute it at one input. -/
def relPartsWrong : ChangeSpec := { name := "relParts", fn := fun _ => fun
  | [d1, d2, d3] => { results := [.lit (.bool false)], args := [d1, d2, d3] }
  | _ => none }
def RelPartsWrongFalsely : Prop := relPartsRow.holds Try.pinned (OpenSpec.ofChange relPartsWrong)

/- THE SECOND FORM. 'bulk': how many values and letters a reading holds, each counted each time it is reached (what is shared counts as often as it is met; a slice's spare places count too). A statement '..UptoSaid' is the law's where the arguments, and the package variables that the reading takes, are together of bulk at most 1048576: NARROWER than '..Said'. Prove '..Said' where nothing that the law and all that it calls make is longer than what came in: it says more and counts as full. Else prove '..UptoSaid'. A law counts once. -/
mutual
def uptoBulk {H : Type} : DataW H → Nat
  | .lit (.string bytes) => bytes.length + 1
  | .lit _ => 1
  | .nil => 1
  | .ptr d => uptoBulk d + 1
  | .slice elems spare => uptoBulkAll elems + uptoBulkAll spare + 1
  | .agg parts => uptoBulkAll parts + 1
  | .iface _ d => uptoBulk d + 1
  | .map entries => uptoBulkEntries entries + 1
  | .held _ => 1
def uptoBulkAll {H : Type} : List (DataW H) → Nat
  | [] => 0
  | d :: r => uptoBulk d + uptoBulkAll r
def uptoBulkEntries {H : Type} : List (Lit × DataW H) → Nat
  | [] => 0
  | x :: r => uptoBulkEntry x + uptoBulkEntries r
def uptoBulkEntry {H : Type} : Lit × DataW H → Nat
  | (.string bytes, d) => bytes.length + uptoBulk d + 1
  | (_, d) => uptoBulk d + 1
 end
def uptoSmall : (H : Type) → List (DataW H) → Bool := fun _ ds => decide (uptoBulkAll ds ≤ 1048576)
def OpenSpec.upto (s : _root_.Go.ChangeSpec) : _root_.Go.OpenSpec := { _root_.Go.OpenSpec.ofChange s with cond := some uptoSmall }

/-- 'antecedentlaw04.BtreePlays', WHERE WHAT IT READS IS OF BULK AT MOST 1048576: true; the input reads as it did. -/
def btreePlaysUptoRow : OpenClaim := { program := "ytdpflmbnomeaaaa", sum := "57b6f5e4f6b9173b68210547897c38610743c9af387f77c4f86f5b8ade2bf17c", func := "antecedent/antecedentlaw04.BtreePlays", spec := "btreePlays", inPlace := ["internal/bytealg.abigen_runtime_cmpstring"], unfollowed := true, recurses := true, apart := false, narrowed := true }
def BtreePlaysUptoSaid : Prop := btreePlaysUptoRow.holds Try.pinned (OpenSpec.upto btreePlaysSpec)

/-- 'antecedentlaw04.BtreeDeep', WHERE WHAT IT READS IS OF BULK AT MOST 1048576: true; the input reads as it did. -/
def btreeDeepUptoRow : OpenClaim := { program := "ytdpflmbnomeaaaa", sum := "57b6f5e4f6b9173b68210547897c38610743c9af387f77c4f86f5b8ade2bf17c", func := "antecedent/antecedentlaw04.BtreeDeep", spec := "btreeDeep", inPlace := ["internal/bytealg.abigen_runtime_cmpstring"], unfollowed := true, recurses := true, apart := false, narrowed := true }
def BtreeDeepUptoSaid : Prop := btreeDeepUptoRow.holds Try.pinned (OpenSpec.upto btreeDeepSpec)

/-- 'antecedentlaw04.BtreeOrder', WHERE WHAT IT READS IS OF BULK AT MOST 1048576: true; the input reads as it did. -/
def btreeOrderUptoRow : OpenClaim := { program := "ytdpflmbnomeaaaa", sum := "57b6f5e4f6b9173b68210547897c38610743c9af387f77c4f86f5b8ade2bf17c", func := "antecedent/antecedentlaw04.BtreeOrder", spec := "btreeOrder", inPlace := ["internal/bytealg.abigen_runtime_cmpstring"], unfollowed := true, recurses := true, apart := false, narrowed := true }
def BtreeOrderUptoSaid : Prop := btreeOrderUptoRow.holds Try.pinned (OpenSpec.upto btreeOrderSpec)

/-- 'antecedentlaw04.BtreeFrom', WHERE WHAT IT READS IS OF BULK AT MOST 1048576: true; the input reads as it did. -/
def btreeFromUptoRow : OpenClaim := { program := "ytdpflmbnomeaaaa", sum := "57b6f5e4f6b9173b68210547897c38610743c9af387f77c4f86f5b8ade2bf17c", func := "antecedent/antecedentlaw04.BtreeFrom", spec := "btreeFrom", inPlace := ["internal/bytealg.abigen_runtime_cmpstring"], unfollowed := true, recurses := true, apart := false, narrowed := true }
def BtreeFromUptoSaid : Prop := btreeFromUptoRow.holds Try.pinned (OpenSpec.upto btreeFromSpec)

/-- 'antecedentlaw04.BtreeMerge', WHERE WHAT IT READS IS OF BULK AT MOST 1048576: true; the input reads as it did. -/
def btreeMergeUptoRow : OpenClaim := { program := "ytdpflmbnomeaaaa", sum := "57b6f5e4f6b9173b68210547897c38610743c9af387f77c4f86f5b8ade2bf17c", func := "antecedent/antecedentlaw04.BtreeMerge", spec := "btreeMerge", inPlace := ["internal/bytealg.abigen_runtime_cmpstring"], unfollowed := true, recurses := true, apart := false, narrowed := true }
def BtreeMergeUptoSaid : Prop := btreeMergeUptoRow.holds Try.pinned (OpenSpec.upto btreeMergeSpec)

/-- 'antecedentlaw04.BtreeOwn', WHERE WHAT IT READS IS OF BULK AT MOST 1048576: true; the input reads as it did. -/
def btreeOwnUptoRow : OpenClaim := { program := "ytdpflmbnomeaaaa", sum := "57b6f5e4f6b9173b68210547897c38610743c9af387f77c4f86f5b8ade2bf17c", func := "antecedent/antecedentlaw04.BtreeOwn", spec := "btreeOwn", inPlace := ["internal/bytealg.abigen_runtime_cmpstring"], unfollowed := true, recurses := true, apart := false, narrowed := true }
def BtreeOwnUptoSaid : Prop := btreeOwnUptoRow.holds Try.pinned (OpenSpec.upto btreeOwnSpec)

/-- 'antecedentlaw04.BtreeParts', WHERE WHAT IT READS IS OF BULK AT MOST 1048576: true; the input reads as it did. -/
def btreePartsUptoRow : OpenClaim := { program := "ytdpflmbnomeaaaa", sum := "57b6f5e4f6b9173b68210547897c38610743c9af387f77c4f86f5b8ade2bf17c", func := "antecedent/antecedentlaw04.BtreeParts", spec := "btreeParts", inPlace := ["internal/bytealg.abigen_runtime_cmpstring"], unfollowed := true, recurses := true, apart := false, narrowed := true }
def BtreePartsUptoSaid : Prop := btreePartsUptoRow.holds Try.pinned (OpenSpec.upto btreePartsSpec)

/-- 'antecedentlaw05.RelIndexes', WHERE WHAT IT READS IS OF BULK AT MOST 1048576: true; the input reads as it did. -/
def relIndexesUptoRow : OpenClaim := { program := "ytdpflmbnomeaaaa", sum := "57b6f5e4f6b9173b68210547897c38610743c9af387f77c4f86f5b8ade2bf17c", func := "antecedent/antecedentlaw05.RelIndexes", spec := "relIndexes", inPlace := ["internal/bytealg.abigen_runtime_cmpstring"], unfollowed := true, recurses := true, apart := false, narrowed := true }
def RelIndexesUptoSaid : Prop := relIndexesUptoRow.holds Try.pinned (OpenSpec.upto relIndexesSpec)

/-- 'antecedentlaw05.RelFinds', WHERE WHAT IT READS IS OF BULK AT MOST 1048576: true; the input reads as it did. -/
def relFindsUptoRow : OpenClaim := { program := "ytdpflmbnomeaaaa", sum := "57b6f5e4f6b9173b68210547897c38610743c9af387f77c4f86f5b8ade2bf17c", func := "antecedent/antecedentlaw05.RelFinds", spec := "relFinds", inPlace := ["internal/bytealg.abigen_runtime_cmpstring"], unfollowed := true, recurses := true, apart := false, narrowed := true }
def RelFindsUptoSaid : Prop := relFindsUptoRow.holds Try.pinned (OpenSpec.upto relFindsSpec)

/-- 'antecedentlaw05.RelUses', WHERE WHAT IT READS IS OF BULK AT MOST 1048576: true; the input reads as it did. -/
def relUsesUptoRow : OpenClaim := { program := "ytdpflmbnomeaaaa", sum := "57b6f5e4f6b9173b68210547897c38610743c9af387f77c4f86f5b8ade2bf17c", func := "antecedent/antecedentlaw05.RelUses", spec := "relUses", inPlace := ["internal/bytealg.abigen_runtime_cmpstring"], unfollowed := true, recurses := true, apart := false, narrowed := true }
def RelUsesUptoSaid : Prop := relUsesUptoRow.holds Try.pinned (OpenSpec.upto relUsesSpec)

/-- 'antecedentlaw05.RelCopies', WHERE WHAT IT READS IS OF BULK AT MOST 1048576: true; the input reads as it did. -/
def relCopiesUptoRow : OpenClaim := { program := "ytdpflmbnomeaaaa", sum := "57b6f5e4f6b9173b68210547897c38610743c9af387f77c4f86f5b8ade2bf17c", func := "antecedent/antecedentlaw05.RelCopies", spec := "relCopies", inPlace := ["internal/bytealg.abigen_runtime_cmpstring"], unfollowed := true, recurses := true, apart := false, narrowed := true }
def RelCopiesUptoSaid : Prop := relCopiesUptoRow.holds Try.pinned (OpenSpec.upto relCopiesSpec)

/-- 'antecedentlaw05.RelParts', WHERE WHAT IT READS IS OF BULK AT MOST 1048576: true; the input reads as it did. -/
def relPartsUptoRow : OpenClaim := { program := "ytdpflmbnomeaaaa", sum := "57b6f5e4f6b9173b68210547897c38610743c9af387f77c4f86f5b8ade2bf17c", func := "antecedent/antecedentlaw05.RelParts", spec := "relParts", inPlace := ["internal/bytealg.abigen_runtime_cmpstring"], unfollowed := true, recurses := true, apart := false, narrowed := true }
def RelPartsUptoSaid : Prop := relPartsUptoRow.holds Try.pinned (OpenSpec.upto relPartsSpec)

end Rows
end Go.Proofs.Ytdpflmbnomeaaaa

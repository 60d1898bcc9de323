/-
  No cell of these rows narrows 'for every input' (looked for: loops, veiled, ifaces, maps, wideKeys, modest, calm, conditions, laid).
  DERIVED. THE GIVEN ROWS OF THIS SEAT. 7 by the template 'for every input the law returns true; each argument reads behind the call as it read before'; 0 by the template 'total and deterministic' (their statements: YtkdiaagfjhlphaaTotals.lean).
  GIVEN WITH THE SEED: the statements are not yours to turn. If you find one false, say at which input.
  Laid BY PROGRAM, IN A SANDBOX (cutbox-rows.mjs): the forced cells as the released guide's own fill.sh prints them over the translation 0cdb761401f81a7c… (all of the seat's roots in one cut). By AI agents, Wed Nov 11 2026. No macro, syntax, notation, axiom, sorry.
-/
import Derived.Test.YtkdiaagfjhlphaaChecked
import GoSem.Claim
import GoSem.ClaimJoined
import GoSem.ClaimMapViews
import Derived.JoinedTies
import Derived.KernelRfl
namespace Go.Proofs.Ytkdiaagfjhlphaa
/- THE CELL 'sum', in the pinned program and in every row, IS THE sha256 OF THE DUMP (.gsa) THAT YtkdiaagfjhlphaaProg.lean LOADS. Nothing in Lean hashes anything: it is a label: what it is worth is what the hold of that sum in a sandbox is worth. -/
noncomputable def Try.pinned : Pinned := { name := "ytkdiaagfjhlphaa", sum := "0cdb761401f81a7c3b85e85a89b475c4b82e5acc210d64af4270f2237cc0ac48", checked := Try.checked }
namespace Rows
def none {H : Type} : Left H := { results := [], args := [] }

/-- 'antecedentlaw03.TupleTells': WHATEVER THE INPUT: true; the input reads as it did. -/
def tupleTellsSpec : ChangeSpec := { name := "tupleTells", fn := fun _ => fun
  | [d1, d2, d3] => { results := [.lit (.bool true)], args := [d1, d2, d3] }
  | _ => none }
def tupleTellsRow : OpenClaim := { program := "ytkdiaagfjhlphaa", sum := "0cdb761401f81a7c3b85e85a89b475c4b82e5acc210d64af4270f2237cc0ac48", func := "antecedent/antecedentlaw03.TupleTells", spec := "tupleTells", inPlace := ["internal/bytealg.abigen_runtime_cmpstring", "internal/abi.NoEscape", "internal/bytealg.MakeNoZero"], unfollowed := true, recurses := true, apart := false }
def TupleTellsSaid : Prop := tupleTellsRow.holds Try.pinned (OpenSpec.ofChange tupleTellsSpec)

/-- ITS FALSE NEIGHBOUR: 'it returns false'. Refute it at one input. -/
def tupleTellsWrong : ChangeSpec := { name := "tupleTells", fn := fun _ => fun
  | [d1, d2, d3] => { results := [.lit (.bool false)], args := [d1, d2, d3] }
  | _ => none }
def TupleTellsWrongFalsely : Prop := tupleTellsRow.holds Try.pinned (OpenSpec.ofChange tupleTellsWrong)

/-- 'antecedentlaw03.TupleCompares': WHATEVER THE INPUT: true; the input reads as it did. -/
def tupleComparesSpec : ChangeSpec := { name := "tupleCompares", fn := fun _ => fun
  | [d1, d2, d3] => { results := [.lit (.bool true)], args := [d1, d2, d3] }
  | _ => none }
def tupleComparesRow : OpenClaim := { program := "ytkdiaagfjhlphaa", sum := "0cdb761401f81a7c3b85e85a89b475c4b82e5acc210d64af4270f2237cc0ac48", func := "antecedent/antecedentlaw03.TupleCompares", spec := "tupleCompares", inPlace := ["internal/bytealg.abigen_runtime_cmpstring", "internal/abi.NoEscape", "internal/bytealg.MakeNoZero"], unfollowed := true, recurses := true, apart := false }
def TupleComparesSaid : Prop := tupleComparesRow.holds Try.pinned (OpenSpec.ofChange tupleComparesSpec)

/-- ITS FALSE NEIGHBOUR: 'it returns false'. Refute it at one input. -/
def tupleComparesWrong : ChangeSpec := { name := "tupleCompares", fn := fun _ => fun
  | [d1, d2, d3] => { results := [.lit (.bool false)], args := [d1, d2, d3] }
  | _ => none }
def TupleComparesWrongFalsely : Prop := tupleComparesRow.holds Try.pinned (OpenSpec.ofChange tupleComparesWrong)

/-- 'antecedentlaw03.TupleOrder': WHATEVER THE INPUT: true; the input reads as it did. -/
def tupleOrderSpec : ChangeSpec := { name := "tupleOrder", fn := fun _ => fun
  | [d1, d2, d3, d4] => { results := [.lit (.bool true)], args := [d1, d2, d3, d4] }
  | _ => none }
def tupleOrderRow : OpenClaim := { program := "ytkdiaagfjhlphaa", sum := "0cdb761401f81a7c3b85e85a89b475c4b82e5acc210d64af4270f2237cc0ac48", func := "antecedent/antecedentlaw03.TupleOrder", spec := "tupleOrder", inPlace := ["internal/bytealg.abigen_runtime_cmpstring", "internal/abi.NoEscape", "internal/bytealg.MakeNoZero"], unfollowed := true, recurses := true, apart := false }
def TupleOrderSaid : Prop := tupleOrderRow.holds Try.pinned (OpenSpec.ofChange tupleOrderSpec)

/-- ITS FALSE NEIGHBOUR: 'it returns false'. Refute it at one input. -/
def tupleOrderWrong : ChangeSpec := { name := "tupleOrder", fn := fun _ => fun
  | [d1, d2, d3, d4] => { results := [.lit (.bool false)], args := [d1, d2, d3, d4] }
  | _ => none }
def TupleOrderWrongFalsely : Prop := tupleOrderRow.holds Try.pinned (OpenSpec.ofChange tupleOrderWrong)

/-- 'antecedentlaw03.TupleBack': WHATEVER THE INPUT: true; the input reads as it did. -/
def tupleBackSpec : ChangeSpec := { name := "tupleBack", fn := fun _ => fun
  | [d1, d2] => { results := [.lit (.bool true)], args := [d1, d2] }
  | _ => none }
def tupleBackRow : OpenClaim := { program := "ytkdiaagfjhlphaa", sum := "0cdb761401f81a7c3b85e85a89b475c4b82e5acc210d64af4270f2237cc0ac48", func := "antecedent/antecedentlaw03.TupleBack", spec := "tupleBack", inPlace := ["internal/bytealg.abigen_runtime_cmpstring", "internal/abi.NoEscape", "internal/bytealg.MakeNoZero"], unfollowed := true, recurses := true, apart := false }
def TupleBackSaid : Prop := tupleBackRow.holds Try.pinned (OpenSpec.ofChange tupleBackSpec)

/-- ITS FALSE NEIGHBOUR: 'it returns false'. Refute it at one input. -/
def tupleBackWrong : ChangeSpec := { name := "tupleBack", fn := fun _ => fun
  | [d1, d2] => { results := [.lit (.bool false)], args := [d1, d2] }
  | _ => none }
def TupleBackWrongFalsely : Prop := tupleBackRow.holds Try.pinned (OpenSpec.ofChange tupleBackWrong)

/-- 'antecedentlaw03.TupleHead': WHATEVER THE INPUT: true; the input reads as it did. -/
def tupleHeadSpec : ChangeSpec := { name := "tupleHead", fn := fun _ => fun
  | [d1, d2, d3, d4] => { results := [.lit (.bool true)], args := [d1, d2, d3, d4] }
  | _ => none }
def tupleHeadRow : OpenClaim := { program := "ytkdiaagfjhlphaa", sum := "0cdb761401f81a7c3b85e85a89b475c4b82e5acc210d64af4270f2237cc0ac48", func := "antecedent/antecedentlaw03.TupleHead", spec := "tupleHead", inPlace := ["internal/bytealg.abigen_runtime_cmpstring", "internal/abi.NoEscape", "internal/bytealg.MakeNoZero"], unfollowed := true, recurses := true, apart := false }
def TupleHeadSaid : Prop := tupleHeadRow.holds Try.pinned (OpenSpec.ofChange tupleHeadSpec)

/-- ITS FALSE NEIGHBOUR: 'it returns false'. Refute it at one input. -/
def tupleHeadWrong : ChangeSpec := { name := "tupleHead", fn := fun _ => fun
  | [d1, d2, d3, d4] => { results := [.lit (.bool false)], args := [d1, d2, d3, d4] }
  | _ => none }
def TupleHeadWrongFalsely : Prop := tupleHeadRow.holds Try.pinned (OpenSpec.ofChange tupleHeadWrong)

/-- 'antecedentlaw03.TupleOwn': WHATEVER THE INPUT: true; the input reads as it did. -/
def tupleOwnSpec : ChangeSpec := { name := "tupleOwn", fn := fun _ => fun
  | [d1, d2, d3] => { results := [.lit (.bool true)], args := [d1, d2, d3] }
  | _ => none }
def tupleOwnRow : OpenClaim := { program := "ytkdiaagfjhlphaa", sum := "0cdb761401f81a7c3b85e85a89b475c4b82e5acc210d64af4270f2237cc0ac48", func := "antecedent/antecedentlaw03.TupleOwn", spec := "tupleOwn", inPlace := ["internal/bytealg.abigen_runtime_cmpstring", "internal/abi.NoEscape", "internal/bytealg.MakeNoZero"], unfollowed := true, recurses := true, apart := false }
def TupleOwnSaid : Prop := tupleOwnRow.holds Try.pinned (OpenSpec.ofChange tupleOwnSpec)

/-- ITS FALSE NEIGHBOUR: 'it returns false'. Refute it at one input. -/
def tupleOwnWrong : ChangeSpec := { name := "tupleOwn", fn := fun _ => fun
  | [d1, d2, d3] => { results := [.lit (.bool false)], args := [d1, d2, d3] }
  | _ => none }
def TupleOwnWrongFalsely : Prop := tupleOwnRow.holds Try.pinned (OpenSpec.ofChange tupleOwnWrong)

/-- 'antecedentlaw03.TupleAhead': WHATEVER THE INPUT: true; the input reads as it did. -/
def tupleAheadSpec : ChangeSpec := { name := "tupleAhead", fn := fun _ => fun
  | [d1, d2, d3] => { results := [.lit (.bool true)], args := [d1, d2, d3] }
  | _ => none }
def tupleAheadRow : OpenClaim := { program := "ytkdiaagfjhlphaa", sum := "0cdb761401f81a7c3b85e85a89b475c4b82e5acc210d64af4270f2237cc0ac48", func := "antecedent/antecedentlaw03.TupleAhead", spec := "tupleAhead", inPlace := ["internal/bytealg.abigen_runtime_cmpstring", "internal/abi.NoEscape", "internal/bytealg.MakeNoZero"], unfollowed := true, recurses := true, apart := false }
def TupleAheadSaid : Prop := tupleAheadRow.holds Try.pinned (OpenSpec.ofChange tupleAheadSpec)

/-- ITS FALSE NEIGHBOUR: 'it returns false'. Refute it at one input. -/
def tupleAheadWrong : ChangeSpec := { name := "tupleAhead", fn := fun _ => fun
  | [d1, d2, d3] => { results := [.lit (.bool false)], args := [d1, d2, d3] }
  | _ => none }
def TupleAheadWrongFalsely : Prop := tupleAheadRow.holds Try.pinned (OpenSpec.ofChange tupleAheadWrong)

/- THE SECOND FORM. 'bulk': how many values and letters a reading holds, each counted each time it is reached (what is shared counts as often as it is met; a slice's spare places count too). A statement '..UptoSaid' is the law's where the arguments, and the package variables that the reading takes, are together of bulk at most 1048576: NARROWER than '..Said'. Prove '..Said' where nothing that the law and all that it calls make is longer than what came in: it says more and counts as full. Else prove '..UptoSaid'. A law counts once. -/
mutual
def uptoBulk {H : Type} : DataW H → Nat
  | .lit (.string bytes) => bytes.length + 1
  | .lit _ => 1
  | .nil => 1
  | .ptr d => uptoBulk d + 1
  | .slice elems spare => uptoBulkAll elems + uptoBulkAll spare + 1
  | .agg parts => uptoBulkAll parts + 1
  | .iface _ d => uptoBulk d + 1
  | .map entries => uptoBulkEntries entries + 1
  | .held _ => 1
def uptoBulkAll {H : Type} : List (DataW H) → Nat
  | [] => 0
  | d :: r => uptoBulk d + uptoBulkAll r
def uptoBulkEntries {H : Type} : List (Lit × DataW H) → Nat
  | [] => 0
  | x :: r => uptoBulkEntry x + uptoBulkEntries r
def uptoBulkEntry {H : Type} : Lit × DataW H → Nat
  | (.string bytes, d) => bytes.length + uptoBulk d + 1
  | (_, d) => uptoBulk d + 1
 end
def uptoSmall : (H : Type) → List (DataW H) → Bool := fun _ ds => decide (uptoBulkAll ds ≤ 1048576)
def OpenSpec.upto (s : _root_.Go.ChangeSpec) : _root_.Go.OpenSpec := { _root_.Go.OpenSpec.ofChange s with cond := some uptoSmall }

/-- 'antecedentlaw03.TupleTells', WHERE WHAT IT READS IS OF BULK AT MOST 1048576: true; the input reads as it did. -/
def tupleTellsUptoRow : OpenClaim := { program := "ytkdiaagfjhlphaa", sum := "0cdb761401f81a7c3b85e85a89b475c4b82e5acc210d64af4270f2237cc0ac48", func := "antecedent/antecedentlaw03.TupleTells", spec := "tupleTells", inPlace := ["internal/bytealg.abigen_runtime_cmpstring", "internal/abi.NoEscape", "internal/bytealg.MakeNoZero"], unfollowed := true, recurses := true, apart := false, narrowed := true }
def TupleTellsUptoSaid : Prop := tupleTellsUptoRow.holds Try.pinned (OpenSpec.upto tupleTellsSpec)

/-- 'antecedentlaw03.TupleCompares', WHERE WHAT IT READS IS OF BULK AT MOST 1048576: true; the input reads as it did. -/
def tupleComparesUptoRow : OpenClaim := { program := "ytkdiaagfjhlphaa", sum := "0cdb761401f81a7c3b85e85a89b475c4b82e5acc210d64af4270f2237cc0ac48", func := "antecedent/antecedentlaw03.TupleCompares", spec := "tupleCompares", inPlace := ["internal/bytealg.abigen_runtime_cmpstring", "internal/abi.NoEscape", "internal/bytealg.MakeNoZero"], unfollowed := true, recurses := true, apart := false, narrowed := true }
def TupleComparesUptoSaid : Prop := tupleComparesUptoRow.holds Try.pinned (OpenSpec.upto tupleComparesSpec)

/-- 'antecedentlaw03.TupleOrder', WHERE WHAT IT READS IS OF BULK AT MOST 1048576: true; the input reads as it did. -/
def tupleOrderUptoRow : OpenClaim := { program := "ytkdiaagfjhlphaa", sum := "0cdb761401f81a7c3b85e85a89b475c4b82e5acc210d64af4270f2237cc0ac48", func := "antecedent/antecedentlaw03.TupleOrder", spec := "tupleOrder", inPlace := ["internal/bytealg.abigen_runtime_cmpstring", "internal/abi.NoEscape", "internal/bytealg.MakeNoZero"], unfollowed := true, recurses := true, apart := false, narrowed := true }
def TupleOrderUptoSaid : Prop := tupleOrderUptoRow.holds Try.pinned (OpenSpec.upto tupleOrderSpec)

/-- 'antecedentlaw03.TupleBack', WHERE WHAT IT READS IS OF BULK AT MOST 1048576: true; the input reads as it did. -/
def tupleBackUptoRow : OpenClaim := { program := "ytkdiaagfjhlphaa", sum := "0cdb761401f81a7c3b85e85a89b475c4b82e5acc210d64af4270f2237cc0ac48", func := "antecedent/antecedentlaw03.TupleBack", spec := "tupleBack", inPlace := ["internal/bytealg.abigen_runtime_cmpstring", "internal/abi.NoEscape", "internal/bytealg.MakeNoZero"], unfollowed := true, recurses := true, apart := false, narrowed := true }
def TupleBackUptoSaid : Prop := tupleBackUptoRow.holds Try.pinned (OpenSpec.upto tupleBackSpec)

/-- 'antecedentlaw03.TupleHead', WHERE WHAT IT READS IS OF BULK AT MOST 1048576: true; the input reads as it did. -/
def tupleHeadUptoRow : OpenClaim := { program := "ytkdiaagfjhlphaa", sum := "0cdb761401f81a7c3b85e85a89b475c4b82e5acc210d64af4270f2237cc0ac48", func := "antecedent/antecedentlaw03.TupleHead", spec := "tupleHead", inPlace := ["internal/bytealg.abigen_runtime_cmpstring", "internal/abi.NoEscape", "internal/bytealg.MakeNoZero"], unfollowed := true, recurses := true, apart := false, narrowed := true }
def TupleHeadUptoSaid : Prop := tupleHeadUptoRow.holds Try.pinned (OpenSpec.upto tupleHeadSpec)

/-- 'antecedentlaw03.TupleOwn', WHERE WHAT IT READS IS OF BULK AT MOST 1048576: true; the input reads as it did. -/
def tupleOwnUptoRow : OpenClaim := { program := "ytkdiaagfjhlphaa", sum := "0cdb761401f81a7c3b85e85a89b475c4b82e5acc210d64af4270f2237cc0ac48", func := "antecedent/antecedentlaw03.TupleOwn", spec := "tupleOwn", inPlace := ["internal/bytealg.abigen_runtime_cmpstring", "internal/abi.NoEscape", "internal/bytealg.MakeNoZero"], unfollowed := true, recurses := true, apart := false, narrowed := true }
def TupleOwnUptoSaid : Prop := tupleOwnUptoRow.holds Try.pinned (OpenSpec.upto tupleOwnSpec)

/-- 'antecedentlaw03.TupleAhead', WHERE WHAT IT READS IS OF BULK AT MOST 1048576: true; the input reads as it did. -/
def tupleAheadUptoRow : OpenClaim := { program := "ytkdiaagfjhlphaa", sum := "0cdb761401f81a7c3b85e85a89b475c4b82e5acc210d64af4270f2237cc0ac48", func := "antecedent/antecedentlaw03.TupleAhead", spec := "tupleAhead", inPlace := ["internal/bytealg.abigen_runtime_cmpstring", "internal/abi.NoEscape", "internal/bytealg.MakeNoZero"], unfollowed := true, recurses := true, apart := false, narrowed := true }
def TupleAheadUptoSaid : Prop := tupleAheadUptoRow.holds Try.pinned (OpenSpec.upto tupleAheadSpec)

end Rows
end Go.Proofs.Ytkdiaagfjhlphaa

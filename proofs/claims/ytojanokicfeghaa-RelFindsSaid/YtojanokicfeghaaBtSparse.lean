/-
  Contract of sparse: a tree out of as many tuples as it must have.
-/
import Derived.Test.YtojanokicfeghaaBtNode
import Derived.Deep.CutRange
namespace Go.Proofs.Ytojanokicfeghaa
open Go.RowKit FloM ValM
set_option linter.unusedVariables false
set_option linter.unusedSimpArgs false

/-- A tree of k levels whose root has m tuples, with those of xs in order. -/
def SparseP (X : Nat → Prop) (k m : Nat) (xs : List Sl) (w : World) (e : Ending) (w' : World) : Prop := ∃ t : Nd, e = .returned t.val ∧ IsN X w' k t ∧ flat k t = xs ∧ t.ts.length = m ∧ Below w.heap.size w w'
set_option maxHeartbeats 4000000 in
theorem sparse_leaf {X : Nat → Prop} (A : Option Addr) (c : Nat) (xs : List Sl) (m : Nat) (w : World) (h : RdT X w A xs) (hl : xs.length < m) (hm : m ≤ 1000) (hX : ∀ k, X k → k < w.heap.size) :
    Calls Try.prog 78 #[.slice A xs.length c, .int .i64 (m : Int)] w (SparseP X 0 xs.length xs w) := by
  have H := Lib.hid h; have HX := Lib.hid hX; clear h hX
  have HL := Lib.hid (show (xs.map Sl.val).length = xs.length by simp)
  have hcl := Lib.hid (cloneT_any A c (xs.map Sl.val) w H.out.rd (tup_cells xs) (by rw [HL.out]; omega))
  go_enter Try.func78, Try.ntmps78
  go_wp2_with (go_at_call 93; refine (HL.out ▸ hcl.out).mono ?_; rintro e w1 ⟨A1, k1, he, hr1, ho1, hk1, hk1', _, hb1⟩; rw [HL.out] at he hk1; subst he; replace hr1 := Lib.hid hr1; replace ho1 := Lib.hid ho1; replace hk1' := Lib.hid hk1'; replace hk1 := Lib.hid hk1)
  go_ret
  have hb2 := hb1.alloc hb1.size (.cells #[.slice A1 xs.length k1, .slice none 0 0] 111)
  have hs := hb1.size
  have h12 : Below w1.heap.size w1 (w1.alloc (.cells #[.slice A1 xs.length k1, .slice none 0 0] 111)) := (Below.refl _ _).alloc (Nat.le_refl _) _
  refine ⟨.mk w1.heap.size xs [], rfl, IsN.leafOf (node_new (heap_alloc_new _ _) (fun hx => by have := HX.out _ hx; omega) rfl rfl ⟨hr1.out.on h12, fun a ha hx => by have := ho1.out a ha; have := HX.out _ hx; omega, fun z hz => (H.out.each z hz).on hb2⟩ RdC.nil (Off.none _) hk1.out (Nat.le_refl _) hk1'.out (by unfold maxLen; omega)), rfl, rfl, hb2⟩
end Go.Proofs.Ytojanokicfeghaa

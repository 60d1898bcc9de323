/-
  Contract of the statements' own 'awake'.
-/
import Derived.Test.YtkdiaagfjhlphaaTupCmp
import Derived.Test.YtkdiaagfjhlphaaTupPerm
import Derived.Test.YtkdiaagfjhlphaaTupText
import Derived.Test.YtkdiaagfjhlphaaTupSame
namespace Go.Proofs.Ytkdiaagfjhlphaa
open Go.RowKit FloM ValM
set_option linter.unusedVariables false

theorem rdV_of {t : TypeId} {w : World} {g : Nat} {l : List V} (h : Row t w g (vcells l)) : RdV w (some ⟨g, 0, none⟩) l := fun i v hv => by
  obtain ⟨h0, h1, h2⟩ := vcells_at hv
  exact ⟨g, 0, rfl, h.lt, by rw [Nat.zero_add]; exact ⟨(h.cell _).trans h0, (h.cell _).trans h1, (h.cell _).trans h2⟩⟩
theorem rdI_of {t : TypeId} {w : World} {g : Nat} {l : List Int} (h : Row t w g (icells l)) : RdI w (some ⟨g, 0, none⟩) l := fun i v hv => by
  have h0 : (icells l)[i]? = some (.int .i64 v) := by simp [icells, hv]
  exact ⟨g, 0, rfl, h.lt, by rw [Nat.zero_add]; exact (h.cell _).trans h0⟩
def awA : List V := [⟨1, 1, ByteArray.empty⟩, ⟨1, 9, ByteArray.empty⟩]
def awB : List V := [⟨1, 2, ByteArray.empty⟩, ⟨1, 3, ByteArray.empty⟩]
theorem aw_ok : OkL awA := by
  intro v hv
  simp only [awA, List.mem_cons, List.not_mem_nil, or_false] at hv
  rcases hv with rfl | rfl <;> exact ⟨by unfold Fits; decide, by decide⟩
theorem aw_ord : ordV (pickL awA [1, 0]) (pickL awB [1, 0]) = 1 := by decide
theorem aw_perm : permB [1, 0] = true := by decide
theorem aw_inv : (invL [0]).length = 1 := by decide
theorem aw_same : decide (awA = awA) = true := by simp
theorem aw_dig (n : Nat) (c : UInt8) (h0 : 0 < n) (h : n < 10) (hc : dch n = c) : digs 10 n = [c] := by
  rw [digs_pos 10 n (by omega) h0, Nat.mod_eq_of_lt h, show n / 10 = 0 by omega, digs_zero, hc]; rfl
theorem aw_txt (n : Nat) (c : UInt8) (h0 : 0 < n) (h : n < 10) (hc : dch n = c) : textV ⟨1, n, ByteArray.empty⟩ = [c] := by
  have hr : rightV ⟨1, n, ByteArray.empty⟩ = true := rfl
  unfold textV; rw [hr, if_pos rfl, if_pos rfl]
  show intTextL n = _
  unfold intTextL
  rw [if_neg (by omega), Int.natAbs_natCast, aw_dig n c h0 h hc]; rfl
theorem aw_text : textL awA = [49, 44, 32, 57] := by
  unfold textL awA
  rw [List.map_cons, List.map_cons, show textV ⟨1, 1, ByteArray.empty⟩ = [49] from aw_txt 1 49 (by omega) (by omega) rfl, show textV ⟨1, 9, ByteArray.empty⟩ = [57] from aw_txt 9 57 (by omega) (by omega) rfl]; rfl
theorem aw_rows (w : World) : Row 38 (((w.alloc (.cells #[.int .i64 1, .int .i64 1, .string ByteArray.empty, .int .i64 1, .int .i64 9, .string ByteArray.empty] 38)).alloc (.cells #[.int .i64 1, .int .i64 2, .string ByteArray.empty, .int .i64 1, .int .i64 3, .string ByteArray.empty] 38)).alloc (.cells #[.int .i64 1, .int .i64 0] 3)) w.heap.size (vcells awA) ∧ Row 38 (((w.alloc (.cells #[.int .i64 1, .int .i64 1, .string ByteArray.empty, .int .i64 1, .int .i64 9, .string ByteArray.empty] 38)).alloc (.cells #[.int .i64 1, .int .i64 2, .string ByteArray.empty, .int .i64 1, .int .i64 3, .string ByteArray.empty] 38)).alloc (.cells #[.int .i64 1, .int .i64 0] 3)) (w.heap.size + 1) (vcells awB) ∧ Row 3 (((w.alloc (.cells #[.int .i64 1, .int .i64 1, .string ByteArray.empty, .int .i64 1, .int .i64 9, .string ByteArray.empty] 38)).alloc (.cells #[.int .i64 1, .int .i64 2, .string ByteArray.empty, .int .i64 1, .int .i64 3, .string ByteArray.empty] 38)).alloc (.cells #[.int .i64 1, .int .i64 0] 3)) (w.heap.size + 2) (icells [1, 0]) := by
  have ra := ((row_new (t := 38) w (vcells awA)).alloc (.cells #[.int .i64 1, .int .i64 2, .string ByteArray.empty, .int .i64 1, .int .i64 3, .string ByteArray.empty] 38)).alloc (.cells #[.int .i64 1, .int .i64 0] 3)
  have rb := (row_new (t := 38) (w.alloc (.cells #[.int .i64 1, .int .i64 1, .string ByteArray.empty, .int .i64 1, .int .i64 9, .string ByteArray.empty] 38)) (vcells awB)).alloc (.cells #[.int .i64 1, .int .i64 0] 3)
  have rp := row_new (t := 3) ((w.alloc (.cells #[.int .i64 1, .int .i64 1, .string ByteArray.empty, .int .i64 1, .int .i64 9, .string ByteArray.empty] 38)).alloc (.cells #[.int .i64 1, .int .i64 2, .string ByteArray.empty, .int .i64 1, .int .i64 3, .string ByteArray.empty] 38)) (icells [1, 0])
  rw [show (w.alloc (.cells #[.int .i64 1, .int .i64 1, .string ByteArray.empty, .int .i64 1, .int .i64 9, .string ByteArray.empty] 38)).heap.size = w.heap.size + 1 by simp] at rb
  rw [show ((w.alloc (.cells #[.int .i64 1, .int .i64 1, .string ByteArray.empty, .int .i64 1, .int .i64 9, .string ByteArray.empty] 38)).alloc (.cells #[.int .i64 1, .int .i64 2, .string ByteArray.empty, .int .i64 1, .int .i64 3, .string ByteArray.empty] 38)).heap.size = w.heap.size + 2 by simp] at rp
  exact ⟨ra, rb, rp⟩
set_option maxHeartbeats 4000000 in
theorem awake_any (w : World) : Calls Try.prog 10 #[] w fun e w' => e = .returned (.bool true) ∧ Below w.heap.size w w' := by
  obtain ⟨ra, rb, rp⟩ := aw_rows w
  have hB0 : Below w.heap.size w (((w.alloc (.cells #[.int .i64 1, .int .i64 1, .string ByteArray.empty, .int .i64 1, .int .i64 9, .string ByteArray.empty] 38)).alloc (.cells #[.int .i64 1, .int .i64 2, .string ByteArray.empty, .int .i64 1, .int .i64 3, .string ByteArray.empty] 38)).alloc (.cells #[.int .i64 1, .int .i64 0] 3)) := (((Below.refl _ _).alloc (Nat.le_refl _) _).alloc (by simp) _).alloc (by simp <;> omega) _
  go_enter Try.func10, Try.ntmps10
  go_wp2_with (first
    | (go_at_call 22
       refine (compareT_any (some ⟨w.heap.size, 0, none⟩) (some ⟨w.heap.size + 1, 0, none⟩) (some ⟨w.heap.size + 2, 0, none⟩) 2 2 2 awA awB [1, 0] _ (rdV_of ra) (rdV_of rb) (rdI_of rp) (by decide) (by decide) (by decide)).mono ?_
       rintro e w1 ⟨rfl, h1⟩
       rw [aw_ord]
       replace ra := rowOn ra h1
       replace hB0 := on hB0 h1
       clear rb rp)
    | (go_at_call 11
       refine (perm_any _ 2 [1, 0] _ (rdI_of (t := 3) (row_new w1 (icells [1, 0]))) (by decide)).mono ?_
       rintro e w2 ⟨rfl, h2⟩
       rw [aw_perm]
       replace h2 := ((Below.refl w1.heap.size w1).alloc (Nat.le_refl _) _).trans (h2.mono (by simp))
       replace ra := rowOn ra h2
       replace hB0 := on hB0 h2)
    | (go_at_call 19
       refine (textT_any (some ⟨w.heap.size, 0, none⟩) 2 awA _ (rdV_of ra) aw_ok (by decide)).mono ?_
       rintro e w3 ⟨rfl, h3⟩
       rw [aw_text, show bs [49, 44, 32, 57] = ⟨#[49, 44, 32, 57]⟩ from rfl]
       replace ra := rowOn ra h3
       replace hB0 := on hB0 h3)
    | (go_at_call 21
       refine (same_any (some ⟨w.heap.size, 0, none⟩) (some ⟨w.heap.size, 0, none⟩) 2 2 awA awA _ (rdV_of ra) (rdV_of ra) (by decide) (by decide)).mono ?_
       rintro e w4 ⟨rfl, h4⟩
       rw [aw_same]
       replace hB0 := on hB0 h4
       clear ra)
    | (go_at_call 14
       refine (inverse_any _ 1 [0] _ (rdI_of (t := 3) (row_new w4 (icells [0]))) (by decide)).mono ?_
       rintro e w5 ⟨A5, c5, rfl, _, h5⟩
       rw [aw_inv]
       replace h5 := ((Below.refl w4.heap.size w4).alloc (Nat.le_refl _) _).trans (h5.mono (by simp))
       replace hB0 := on hB0 h5))
  go_ret
  exact ⟨rfl, hB0⟩
end Go.Proofs.Ytkdiaagfjhlphaa

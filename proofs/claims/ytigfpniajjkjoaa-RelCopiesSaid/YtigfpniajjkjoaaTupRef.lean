/-
  Contracts of the document's own way for layer 3 (package antecedentref03): Pick, Order, Compare.
-/
import Derived.Test.YtigfpniajjkjoaaTupPick
import Derived.Test.YtigfpniajjkjoaaTupCmp
namespace Go.Proofs.Ytigfpniajjkjoaa
open Go.RowKit FloM ValM
set_option linter.unusedVariables false
def PickRelR (w : World) (t : List V) (p : List Int) (out i : Value) (wr : World) : Prop := ∃ k : Nat, i = .int .i64 (k : Nat) ∧ k ≤ p.length ∧ Below w.heap.size w wr ∧
  ∃ A c, out = .slice A (pickL t (p.take k)).length c ∧ wr.ownsRow w.heap.size 25 3 (.slice A (pickL t (p.take k)).length c) (pickL t (p.take k)).length (vcells (pickL t (p.take k)))

/-! ### Order -/
def OrdRel (w : World) (a b : List V) (i : Value) (wr : World) : Prop := ∃ k : Nat, i = .int .i64 (k : Nat) ∧ k ≤ a.length ∧ k ≤ b.length ∧ Below w.heap.size w wr ∧ ordV a b = ordV (a.drop k) (b.drop k)
set_option maxRecDepth 20000 in
set_option maxHeartbeats 4000000 in
theorem refOrder_any (A B : Option Addr) (ca cb : Nat) (a b : List V) (w : World) (ha : RdV w A a) (hb : RdV w B b) (la : a.length ≤ maxLen) (lb : b.length ≤ maxLen) :
    Calls Try.prog 34 #[.slice A a.length ca, .slice B b.length cb] w (SaysI (ordV a b) w) := by
  unfold maxLen at la lb
  have HA := Lib.hid ha; clear ha
  have HB := Lib.hid hb; clear hb
  go_enter Try.func34, Try.ntmps34
  go_wp2
  go_loopw [5] (fun i wr => OrdRel w a b i wr) (fun i _ => a.length - (intOf i).toNat)
  case atStart => exact ⟨0, rfl, Nat.zero_le _, Nat.zero_le _, Below.refl _ _, rfl⟩
  case round =>
    obtain ⟨k, rfl, hk1, hk2, hB, he⟩ := hrel
    have HE := Lib.hid he; clear he
    by_cases h1 : k < a.length
    · by_cases h2 : k < b.length
      · have hx := List.getElem?_eq_getElem h1
        have hy := List.getElem?_eq_getElem h2
        obtain ⟨ab, ao, rfl, hal, a0, a1, a2⟩ := (HA.out.on hB) k _ hx
        obtain ⟨bb, bo, rfl, hbl, b0, b1, b2⟩ := (HB.out.on hB) k _ hy
        have HS := Lib.hid (show ordV (a.drop k) (b.drop k) = ordV (a[k] :: a.drop (k + 1)) (b[k] :: b.drop (k + 1)) by rw [drop_at hx, drop_at hy])
        clear hx hy
        generalize a[k] = va at HS a0 a1 a2
        generalize b[k] = vb at HS b0 b1 b2
        obtain ⟨ka, na, sa⟩ := va
        obtain ⟨kb, nb, sb⟩ := vb
        simp only at a0 a1 a2 b0 b1 b2
        by_cases hz : cmpV ⟨ka, na, sa⟩ ⟨kb, nb, sb⟩ = 0
        · have HZ := Lib.hid hz; clear hz
          go_wp2_with fail
          go_region_held3 (fun u => Below wr.heap.size wr u ∧ u.cell? ⟨ab, ao + k * 3, none⟩ = some (.int .i64 ka) ∧ u.cell? ⟨ab, ao + k * 3 + 1, none⟩ = some (.int .i64 na) ∧ u.cell? ⟨ab, ao + k * 3 + 2, none⟩ = some (.string sa) ∧ u.cell? ⟨bb, bo + k * 3, none⟩ = some (.int .i64 kb) ∧ u.cell? ⟨bb, bo + k * 3 + 1, none⟩ = some (.int .i64 nb) ∧ u.cell? ⟨bb, bo + k * 3 + 2, none⟩ = some (.string sb))
            (first | exact ⟨Below.refl _ _, a0, a1, a2, b0, b1, b2⟩ | exact ⟨(Below.refl _ _).drew, a0, a1, a2, b0, b1, b2⟩ | exact ⟨h4, (k4 _ _ hal).trans a0, (k4 _ _ hal).trans a1, (k4 _ _ hal).trans a2, (k4 _ _ hbl).trans b0, (k4 _ _ hbl).trans b1, (k4 _ _ hbl).trans b2⟩)
            ((go_at_call 55; refine (refCompare_go _ _ _ _ _ _ _).mono ?_; rintro e w4 ⟨rfl, h4⟩; rw [HZ.out]; replace h4 : Below wr.heap.size wr w4 := (Below.refl wr.heap.size wr).drew.trans h4; have k4 := keep h4))
          all_goals
            go_wp2
            go_roundw
            case rel => exact ⟨k + 1, by go_num, by omega, by omega, on hB h4, by rw [HE.out, HS.out, ordV_same HZ.out]⟩
            case measure => simp [intOf]; omega
        · obtain ⟨r, hr⟩ : ∃ r, cmpV ⟨ka, na, sa⟩ ⟨kb, nb, sb⟩ = r := ⟨_, rfl⟩
          have HZ := Lib.hid hz; clear hz
          have hr0 : (r != 0) = true := by rw [← hr]; simpa using HZ.out
          have HR := Lib.hid hr; clear hr
          go_wp2_with fail
          go_region_held3 (fun u => Below wr.heap.size wr u ∧ u.cell? ⟨ab, ao + k * 3, none⟩ = some (.int .i64 ka) ∧ u.cell? ⟨ab, ao + k * 3 + 1, none⟩ = some (.int .i64 na) ∧ u.cell? ⟨ab, ao + k * 3 + 2, none⟩ = some (.string sa) ∧ u.cell? ⟨bb, bo + k * 3, none⟩ = some (.int .i64 kb) ∧ u.cell? ⟨bb, bo + k * 3 + 1, none⟩ = some (.int .i64 nb) ∧ u.cell? ⟨bb, bo + k * 3 + 2, none⟩ = some (.string sb))
            (first | exact ⟨Below.refl _ _, a0, a1, a2, b0, b1, b2⟩ | exact ⟨(Below.refl _ _).drew, a0, a1, a2, b0, b1, b2⟩ | exact ⟨h4, (k4 _ _ hal).trans a0, (k4 _ _ hal).trans a1, (k4 _ _ hal).trans a2, (k4 _ _ hbl).trans b0, (k4 _ _ hbl).trans b1, (k4 _ _ hbl).trans b2⟩)
            ((go_at_call 55; refine (refCompare_go _ _ _ _ _ _ _).mono ?_; rintro e w4 ⟨rfl, h4⟩; rw [HR.out]; replace h4 : Below wr.heap.size wr w4 := (Below.refl wr.heap.size wr).drew.trans h4; have k4 := keep h4))
          all_goals
            go_wp2
            go_ret
            exact ⟨ret_int (by rw [HE.out, HS.out, ordV_other HZ.out, HR.out]), on hB h4⟩
      · have hlen : b.length < a.length := by omega
        have HS := Lib.hid (show ordV (a.drop k) (b.drop k) = 1 by rw [show b.drop k = [] from List.drop_of_length_le (by omega), drop_at (List.getElem?_eq_getElem h1), ordV])
        go_wp2
        go_ret
        exact ⟨ret_int (by rw [HE.out, HS.out]), hB⟩
    · by_cases h2 : k < b.length
      · have hlen : a.length < b.length := by omega
        have HS := Lib.hid (show ordV (a.drop k) (b.drop k) = -1 by rw [show a.drop k = [] from List.drop_of_length_le (by omega), drop_at (List.getElem?_eq_getElem h2), ordV])
        go_wp2
        go_ret
        exact ⟨ret_int (by rw [HE.out, HS.out]), hB⟩
      · have hlen1 : ¬ a.length < b.length := by omega
        have hlen2 : ¬ b.length < a.length := by omega
        have HS := Lib.hid (show ordV (a.drop k) (b.drop k) = 0 by rw [show a.drop k = [] from List.drop_of_length_le (by omega), show b.drop k = [] from List.drop_of_length_le (by omega), ordV])
        go_wp2
        go_ret
        exact ⟨ret_int (by rw [HE.out, HS.out]), hB⟩

end Go.Proofs.Ytigfpniajjkjoaa

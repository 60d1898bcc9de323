/-
  Contracts of the document's own way for layer 3 (package antecedentref03): Pick, Order, Compare.
-/
import Derived.Test.YtpmkhpbhimmeiaaGreatTupPick
import Derived.Test.YtpmkhpbhimmeiaaGreatTupCmp
namespace Go.Proofs.YtpmkhpbhimmeiaaGreat
open Go.RowKit FloM ValM
set_option linter.unusedVariables false
def PickRelR (w : World) (t : List V) (p : List Int) (out i : Value) (wr : World) : Prop := ∃ k : Nat, i = .int .i64 (k : Nat) ∧ k ≤ p.length ∧ Below w.heap.size w wr ∧
  ∃ A c, out = .slice A (pickL t (p.take k)).length c ∧ wr.ownsRow w.heap.size 69 3 (.slice A (pickL t (p.take k)).length c) (pickL t (p.take k)).length (vcells (pickL t (p.take k)))

set_option maxRecDepth 20000 in
set_option maxHeartbeats 4000000 in
theorem refPick_any (A P : Option Addr) (ca cp : Nat) (t : List V) (p : List Int) (w : World) (ht : RdV w A t) (hp : RdI w P p) (lt : t.length ≤ 1000) (lp : p.length ≤ 1000) :
    Calls Tryz.prog 53 #[.slice A t.length ca, .slice P p.length cp] w (SaysV (pickL t p) w) := by
  have HT := Lib.hid ht; clear ht
  have HP := Lib.hid hp; clear hp
  obtain ⟨i0, hi0, hz0, hz1, hz2⟩ := info_parts info_val
  have HI0 := Lib.hid hi0; have HZ0 := Lib.hid hz0; have HZ1 := Lib.hid hz1; have HZ2 := Lib.hid hz2
  clear hi0 hz0 hz1 hz2
  go_enter Tryz.func53, Tryz.ntmps53
  go_wp2
  go_loopw [5, 9] (fun out i wr => PickRelR w t p out i wr) (fun _ i _ => p.length - (intOf i).toNat)
  case atStart => exact ⟨0, rfl, Nat.zero_le _, Below.refl _ _, none, 0, rfl, own_nil w _ _ _⟩
  case round =>
    obtain ⟨k, rfl, hk, hB, A1, c1, rfl, hown⟩ := hrel
    have HO := Lib.hid hown; clear hown
    have hlen : (pickL t (p.take k)).length ≤ k := Nat.le_trans (pick_len _ _) (List.length_take_le _ _)
    by_cases hlt : k < p.length
    · have hx := List.getElem?_eq_getElem hlt
      obtain ⟨b, o, rfl, hb, hc⟩ := (HP.out.on hB) k _ hx
      have HX := Lib.hid hx; clear hx
      generalize p[k] = x at HX hc
      cases hr : inR t.length x with
      | false =>
        have HR := Lib.hid hr
        have hno := inR_not.1 hr
        clear hr
        by_cases h0 : 0 ≤ x
        · have h1 : (t.length : Int) ≤ x := by omega
          clear hno
          go_wp2
          go_roundw
          case rel =>
            refine ⟨k + 1, by go_num, by omega, hB, A1, c1, by rw [pick_snoc_none HX.out HR.out], ?_⟩
            rw [pick_snoc_none HX.out HR.out]
            exact HO.out
          case measure => simp [intOf]; omega
        · have h1 : x < 0 := by omega
          clear hno h0
          go_wp2
          go_roundw
          case rel =>
            refine ⟨k + 1, by go_num, by omega, hB, A1, c1, by rw [pick_snoc_none HX.out HR.out], ?_⟩
            rw [pick_snoc_none HX.out HR.out]
            exact HO.out
          case measure => simp [intOf]; omega
      | true =>
        obtain ⟨m, rfl⟩ := Int.eq_ofNat_of_zero_le (inR_iff.1 hr).1
        have hm : m < t.length := by have := (inR_iff.1 hr).2; omega
        obtain ⟨⟨kv, nv, sv⟩, ev, el⟩ := col_some hr
        rw [Int.toNat_natCast] at ev
        have HS := Lib.hid (pick_snoc_some HX.out el)
        obtain ⟨ab, ao, rfl, hal, a0, a1, a2⟩ := (HT.out.on hB) m _ ev
        simp only at a0 a1 a2
        clear ev el hr
        go_wp2_with (first | (at_builtin; refine wpList_append_own _ rfl (.tmp 26) (.tmp 34) _ rfl w.heap.size 69 i0 _ 3 32 Tryz.underlying25 HI0.out HZ0.out HZ1.out HZ2.out rfl (by omega) (.slice A1 (pickL t (p.take k)).length c1) (pickL t (p.take k)).length _ rfl (own_on HO.out ((Below.refl _ _).alloc (Nat.le_refl _) _)) ⟨wr.heap.size, 0, none⟩ 1 1 [.int .i64 kv, .int .i64 nv, .string sv] rfl (by simp) (news_one wr #[.int .i64 kv, .int .i64 nv, .string sv] _) (by simp [Value.oneCell']) (by unfold maxLen; omega) (by omega) (by have := hB.size; simp; omega) ?_; intro v' w' ho' hg' _; obtain ⟨A2, c2, rfl⟩ := own_form ho'))
        go_roundw
        case rel =>
          have hb3 : Below w.heap.size w (wr.alloc (.cells #[.int .i64 kv, .int .i64 nv, .string sv] 69)) := on hB ((Below.refl _ _).alloc (Nat.le_refl _) _)
          refine ⟨k + 1, by go_num, by omega, hb3.grown hg' hb3.size (own_base HO.out), A2, c2, by rw [HS.out]; simp, ?_⟩
          rw [HS.out]
          simpa [vcells_app, vcells_one] using ho'
        case measure => simp [intOf]; omega
    · have hke : k = p.length := by omega
      subst hke
      have HO' := HO.out
      rw [List.take_length] at HO'
      have HO2 := Lib.hid HO'; clear HO'
      clear hlen
      go_wp2
      go_ret
      exact ⟨A1, c1, by first | rfl | simp, own_rdV HO2.out, own_adr HO2.out, hB⟩

/-! ### Order -/
def OrdRel (w : World) (a b : List V) (i : Value) (wr : World) : Prop := ∃ k : Nat, i = .int .i64 (k : Nat) ∧ k ≤ a.length ∧ k ≤ b.length ∧ Below w.heap.size w wr ∧ ordV a b = ordV (a.drop k) (b.drop k)
set_option maxRecDepth 20000 in
set_option maxHeartbeats 4000000 in
theorem refOrder_any (A B : Option Addr) (ca cb : Nat) (a b : List V) (w : World) (ha : RdV w A a) (hb : RdV w B b) (la : a.length ≤ maxLen) (lb : b.length ≤ maxLen) :
    Calls Tryz.prog 42 #[.slice A a.length ca, .slice B b.length cb] w (SaysI (ordV a b) w) := by
  unfold maxLen at la lb
  have HA := Lib.hid ha; clear ha
  have HB := Lib.hid hb; clear hb
  go_enter Tryz.func42, Tryz.ntmps42
  go_wp2
  go_loopw [5] (fun i wr => OrdRel w a b i wr) (fun i _ => a.length - (intOf i).toNat)
  case atStart => exact ⟨0, rfl, Nat.zero_le _, Nat.zero_le _, Below.refl _ _, rfl⟩
  case round =>
    obtain ⟨k, rfl, hk1, hk2, hB, he⟩ := hrel
    have HE := Lib.hid he; clear he
    by_cases h1 : k < a.length
    · by_cases h2 : k < b.length
      · have hx := List.getElem?_eq_getElem h1
        have hy := List.getElem?_eq_getElem h2
        obtain ⟨ab, ao, rfl, hal, a0, a1, a2⟩ := (HA.out.on hB) k _ hx
        obtain ⟨bb, bo, rfl, hbl, b0, b1, b2⟩ := (HB.out.on hB) k _ hy
        have HS := Lib.hid (show ordV (a.drop k) (b.drop k) = ordV (a[k] :: a.drop (k + 1)) (b[k] :: b.drop (k + 1)) by rw [drop_at hx, drop_at hy])
        clear hx hy
        generalize a[k] = va at HS a0 a1 a2
        generalize b[k] = vb at HS b0 b1 b2
        obtain ⟨ka, na, sa⟩ := va
        obtain ⟨kb, nb, sb⟩ := vb
        simp only at a0 a1 a2 b0 b1 b2
        by_cases hz : cmpV ⟨ka, na, sa⟩ ⟨kb, nb, sb⟩ = 0
        · have HZ := Lib.hid hz; clear hz
          go_wp2_with fail
          go_region_held3 (fun u => Below wr.heap.size wr u ∧ u.cell? ⟨ab, ao + k * 3, none⟩ = some (.int .i64 ka) ∧ u.cell? ⟨ab, ao + k * 3 + 1, none⟩ = some (.int .i64 na) ∧ u.cell? ⟨ab, ao + k * 3 + 2, none⟩ = some (.string sa) ∧ u.cell? ⟨bb, bo + k * 3, none⟩ = some (.int .i64 kb) ∧ u.cell? ⟨bb, bo + k * 3 + 1, none⟩ = some (.int .i64 nb) ∧ u.cell? ⟨bb, bo + k * 3 + 2, none⟩ = some (.string sb))
            (first | exact ⟨Below.refl _ _, a0, a1, a2, b0, b1, b2⟩ | exact ⟨(Below.refl _ _).drew, a0, a1, a2, b0, b1, b2⟩ | exact ⟨h4, (k4 _ _ hal).trans a0, (k4 _ _ hal).trans a1, (k4 _ _ hal).trans a2, (k4 _ _ hbl).trans b0, (k4 _ _ hbl).trans b1, (k4 _ _ hbl).trans b2⟩)
            ((go_at_call 66; refine (refCompare_go _ _ _ _ _ _ _).mono ?_; rintro e w4 ⟨rfl, h4⟩; rw [HZ.out]; replace h4 : Below wr.heap.size wr w4 := (Below.refl wr.heap.size wr).drew.trans h4; have k4 := keep h4))
          all_goals
            go_wp2
            go_roundw
            case rel => exact ⟨k + 1, by go_num, by omega, by omega, on hB h4, by rw [HE.out, HS.out, ordV_same HZ.out]⟩
            case measure => simp [intOf]; omega
        · obtain ⟨r, hr⟩ : ∃ r, cmpV ⟨ka, na, sa⟩ ⟨kb, nb, sb⟩ = r := ⟨_, rfl⟩
          have HZ := Lib.hid hz; clear hz
          have hr0 : (r != 0) = true := by rw [← hr]; simpa using HZ.out
          have HR := Lib.hid hr; clear hr
          go_wp2_with fail
          go_region_held3 (fun u => Below wr.heap.size wr u ∧ u.cell? ⟨ab, ao + k * 3, none⟩ = some (.int .i64 ka) ∧ u.cell? ⟨ab, ao + k * 3 + 1, none⟩ = some (.int .i64 na) ∧ u.cell? ⟨ab, ao + k * 3 + 2, none⟩ = some (.string sa) ∧ u.cell? ⟨bb, bo + k * 3, none⟩ = some (.int .i64 kb) ∧ u.cell? ⟨bb, bo + k * 3 + 1, none⟩ = some (.int .i64 nb) ∧ u.cell? ⟨bb, bo + k * 3 + 2, none⟩ = some (.string sb))
            (first | exact ⟨Below.refl _ _, a0, a1, a2, b0, b1, b2⟩ | exact ⟨(Below.refl _ _).drew, a0, a1, a2, b0, b1, b2⟩ | exact ⟨h4, (k4 _ _ hal).trans a0, (k4 _ _ hal).trans a1, (k4 _ _ hal).trans a2, (k4 _ _ hbl).trans b0, (k4 _ _ hbl).trans b1, (k4 _ _ hbl).trans b2⟩)
            ((go_at_call 66; refine (refCompare_go _ _ _ _ _ _ _).mono ?_; rintro e w4 ⟨rfl, h4⟩; rw [HR.out]; replace h4 : Below wr.heap.size wr w4 := (Below.refl wr.heap.size wr).drew.trans h4; have k4 := keep h4))
          all_goals
            go_wp2
            go_ret
            exact ⟨ret_int (by rw [HE.out, HS.out, ordV_other HZ.out, HR.out]), on hB h4⟩
      · have hlen : b.length < a.length := by omega
        have HS := Lib.hid (show ordV (a.drop k) (b.drop k) = 1 by rw [show b.drop k = [] from List.drop_of_length_le (by omega), drop_at (List.getElem?_eq_getElem h1), ordV])
        go_wp2
        go_ret
        exact ⟨ret_int (by rw [HE.out, HS.out]), hB⟩
    · by_cases h2 : k < b.length
      · have hlen : a.length < b.length := by omega
        have HS := Lib.hid (show ordV (a.drop k) (b.drop k) = -1 by rw [show a.drop k = [] from List.drop_of_length_le (by omega), drop_at (List.getElem?_eq_getElem h2), ordV])
        go_wp2
        go_ret
        exact ⟨ret_int (by rw [HE.out, HS.out]), hB⟩
      · have hlen1 : ¬ a.length < b.length := by omega
        have hlen2 : ¬ b.length < a.length := by omega
        have HS := Lib.hid (show ordV (a.drop k) (b.drop k) = 0 by rw [show a.drop k = [] from List.drop_of_length_le (by omega), show b.drop k = [] from List.drop_of_length_le (by omega), ordV])
        go_wp2
        go_ret
        exact ⟨ret_int (by rw [HE.out, HS.out]), hB⟩

end Go.Proofs.YtpmkhpbhimmeiaaGreat

/-
  Contract of tuple.Compare.
-/
import Derived.Test.YtpmkhpbhimmeiaaGreatTupMem
import Derived.Deep.RegionHeld3
import Derived.RegionTactic
import Derived.Deep.QuietTactic
import Derived.BigQuiet
namespace Go.Proofs.YtpmkhpbhimmeiaaGreat
open Go.RowKit FloM ValM
set_option linter.unusedVariables false

def CmpRel (w : World) (a b : List V) (p : List Int) (i k : Value) (wr : World) : Prop := ∃ x y : Nat, i = .int .i64 (x : Nat) ∧ k = .int .i64 (y : Nat) ∧ x ≤ p.length ∧ y ≤ p.length ∧ Below w.heap.size w wr ∧
  ordV (pickL a p) (pickL b p) = ordV (pickL a (p.drop x)) (pickL b (p.drop y)) ∧ (x < p.length → ∃ c, p[x]? = some c ∧ inR a.length c = true) ∧ (y < p.length → ∃ c, p[y]? = some c ∧ inR b.length c = true)
def SaysI (r : Int) (w : World) (e : Ending) (w' : World) : Prop := e = .returned (.int .i64 r) ∧ Below w.heap.size w w'
set_option maxHeartbeats 4000000 in
theorem compareT_any (A B P : Option Addr) (ca cb cp : Nat) (a b : List V) (p : List Int) (w : World) (ha : RdV w A a) (hb : RdV w B b) (hp : RdI w P p) (la : a.length ≤ maxLen) (lb : b.length ≤ maxLen) (lp : p.length ≤ maxLen) :
    Calls Tryz.prog 51 #[.slice A a.length ca, .slice B b.length cb, .slice P p.length cp] w (SaysI (ordV (pickL a p) (pickL b p)) w) := by
  have lp' := lp
  unfold maxLen at la lb lp'
  have HA := Lib.hid ha; clear ha
  have HB := Lib.hid hb; clear hb
  have HP := Lib.hid hp; clear hp
  go_enter Tryz.func51, Tryz.ntmps51
  go_wp2_with (go_at_call 75; refine (next_any _ _ _ _ 0 _ HP.out lp (Nat.zero_le _)).mono ?_; rintro e w' ⟨rfl, rfl⟩)
  go_loopw [7, 8] (fun i k wr => CmpRel w a b p i k wr) (fun i k _ => p.length - (intOf i).toNat)
  case atStart =>
    have n1 := nextL_le (size := a.length) (p := p) (i := 0) (Nat.zero_le _)
    have n2 := nextL_le (size := b.length) (p := p) (i := 0) (Nat.zero_le _)
    exact ⟨_, _, rfl, rfl, n1.2, n2.2, Below.refl _ _, by rw [pick_next a p _ 0 rfl (Nat.zero_le _), pick_next b p _ 0 rfl (Nat.zero_le _)]; rfl, next_in _ p _ 0 rfl, next_in _ p _ 0 rfl⟩
  case round =>
    obtain ⟨x, y, rfl, rfl, hx, hy, hB, he, hxi, hyi⟩ := hrel
    have HE := Lib.hid he; clear he
    have HXI := Lib.hid hxi; clear hxi
    have HYI := Lib.hid hyi; clear hyi
    by_cases h1 : x < p.length
    · by_cases h2 : y < p.length
      · obtain ⟨cx, ecx, hcx⟩ := HXI.out h1
        obtain ⟨cy, ecy, hcy⟩ := HYI.out h2
        obtain ⟨⟨ka, na, sa⟩, eva, ela⟩ := col_some hcx
        obtain ⟨⟨kb, nb, sb⟩, evb, elb⟩ := col_some hcy
        obtain ⟨mx, rfl⟩ := Int.eq_ofNat_of_zero_le (inR_iff.1 hcx).1
        obtain ⟨my, rfl⟩ := Int.eq_ofNat_of_zero_le (inR_iff.1 hcy).1
        have hmx : mx < a.length := by have := (inR_iff.1 hcx).2; omega
        have hmy : my < b.length := by have := (inR_iff.1 hcy).2; omega
        rw [Int.toNat_natCast] at eva evb
        obtain ⟨ab, ao, rfl, hal, a0, a1, a2⟩ := (HA.out.on hB) mx _ eva
        obtain ⟨bb, bo, rfl, hbl, b0, b1, b2⟩ := (HB.out.on hB) my _ evb
        obtain ⟨pb, po, rfl, hpl, hpx⟩ := (HP.out.on hB) x _ ecx
        obtain ⟨pb', po', e, _, hpy⟩ := (HP.out.on hB) y _ ecy
        injection e with e; injection e with e1 e2; subst e1 e2
        have HS := Lib.hid (show ordV (pickL a (p.drop x)) (pickL b (p.drop y)) = ordV (⟨ka, na, sa⟩ :: pickL a (p.drop (x + 1))) (⟨kb, nb, sb⟩ :: pickL b (p.drop (y + 1))) by rw [drop_at ecx, drop_at ecy, pickL_take ela, pickL_take elb])
        clear eva evb ela elb ecx ecy hcx hcy HXI HYI
        simp only at a0 a1 a2 b0 b1 b2
        by_cases hz : cmpV ⟨ka, na, sa⟩ ⟨kb, nb, sb⟩ = 0
        · have HZ := Lib.hid hz; clear hz
          go_wp2_with fail
          go_region_held3 (fun u => Below wr.heap.size wr u ∧ u.cell? ⟨pb, po + x, none⟩ = some (.int .i64 (mx : Int)) ∧ u.cell? ⟨pb, po + y, none⟩ = some (.int .i64 (my : Int)) ∧ u.cell? ⟨ab, ao + mx * 3, none⟩ = some (.int .i64 ka) ∧ u.cell? ⟨ab, ao + mx * 3 + 1, none⟩ = some (.int .i64 na) ∧ u.cell? ⟨ab, ao + mx * 3 + 2, none⟩ = some (.string sa) ∧ u.cell? ⟨bb, bo + my * 3, none⟩ = some (.int .i64 kb) ∧ u.cell? ⟨bb, bo + my * 3 + 1, none⟩ = some (.int .i64 nb) ∧ u.cell? ⟨bb, bo + my * 3 + 2, none⟩ = some (.string sb))
            (first | exact ⟨Below.refl _ _, hpx, hpy, a0, a1, a2, b0, b1, b2⟩ | exact ⟨(Below.refl _ _).drew, hpx, hpy, a0, a1, a2, b0, b1, b2⟩ | exact ⟨h4, (k4 _ _ hpl).trans hpx, (k4 _ _ hpl).trans hpy, (k4 _ _ hal).trans a0, (k4 _ _ hal).trans a1, (k4 _ _ hal).trans a2, (k4 _ _ hbl).trans b0, (k4 _ _ hbl).trans b1, (k4 _ _ hbl).trans b2⟩)
            ((go_at_call 76; refine (compare_go _ _ _ _ _ _ _).mono ?_; rintro e w4 ⟨rfl, h4⟩; rw [HZ.out]; replace h4 : Below wr.heap.size wr w4 := (Below.refl wr.heap.size wr).drew.trans h4; have k4 := keep h4))
          all_goals
            go_wp2_with (go_at_call 75; refine (next_succ _ _ _ _ _ _ (HP.out.on (on hB h4)) lp (by assumption)).mono ?_; rintro e w' ⟨rfl, rfl⟩)
            go_roundw
            case rel =>
              have n1 := nextL_le (size := a.length) (p := p) (i := x + 1) h1
              have n2 := nextL_le (size := b.length) (p := p) (i := y + 1) h2
              exact ⟨_, _, rfl, rfl, n1.2, n2.2, on hB h4, by rw [HE.out, HS.out, ordV_same HZ.out, pick_next a p _ (x + 1) rfl h1, pick_next b p _ (y + 1) rfl h2], next_in _ p _ (x + 1) rfl, next_in _ p _ (y + 1) rfl⟩
            case measure =>
              have n1 := nextL_le (size := a.length) (p := p) (i := x + 1) h1
              simp [intOf]; omega
        · obtain ⟨r, hr⟩ : ∃ r, cmpV ⟨ka, na, sa⟩ ⟨kb, nb, sb⟩ = r := ⟨_, rfl⟩
          have HZ := Lib.hid hz; clear hz
          have hr0 : (r != 0) = true := by rw [← hr]; simpa using HZ.out
          have HR := Lib.hid hr; clear hr
          go_wp2_with fail
          go_region_held3 (fun u => Below wr.heap.size wr u ∧ u.cell? ⟨pb, po + x, none⟩ = some (.int .i64 (mx : Int)) ∧ u.cell? ⟨pb, po + y, none⟩ = some (.int .i64 (my : Int)) ∧ u.cell? ⟨ab, ao + mx * 3, none⟩ = some (.int .i64 ka) ∧ u.cell? ⟨ab, ao + mx * 3 + 1, none⟩ = some (.int .i64 na) ∧ u.cell? ⟨ab, ao + mx * 3 + 2, none⟩ = some (.string sa) ∧ u.cell? ⟨bb, bo + my * 3, none⟩ = some (.int .i64 kb) ∧ u.cell? ⟨bb, bo + my * 3 + 1, none⟩ = some (.int .i64 nb) ∧ u.cell? ⟨bb, bo + my * 3 + 2, none⟩ = some (.string sb))
            (first | exact ⟨Below.refl _ _, hpx, hpy, a0, a1, a2, b0, b1, b2⟩ | exact ⟨(Below.refl _ _).drew, hpx, hpy, a0, a1, a2, b0, b1, b2⟩ | exact ⟨h4, (k4 _ _ hpl).trans hpx, (k4 _ _ hpl).trans hpy, (k4 _ _ hal).trans a0, (k4 _ _ hal).trans a1, (k4 _ _ hal).trans a2, (k4 _ _ hbl).trans b0, (k4 _ _ hbl).trans b1, (k4 _ _ hbl).trans b2⟩)
            ((go_at_call 76; refine (compare_go _ _ _ _ _ _ _).mono ?_; rintro e w4 ⟨rfl, h4⟩; rw [HR.out]; replace h4 : Below wr.heap.size wr w4 := (Below.refl wr.heap.size wr).drew.trans h4; have k4 := keep h4))
          all_goals
            go_wp2
            go_ret
            exact ⟨ret_int (by rw [HE.out, HS.out, ordV_other HZ.out, HR.out]), on hB h4⟩
      · have hy' : y = p.length := by omega
        obtain ⟨cx, ecx, hcx⟩ := HXI.out h1
        obtain ⟨va, eva, ela⟩ := col_some hcx
        have HS := Lib.hid (show ordV (pickL a (p.drop x)) (pickL b (p.drop y)) = 1 by rw [show p.drop y = [] from List.drop_of_length_le (by omega), drop_at ecx, pickL_take ela, pickL_nil, ordV])
        clear eva ela ecx hcx HXI HYI hy'
        go_wp2
        go_ret
        exact ⟨ret_int (by rw [HE.out, HS.out]), hB⟩
    · by_cases h2 : y < p.length
      · obtain ⟨cy, ecy, hcy⟩ := HYI.out h2
        obtain ⟨vb, evb, elb⟩ := col_some hcy
        have HS := Lib.hid (show ordV (pickL a (p.drop x)) (pickL b (p.drop y)) = -1 by rw [show p.drop x = [] from List.drop_of_length_le (by omega), drop_at ecy, pickL_take elb, pickL_nil, ordV])
        clear evb elb ecy hcy HXI HYI
        go_wp2
        go_ret
        exact ⟨ret_int (by rw [HE.out, HS.out]), hB⟩
      · have HS := Lib.hid (show ordV (pickL a (p.drop x)) (pickL b (p.drop y)) = 0 by rw [List.drop_of_length_le (by omega), List.drop_of_length_le (by omega), pickL_nil, pickL_nil, ordV])
        clear HXI HYI
        go_wp2
        go_ret
        exact ⟨ret_int (by rw [HE.out, HS.out]), hB⟩
end Go.Proofs.YtpmkhpbhimmeiaaGreat

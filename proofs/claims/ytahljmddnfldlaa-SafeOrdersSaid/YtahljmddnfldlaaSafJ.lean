/-
  The document's answer: Ready.
-/
import Derived.Test.YtahljmddnfldlaaSafI
namespace Go.Proofs.Ytahljmddnfldlaa
open Go.RowKit FloM ValM Go.Shelf Go.Maps
set_option linter.unusedVariables false
set_option linter.unusedSimpArgs false
theorem lit_tm (x : LtI) (W1 : World) (g : Nat) (h : Row 43 W1 g (ltIC x)) :
    (∀ V, Below W1.heap.size W1 V → V.rangeAt g 4 (tmC x.a)) ∧ (∀ V, Below W1.heap.size W1 V → V.rangeAt g 8 (tmC x.b)) ∧ (∀ V, Below W1.heap.size W1 V → V.rangeAt g 12 (tmC x.c)) :=
  ⟨fun V hV j u hj => ((rowOn h hV).cell (4 + j)).trans (by match j, hj with | 0, h => exact h | 1, h => exact h | 2, h => exact h | 3, h => exact h | n + 4, h => simp [tmC] at h),
   fun V hV j u hj => ((rowOn h hV).cell (8 + j)).trans (by match j, hj with | 0, h => exact h | 1, h => exact h | 2, h => exact h | 3, h => exact h | n + 4, h => simp [tmC] at h),
   fun V hV j u hj => ((rowOn h hV).cell (12 + j)).trans (by match j, hj with | 0, h => exact h | 1, h => exact h | 2, h => exact h | 3, h => exact h | n + 4, h => simp [tmC] at h)⟩
theorem allS_iff (x : LtI) (S : List Nm) : allS (tmL x) S = (namesL (vsL x)).all fun v => decide (v ∈ S) := by
  have e : ∀ a b : Bool, (a = true ↔ b = true) → a = b := by decide
  apply e
  unfold allS
  rw [List.all_eq_true, List.all_eq_true]
  constructor
  · intro h v hv
    obtain ⟨hn, t, ht, rfl⟩ := vsT_mem.1 ((namesL_mem _ _).1 hv)
    have := h t ht
    unfold inS at this
    simpa [hn] using this
  · intro h t ht
    unfold inS
    by_cases hn : t.v = []
    · simp [hn]
    · have := h t.v ((namesL_mem _ _).2 (vsT_mem.2 ⟨hn, t, ht, rfl⟩))
      simpa [hn] using this
set_option maxRecDepth 20000 in
set_option maxHeartbeats 8000000 in
theorem ready11_2 (x : LtI) (A : Option Addr) (c : Nat) (l : List Nm) (W : World) (hx : x.rd W) (hl : x.m.a.length ≤ 1000) (hr : RdN W A l) (hk : x.k = 2) : Calls Try.prog 31 #[.agg (ltIC x).toArray, .slice A l.length c] W fun e w' => e = .returned (.bool (allS (tmL x) l)) ∧ Below W.heap.size W w' := by
  have hB0 : Below W.heap.size W (W.alloc (.cells (ltIC x).toArray 43)) := (Below.refl _ _).alloc (Nat.le_refl _) _
  have HB0 := Lib.hid hB0
  have hr0 := lit_row x W
  have HRN := Lib.hid (RdX.on hr hB0)
  have HV := Lib.hid (vars11_any x _ (hx.on hB0) hl)
  have HRG := Lib.hid (lit_at x W)
  rw [allS_iff]
  obtain ⟨R, hR⟩ : ∃ R, ((namesL (vsL x)).all fun v => decide (v ∈ l)) = R := ⟨_, rfl⟩
  rw [hR]
  have HR := Lib.hid hR
  clear hx hB0 hr hR
  go_enter Try.func31, Try.ntmps31
  go_upto_region 1 with fail
  generalize W.alloc (.cells (ltIC x).toArray 43) = W1 at *
  have c0 : W1.cell? ⟨W.heap.size, 0, none⟩ = some (.int .i64 2) := by rw [← hk]; exact hr0.cell 0
  clear hr0 hk
  go_wp2_with (first
    | (refine wpList_load_mid rfl 43 (.tmp 2) rfl W.heap.size 0 rfl (ltIC x) _ HRG.out Try.underlying43 rfl (by kernel_rfl) ?_)
    | (go_at_call 15; refine HV.out.mono ?_; rintro e w2 ⟨A2, c2, rfl, hO2, hB2⟩; have HO2 := Lib.hid hO2; have HB2 := Lib.hid hB2; clear hO2 hB2))
  have HR2 := Lib.hid (OwnN.rd HO2.out)
  have HR3 := Lib.hid (RdX.on HRN.out HB2.out)
  have hv9 : (namesL (vsL x)).length ≤ 9223372036854775807 := Nat.le_trans HR2.out.1 (by decide)
  clear HRG HV HO2
  generalize namesL (vsL x) = vs at *
  go_loopw [17] (fun j wq => wq = w2 ∧ ∃ k : Nat, j = .int .i64 (k : Nat) ∧ k ≤ vs.length ∧ (vs.take k).all (fun v => decide (v ∈ l)) = true) (fun j _ => vs.length - (intOf j).toNat)
  case atStart => exact ⟨rfl, 0, rfl, Nat.zero_le _, by simp⟩
  case round =>
    obtain ⟨rfl, k, rfl, hk, ha⟩ := hrel
    have HA := Lib.hid ha; clear ha
    by_cases hlt : k < vs.length
    · obtain ⟨v, hv⟩ : ∃ v, vs[k]? = some v := ⟨_, List.getElem?_eq_getElem hlt⟩
      obtain ⟨b8, o8, rfl, hb8, hc8⟩ := RdN.at_ HR2.out hv
      have HI := Lib.hid (in_any A c l v _ HR3.out)
      have HV := Lib.hid hv; clear hv
      by_cases hm : v ∈ l
      · have HM := Lib.hid hm; clear hm
        rw [decide_eq_true HM.out] at HI
        go_wp2_with (go_at_call 25; refine HI.out.mono ?_; rintro e w3 ⟨rfl, rfl⟩)
        go_roundw
        case rel => exact ⟨by trivial, k + 1, by go_num, by omega, by rw [List.take_add_one, HV.out, List.all_append, HA.out]; simpa using HM.out⟩
        case measure => simp [intOf]; omega
      · have HM := Lib.hid hm; clear hm
        rw [decide_eq_false HM.out] at HI
        have HF : Hid (R = false) := Lib.hid (by
          rw [← HR.out, List.all_eq_false]
          exact ⟨v, List.mem_of_getElem? HV.out, by simp [HM.out]⟩)
        go_wp2_with (go_at_call 25; refine HI.out.mono ?_; rintro e w3 ⟨rfl, rfl⟩)
        go_ret
        exact ⟨by rw [HF.out]; rfl, on HB0.out HB2.out⟩
    · obtain rfl : k = vs.length := by omega
      have HF : Hid (R = true) := Lib.hid (by rw [← HR.out]; have := HA.out; rwa [List.take_length] at this)
      go_wp2
      go_ret
      exact ⟨by rw [HF.out]; rfl, on HB0.out HB2.out⟩
set_option maxRecDepth 20000 in
set_option maxHeartbeats 8000000 in
theorem ready11_4 (x : LtI) (A : Option Addr) (c : Nat) (l : List Nm) (W : World) (hx : x.rd W) (hl : x.m.a.length ≤ 1000) (hr : RdN W A l) (hk : x.k = 4) : Calls Try.prog 31 #[.agg (ltIC x).toArray, .slice A l.length c] W fun e w' => e = .returned (.bool (inS x.b l && inS x.c l)) ∧ Below W.heap.size W w' := by
  have hB0 : Below W.heap.size W (W.alloc (.cells (ltIC x).toArray 43)) := (Below.refl _ _).alloc (Nat.le_refl _) _
  have HB0 := Lib.hid hB0
  have hr0 := lit_row x W
  have HRN := Lib.hid (RdX.on hr hB0)
  obtain ⟨P, hP⟩ : ∃ P, inS x.b l = P := ⟨_, rfl⟩
  obtain ⟨Q, hQ⟩ : ∃ Q, inS x.c l = Q := ⟨_, rfl⟩
  rw [hP, hQ]
  have HP := Lib.hid hP; have HQ := Lib.hid hQ
  clear hx hB0 hr hP hQ
  cases P <;> cases Q
  all_goals
    go_enter Try.func31, Try.ntmps31
    go_upto_region 1 with fail
    generalize W.alloc (.cells (ltIC x).toArray 43) = W1 at *
    have HRB := Lib.hid (lit_tm x W1 _ hr0).2.1
    have HRC := Lib.hid (lit_tm x W1 _ hr0).2.2
    have HIb : Hid (∀ V, Below W1.heap.size W1 V → Calls Try.prog 42 #[.agg #[.string (bs x.b.v), .int .i64 x.b.x.k, .int .i64 x.b.x.n, .string x.b.x.s], .slice A l.length c] V fun e w' => e = .returned (.bool (inS x.b l)) ∧ Below V.heap.size V w') := Lib.hid fun V hV => is_any x.b A c l V (RdX.on HRN.out hV)
    have HIc : Hid (∀ V, Below W1.heap.size W1 V → Calls Try.prog 42 #[.agg #[.string (bs x.c.v), .int .i64 x.c.x.k, .int .i64 x.c.x.n, .string x.c.x.s], .slice A l.length c] V fun e w' => e = .returned (.bool (inS x.c l)) ∧ Below V.heap.size V w') := Lib.hid fun V hV => is_any x.c A c l V (RdX.on HRN.out hV)
    rw [HP.out] at HIb
    rw [HQ.out] at HIc
    have c0 : W1.cell? ⟨W.heap.size, 0, none⟩ = some (.int .i64 4) := by rw [← hk]; exact hr0.cell 0
    clear hr0 hk
    have h4 : Below W1.heap.size W1 W1 := Below.refl _ _
    go_wp2_with (first
      | (refine wpList_load_mid rfl 40 (.tmp 55) rfl W.heap.size 8 rfl [.string (bs x.b.v), .int .i64 x.b.x.k, .int .i64 x.b.x.n, .string x.b.x.s] _ (HRB.out _ h4) Try.underlying40 rfl (by kernel_rfl) ?_)
      | (refine wpList_load_want rfl 40 (.tmp 60) rfl W.heap.size 12 rfl [.string (bs x.c.v), .int .i64 x.c.x.k, .int .i64 x.c.x.n, .string x.c.x.s] _ (HRC.out _ h4) Try.underlying40 rfl (by kernel_rfl) ?_)
      | (go_at_call 42; with_reducible refine (HIb.out _ h4).mono ?_; rintro e w3 ⟨rfl, h'⟩; replace h4 := on h4 h'; clear h'; clear HIb)
      | (go_at_call 42; with_reducible refine (HIc.out _ h4).mono ?_; rintro e w3 ⟨rfl, h'⟩; replace h4 := on h4 h'; clear h'; clear HIc))
    go_ret
    exact ⟨rfl, on HB0.out h4⟩
set_option maxRecDepth 20000 in
set_option maxHeartbeats 8000000 in
theorem ready11_3 (x : LtI) (A : Option Addr) (c : Nat) (l : List Nm) (W : World) (hx : x.rd W) (hl : x.m.a.length ≤ 1000) (hr : RdN W A l) (hk : x.k = 3) : Calls Try.prog 31 #[.agg (ltIC x).toArray, .slice A l.length c] W fun e w' => e = .returned (.bool ((inS x.a l && inS x.b l) || (decide (x.o = [61]) && (inS x.a l || inS x.b l)))) ∧ Below W.heap.size W w' := by
  have hB0 : Below W.heap.size W (W.alloc (.cells (ltIC x).toArray 43)) := (Below.refl _ _).alloc (Nat.le_refl _) _
  have HB0 := Lib.hid hB0
  have hr0 := lit_row x W
  have HRN := Lib.hid (RdX.on hr hB0)
  have fo : ((bs x.o).toList == [61]) = decide (x.o = [61]) := by rw [bsl]; by_cases h : x.o = [61] <;> simp [h]
  obtain ⟨P, hP⟩ : ∃ P, inS x.a l = P := ⟨_, rfl⟩
  obtain ⟨Q, hQ⟩ : ∃ Q, inS x.b l = Q := ⟨_, rfl⟩
  rw [hP, hQ]
  have HP := Lib.hid hP; have HQ := Lib.hid hQ
  clear hx hB0 hr hP hQ
  generalize decide (x.o = [61]) = E at *
  go_enter Try.func31, Try.ntmps31
  go_upto_region 1 with fail
  generalize W.alloc (.cells (ltIC x).toArray 43) = W1 at *
  have HRA := Lib.hid (lit_tm x W1 _ hr0).1
  have HRB := Lib.hid (lit_tm x W1 _ hr0).2.1
  have HROW := Lib.hid hr0
  have HIa : Hid (∀ V, Below W1.heap.size W1 V → Calls Try.prog 42 #[.agg #[.string (bs x.a.v), .int .i64 x.a.x.k, .int .i64 x.a.x.n, .string x.a.x.s], .slice A l.length c] V fun e w' => e = .returned (.bool (inS x.a l)) ∧ Below V.heap.size V w') := Lib.hid fun V hV => is_any x.a A c l V (RdX.on HRN.out hV)
  have HIb : Hid (∀ V, Below W1.heap.size W1 V → Calls Try.prog 42 #[.agg #[.string (bs x.b.v), .int .i64 x.b.x.k, .int .i64 x.b.x.n, .string x.b.x.s], .slice A l.length c] V fun e w' => e = .returned (.bool (inS x.b l)) ∧ Below V.heap.size V w') := Lib.hid fun V hV => is_any x.b A c l V (RdX.on HRN.out hV)
  rw [HP.out] at HIa
  rw [HQ.out] at HIb
  have c0 : W1.cell? ⟨W.heap.size, 0, none⟩ = some (.int .i64 3) := by rw [← hk]; exact hr0.cell 0
  clear hr0 hk
  go_upto_region 11 with fail
  refine wp_region_held_drew (S := fun u => Below W1.heap.size W1 u) (by kernel_rfl) (Below.refl _ _).drew (fun hHeld => ?_)
  refine wpAnyH_take (i := 0) (v := ?v0) rfl (by kernel_rfl) (by kernel_rfl) (by kernel_rfl) (fun _ _ _ h => h) (Or.inl ⟨by rfl, ?hy0⟩) hHeld ?rest0
  case hy0 => (intro w hSw; (try dsimp only at hSw); go_simp; try with_reducible rfl)
  try simp only [Act.put, List.setIfInBounds_toArray, List.set_cons_zero, List.set_cons_succ, List.getElem_toArray, List.getElem_cons_zero, List.getElem_cons_succ]
  refine wpAnyH_take (i := 1) (v := .agg #[.string (bs x.a.v), .int .i64 x.a.x.k, .int .i64 x.a.x.n, .string x.a.x.s]) rfl (by kernel_rfl) (by kernel_rfl) (by kernel_rfl) (fun _ _ _ h => h) (yieldsIf_load_mid (by rfl) 40 (.tmp 30) rfl W.heap.size 4 (by simp [Act.eval, Act.put]) [.string (bs x.a.v), .int .i64 x.a.x.k, .int .i64 x.a.x.n, .string x.a.x.s] _ (fun V hV => HRA.out V hV) Try.underlying40 rfl (by kernel_rfl)) hHeld ?rest1
  try simp only [Act.put, List.setIfInBounds_toArray, List.set_cons_zero, List.set_cons_succ, List.getElem_toArray, List.getElem_cons_zero, List.getElem_cons_succ]
  refine wpAnyH_take (i := 2) (v := ?v2) rfl (by kernel_rfl) (by kernel_rfl) (by kernel_rfl) (fun _ _ _ h => h) (Or.inl ⟨by rfl, ?hy2⟩) hHeld ?rest2
  case hy2 => (intro w hSw; (try dsimp only at hSw); go_simp; try with_reducible rfl)
  try simp only [Act.put, List.setIfInBounds_toArray, List.set_cons_zero, List.set_cons_succ, List.getElem_toArray, List.getElem_cons_zero, List.getElem_cons_succ]
  refine wpAnyH_take (i := 4) (v := ?v4) rfl (by kernel_rfl) (by kernel_rfl) (by kernel_rfl) (fun _ _ _ h => h) (Or.inl ⟨by rfl, ?hy4⟩) hHeld ?rest4
  case hy4 => (intro w hSw; (try dsimp only at hSw); go_simp; try with_reducible rfl)
  try simp only [Act.put, List.setIfInBounds_toArray, List.set_cons_zero, List.set_cons_succ, List.getElem_toArray, List.getElem_cons_zero, List.getElem_cons_succ]
  refine wpAnyH_take (i := 5) (v := .agg #[.string (bs x.b.v), .int .i64 x.b.x.k, .int .i64 x.b.x.n, .string x.b.x.s]) rfl (by kernel_rfl) (by kernel_rfl) (by kernel_rfl) (fun _ _ _ h => h) (yieldsIf_load_mid (by rfl) 40 (.tmp 34) rfl W.heap.size 8 (by simp [Act.eval, Act.put]) [.string (bs x.b.v), .int .i64 x.b.x.k, .int .i64 x.b.x.n, .string x.b.x.s] _ (fun V hV => HRB.out V hV) Try.underlying40 rfl (by kernel_rfl)) hHeld ?rest5
  try simp only [Act.put, List.setIfInBounds_toArray, List.set_cons_zero, List.set_cons_succ, List.getElem_toArray, List.getElem_cons_zero, List.getElem_cons_succ]
  refine wpAnyH_take (i := 6) (v := ?v6) rfl (by kernel_rfl) (by kernel_rfl) (by kernel_rfl) (fun _ _ _ h => h) (Or.inl ⟨by rfl, ?hy6⟩) hHeld ?rest6
  case hy6 => (intro w hSw; (try dsimp only at hSw); go_simp; try with_reducible rfl)
  try simp only [Act.put, List.setIfInBounds_toArray, List.set_cons_zero, List.set_cons_succ, List.getElem_toArray, List.getElem_cons_zero, List.getElem_cons_succ]
  clear hHeld
  refine wpAnyH_ready (rs := [3]) (by kernel_rfl) (by simp) ?_
  refine AllReadyH.cons rfl (fun K hK => ?_) AllReadyH.nil
  go_simp
  go_at_call 42
  refine (HIa.out _ (Below.refl _ _).drew).mono ?_
  rintro e w3 ⟨rfl, h3⟩
  have H3 : Hid (Below W1.heap.size W1 w3) := Lib.hid (on (Below.refl _ _).drew h3)
  clear h3
  dsimp only
  refine hK.out _ _ H3.out (fun _ => ?_)
  clear hK K
  refine wpAnyH_ready (rs := [7]) (by kernel_rfl) (by simp) ?_
  refine AllReadyH.cons rfl (fun K hK => ?_) AllReadyH.nil
  go_simp
  go_at_call 42
  refine (HIb.out _ H3.out).mono ?_
  rintro e w5 ⟨rfl, h5⟩
  have H5 : Hid (Below W1.heap.size W1 w5) := Lib.hid (on H3.out h5)
  clear h5
  dsimp only
  refine hK.out _ _ H5.out (fun _ => ?_)
  clear hK K
  refine wpAnyH_ready (rs := [8]) (by kernel_rfl) (by simp) ?_
  refine AllReadyH.cons rfl (fun K hK => ?_) AllReadyH.nil
  go_simp
  refine hK.out _ _ H5.out (fun _ => ?_)
  clear hK K
  refine wpAnyH_ready (rs := [9]) (by kernel_rfl) (by simp) ?_
  refine AllReadyH.cons rfl (fun K hK => ?_) AllReadyH.nil
  go_simp
  refine hK.out _ _ H5.out (fun _ => ?_)
  clear hK K
  refine wpAnyH_done (by kernel_rfl) ?_ _
  try simp only [Act.put, List.setIfInBounds_toArray, List.set_cons_zero, List.set_cons_succ, List.getElem_toArray, List.getElem_cons_zero, List.getElem_cons_succ]
  have c3 : w5.cell? ⟨W.heap.size, 3, none⟩ = some (.string (bs x.o)) := (rowOn HROW.out H5.out).cell 3
  clear HIa HIb HROW HRA HRB HP HQ HRN
  cases P <;> cases Q <;> cases E
  all_goals
    go_wp2
    go_ret
    exact ⟨rfl, on HB0.out H5.out⟩
set_option maxRecDepth 20000 in
set_option maxHeartbeats 8000000 in
theorem ready11_0 (x : LtI) (A : Option Addr) (c : Nat) (l : List Nm) (W : World) (hx : x.rd W) (hl : x.m.a.length ≤ 1000) (hr : RdN W A l) (h2 : x.k ≠ 2) (h3 : x.k ≠ 3) (h4 : x.k ≠ 4) : Calls Try.prog 31 #[.agg (ltIC x).toArray, .slice A l.length c] W fun e w' => e = .returned (.bool true) ∧ Below W.heap.size W w' := by
  have hB0 : Below W.heap.size W (W.alloc (.cells (ltIC x).toArray 43)) := (Below.refl _ _).alloc (Nat.le_refl _) _
  have HB0 := Lib.hid hB0
  have hr0 := lit_row x W
  have HRN := Lib.hid (RdX.on hr hB0)
  clear hx hB0 hr
  go_enter Try.func31, Try.ntmps31
  go_upto_region 1 with fail
  generalize W.alloc (.cells (ltIC x).toArray 43) = W1 at *
  have c0 : W1.cell? ⟨W.heap.size, 0, none⟩ = some (.int .i64 x.k) := hr0.cell 0
  have g2 : (x.k == 2) = false := by rw [beq_eq_false_iff_ne]; exact h2
  have g3 : (x.k == 3) = false := by rw [beq_eq_false_iff_ne]; exact h3
  have g4 : (x.k == 4) = false := by rw [beq_eq_false_iff_ne]; exact h4
  clear hr0 h2 h3 h4
  go_wp2
  go_ret
  exact ⟨rfl, HB0.out⟩
theorem ready11_any (x : LtI) (A : Option Addr) (c : Nat) (l : List Nm) (W : World) (hx : x.rd W) (hl : x.m.a.length ≤ 1000) (hr : RdN W A l) : Calls Try.prog 31 #[.agg (ltIC x).toArray, .slice A l.length c] W fun e w' => e = .returned (.bool (readyL x l)) ∧ Below W.heap.size W w' := by
  unfold readyL
  by_cases h2 : x.k = 2
  · rw [if_pos h2]; exact ready11_2 x A c l W hx hl hr h2
  by_cases h3 : x.k = 3
  · rw [if_neg h2, if_pos h3]; exact ready11_3 x A c l W hx hl hr h3
  by_cases h4 : x.k = 4
  · rw [if_neg h2, if_neg h3, if_pos h4]; exact ready11_4 x A c l W hx hl hr h4
  · rw [if_neg h2, if_neg h3, if_neg h4]; exact ready11_0 x A c l W hx hl hr h2 h3 h4
end Go.Proofs.Ytahljmddnfldlaa

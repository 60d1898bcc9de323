/-
  The document's answer: is, terms, Vars, Binds.
-/
import Derived.Test.YtahljmddnfldlaaSafU
namespace Go.Proofs.Ytahljmddnfldlaa
open Go.RowKit FloM ValM Go.Shelf Go.Maps
set_option linter.unusedVariables false
set_option linter.unusedSimpArgs false
set_option maxRecDepth 20000 in
set_option maxHeartbeats 8000000 in
theorem is_any (t : Tm) (A : Option Addr) (c : Nat) (l : List Nm) (W : World) (h : RdN W A l) : Calls Try.prog 42 #[.agg (tmC t).toArray, .slice A l.length c] W fun e w' => e = .returned (.bool (inS t l)) ∧ Below W.heap.size W w' := by
  have hB0 : Below W.heap.size W (W.alloc (.cells (tmC t).toArray 40)) := (Below.refl _ _).alloc (Nat.le_refl _) _
  have HB0 := Lib.hid hB0
  have hr0 : Row 40 (W.alloc (.cells (tmC t).toArray 40)) W.heap.size (tmC t) := row_new W _
  have HIN := Lib.hid (in_any A c l t.v _ (RdX.on h hB0))
  obtain ⟨R, hR⟩ : ∃ R, inS t l = R := ⟨_, rfl⟩
  rw [hR]
  have HR := Lib.hid hR
  clear h hR
  go_enter Try.func42, Try.ntmps42
  go_upto_region 1 with fail
  generalize W.alloc (.cells (tmC t).toArray 40) = W1 at *
  have c0 : W1.cell? ⟨W.heap.size, 0, none⟩ = some (.string (bs t.v)) := hr0.cell 0
  clear hr0 hB0
  by_cases hv : t.v = []
  · have f1 : ((bs t.v).toList == []) = true := by rw [bsl, hv]; rfl
    have HE : Hid (R = true) := Lib.hid (by rw [← HR.out]; unfold inS; simp [hv])
    clear hv
    go_wp2
    go_ret
    exact ⟨by rw [HE.out]; rfl, HB0.out⟩
  · have f1 : ((bs t.v).toList == []) = false := by rw [bsl, beq_eq_false_iff_ne]; exact hv
    have HE : Hid (decide (t.v ∈ l) = R) := Lib.hid (by rw [← HR.out]; unfold inS; simp [hv])
    rw [HE.out] at HIN
    clear hv
    go_wp2_with (go_at_call 25; refine HIN.out.mono ?_; rintro e w3 ⟨rfl, rfl⟩)
    go_ret
    exact ⟨rfl, HB0.out⟩
set_option maxRecDepth 20000 in
set_option maxHeartbeats 8000000 in
theorem terms11_any (x : LtI) (W : World) (hx : x.rd W) (hl : x.m.a.length ≤ 1000) : Calls Try.prog 32 #[.agg (ltIC x).toArray] W (SaysT (tmL x) W) := by
  have hB0 : Below W.heap.size W (W.alloc (.cells (ltIC x).toArray 43)) := (Below.refl _ _).alloc (Nat.le_refl _) _
  have HB0 := Lib.hid hB0
  have HR := Lib.hid (lit_row x W)
  have HM := Lib.hid (RdX.on hx.1 hB0)
  clear hx hB0
  go_enter Try.func32, Try.ntmps32
  go_upto_region 1 with fail
  generalize W.alloc (.cells (ltIC x).toArray 43) = W1 at *
  have HRa : Hid (∀ V, Below W1.heap.size W1 V → V.rangeAt W.heap.size 4 (tmC x.a)) := Lib.hid fun V hV j u hj => ((rowOn HR.out hV).cell (4 + j)).trans (by match j, hj with | 0, h => exact h | 1, h => exact h | 2, h => exact h | 3, h => exact h | n + 4, h => simp [tmC] at h)
  have HRb : Hid (∀ V, Below W1.heap.size W1 V → V.rangeAt W.heap.size 8 (tmC x.b)) := Lib.hid fun V hV j u hj => ((rowOn HR.out hV).cell (8 + j)).trans (by match j, hj with | 0, h => exact h | 1, h => exact h | 2, h => exact h | 3, h => exact h | n + 4, h => simp [tmC] at h)
  have HRc : Hid (∀ V, Below W1.heap.size W1 V → V.rangeAt W.heap.size 12 (tmC x.c)) := Lib.hid fun V hV j u hj => ((rowOn HR.out hV).cell (12 + j)).trans (by match j, hj with | 0, h => exact h | 1, h => exact h | 2, h => exact h | 3, h => exact h | n + 4, h => simp [tmC] at h)
  have c2 : W1.cell? ⟨W.heap.size, 2, none⟩ = some (.slice x.m.A x.m.a.length x.m.c) := HR.out.cell 2
  have hgl : W.heap.size < W1.heap.size := (Array.getElem?_eq_some_iff.1 HR.out).1
  obtain ⟨i0, hi0, hz0, hz1, hz2⟩ := info_parts infoTm
  have HI0 := Lib.hid hi0; have HZ0 := Lib.hid hz0; have HZ1 := Lib.hid hz1; have HZ2 := Lib.hid hz2
  clear hi0 hz0 hz1 hz2
  have hbW1 : Below W1.heap.size W1 W1 := Below.refl _ _
  refine wp_region_held_drew (S := fun u => Below W1.heap.size W1 u) (by kernel_rfl) (Below.refl _ _).drew (fun hHeld => ?_)
  refine wpAnyH_take (i := 1) (v := ?v1) rfl (by kernel_rfl) (by kernel_rfl) (by kernel_rfl) (fun _ _ _ h => h) (Or.inl ⟨by rfl, ?hy1⟩) hHeld ?rest1
  case hy1 => (intro w hSw; (try dsimp only at hSw); have hz0 := (keep hSw _ _ hgl).trans c2; go_simp; try with_reducible rfl)
  try simp only [Act.put, List.setIfInBounds_toArray, List.set_cons_zero, List.set_cons_succ, List.getElem_toArray, List.getElem_cons_zero, List.getElem_cons_succ]
  refine wpAnyH_take (i := 2) (v := ?v2) rfl (by kernel_rfl) (by kernel_rfl) (by kernel_rfl) (fun _ _ _ h => h) (Or.inl ⟨by rfl, ?hy2⟩) hHeld ?rest2
  case hy2 => (intro w hSw; (try dsimp only at hSw); have hz0 := (keep hSw _ _ hgl).trans c2; go_simp; try with_reducible rfl)
  try simp only [Act.put, List.setIfInBounds_toArray, List.set_cons_zero, List.set_cons_succ, List.getElem_toArray, List.getElem_cons_zero, List.getElem_cons_succ]
  refine wpAnyH_take (i := 3) (v := ?v3) rfl (by kernel_rfl) (by kernel_rfl) (by kernel_rfl) (fun _ _ _ h => h) (Or.inl ⟨by rfl, ?hy3⟩) hHeld ?rest3
  case hy3 => (intro w hSw; (try dsimp only at hSw); have hz0 := (keep hSw _ _ hgl).trans c2; go_simp; try with_reducible rfl)
  try simp only [Act.put, List.setIfInBounds_toArray, List.set_cons_zero, List.set_cons_succ, List.getElem_toArray, List.getElem_cons_zero, List.getElem_cons_succ]
  refine wpAnyH_take (i := 5) (v := ?v5) rfl (by kernel_rfl) (by kernel_rfl) (by kernel_rfl) (fun _ _ _ h => h) (Or.inl ⟨by rfl, ?hy5⟩) hHeld ?rest5
  case hy5 => (intro w hSw; (try dsimp only at hSw); have hz0 := (keep hSw _ _ hgl).trans c2; go_simp; try with_reducible rfl)
  try simp only [Act.put, List.setIfInBounds_toArray, List.set_cons_zero, List.set_cons_succ, List.getElem_toArray, List.getElem_cons_zero, List.getElem_cons_succ]
  refine wpAnyH_take (i := 6) (v := .agg #[.string (bs x.a.v), .int .i64 x.a.x.k, .int .i64 x.a.x.n, .string x.a.x.s]) rfl (by kernel_rfl) (by kernel_rfl) (by kernel_rfl) (fun _ _ _ h => h) (yieldsIf_load_mid (by rfl) 40 (.tmp 8) rfl W.heap.size 4 (by simp [Act.eval, Act.put]) [.string (bs x.a.v), .int .i64 x.a.x.k, .int .i64 x.a.x.n, .string x.a.x.s] _ (fun V hV => HRa.out V hV) Try.underlying40 rfl (by kernel_rfl)) hHeld ?rest6
  try simp only [Act.put, List.setIfInBounds_toArray, List.set_cons_zero, List.set_cons_succ, List.getElem_toArray, List.getElem_cons_zero, List.getElem_cons_succ]
  refine wpAnyH_take (i := 7) (v := ?v7) rfl (by kernel_rfl) (by kernel_rfl) (by kernel_rfl) (fun _ _ _ h => h) (Or.inl ⟨by rfl, ?hy7⟩) hHeld ?rest7
  case hy7 => (intro w hSw; (try dsimp only at hSw); have hz0 := (keep hSw _ _ hgl).trans c2; go_simp; try with_reducible rfl)
  try simp only [Act.put, List.setIfInBounds_toArray, List.set_cons_zero, List.set_cons_succ, List.getElem_toArray, List.getElem_cons_zero, List.getElem_cons_succ]
  refine wpAnyH_take (i := 8) (v := .agg #[.string (bs x.b.v), .int .i64 x.b.x.k, .int .i64 x.b.x.n, .string x.b.x.s]) rfl (by kernel_rfl) (by kernel_rfl) (by kernel_rfl) (fun _ _ _ h => h) (yieldsIf_load_mid (by rfl) 40 (.tmp 10) rfl W.heap.size 8 (by simp [Act.eval, Act.put]) [.string (bs x.b.v), .int .i64 x.b.x.k, .int .i64 x.b.x.n, .string x.b.x.s] _ (fun V hV => HRb.out V hV) Try.underlying40 rfl (by kernel_rfl)) hHeld ?rest8
  try simp only [Act.put, List.setIfInBounds_toArray, List.set_cons_zero, List.set_cons_succ, List.getElem_toArray, List.getElem_cons_zero, List.getElem_cons_succ]
  refine wpAnyH_take (i := 9) (v := ?v9) rfl (by kernel_rfl) (by kernel_rfl) (by kernel_rfl) (fun _ _ _ h => h) (Or.inl ⟨by rfl, ?hy9⟩) hHeld ?rest9
  case hy9 => (intro w hSw; (try dsimp only at hSw); have hz0 := (keep hSw _ _ hgl).trans c2; go_simp; try with_reducible rfl)
  try simp only [Act.put, List.setIfInBounds_toArray, List.set_cons_zero, List.set_cons_succ, List.getElem_toArray, List.getElem_cons_zero, List.getElem_cons_succ]
  refine wpAnyH_take (i := 10) (v := .agg #[.string (bs x.c.v), .int .i64 x.c.x.k, .int .i64 x.c.x.n, .string x.c.x.s]) rfl (by kernel_rfl) (by kernel_rfl) (by kernel_rfl) (fun _ _ _ h => h) (yieldsIf_load_mid (by rfl) 40 (.tmp 12) rfl W.heap.size 12 (by simp [Act.eval, Act.put]) [.string (bs x.c.v), .int .i64 x.c.x.k, .int .i64 x.c.x.n, .string x.c.x.s] _ (fun V hV => HRc.out V hV) Try.underlying40 rfl (by kernel_rfl)) hHeld ?rest10
  try simp only [Act.put, List.setIfInBounds_toArray, List.set_cons_zero, List.set_cons_succ, List.getElem_toArray, List.getElem_cons_zero, List.getElem_cons_succ]
  clear hHeld
  refine wpAnyH_ready (rs := [0, 11]) (by kernel_rfl) (by simp) ?_
  refine AllReadyH.cons rfl (fun K hK => ?_) (AllReadyH.cons rfl (fun K hK => ?_) AllReadyH.nil)
  · skip
    go_simp
    obtain ⟨V1, hV1⟩ : ∃ V', ((W1).alloc (.cells #[] 40)).drew = V' := ⟨_, rfl⟩
    have hb1 : Below W1.heap.size W1 V1 := hV1 ▸ ((hbW1).alloc (hbW1).size _).drew
    have bb1 : Below W1.heap.size (W1) V1 := hV1 ▸ ((Below.refl _ _).alloc (Nat.le_refl _) _).drew
    have zz1 : Hid (V1.heap.size = (W1).heap.size + 1) := Lib.hid (by rw [← hV1]; simp [World.drew])
    have own1 : V1.ownsRow W1.heap.size 40 4 (.slice (some ⟨(W1).heap.size, 0, none⟩) 0 0) 0 [] := hV1 ▸ own_less (World.ownsRow_made (W1) #[] 0 (Nat.le_refl _) (Nat.zero_le _) rfl) (hbW1).size
    rw [hV1]
    clear hV1
    refine hK.out _ _ hb1 (fun _ => ?_)
    clear hK K
    refine wpAnyH_ready (rs := [4, 11]) (by kernel_rfl) (by simp) ?_
    refine AllReadyH.cons rfl (fun K hK => ?_) (AllReadyH.cons rfl (fun K hK => ?_) AllReadyH.nil)
    · skip
      rw [if_pos (by rfl)]
      try simp only [Act.put, List.setIfInBounds_toArray, List.set_cons_zero, List.set_cons_succ, List.getElem_toArray, List.getElem_cons_zero, List.getElem_cons_succ]
      refine step_appX (cl := tmC) (sz := 4) (fun _ => rfl) tm_one (by omega) (.tmp 3) (.tmp 6) 34 rfl W1.heap.size 40 i0 _ 48 Try.underlying34 HI0.out HZ0.out HZ1.out HZ2.out rfl (by omega) (some ⟨(W1).heap.size, 0, none⟩) 0 0 [] rfl own1 x.m.A x.m.c x.m.a rfl (RdX.on HM.out hb1) (by omega) (hb1).size ?_
      intro A2 c2 V2 o2 g2
      rw [Nat.zero_add] at o2 ⊢
      rw [List.nil_append] at o2
      have hb2 : Below W1.heap.size W1 V2 := (hb1).grown g2 (hb1).size (own_base own1)
      have own2 := o2
      refine hK.out _ _ hb2 (fun _ => ?_)
      clear hK K
      refine wpAnyH_ready (rs := [11]) (by kernel_rfl) (by simp) ?_
      refine AllReadyH.cons rfl (fun K hK => ?_) AllReadyH.nil
      go_simp
      obtain ⟨V3, hV3⟩ : ∃ V', ((V2).alloc (.cells #[.string (bs x.a.v), .int .i64 x.a.x.k, .int .i64 x.a.x.n, .string x.a.x.s, .string (bs x.b.v), .int .i64 x.b.x.k, .int .i64 x.b.x.n, .string x.b.x.s, .string (bs x.c.v), .int .i64 x.c.x.k, .int .i64 x.c.x.n, .string x.c.x.s] 40)) = V' := ⟨_, rfl⟩
      have hb3 : Below W1.heap.size W1 V3 := hV3 ▸ ((hb2).alloc (hb2).size _)
      have bb3 : Below V2.heap.size (V2) V3 := hV3 ▸ ((Below.refl _ _).alloc (Nat.le_refl _) _)
      have zz3 : Hid (V3.heap.size = (V2).heap.size + 1) := Lib.hid (by rw [← hV3]; simp [World.drew])
      have row3 : RdX 4 tmC V3 (some ⟨(V2).heap.size, 0, none⟩) [x.a, x.b, x.c] := hV3 ▸ rdX_row (cl := tmC) (fun _ => rfl) (few_max (by show 3 ≤ 1000; decide)) (row_new (t := 40) (V2) (cellsOf tmC [x.a, x.b, x.c]))
      have own3 := own_on own2 bb3
      rw [hV3]
      clear hV3
      refine hK.out _ _ hb3 (fun _ => ?_)
      clear hK K
      refine wpAnyH_ready (rs := [12]) (by kernel_rfl) (by simp) ?_
      refine AllReadyH.cons rfl (fun K hK => ?_) AllReadyH.nil
      rw [if_pos (by rfl)]
      try simp only [Act.put, List.setIfInBounds_toArray, List.set_cons_zero, List.set_cons_succ, List.getElem_toArray, List.getElem_cons_zero, List.getElem_cons_succ]
      refine step_appX (cl := tmC) (sz := 4) (fun _ => rfl) tm_one (by omega) (.tmp 7) (.tmp 14) 34 rfl W1.heap.size 40 i0 _ 48 Try.underlying34 HI0.out HZ0.out HZ1.out HZ2.out rfl (by omega) A2 x.m.a.length c2 (cellsOf tmC x.m.a) rfl own3 (some ⟨(V2).heap.size, 0, none⟩) 3 [x.a, x.b, x.c] rfl row3 (by simp; omega) (hb3).size ?_
      intro A4 c4 V4 o4 g4
      have hb4 : Below W1.heap.size W1 V4 := (hb3).grown g4 (hb3).size (own_base own3)
      refine hK.out _ _ hb4 (fun _ => ?_)
      clear hK K
      refine wpAnyH_ready (rs := [13]) (by kernel_rfl) (by simp) ?_
      refine AllReadyH.cons rfl (fun K hK => ?_) AllReadyH.nil
      go_simp
      refine hK.out _ _ (hb4) (fun _ => ?_)
      clear hK K
      refine wpAnyH_done (by kernel_rfl) ?_ _
      try simp only [Act.put, List.setIfInBounds_toArray, List.set_cons_zero, List.set_cons_succ, List.getElem_toArray, List.getElem_cons_zero, List.getElem_cons_succ]
      go_wp2
      go_ret
      refine ⟨A4, c4, by rw [tmL, List.length_append]; rfl, ?_, on HB0.out (hb4)⟩
      unfold OwnX; rw [tmL, List.length_append, cellsOf_app]
      exact own_less o4 HB0.out.size
    · skip
      go_simp
      obtain ⟨V5, hV5⟩ : ∃ V', ((V1).alloc (.cells #[.string (bs x.a.v), .int .i64 x.a.x.k, .int .i64 x.a.x.n, .string x.a.x.s, .string (bs x.b.v), .int .i64 x.b.x.k, .int .i64 x.b.x.n, .string x.b.x.s, .string (bs x.c.v), .int .i64 x.c.x.k, .int .i64 x.c.x.n, .string x.c.x.s] 40)) = V' := ⟨_, rfl⟩
      have hb5 : Below W1.heap.size W1 V5 := hV5 ▸ ((hb1).alloc (hb1).size _)
      have bb5 : Below V1.heap.size (V1) V5 := hV5 ▸ ((Below.refl _ _).alloc (Nat.le_refl _) _)
      have zz5 : Hid (V5.heap.size = (V1).heap.size + 1) := Lib.hid (by rw [← hV5]; simp [World.drew])
      have row5 : RdX 4 tmC V5 (some ⟨(V1).heap.size, 0, none⟩) [x.a, x.b, x.c] := hV5 ▸ rdX_row (cl := tmC) (fun _ => rfl) (few_max (by show 3 ≤ 1000; decide)) (row_new (t := 40) (V1) (cellsOf tmC [x.a, x.b, x.c]))
      have own5 := own_on own1 bb5
      rw [hV5]
      clear hV5
      refine hK.out _ _ hb5 (fun _ => ?_)
      clear hK K
      refine wpAnyH_ready (rs := [4]) (by kernel_rfl) (by simp) ?_
      refine AllReadyH.cons rfl (fun K hK => ?_) AllReadyH.nil
      rw [if_pos (by rfl)]
      try simp only [Act.put, List.setIfInBounds_toArray, List.set_cons_zero, List.set_cons_succ, List.getElem_toArray, List.getElem_cons_zero, List.getElem_cons_succ]
      refine step_appX (cl := tmC) (sz := 4) (fun _ => rfl) tm_one (by omega) (.tmp 3) (.tmp 6) 34 rfl W1.heap.size 40 i0 _ 48 Try.underlying34 HI0.out HZ0.out HZ1.out HZ2.out rfl (by omega) (some ⟨(W1).heap.size, 0, none⟩) 0 0 [] rfl own5 x.m.A x.m.c x.m.a rfl (RdX.on HM.out hb5) (by omega) (hb5).size ?_
      intro A6 c6 V6 o6 g6
      rw [Nat.zero_add] at o6 ⊢
      rw [List.nil_append] at o6
      have hb6 : Below W1.heap.size W1 V6 := (hb5).grown g6 (hb5).size (own_base own5)
      have own6 := o6
      have row6 := RdX.onF row5 (fun _ a ha e => by have z1 := zz1.out; have z5 := zz5.out; cases ha; simp [Value.ownBlock] at e; omega) (fr_of_grown g6)
      refine hK.out _ _ hb6 (fun _ => ?_)
      clear hK K
      refine wpAnyH_ready (rs := [12]) (by kernel_rfl) (by simp) ?_
      refine AllReadyH.cons rfl (fun K hK => ?_) AllReadyH.nil
      rw [if_pos (by rfl)]
      try simp only [Act.put, List.setIfInBounds_toArray, List.set_cons_zero, List.set_cons_succ, List.getElem_toArray, List.getElem_cons_zero, List.getElem_cons_succ]
      refine step_appX (cl := tmC) (sz := 4) (fun _ => rfl) tm_one (by omega) (.tmp 7) (.tmp 14) 34 rfl W1.heap.size 40 i0 _ 48 Try.underlying34 HI0.out HZ0.out HZ1.out HZ2.out rfl (by omega) A6 x.m.a.length c6 (cellsOf tmC x.m.a) rfl own6 (some ⟨(V1).heap.size, 0, none⟩) 3 [x.a, x.b, x.c] rfl row6 (by simp; omega) (hb6).size ?_
      intro A7 c7 V7 o7 g7
      have hb7 : Below W1.heap.size W1 V7 := (hb6).grown g7 (hb6).size (own_base own6)
      refine hK.out _ _ hb7 (fun _ => ?_)
      clear hK K
      refine wpAnyH_ready (rs := [13]) (by kernel_rfl) (by simp) ?_
      refine AllReadyH.cons rfl (fun K hK => ?_) AllReadyH.nil
      go_simp
      refine hK.out _ _ (hb7) (fun _ => ?_)
      clear hK K
      refine wpAnyH_done (by kernel_rfl) ?_ _
      try simp only [Act.put, List.setIfInBounds_toArray, List.set_cons_zero, List.set_cons_succ, List.getElem_toArray, List.getElem_cons_zero, List.getElem_cons_succ]
      go_wp2
      go_ret
      refine ⟨A7, c7, by rw [tmL, List.length_append]; rfl, ?_, on HB0.out (hb7)⟩
      unfold OwnX; rw [tmL, List.length_append, cellsOf_app]
      exact own_less o7 HB0.out.size
  · skip
    go_simp
    obtain ⟨V8, hV8⟩ : ∃ V', ((W1).alloc (.cells #[.string (bs x.a.v), .int .i64 x.a.x.k, .int .i64 x.a.x.n, .string x.a.x.s, .string (bs x.b.v), .int .i64 x.b.x.k, .int .i64 x.b.x.n, .string x.b.x.s, .string (bs x.c.v), .int .i64 x.c.x.k, .int .i64 x.c.x.n, .string x.c.x.s] 40)).drew = V' := ⟨_, rfl⟩
    have hb8 : Below W1.heap.size W1 V8 := hV8 ▸ ((hbW1).alloc (hbW1).size _).drew
    have bb8 : Below W1.heap.size (W1) V8 := hV8 ▸ ((Below.refl _ _).alloc (Nat.le_refl _) _).drew
    have zz8 : Hid (V8.heap.size = (W1).heap.size + 1) := Lib.hid (by rw [← hV8]; simp [World.drew])
    have row8 : RdX 4 tmC V8 (some ⟨(W1).heap.size, 0, none⟩) [x.a, x.b, x.c] := hV8 ▸ rdX_row (cl := tmC) (fun _ => rfl) (few_max (by show 3 ≤ 1000; decide)) (row_new (t := 40) (W1) (cellsOf tmC [x.a, x.b, x.c]))
    rw [hV8]
    clear hV8
    refine hK.out _ _ hb8 (fun _ => ?_)
    clear hK K
    refine wpAnyH_ready (rs := [0]) (by kernel_rfl) (by simp) ?_
    refine AllReadyH.cons rfl (fun K hK => ?_) AllReadyH.nil
    go_simp
    obtain ⟨V9, hV9⟩ : ∃ V', ((V8).alloc (.cells #[] 40)) = V' := ⟨_, rfl⟩
    have hb9 : Below W1.heap.size W1 V9 := hV9 ▸ ((hb8).alloc (hb8).size _)
    have bb9 : Below V8.heap.size (V8) V9 := hV9 ▸ ((Below.refl _ _).alloc (Nat.le_refl _) _)
    have zz9 : Hid (V9.heap.size = (V8).heap.size + 1) := Lib.hid (by rw [← hV9]; simp [World.drew])
    have own9 : V9.ownsRow W1.heap.size 40 4 (.slice (some ⟨(V8).heap.size, 0, none⟩) 0 0) 0 [] := hV9 ▸ own_less (World.ownsRow_made (V8) #[] 0 (Nat.le_refl _) (Nat.zero_le _) rfl) (hb8).size
    have row9 := RdX.on row8 bb9
    rw [hV9]
    clear hV9
    refine hK.out _ _ hb9 (fun _ => ?_)
    clear hK K
    refine wpAnyH_ready (rs := [4]) (by kernel_rfl) (by simp) ?_
    refine AllReadyH.cons rfl (fun K hK => ?_) AllReadyH.nil
    rw [if_pos (by rfl)]
    try simp only [Act.put, List.setIfInBounds_toArray, List.set_cons_zero, List.set_cons_succ, List.getElem_toArray, List.getElem_cons_zero, List.getElem_cons_succ]
    refine step_appX (cl := tmC) (sz := 4) (fun _ => rfl) tm_one (by omega) (.tmp 3) (.tmp 6) 34 rfl W1.heap.size 40 i0 _ 48 Try.underlying34 HI0.out HZ0.out HZ1.out HZ2.out rfl (by omega) (some ⟨(V8).heap.size, 0, none⟩) 0 0 [] rfl own9 x.m.A x.m.c x.m.a rfl (RdX.on HM.out hb9) (by omega) (hb9).size ?_
    intro A10 c10 V10 o10 g10
    rw [Nat.zero_add] at o10 ⊢
    rw [List.nil_append] at o10
    have hb10 : Below W1.heap.size W1 V10 := (hb9).grown g10 (hb9).size (own_base own9)
    have own10 := o10
    have row10 := RdX.onF row9 (fun _ a ha e => by have z8 := zz8.out; have z9 := zz9.out; cases ha; simp [Value.ownBlock] at e; omega) (fr_of_grown g10)
    refine hK.out _ _ hb10 (fun _ => ?_)
    clear hK K
    refine wpAnyH_ready (rs := [12]) (by kernel_rfl) (by simp) ?_
    refine AllReadyH.cons rfl (fun K hK => ?_) AllReadyH.nil
    rw [if_pos (by rfl)]
    try simp only [Act.put, List.setIfInBounds_toArray, List.set_cons_zero, List.set_cons_succ, List.getElem_toArray, List.getElem_cons_zero, List.getElem_cons_succ]
    refine step_appX (cl := tmC) (sz := 4) (fun _ => rfl) tm_one (by omega) (.tmp 7) (.tmp 14) 34 rfl W1.heap.size 40 i0 _ 48 Try.underlying34 HI0.out HZ0.out HZ1.out HZ2.out rfl (by omega) A10 x.m.a.length c10 (cellsOf tmC x.m.a) rfl own10 (some ⟨(W1).heap.size, 0, none⟩) 3 [x.a, x.b, x.c] rfl row10 (by simp; omega) (hb10).size ?_
    intro A11 c11 V11 o11 g11
    have hb11 : Below W1.heap.size W1 V11 := (hb10).grown g11 (hb10).size (own_base own10)
    refine hK.out _ _ hb11 (fun _ => ?_)
    clear hK K
    refine wpAnyH_ready (rs := [13]) (by kernel_rfl) (by simp) ?_
    refine AllReadyH.cons rfl (fun K hK => ?_) AllReadyH.nil
    go_simp
    refine hK.out _ _ (hb11) (fun _ => ?_)
    clear hK K
    refine wpAnyH_done (by kernel_rfl) ?_ _
    try simp only [Act.put, List.setIfInBounds_toArray, List.set_cons_zero, List.set_cons_succ, List.getElem_toArray, List.getElem_cons_zero, List.getElem_cons_succ]
    go_wp2
    go_ret
    refine ⟨A11, c11, by rw [tmL, List.length_append]; rfl, ?_, on HB0.out (hb11)⟩
    unfold OwnX; rw [tmL, List.length_append, cellsOf_app]
    exact own_less o11 HB0.out.size
set_option maxRecDepth 20000 in
set_option maxHeartbeats 8000000 in
theorem vars11_any (x : LtI) (W : World) (hx : x.rd W) (hl : x.m.a.length ≤ 1000) : Calls Try.prog 15 #[.agg (ltIC x).toArray] W (SaysN (namesL (vsL x)) W) := by
  have hB0 : Below W.heap.size W (W.alloc (.cells (ltIC x).toArray 43)) := (Below.refl _ _).alloc (Nat.le_refl _) _
  have HB0 := Lib.hid hB0
  have HRG := Lib.hid (lit_at x W)
  have HT := Lib.hid (terms11_any x _ (hx.on hB0) hl)
  have hl3 : (tmL x).length ≤ 1003 := by unfold tmL; rw [List.length_append]; simp; omega
  have HN : Hid (∀ V A c, RdX 4 tmC V A (tmL x) → Calls Try.prog 26 #[.slice A (tmL x).length c, .slice none 0 0] V (SaysN (namesL (vsL x)) V)) := Lib.hid fun V A c h => by
    have h := names_any A c (tmL x) none 0 [] V ⟨Nat.zero_le _, fun i y hy => by simp at hy⟩ h (by simp; omega)
    exact h
  clear hx hB0
  go_enter Try.func15, Try.ntmps15
  go_wp2_with (first
    | (refine wpList_load_mid rfl 43 (.tmp 1) rfl W.heap.size 0 rfl (ltIC x) _ HRG.out Try.underlying43 rfl (by kernel_rfl) ?_)
    | (go_at_call 32; refine HT.out.mono ?_; rintro e w2 ⟨A2, c2, rfl, hO2, hB2⟩; have HO2 := Lib.hid hO2; have HB2 := Lib.hid hB2; clear hO2 hB2)
    | (go_at_call 26; refine (HN.out _ A2 c2 (RdX.of_own (fun _ => rfl) HO2.out)).mono ?_; rintro e w3 ⟨A3, c3, rfl, hO3, hB3⟩; have HO3 := Lib.hid hO3; have HB3 := Lib.hid hB3; clear hO3 hB3))
  go_ret
  exact ⟨A3, c3, rfl, own_less HO3.out (on HB0.out HB2.out).size, on (on HB0.out HB2.out) HB3.out⟩
set_option maxRecDepth 20000 in
set_option maxHeartbeats 8000000 in
theorem binds11_any (x : LtI) (A : Option Addr) (c : Nat) (l : List Nm) (W : World) (hx : x.rd W) (hl : x.m.a.length ≤ 1000) (hr : RdN W A l) (hln : l.length ≤ 90000) : Calls Try.prog 17 #[.agg (ltIC x).toArray, .slice A l.length c] W (SaysN (namesL (l ++ vsL x)) W) := by
  have hB0 : Below W.heap.size W (W.alloc (.cells (ltIC x).toArray 43)) := (Below.refl _ _).alloc (Nat.le_refl _) _
  have HB0 := Lib.hid hB0
  have HRG := Lib.hid (lit_at x W)
  have HT := Lib.hid (terms11_any x _ (hx.on hB0) hl)
  have hl3 : (tmL x).length ≤ 1003 := by unfold tmL; rw [List.length_append]; simp; omega
  have HRN := Lib.hid (RdX.on hr hB0)
  have HN : Hid (∀ V A2 c2, RdX 4 tmC V A2 (tmL x) → RdN V A l → Calls Try.prog 26 #[.slice A2 (tmL x).length c2, .slice A l.length c] V (SaysN (namesL (l ++ vsL x)) V)) := Lib.hid fun V A2 c2 h h2 => names_any A2 c2 (tmL x) A c l V h2 h (by omega)
  clear hx hB0 hr
  go_enter Try.func17, Try.ntmps17
  go_wp2_with (first
    | (refine wpList_load_mid rfl 43 (.tmp 2) rfl W.heap.size 0 rfl (ltIC x) _ HRG.out Try.underlying43 rfl (by kernel_rfl) ?_)
    | (go_at_call 32; refine HT.out.mono ?_; rintro e w2 ⟨A2, c2, rfl, hO2, hB2⟩; have HO2 := Lib.hid hO2; have HB2 := Lib.hid hB2; clear hO2 hB2)
    | (go_at_call 26; refine (HN.out _ A2 c2 (RdX.of_own (fun _ => rfl) HO2.out) (RdX.on HRN.out HB2.out)).mono ?_; rintro e w3 ⟨A3, c3, rfl, hO3, hB3⟩; have HO3 := Lib.hid hO3; have HB3 := Lib.hid hB3; clear hO3 hB3))
  go_ret
  exact ⟨A3, c3, rfl, own_less HO3.out (on HB0.out HB2.out).size, on (on HB0.out HB2.out) HB3.out⟩
end Go.Proofs.Ytahljmddnfldlaa

/-
  SafeOrders (layer 11, safe): for all literals and names the call returns true: in which order they are taken, and what is bound behind them, is as the document says. No condition.
-/
import Derived.Test.YtahljmddnfldlaaRows
import Derived.Test.YtahljmddnfldlaaSafK
import Derived.Test.YtahljmddnfldlaaSafY
import Derived.WalkKit
import Derived.ProofKit
import Derived.OpenShut
namespace Go.Proofs.Ytahljmddnfldlaa.safeOrders
open Go.ChangeShapes Go.WideShapes Go.ChangeAt Go.RowKit FloM ValM Go.Shelf Go.Maps
set_option linter.unusedVariables false
set_option linter.unusedSimpArgs false
theorem fewB_each {body : List LtI} {bound : List Nm} (h : FewB body bound) (y : LtI) (hy : y ∈ body) : y.m.a.length ≤ 1000 := by have := (h.2.1 y hy).2; omega
set_option maxRecDepth 20000 in
set_option maxHeartbeats 16000000 in
theorem walk_none (B : Option Addr) (d : Nat) (body : List LtI) (A : Option Addr) (c : Nat) (bound : List Nm) (w : World) (r0 : RdX 17 ltIC w B body) (k0 : ∀ x ∈ body, LtOk w x) (r1 : RdN w A bound) (k1 : NmOk bound) (h1 : ordL vsL readyL body bound = none) : Calls Try.prog 3 #[.slice B body.length d, .slice A bound.length c] w fun e w' => e = .returned (.bool true) ∧ Below w.heap.size w w' := by
  have hB := Below.refl w.heap.size w
  have HFew : Hid (∀ V, Below w.heap.size w V → Calls Try.prog 10 #[.slice B body.length d, .slice A bound.length c] V (FewBQ body bound V)) := Lib.hid fun V hV => fewB_any B A d c body bound V (r0.on hV) (fun x hx => ⟨((k0 x hx).1).on hV, (k0 x hx).2⟩) r1.1
  have HO1 : Hid (FewB body bound → ∀ V, Below w.heap.size w V → Calls Try.prog 11 #[.slice B body.length d, .slice A bound.length c] V (OrdQ (ordL vsL readyL body bound) V)) := Lib.hid fun hf V hV => order_any B d body A c bound V (r0.on hV) (fun x hx => ⟨((k0 x hx).1).on hV, (k0 x hx).2.1, fewB_each hf x hx⟩) (by have := hf.1; omega) (RdX.on r1 hV) k1 (by have := hf.2.2; omega)
  have HO2 : Hid (FewB body bound → ∀ V, Below w.heap.size w V → Calls Try.prog 12 #[.slice B body.length d, .slice A bound.length c] V (OrdP (ordL vsL readyL body bound) V)) := Lib.hid fun hf V hV => order11_any B d body A c bound V (r0.on hV) (fun x hx => ⟨((k0 x hx).1).on hV, fewB_each hf x hx⟩) (by have := hf.1; omega) (RdX.on r1 hV) (by have := hf.2.2; omega)
  have HSM : Hid (∀ V, Calls Try.prog 13 #[.slice none 0 0, .slice none 0 0] V fun e w' => e = .returned (.bool true) ∧ Below V.heap.size V w') := Lib.hid fun V => same11_yes none none 0 0 [] V ⟨Nat.zero_le _, fun i y hy => by simp at hy⟩ ⟨Nat.zero_le _, fun i y hy => by simp at hy⟩
  rw [h1] at HO1 HO2
  clear h1 r0 k0 r1 k1
  go_enter Try.func3, Try.ntmps3
  go_wp2_with (first
    | (go_at_call 9; refine (awake11_any _).mono ?_; rintro e w1 ⟨rfl, h'⟩; replace hB := on hB h'; clear h')
    | (go_at_call 10; refine (HFew.out _ hB).mono ?_; rintro e w2 ⟨b, hb, rfl, h'⟩; have HBx := Lib.hid hb; replace hB := on hB h'; clear hb h'; cases b; (go_wp2_with (go_at_call 9; refine (awake11_any _).mono ?_; rintro e w1 ⟨rfl, h'⟩; replace hB := on hB h'; clear h'); go_ret; exact ⟨rfl, hB⟩))
    | (go_at_call 11; refine (HO1.out (HBx.out trivial) _ hB).mono ?_; rintro e w7 ⟨rfl, h'⟩; replace hB := on hB h'; clear h'; clear HO1)
    | (go_at_call 12; refine (HO2.out (HBx.out trivial) _ hB).mono ?_; rintro e w8 ⟨rfl, h'⟩; replace hB := on hB h'; clear h'; clear HO2)
    | (go_at_call 13; refine (HSM.out _).mono ?_; rintro e w9 ⟨rfl, h'⟩; replace hB := on hB h'; clear h'))
  go_loopw [53] (fun j wq => j = .int .i64 0 ∧ Below w.heap.size w wq) (fun _ _ => 0)
  case atStart => exact ⟨rfl, hB⟩
  case round =>
    obtain ⟨rfl, hq⟩ := hrel
    have HQ := Lib.hid hq; clear hq hB
    go_wp2
    go_ret
    exact ⟨rfl, HQ.out⟩
set_option maxRecDepth 20000 in
set_option maxHeartbeats 16000000 in
theorem walk_some (B : Option Addr) (d : Nat) (body : List LtI) (A : Option Addr) (c : Nat) (bound : List Nm) (w : World) (r0 : RdX 17 ltIC w B body) (k0 : ∀ x ∈ body, LtOk w x) (r1 : RdN w A bound) (k1 : NmOk bound) (l : List Nat) (U : List Nm) (h1 : ordL vsL readyL body bound = some (l, U)) : Calls Try.prog 3 #[.slice B body.length d, .slice A bound.length c] w fun e w' => e = .returned (.bool true) ∧ Below w.heap.size w w' := by
  have hB := Below.refl w.heap.size w
  have HFew : Hid (∀ V, Below w.heap.size w V → Calls Try.prog 10 #[.slice B body.length d, .slice A bound.length c] V (FewBQ body bound V)) := Lib.hid fun V hV => fewB_any B A d c body bound V (r0.on hV) (fun x hx => ⟨((k0 x hx).1).on hV, (k0 x hx).2⟩) r1.1
  have HO1 : Hid (FewB body bound → ∀ V, Below w.heap.size w V → Calls Try.prog 11 #[.slice B body.length d, .slice A bound.length c] V (OrdQ (ordL vsL readyL body bound) V)) := Lib.hid fun hf V hV => order_any B d body A c bound V (r0.on hV) (fun x hx => ⟨((k0 x hx).1).on hV, (k0 x hx).2.1, fewB_each hf x hx⟩) (by have := hf.1; omega) (RdX.on r1 hV) k1 (by have := hf.2.2; omega)
  have HO2 : Hid (FewB body bound → ∀ V, Below w.heap.size w V → Calls Try.prog 12 #[.slice B body.length d, .slice A bound.length c] V (OrdP (ordL vsL readyL body bound) V)) := Lib.hid fun hf V hV => order11_any B d body A c bound V (r0.on hV) (fun x hx => ⟨((k0 x hx).1).on hV, fewB_each hf x hx⟩) (by have := hf.1; omega) (RdX.on r1 hV) (by have := hf.2.2; omega)
  obtain ⟨hg, hU, hl⟩ := ordL_good h1
  have hib : ∀ i ∈ l, i < body.length := hg.lt
  have HIB := Lib.hid hib
  have hm0 : body.length ≤ 9223372036854775807 := Nat.le_trans r0.1 (by decide)
  have hlm : l.length ≤ 9223372036854775807 := by omega
  have HRB := Lib.hid r0; have HRN := Lib.hid r1; have HKB := Lib.hid k0; have HKN := Lib.hid k1
  rw [h1] at HO1 HO2
  clear h1 r0 k0 r1 k1 hg hU hib
  go_enter Try.func3, Try.ntmps3
  go_wp2_with (first
    | (go_at_call 9; refine (awake11_any _).mono ?_; rintro e w1 ⟨rfl, h'⟩; replace hB := on hB h'; clear h')
    | (go_at_call 10; refine (HFew.out _ hB).mono ?_; rintro e w2 ⟨b, hb, rfl, h'⟩; have HBx := Lib.hid hb; replace hB := on hB h'; clear hb h'; cases b; (go_wp2_with (go_at_call 9; refine (awake11_any _).mono ?_; rintro e w1 ⟨rfl, h'⟩; replace hB := on hB h'; clear h'); go_ret; exact ⟨rfl, hB⟩))
    | (go_at_call 11; refine (HO1.out (HBx.out trivial) _ hB).mono ?_; rintro e w7 ⟨A7, c7, B7, d7, rfl, hO7, hN7, h'⟩; have HO7 : Hid (RdX 1 niC w7 A7 l) := Lib.hid (RdX.of_own (fun _ => rfl) hO7); have HN7 := Lib.hid hN7.rd; replace hB := on hB h'; clear h' hO7 hN7; clear HO1)
    | (go_at_call 12; refine (HO2.out (HBx.out trivial) _ hB).mono ?_; rintro e w8 ⟨A8, c8, B8, d8, rfl, hO8, hN8, h'⟩; have HO8 := Lib.hid hO8; have HO7b := Lib.hid (RdX.on HO7.out h'); have HN8 := Lib.hid hN8; have HN7b := Lib.hid (RdX.on HN7.out h'); replace hB := on hB h'; clear h' hO8 hN8; clear HO2)
    | (go_at_call 13; refine (same11_yes B7 B8 d7 d8 (namesL U) _ HN7b.out HN8.out).mono ?_; rintro e w9 ⟨rfl, h'⟩; have HO7c := Lib.hid (RdX.on HO7b.out h'); have HO8c := Lib.hid (RdX.on HO8.out h'); replace hB := on hB h'; clear h'))
  have HBB := Lib.hid hB
  clear hB HO7 HO8 HN7 HN8 HO7b HN7b
  go_loopw [53] (fun j wq => ∃ k : Nat, j = .int .i64 (k : Nat) ∧ k ≤ l.length ∧ Below w9.heap.size w9 wq) (fun j _ => l.length - (intOf j).toNat)
  case atStart => exact ⟨0, rfl, Nat.zero_le _, Below.refl _ _⟩
  case round =>
    obtain ⟨k, rfl, hk, hq⟩ := hrel
    have HQ := Lib.hid hq
    by_cases hlt : k < l.length
    · have hkb : k < body.length := by omega
      obtain ⟨i, hi⟩ : ∃ i, l[k]? = some i := ⟨_, List.getElem?_eq_getElem hlt⟩
      obtain ⟨x, hx⟩ : ∃ x, body[k]? = some x := ⟨_, List.getElem?_eq_getElem hkb⟩
      obtain ⟨gb, o, rfl, hgb, hc⟩ := HRB.out.2 k x hx
      obtain ⟨ga, oa, rfl, hga, hca⟩ := HO7c.out.2 k i hi
      obtain ⟨gc, oc, rfl, hgc0, hcc⟩ := HO8c.out.2 k i hi
      have hbw := on HBB.out hq
      have ca : wr.cell? ⟨ga, oa + k, none⟩ = some (.int .i64 (i : Int)) := by
        have h1 := hca 0 (.int .i64 (i : Int)) rfl
        simp only [Nat.add_zero, Nat.mul_one] at h1
        exact (keep hq _ _ hga).trans h1
      have cb : wr.cell? ⟨gc, oc + k, none⟩ = some (.int .i64 (i : Int)) := by
        have h1 := hcc 0 (.int .i64 (i : Int)) rfl
        simp only [Nat.add_zero, Nat.mul_one] at h1
        exact (keep hq _ _ hgc0).trans h1
      have hgc : ga < wr.heap.size ∧ gc < wr.heap.size := ⟨Nat.lt_of_lt_of_le hga hq.size, Nat.lt_of_lt_of_le hgc0 hq.size⟩
      have HRG : Hid (∀ V, Below wr.heap.size wr V → V.rangeAt gb (o + k * 17) (ltIC x)) := Lib.hid fun V hV j v hj => (keep (on hbw hV) _ _ hgb).trans (hc j v hj)
      have hxx := HKB.out x (List.mem_of_getElem? hx)
      have hx3 := fewB_each (HBx.out trivial) x (List.mem_of_getElem? hx)
      have hbl : bound.length ≤ 20 := (HBx.out trivial).2.2
      have HV1 : Hid (∀ V, Below wr.heap.size wr V → Calls Try.prog 14 #[.agg (ltIC x).toArray] V (SaysN (namesL (vsL x)) V)) := Lib.hid fun V hV => vars_any x V (hxx.1.on (on hbw hV)) hxx.2.1 hx3
      have HV2 : Hid (∀ V, Below wr.heap.size wr V → Calls Try.prog 15 #[.agg (ltIC x).toArray] V (SaysN (namesL (vsL x)) V)) := Lib.hid fun V hV => vars11_any x V (hxx.1.on (on hbw hV)) hx3
      have HN1 : Hid (∀ V, Below wr.heap.size wr V → Calls Try.prog 16 #[.agg (ltIC x).toArray, .slice A bound.length c] V (SaysN (namesL (bound ++ vsL x)) V)) := Lib.hid fun V hV => binds_any x A c bound V (hxx.1.on (on hbw hV)) hxx.2.1 hx3 (RdX.on HRN.out (on hbw hV)) HKN.out (by omega)
      have HN2 : Hid (∀ V, Below wr.heap.size wr V → Calls Try.prog 17 #[.agg (ltIC x).toArray, .slice A bound.length c] V (SaysN (namesL (bound ++ vsL x)) V)) := Lib.hid fun V hV => binds11_any x A c bound V (hxx.1.on (on hbw hV)) hx3 (RdX.on HRN.out (on hbw hV)) (by omega)
      clear hi hx hc hca hcc hq hbw hxx hx3
      go_upto_region 10 with fail
      refine wp_region_held_drew (S := fun u => Below wr.heap.size wr u) (by kernel_rfl) (Below.refl _ _).drew (fun hHeld => ?_)
      refine wpAnyH_take (i := 0) (v := ?v0) rfl (by kernel_rfl) (by kernel_rfl) (by kernel_rfl) (fun _ _ _ h => h) (Or.inl ⟨by rfl, ?hy0⟩) hHeld ?rest0
      case hy0 => (intro w hSw; (try dsimp only at hSw); have hz0 := (keep hSw _ _ hgc.1).trans ca; have hz1 := (keep hSw _ _ hgc.2).trans cb; go_simp; try with_reducible rfl)
      try simp only [Act.put, List.setIfInBounds_toArray, List.set_cons_zero, List.set_cons_succ, List.getElem_toArray, List.getElem_cons_zero, List.getElem_cons_succ]
      refine wpAnyH_take (i := 1) (v := ?v1) rfl (by kernel_rfl) (by kernel_rfl) (by kernel_rfl) (fun _ _ _ h => h) (Or.inl ⟨by rfl, ?hy1⟩) hHeld ?rest1
      case hy1 => (intro w hSw; (try dsimp only at hSw); have hz0 := (keep hSw _ _ hgc.1).trans ca; have hz1 := (keep hSw _ _ hgc.2).trans cb; go_simp; try with_reducible rfl)
      try simp only [Act.put, List.setIfInBounds_toArray, List.set_cons_zero, List.set_cons_succ, List.getElem_toArray, List.getElem_cons_zero, List.getElem_cons_succ]
      refine wpAnyH_take (i := 2) (v := ?v2) rfl (by kernel_rfl) (by kernel_rfl) (by kernel_rfl) (fun _ _ _ h => h) (Or.inl ⟨by rfl, ?hy2⟩) hHeld ?rest2
      case hy2 => (intro w hSw; (try dsimp only at hSw); have hz0 := (keep hSw _ _ hgc.1).trans ca; have hz1 := (keep hSw _ _ hgc.2).trans cb; go_simp; try with_reducible rfl)
      try simp only [Act.put, List.setIfInBounds_toArray, List.set_cons_zero, List.set_cons_succ, List.getElem_toArray, List.getElem_cons_zero, List.getElem_cons_succ]
      refine wpAnyH_take (i := 3) (v := ?v3) rfl (by kernel_rfl) (by kernel_rfl) (by kernel_rfl) (fun _ _ _ h => h) (Or.inl ⟨by rfl, ?hy3⟩) hHeld ?rest3
      case hy3 => (intro w hSw; (try dsimp only at hSw); have hz0 := (keep hSw _ _ hgc.1).trans ca; have hz1 := (keep hSw _ _ hgc.2).trans cb; go_simp; try with_reducible rfl)
      try simp only [Act.put, List.setIfInBounds_toArray, List.set_cons_zero, List.set_cons_succ, List.getElem_toArray, List.getElem_cons_zero, List.getElem_cons_succ]
      refine wpAnyH_take (i := 4) (v := ?v4) rfl (by kernel_rfl) (by kernel_rfl) (by kernel_rfl) (fun _ _ _ h => h) (Or.inl ⟨by rfl, ?hy4⟩) hHeld ?rest4
      case hy4 => (intro w hSw; (try dsimp only at hSw); have hz0 := (keep hSw _ _ hgc.1).trans ca; have hz1 := (keep hSw _ _ hgc.2).trans cb; go_simp; try with_reducible rfl)
      try simp only [Act.put, List.setIfInBounds_toArray, List.set_cons_zero, List.set_cons_succ, List.getElem_toArray, List.getElem_cons_zero, List.getElem_cons_succ]
      refine wpAnyH_take (i := 5) (v := ?v5) rfl (by kernel_rfl) (by kernel_rfl) (by kernel_rfl) (fun _ _ _ h => h) (Or.inl ⟨by rfl, ?hy5⟩) hHeld ?rest5
      case hy5 => (intro w hSw; (try dsimp only at hSw); have hz0 := (keep hSw _ _ hgc.1).trans ca; have hz1 := (keep hSw _ _ hgc.2).trans cb; go_simp; try with_reducible rfl)
      try simp only [Act.put, List.setIfInBounds_toArray, List.set_cons_zero, List.set_cons_succ, List.getElem_toArray, List.getElem_cons_zero, List.getElem_cons_succ]
      refine wpAnyH_take (i := 6) (v := ?v6) rfl (by kernel_rfl) (by kernel_rfl) (by kernel_rfl) (fun _ _ _ h => h) (Or.inl ⟨by rfl, ?hy6⟩) hHeld ?rest6
      case hy6 => (intro w hSw; (try dsimp only at hSw); have hz0 := (keep hSw _ _ hgc.1).trans ca; have hz1 := (keep hSw _ _ hgc.2).trans cb; go_simp; try with_reducible rfl)
      try simp only [Act.put, List.setIfInBounds_toArray, List.set_cons_zero, List.set_cons_succ, List.getElem_toArray, List.getElem_cons_zero, List.getElem_cons_succ]
      refine wpAnyH_take (i := 7) (v := ?v7) rfl (by kernel_rfl) (by kernel_rfl) (by kernel_rfl) (fun _ _ _ h => h) (Or.inl ⟨by rfl, ?hy7⟩) hHeld ?rest7
      case hy7 => (intro w hSw; (try dsimp only at hSw); have hz0 := (keep hSw _ _ hgc.1).trans ca; have hz1 := (keep hSw _ _ hgc.2).trans cb; go_simp; try with_reducible rfl)
      try simp only [Act.put, List.setIfInBounds_toArray, List.set_cons_zero, List.set_cons_succ, List.getElem_toArray, List.getElem_cons_zero, List.getElem_cons_succ]
      refine wpAnyH_take (i := 8) (v := .bool false) rfl (by kernel_rfl) (by kernel_rfl) (by kernel_rfl) (fun _ _ _ h => h) (Or.inl ⟨by rfl, ?hy8⟩) hHeld ?rest8
      case hy8 => (intro w hSw; (try dsimp only at hSw); have hz0 := (keep hSw _ _ hgc.1).trans ca; have hz1 := (keep hSw _ _ hgc.2).trans cb; go_simp; try with_reducible rfl)
      try simp only [Act.put, List.setIfInBounds_toArray, List.set_cons_zero, List.set_cons_succ, List.getElem_toArray, List.getElem_cons_zero, List.getElem_cons_succ]
      refine wpAnyH_take (i := 9) (v := .bool false) rfl (by kernel_rfl) (by kernel_rfl) (by kernel_rfl) (fun _ _ _ h => h) (Or.inl ⟨by rfl, ?hy9⟩) hHeld ?rest9
      case hy9 => (intro w hSw; (try dsimp only at hSw); have hz0 := (keep hSw _ _ hgc.1).trans ca; have hz1 := (keep hSw _ _ hgc.2).trans cb; go_simp; try with_reducible rfl)
      try simp only [Act.put, List.setIfInBounds_toArray, List.set_cons_zero, List.set_cons_succ, List.getElem_toArray, List.getElem_cons_zero, List.getElem_cons_succ]
      refine wpAnyH_take (i := 10) (v := ?v10) rfl (by kernel_rfl) (by kernel_rfl) (by kernel_rfl) (fun _ _ _ h => h) (Or.inl ⟨by rfl, ?hy10⟩) hHeld ?rest10
      case hy10 => (intro w hSw; (try dsimp only at hSw); have hz0 := (keep hSw _ _ hgc.1).trans ca; have hz1 := (keep hSw _ _ hgc.2).trans cb; go_simp; try with_reducible rfl)
      try simp only [Act.put, List.setIfInBounds_toArray, List.set_cons_zero, List.set_cons_succ, List.getElem_toArray, List.getElem_cons_zero, List.getElem_cons_succ]
      refine wpAnyH_take (i := 11) (v := ?v11) rfl (by kernel_rfl) (by kernel_rfl) (by kernel_rfl) (fun _ _ _ h => h) (Or.inl ⟨by rfl, ?hy11⟩) hHeld ?rest11
      case hy11 => (intro w hSw; (try dsimp only at hSw); have hz0 := (keep hSw _ _ hgc.1).trans ca; have hz1 := (keep hSw _ _ hgc.2).trans cb; go_simp; try with_reducible rfl)
      try simp only [Act.put, List.setIfInBounds_toArray, List.set_cons_zero, List.set_cons_succ, List.getElem_toArray, List.getElem_cons_zero, List.getElem_cons_succ]
      refine wpAnyH_take (i := 12) (v := ?v12) rfl (by kernel_rfl) (by kernel_rfl) (by kernel_rfl) (fun _ _ _ h => h) (Or.inl ⟨by rfl, ?hy12⟩) hHeld ?rest12
      case hy12 => (intro w hSw; (try dsimp only at hSw); have hz0 := (keep hSw _ _ hgc.1).trans ca; have hz1 := (keep hSw _ _ hgc.2).trans cb; go_simp; try with_reducible rfl)
      try simp only [Act.put, List.setIfInBounds_toArray, List.set_cons_zero, List.set_cons_succ, List.getElem_toArray, List.getElem_cons_zero, List.getElem_cons_succ]
      refine wpAnyH_take (i := 13) (v := .agg (ltIC x).toArray) rfl (by kernel_rfl) (by kernel_rfl) (by kernel_rfl) (fun _ _ _ h => h) (yieldsIf_load_mid (by rfl) 43 (.tmp 68) rfl gb (o + k * 17) (by simp [Act.eval, Act.put]) (ltIC x) _ (fun V hV => HRG.out V hV) Try.underlying43 rfl (by kernel_rfl)) hHeld ?rest13
      try simp only [Act.put, List.setIfInBounds_toArray, List.set_cons_zero, List.set_cons_succ, List.getElem_toArray, List.getElem_cons_zero, List.getElem_cons_succ]
      refine wpAnyH_take (i := 15) (v := ?v15) rfl (by kernel_rfl) (by kernel_rfl) (by kernel_rfl) (fun _ _ _ h => h) (Or.inl ⟨by rfl, ?hy15⟩) hHeld ?rest15
      case hy15 => (intro w hSw; (try dsimp only at hSw); have hz0 := (keep hSw _ _ hgc.1).trans ca; have hz1 := (keep hSw _ _ hgc.2).trans cb; go_simp; try with_reducible rfl)
      try simp only [Act.put, List.setIfInBounds_toArray, List.set_cons_zero, List.set_cons_succ, List.getElem_toArray, List.getElem_cons_zero, List.getElem_cons_succ]
      refine wpAnyH_take (i := 16) (v := ?v16) rfl (by kernel_rfl) (by kernel_rfl) (by kernel_rfl) (fun _ _ _ h => h) (Or.inl ⟨by rfl, ?hy16⟩) hHeld ?rest16
      case hy16 => (intro w hSw; (try dsimp only at hSw); have hz0 := (keep hSw _ _ hgc.1).trans ca; have hz1 := (keep hSw _ _ hgc.2).trans cb; go_simp; try with_reducible rfl)
      try simp only [Act.put, List.setIfInBounds_toArray, List.set_cons_zero, List.set_cons_succ, List.getElem_toArray, List.getElem_cons_zero, List.getElem_cons_succ]
      refine wpAnyH_take (i := 17) (v := ?v17) rfl (by kernel_rfl) (by kernel_rfl) (by kernel_rfl) (fun _ _ _ h => h) (Or.inl ⟨by rfl, ?hy17⟩) hHeld ?rest17
      case hy17 => (intro w hSw; (try dsimp only at hSw); have hz0 := (keep hSw _ _ hgc.1).trans ca; have hz1 := (keep hSw _ _ hgc.2).trans cb; go_simp; try with_reducible rfl)
      try simp only [Act.put, List.setIfInBounds_toArray, List.set_cons_zero, List.set_cons_succ, List.getElem_toArray, List.getElem_cons_zero, List.getElem_cons_succ]
      refine wpAnyH_take (i := 18) (v := .agg (ltIC x).toArray) rfl (by kernel_rfl) (by kernel_rfl) (by kernel_rfl) (fun _ _ _ h => h) (yieldsIf_load_mid (by rfl) 43 (.tmp 73) rfl gb (o + k * 17) (by simp [Act.eval, Act.put]) (ltIC x) _ (fun V hV => HRG.out V hV) Try.underlying43 rfl (by kernel_rfl)) hHeld ?rest18
      try simp only [Act.put, List.setIfInBounds_toArray, List.set_cons_zero, List.set_cons_succ, List.getElem_toArray, List.getElem_cons_zero, List.getElem_cons_succ]
      refine wpAnyH_ready (rs := [14]) (by kernel_rfl) (by simp) ?_
      refine AllReadyH.cons rfl (fun K hK => ?_) AllReadyH.nil
      go_simp
      go_at_call 14
      refine (HV1.out _ ((Below.refl _ _).drew)).mono ?_
      rintro e u1 ⟨E1, f1, rfl, hO, hh⟩
      have HO1 := Lib.hid hO
      have HB1S := Lib.hid hh
      have HB1 : Hid (Below wr.heap.size wr u1) := Lib.hid (on ((Below.refl _ _).drew) hh)
      clear hO hh
      dsimp only
      refine hK.out _ _ HB1.out (fun _ => ?_)
      clear hK K
      refine wpAnyH_ready (rs := [19]) (by kernel_rfl) (by simp) ?_
      refine AllReadyH.cons rfl (fun K hK => ?_) AllReadyH.nil
      go_simp
      go_at_call 15
      refine (HV2.out _ (HB1.out)).mono ?_
      rintro e u2 ⟨E2, f2, rfl, hO, hh⟩
      have HO2 := Lib.hid hO
      have HB2S := Lib.hid hh
      have HB2 : Hid (Below wr.heap.size wr u2) := Lib.hid (on (HB1.out) hh)
      clear hO hh
      dsimp only
      refine hK.out _ _ HB2.out (fun _ => ?_)
      clear hK K
      refine wpAnyH_ready (rs := [20]) (by kernel_rfl) (by simp) ?_
      refine AllReadyH.cons rfl (fun K hK => ?_) AllReadyH.nil
      go_simp
      go_at_call 13
      refine (same11_yes E1 E2 f1 f2 (namesL (vsL x)) _ (RdX.on HO1.out.rd HB2S.out) HO2.out.rd).mono ?_
      rintro e u3 ⟨rfl, hh⟩
      have HB3 : Hid (Below wr.heap.size wr u3) := Lib.hid (on (HB2.out) hh)
      clear hh
      dsimp only
      refine hK.out _ _ HB3.out (fun _ => ?_)
      clear hK K
      refine wpAnyH_take (i := 21) (v := .bool false) rfl (by kernel_rfl) (by kernel_rfl) (by kernel_rfl) (fun _ _ _ h => h) (Or.inl ⟨by rfl, ?hy21⟩) HB3.out ?rest21
      case hy21 => (intro w hSw; (try dsimp only at hSw); have hz0 := (keep hSw _ _ hgc.1).trans ca; have hz1 := (keep hSw _ _ hgc.2).trans cb; go_simp; try with_reducible rfl)
      try simp only [Act.put, List.setIfInBounds_toArray, List.set_cons_zero, List.set_cons_succ, List.getElem_toArray, List.getElem_cons_zero, List.getElem_cons_succ]
      refine wpAnyH_take (i := 22) (v := .bool false) rfl (by kernel_rfl) (by kernel_rfl) (by kernel_rfl) (fun _ _ _ h => h) (Or.inl ⟨by rfl, ?hy22⟩) HB3.out ?rest22
      case hy22 => (intro w hSw; (try dsimp only at hSw); have hz0 := (keep hSw _ _ hgc.1).trans ca; have hz1 := (keep hSw _ _ hgc.2).trans cb; go_simp; try with_reducible rfl)
      try simp only [Act.put, List.setIfInBounds_toArray, List.set_cons_zero, List.set_cons_succ, List.getElem_toArray, List.getElem_cons_zero, List.getElem_cons_succ]
      refine wpAnyH_take (i := 23) (v := .bool false) rfl (by kernel_rfl) (by kernel_rfl) (by kernel_rfl) (fun _ _ _ h => h) (Or.inl ⟨by rfl, ?hy23⟩) HB3.out ?rest23
      case hy23 => (intro w hSw; (try dsimp only at hSw); have hz0 := (keep hSw _ _ hgc.1).trans ca; have hz1 := (keep hSw _ _ hgc.2).trans cb; go_simp; try with_reducible rfl)
      try simp only [Act.put, List.setIfInBounds_toArray, List.set_cons_zero, List.set_cons_succ, List.getElem_toArray, List.getElem_cons_zero, List.getElem_cons_succ]
      refine wpAnyH_take (i := 24) (v := ?v24) rfl (by kernel_rfl) (by kernel_rfl) (by kernel_rfl) (fun _ _ _ h => h) (Or.inl ⟨by rfl, ?hy24⟩) HB3.out ?rest24
      case hy24 => (intro w hSw; (try dsimp only at hSw); have hz0 := (keep hSw _ _ hgc.1).trans ca; have hz1 := (keep hSw _ _ hgc.2).trans cb; go_simp; try with_reducible rfl)
      try simp only [Act.put, List.setIfInBounds_toArray, List.set_cons_zero, List.set_cons_succ, List.getElem_toArray, List.getElem_cons_zero, List.getElem_cons_succ]
      refine wpAnyH_take (i := 25) (v := ?v25) rfl (by kernel_rfl) (by kernel_rfl) (by kernel_rfl) (fun _ _ _ h => h) (Or.inl ⟨by rfl, ?hy25⟩) HB3.out ?rest25
      case hy25 => (intro w hSw; (try dsimp only at hSw); have hz0 := (keep hSw _ _ hgc.1).trans ca; have hz1 := (keep hSw _ _ hgc.2).trans cb; go_simp; try with_reducible rfl)
      try simp only [Act.put, List.setIfInBounds_toArray, List.set_cons_zero, List.set_cons_succ, List.getElem_toArray, List.getElem_cons_zero, List.getElem_cons_succ]
      refine wpAnyH_take (i := 26) (v := ?v26) rfl (by kernel_rfl) (by kernel_rfl) (by kernel_rfl) (fun _ _ _ h => h) (Or.inl ⟨by rfl, ?hy26⟩) HB3.out ?rest26
      case hy26 => (intro w hSw; (try dsimp only at hSw); have hz0 := (keep hSw _ _ hgc.1).trans ca; have hz1 := (keep hSw _ _ hgc.2).trans cb; go_simp; try with_reducible rfl)
      try simp only [Act.put, List.setIfInBounds_toArray, List.set_cons_zero, List.set_cons_succ, List.getElem_toArray, List.getElem_cons_zero, List.getElem_cons_succ]
      refine wpAnyH_take (i := 27) (v := .agg (ltIC x).toArray) rfl (by kernel_rfl) (by kernel_rfl) (by kernel_rfl) (fun _ _ _ h => h) (yieldsIf_load_mid (by rfl) 43 (.tmp 82) rfl gb (o + k * 17) (by simp [Act.eval, Act.put]) (ltIC x) _ (fun V hV => HRG.out V hV) Try.underlying43 rfl (by kernel_rfl)) HB3.out ?rest27
      try simp only [Act.put, List.setIfInBounds_toArray, List.set_cons_zero, List.set_cons_succ, List.getElem_toArray, List.getElem_cons_zero, List.getElem_cons_succ]
      refine wpAnyH_take (i := 28) (v := ?v28) rfl (by kernel_rfl) (by kernel_rfl) (by kernel_rfl) (fun _ _ _ h => h) (Or.inl ⟨by rfl, ?hy28⟩) HB3.out ?rest28
      case hy28 => (intro w hSw; (try dsimp only at hSw); have hz0 := (keep hSw _ _ hgc.1).trans ca; have hz1 := (keep hSw _ _ hgc.2).trans cb; go_simp; try with_reducible rfl)
      try simp only [Act.put, List.setIfInBounds_toArray, List.set_cons_zero, List.set_cons_succ, List.getElem_toArray, List.getElem_cons_zero, List.getElem_cons_succ]
      refine wpAnyH_take (i := 30) (v := ?v30) rfl (by kernel_rfl) (by kernel_rfl) (by kernel_rfl) (fun _ _ _ h => h) (Or.inl ⟨by rfl, ?hy30⟩) HB3.out ?rest30
      case hy30 => (intro w hSw; (try dsimp only at hSw); have hz0 := (keep hSw _ _ hgc.1).trans ca; have hz1 := (keep hSw _ _ hgc.2).trans cb; go_simp; try with_reducible rfl)
      try simp only [Act.put, List.setIfInBounds_toArray, List.set_cons_zero, List.set_cons_succ, List.getElem_toArray, List.getElem_cons_zero, List.getElem_cons_succ]
      refine wpAnyH_take (i := 31) (v := ?v31) rfl (by kernel_rfl) (by kernel_rfl) (by kernel_rfl) (fun _ _ _ h => h) (Or.inl ⟨by rfl, ?hy31⟩) HB3.out ?rest31
      case hy31 => (intro w hSw; (try dsimp only at hSw); have hz0 := (keep hSw _ _ hgc.1).trans ca; have hz1 := (keep hSw _ _ hgc.2).trans cb; go_simp; try with_reducible rfl)
      try simp only [Act.put, List.setIfInBounds_toArray, List.set_cons_zero, List.set_cons_succ, List.getElem_toArray, List.getElem_cons_zero, List.getElem_cons_succ]
      refine wpAnyH_take (i := 32) (v := ?v32) rfl (by kernel_rfl) (by kernel_rfl) (by kernel_rfl) (fun _ _ _ h => h) (Or.inl ⟨by rfl, ?hy32⟩) HB3.out ?rest32
      case hy32 => (intro w hSw; (try dsimp only at hSw); have hz0 := (keep hSw _ _ hgc.1).trans ca; have hz1 := (keep hSw _ _ hgc.2).trans cb; go_simp; try with_reducible rfl)
      try simp only [Act.put, List.setIfInBounds_toArray, List.set_cons_zero, List.set_cons_succ, List.getElem_toArray, List.getElem_cons_zero, List.getElem_cons_succ]
      refine wpAnyH_take (i := 33) (v := .agg (ltIC x).toArray) rfl (by kernel_rfl) (by kernel_rfl) (by kernel_rfl) (fun _ _ _ h => h) (yieldsIf_load_mid (by rfl) 43 (.tmp 88) rfl gb (o + k * 17) (by simp [Act.eval, Act.put]) (ltIC x) _ (fun V hV => HRG.out V hV) Try.underlying43 rfl (by kernel_rfl)) HB3.out ?rest33
      try simp only [Act.put, List.setIfInBounds_toArray, List.set_cons_zero, List.set_cons_succ, List.getElem_toArray, List.getElem_cons_zero, List.getElem_cons_succ]
      refine wpAnyH_take (i := 34) (v := ?v34) rfl (by kernel_rfl) (by kernel_rfl) (by kernel_rfl) (fun _ _ _ h => h) (Or.inl ⟨by rfl, ?hy34⟩) HB3.out ?rest34
      case hy34 => (intro w hSw; (try dsimp only at hSw); have hz0 := (keep hSw _ _ hgc.1).trans ca; have hz1 := (keep hSw _ _ hgc.2).trans cb; go_simp; try with_reducible rfl)
      try simp only [Act.put, List.setIfInBounds_toArray, List.set_cons_zero, List.set_cons_succ, List.getElem_toArray, List.getElem_cons_zero, List.getElem_cons_succ]
      refine wpAnyH_ready (rs := [29]) (by kernel_rfl) (by simp) ?_
      refine AllReadyH.cons rfl (fun K hK => ?_) AllReadyH.nil
      go_simp
      go_at_call 16
      refine (HN1.out _ (HB3.out)).mono ?_
      rintro e u4 ⟨E4, f4, rfl, hO, hh⟩
      have HO4 := Lib.hid hO
      have HB4S := Lib.hid hh
      have HB4 : Hid (Below wr.heap.size wr u4) := Lib.hid (on (HB3.out) hh)
      clear hO hh
      dsimp only
      refine hK.out _ _ HB4.out (fun _ => ?_)
      clear hK K
      refine wpAnyH_ready (rs := [35]) (by kernel_rfl) (by simp) ?_
      refine AllReadyH.cons rfl (fun K hK => ?_) AllReadyH.nil
      go_simp
      go_at_call 17
      refine (HN2.out _ (HB4.out)).mono ?_
      rintro e u5 ⟨E5, f5, rfl, hO, hh⟩
      have HO5 := Lib.hid hO
      have HB5S := Lib.hid hh
      have HB5 : Hid (Below wr.heap.size wr u5) := Lib.hid (on (HB4.out) hh)
      clear hO hh
      dsimp only
      refine hK.out _ _ HB5.out (fun _ => ?_)
      clear hK K
      refine wpAnyH_ready (rs := [36]) (by kernel_rfl) (by simp) ?_
      refine AllReadyH.cons rfl (fun K hK => ?_) AllReadyH.nil
      go_simp
      go_at_call 13
      refine (same11_yes E4 E5 f4 f5 (namesL (bound ++ vsL x)) _ (RdX.on HO4.out.rd HB5S.out) HO5.out.rd).mono ?_
      rintro e u6 ⟨rfl, hh⟩
      have HB6 : Hid (Below wr.heap.size wr u6) := Lib.hid (on (HB5.out) hh)
      clear hh
      dsimp only
      refine hK.out _ _ HB6.out (fun _ => ?_)
      clear hK K
      refine wpAnyH_take (i := 37) (v := .bool false) rfl (by kernel_rfl) (by kernel_rfl) (by kernel_rfl) (fun _ _ _ h => h) (Or.inl ⟨by rfl, ?hy37⟩) HB6.out ?rest37
      case hy37 => (intro w hSw; (try dsimp only at hSw); have hz0 := (keep hSw _ _ hgc.1).trans ca; have hz1 := (keep hSw _ _ hgc.2).trans cb; go_simp; try with_reducible rfl)
      try simp only [Act.put, List.setIfInBounds_toArray, List.set_cons_zero, List.set_cons_succ, List.getElem_toArray, List.getElem_cons_zero, List.getElem_cons_succ]
      refine wpAnyH_take (i := 38) (v := .bool false) rfl (by kernel_rfl) (by kernel_rfl) (by kernel_rfl) (fun _ _ _ h => h) (Or.inl ⟨by rfl, ?hy38⟩) HB6.out ?rest38
      case hy38 => (intro w hSw; (try dsimp only at hSw); have hz0 := (keep hSw _ _ hgc.1).trans ca; have hz1 := (keep hSw _ _ hgc.2).trans cb; go_simp; try with_reducible rfl)
      try simp only [Act.put, List.setIfInBounds_toArray, List.set_cons_zero, List.set_cons_succ, List.getElem_toArray, List.getElem_cons_zero, List.getElem_cons_succ]
      refine wpAnyH_done (by kernel_rfl) ?_ _
      try simp only [Act.put, List.setIfInBounds_toArray, List.set_cons_zero, List.set_cons_succ, List.getElem_toArray, List.getElem_cons_zero, List.getElem_cons_succ]
      clear hHeld
      go_wp2
      go_roundw
      case rel => exact ⟨k + 1, by go_num, by omega, on HQ.out HB6.out⟩
      case measure => simp [intOf]; omega
    · obtain rfl : k = l.length := by omega
      have HBz := Lib.hid (on HBB.out hq)
      clear hq
      go_wp2
      go_ret
      exact ⟨rfl, HBz.out⟩
theorem walk (B : Option Addr) (d : Nat) (body : List LtI) (A : Option Addr) (c : Nat) (bound : List Nm) (w : World) (r0 : RdX 17 ltIC w B body) (k0 : ∀ x ∈ body, LtOk w x) (r1 : RdN w A bound) (k1 : NmOk bound) : Calls Try.prog 3 #[.slice B body.length d, .slice A bound.length c] w fun e w' => e = .returned (.bool true) ∧ Below w.heap.size w w' := by
  cases h1 : ordL vsL readyL body bound with
  | none => exact walk_none B d body A c bound w r0 k0 r1 k1 h1
  | some r => exact walk_some B d body A c bound w r0 k0 r1 k1 r.1 r.2 h1

theorem own : ownKnob Try.prog.godebug = none := by kernel_rfl

set_option maxRecDepth 100000 in
theorem lifted (os : Os) (started : os.Started) (H : Type) (enc : TypeId × Value → H) :
    ReturnsInHanded {} Try.checked os 3 .any (Rows.safeOrdersSpec.pre6 enc Try.prog Try.f3 Rows.safeOrdersRow.domain false) (Rows.safeOrdersSpec.post enc Try.prog Try.f3 false true false false) := by
  refine returnsInHanded_of_change (C := Try.checked) own started (by kernel_rfl) Try.func3
    (ChangeSpec.witness6 (enc := enc) (C := Try.checked) false ⟨#[], #[.slice none 0 0, .slice none 0 0], []⟩ 8 (by kernel_rfl) (by kernel_rfl) (by kernel_rfl) (by kernel_rfl)) ?_
  intro W base args ds gs before hval0 hW hcnd _
  have hval : ∀ (j : Nat) t v, Try.f3.params[j]? = some t → args[j]? = some v → Value.okWide Try.prog W .any base t v := hval0
  have hW' := hW
  obtain ⟨p, q, hA0, hV, rfl, hfz, hnd⟩ := hW
  have hA : DataW.TrodAll enc Try.prog W 0 (fun _ => true) true Try.f3.params.toList args.toList ds p := hA0
  have hAk := hA
  rw [Try.params3] at hA hval
  obtain ⟨v0, vs0, d0, ds0, p0, q0, hargs, rfl, rfl, h0, r0⟩ := trodAll_cons hA
  obtain ⟨v1, vs1, d1, ds1, p1, q1, rfl, rfl, rfl, h1, r1⟩ := trodAll_cons r0
  obtain ⟨rfl, rfl, rfl⟩ := trodAll_nil r1
  obtain rfl : args = #[v0, v1] := by cases args; simp_all
  obtain ⟨rfl, rfl⟩ := trodVars_none hV
  obtain ⟨A0, c0, l0, rfl, r0', k0'⟩ := open_lits (okWide_slice Try.underlying22 (hval 0 22 v0 rfl rfl)) h0
  obtain ⟨A1, c1, l1, rfl, r1', k1'⟩ := open_nms (okWide_slice Try.underlying23 (hval 1 23 v1 rfl rfl)) h1
  clear hA0 hval0
  refine (walk A0 c0 l0 A1 c1 l1 W r0' k0' r1' k1').mono fun e W' ⟨he, hg⟩ => ?_
  subst he
  refine ⟨_, rfl, post_old hW' (by simpa using hAk) (by rw [Try.params3]; decide) (fun _ _ _ => (trodAll_cons_mk (shut_bool Try.underlying4 _) trodAll_mk0)) rfl (fun _ => rfl) hg⟩

theorem proved : Rows.SafeOrdersSaid :=
  OpenClaim.holds_of_wide 3 Try.f3 rfl rfl rfl rfl rfl rfl rfl ⟨rfl, rfl, rfl, rfl, rfl⟩ rfl rfl rfl rfl rfl (by kernel_rfl) Try.func3 (by kernel_rfl)
    (of_decide_eq_true (by kernel_rfl)) (by unfold Func.isWrapper; first | (rw [if_pos (by decide +kernel)]; kernel_rfl) | (rw [if_neg (by decide +kernel)]; exact ⟨rfl, rfl⟩))
    (fun os started H enc _ => lifted os started H enc)
#print axioms proved
end Go.Proofs.Ytahljmddnfldlaa.safeOrders

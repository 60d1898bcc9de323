/-
  SafeBinds (layer 11, safe): for a literal and names the call returns true: what is bound behind it is what was, and its names, in order, each once; bound again it is the same. No condition.
-/
import Derived.Test.YtahljmddnfldlaaRows
import Derived.Test.YtahljmddnfldlaaSafU
import Derived.Test.YtahljmddnfldlaaSafY
import Derived.WalkKit
import Derived.ProofKit
import Derived.OpenShut
namespace Go.Proofs.Ytahljmddnfldlaa.safeBinds
open Go.ChangeShapes Go.WideShapes Go.ChangeAt Go.RowKit FloM ValM Go.Shelf Go.Maps
set_option linter.unusedVariables false
set_option linter.unusedSimpArgs false
theorem fewB_each {body : List LtI} {bound : List Nm} (h : FewB body bound) (y : LtI) (hy : y ∈ body) : y.m.a.length ≤ 1000 := by have := (h.2.1 y hy).2; omega
theorem few_one (A : Option Addr) (c : Nat) (x : LtI) (bound : List Nm) (V : World) (h : LtOk V x) (hn : bound.length ≤ maxLen) : Calls Try.prog 10 #[.slice (some ⟨V.heap.size, 0, none⟩) 1 1, .slice A bound.length c] (V.alloc (.cells (ltIC x).toArray 43)) fun e w' => ∃ b : Bool, (b = true → FewB [x] bound) ∧ e = .returned (.bool b) ∧ Below V.heap.size V w' := by
  have b1 : Below V.heap.size V (V.alloc (.cells (ltIC x).toArray 43)) := (Below.refl _ _).alloc (Nat.le_refl _) _
  have r1 : RdX 17 ltIC (V.alloc (.cells (ltIC x).toArray 43)) (some ⟨V.heap.size, 0, none⟩) [x] := rdX_row (cl := ltIC) (fun _ => rfl) (few_max (by show 1 ≤ 1000; decide)) (row_new (t := 43) V (ltIC x))
  refine (fewB_any (some ⟨V.heap.size, 0, none⟩) A 1 c [x] bound _ r1 (fun y hy => ?_) hn).mono ?_
  · simp only [List.mem_cons, List.not_mem_nil, or_false] at hy
    subst hy
    exact ⟨h.1.on b1, h.2⟩
  · rintro e w' ⟨b, h1, h2, h3⟩
    exact ⟨b, h1, h2, on b1 h3⟩
set_option maxRecDepth 20000 in
set_option maxHeartbeats 16000000 in
theorem walk (x : LtI) (A : Option Addr) (c : Nat) (bound : List Nm) (w : World) (k0 : LtOk w x) (r1 : RdN w A bound) (k1 : NmOk bound) : Calls Try.prog 8 #[.agg (ltIC x).toArray, .slice A bound.length c] w fun e w' => e = .returned (.bool true) ∧ Below w.heap.size w w' := by
  have hB0 : Below w.heap.size w (w.alloc (.cells (ltIC x).toArray 43)) := (Below.refl _ _).alloc (Nat.le_refl _) _
  have HB0 := Lib.hid hB0
  have HR := Lib.hid (lit_row x w)
  have HX : Hid (LtOk (w.alloc (.cells (ltIC x).toArray 43)) x) := Lib.hid ⟨k0.1.on hB0, k0.2⟩
  have HN : Hid (RdN (w.alloc (.cells (ltIC x).toArray 43)) A bound) := Lib.hid (RdX.on r1 hB0)
  have HK := Lib.hid k1
  have hgs : w.heap.size < (w.alloc (.cells (ltIC x).toArray 43)).heap.size := by rw [World.size_alloc]; omega
  clear k0 r1 k1 hB0
  go_enter Try.func8, Try.ntmps8
  go_upto_region 1 with fail
  generalize w.alloc (.cells (ltIC x).toArray 43) = wa at *
  have hB : Below wa.heap.size wa wa := Below.refl _ _
  have HFew : Hid (∀ V, Below wa.heap.size wa V → Calls Try.prog 10 #[.slice (some ⟨V.heap.size, 0, none⟩) 1 1, .slice A bound.length c] (V.alloc (.cells (ltIC x).toArray 43)) fun e w' => ∃ b : Bool, (b = true → FewB [x] bound) ∧ e = .returned (.bool b) ∧ Below V.heap.size V w') := Lib.hid fun V hV => few_one A c x bound V ⟨HX.out.1.on hV, HX.out.2⟩ HN.out.1
  have HRG : Hid (∀ V, Below wa.heap.size wa V → V.rangeAt w.heap.size 0 (ltIC x)) := Lib.hid fun V hV j v hj => by rw [Nat.zero_add]; exact ((rowOn HR.out hV).cell j).trans hj
  go_upto_region 3 with (first
    | (go_at_call 9; refine (awake11_any _).mono ?_; rintro e w1 ⟨rfl, h'⟩; replace hB := on hB h'; clear h')
    | (refine wpList_load_want rfl 43 (.tmp 2) rfl w.heap.size 0 rfl [.int .i64 x.k, .string (bs x.m.p), .slice x.m.A x.m.a.length x.m.c, .string (bs x.o), .string (bs x.a.v), .int .i64 x.a.x.k, .int .i64 x.a.x.n, .string x.a.x.s, .string (bs x.b.v), .int .i64 x.b.x.k, .int .i64 x.b.x.n, .string x.b.x.s, .string (bs x.c.v), .int .i64 x.c.x.k, .int .i64 x.c.x.n, .string x.c.x.s, .slice x.pA x.p.length x.pc] _ (HRG.out _ hB) Try.underlying43 rfl (by kernel_rfl) ?_)
    | (go_at_call 10; refine (HFew.out _ hB).mono ?_; rintro e w2 ⟨b, hb, rfl, h'⟩; have HBx := Lib.hid hb; replace hB := on hB h'; clear hb h'; cases b; (go_wp2_with (go_at_call 9; refine (awake11_any _).mono ?_; rintro e w1 ⟨rfl, h'⟩; replace hB := on hB h'; clear h'); go_ret; exact ⟨rfl, on HB0.out hB⟩)))
  have hx1 := fewB_each (HBx.out trivial) x (by simp)
  have hbl : bound.length ≤ 20 := (HBx.out trivial).2.2
  have HBI : Hid (∀ V, Below wa.heap.size wa V → Calls Try.prog 16 #[.agg (ltIC x).toArray, .slice A bound.length c] V (SaysN (namesL (bound ++ vsL x)) V)) := Lib.hid fun V hV => binds_any x A c bound V (HX.out.1.on hV) HX.out.2.1 hx1 (RdX.on HN.out hV) HK.out (by omega)
  have HVA : Hid (∀ V, Below wa.heap.size wa V → Calls Try.prog 14 #[.agg (ltIC x).toArray] V (SaysN (namesL (vsL x)) V)) := Lib.hid fun V hV => vars_any x V (HX.out.1.on hV) HX.out.2.1 hx1
  refine wp_region_held_drew (S := fun u => Below w2.heap.size w2 u) (by kernel_rfl) (Below.refl _ _).drew (fun hHeld => ?_)
  refine wpAnyH_take (i := 0) (v := .agg (ltIC x).toArray) rfl (by kernel_rfl) (by kernel_rfl) (by kernel_rfl) (fun _ _ _ h => h) (yieldsIf_load_mid (by rfl) 43 (.tmp 2) rfl w.heap.size 0 (by simp [Act.eval, Act.put]) (ltIC x) _ (fun V hV => HRG.out V (on hB hV)) Try.underlying43 rfl (by kernel_rfl)) hHeld ?rest0
  try simp only [Act.put, List.setIfInBounds_toArray, List.set_cons_zero, List.set_cons_succ, List.getElem_toArray, List.getElem_cons_zero, List.getElem_cons_succ]
  refine wpAnyH_take (i := 1) (v := ?v1) rfl (by kernel_rfl) (by kernel_rfl) (by kernel_rfl) (fun _ _ _ h => h) (Or.inl ⟨by rfl, ?hy1⟩) hHeld ?rest1
  case hy1 => (intro w hSw; (try dsimp only at hSw); go_simp; try with_reducible rfl)
  try simp only [Act.put, List.setIfInBounds_toArray, List.set_cons_zero, List.set_cons_succ, List.getElem_toArray, List.getElem_cons_zero, List.getElem_cons_succ]
  refine wpAnyH_take (i := 3) (v := .agg (ltIC x).toArray) rfl (by kernel_rfl) (by kernel_rfl) (by kernel_rfl) (fun _ _ _ h => h) (yieldsIf_load_mid (by rfl) 43 (.tmp 2) rfl w.heap.size 0 (by simp [Act.eval, Act.put]) (ltIC x) _ (fun V hV => HRG.out V (on hB hV)) Try.underlying43 rfl (by kernel_rfl)) hHeld ?rest3
  try simp only [Act.put, List.setIfInBounds_toArray, List.set_cons_zero, List.set_cons_succ, List.getElem_toArray, List.getElem_cons_zero, List.getElem_cons_succ]
  clear hHeld
  refine wpAnyH_ready (rs := [2]) (by kernel_rfl) (by simp) ?_
  refine AllReadyH.cons rfl (fun K hK => ?_) AllReadyH.nil
  go_simp
  go_at_call 16
  refine (HBI.out _ (on hB (Below.refl _ _).drew)).mono ?_
  rintro e w4 ⟨A4, c4, rfl, hO4, h4⟩
  have HO4 := Lib.hid hO4
  have HB4 : Hid (Below w2.heap.size w2 w4) := Lib.hid (on (Below.refl _ _).drew h4)
  clear hO4 h4
  dsimp only
  refine hK.out _ _ HB4.out (fun _ => ?_)
  clear hK K
  refine wpAnyH_ready (rs := [4]) (by kernel_rfl) (by simp) ?_
  refine AllReadyH.cons rfl (fun K hK => ?_) AllReadyH.nil
  go_simp
  go_at_call 14
  refine (HVA.out _ (on hB HB4.out)).mono ?_
  rintro e w5 ⟨A5, c5, rfl, hO5, h5⟩
  have HO5 := Lib.hid hO5
  have HB5 := Lib.hid h5
  have HB25 : Hid (Below w2.heap.size w2 w5) := Lib.hid (on HB4.out h5)
  clear hO5 h5
  dsimp only
  refine hK.out _ _ HB25.out (fun _ => ?_)
  clear hK K
  refine wpAnyH_ready (rs := [5]) (by kernel_rfl) (by simp) ?_
  refine AllReadyH.cons rfl (fun K hK => ?_) AllReadyH.nil
  go_simp
  refine hK.out _ _ HB25.out (fun _ => ?_)
  clear hK K
  refine wpAnyH_ready (rs := [6]) (by kernel_rfl) (by simp) ?_
  refine AllReadyH.cons rfl (fun K hK => ?_) AllReadyH.nil
  go_simp
  refine hK.out _ _ HB25.out (fun _ => ?_)
  clear hK K
  refine wpAnyH_done (by kernel_rfl) ?_ _
  try simp only [Act.put, List.setIfInBounds_toArray, List.set_cons_zero, List.set_cons_succ, List.getElem_toArray, List.getElem_cons_zero, List.getElem_cons_succ]
  generalize Value.agg (ltIC x).toArray = ag0
  generalize Value.agg #[.int .i64 x.k, .string (bs x.m.p), .slice x.m.A x.m.a.length x.m.c, .string (bs x.o), .string (bs x.a.v), .int .i64 x.a.x.k, .int .i64 x.a.x.n, .string x.a.x.s, .string (bs x.b.v), .int .i64 x.b.x.k, .int .i64 x.b.x.n, .string x.b.x.s, .string (bs x.c.v), .int .i64 x.c.x.k, .int .i64 x.c.x.n, .string x.c.x.s, .slice x.pA x.p.length x.pc] = ag1
  have HRb : Hid (RdN w5 A4 (namesL (bound ++ vsL x))) := Lib.hid (RdX.on HO4.out.rd HB5.out)
  have HRv : Hid (RdN w5 A5 (namesL (vsL x))) := Lib.hid HO5.out.rd
  have HBa := Lib.hid (on hB HB25.out)
  have HRn := Lib.hid (RdX.on HN.out HBa.out)
  have hmb : ∀ y, y ∈ namesL (bound ++ vsL x) ↔ y ∈ bound ∨ y ∈ vsL x := fun y => by rw [namesL_mem, List.mem_append]
  have hmv : ∀ y, y ∈ namesL (vsL x) ↔ y ∈ vsL x := fun y => namesL_mem _ y
  have hrb : Rising (namesL (bound ++ vsL x)) := namesL_rising _
  have he1 : namesL (namesL (bound ++ vsL x) ++ vsL x) = namesL (bound ++ vsL x) := namesL_congr fun y => by
    rw [List.mem_append, namesL_mem, List.mem_append]
    constructor
    · rintro (h | h)
      · exact h
      · exact .inr h
    · exact fun h => .inl h
  have hlb : (namesL (bound ++ vsL x)).length ≤ 2000 := by
    have n1 := namesL_len (bound ++ vsL x)
    have n4 := vsT_len (tmL x)
    simp only [vsL, tmL, List.length_append, List.length_cons, List.length_nil] at n1 n4 ⊢
    omega
  have hnb : NmOk (namesL (bound ++ vsL x)) := fun y hy => by
    rcases (hmb y).1 hy with h | h
    · exact HK.out y h
    · exact vsL_ok HX.out.2.1 y h
  have HMB := Lib.hid hmb; have HMV := Lib.hid hmv; have HRB := Lib.hid hrb; have HE1 := Lib.hid he1; have HLB := Lib.hid hlb; have HNB := Lib.hid hnb
  have hb9 : (namesL (bound ++ vsL x)).length ≤ 9223372036854775807 := by omega
  have HE2 : Hid (namesL ([] ++ vsL x) = namesL (vsL x)) := Lib.hid rfl
  clear hmb hmv hrb he1 hlb hnb HO4 HO5 HBI HVA HB4 HB5 HB25 hB HFew HN
  generalize namesL (bound ++ vsL x) = bb at *
  generalize namesL (vsL x) = vv at *
  go_wp2
  go_loopw [27] (fun j wq => ∃ k : Nat, j = .int .i64 (k : Nat) ∧ k ≤ bb.length ∧ Below w5.heap.size w5 wq) (fun j _ => bb.length - (intOf j).toNat)
  case atStart => exact ⟨0, rfl, Nat.zero_le _, Below.refl _ _⟩
  case round =>
    obtain ⟨k, rfl, hk, hq⟩ := hrel
    have HQ := Lib.hid hq
    by_cases hlt : k < bb.length
    · obtain ⟨s, hs⟩ : ∃ s, bb[k]? = some s := ⟨_, List.getElem?_eq_getElem hlt⟩
      have hsb := List.mem_of_getElem? hs
      have hin := (HMB.out s).1 hsb
      have iq1 : Hid (∀ n, Calls Try.prog 25 #[.slice A5 vv.length c5, .string (bs s)] (wr.drewN n) fun e w' => e = .returned (.bool (decide (s ∈ vv))) ∧ w' = wr.drewN n) := Lib.hid fun n => (in_any A5 c5 vv s _ (RdX.on HRv.out (on hq (bel_draws11 wr n)))).mono fun _ _ ⟨he, hw⟩ => ⟨he, hw.symm⟩
      have iq2 : Hid (∀ n, Calls Try.prog 25 #[.slice A bound.length c, .string (bs s)] (wr.drewN n) fun e w' => e = .returned (.bool (decide (s ∈ bound))) ∧ w' = wr.drewN n) := Lib.hid fun n => (in_any A c bound s _ (RdX.on HRn.out (on hq (bel_draws11 wr n)))).mono fun _ _ ⟨he, hw⟩ => ⟨he, hw.symm⟩
      obtain ⟨D1, h1⟩ : ∃ D1, decide (s ∈ vv) = D1 := ⟨_, rfl⟩
      obtain ⟨D2, h2⟩ : ∃ D2, decide (s ∈ bound) = D2 := ⟨_, rfl⟩
      have HOR : Hid (D1 = true ∨ D2 = true) := Lib.hid (by
        rw [← h1, ← h2, decide_eq_true_eq, decide_eq_true_eq]
        rcases hin with h | h
        · exact .inr h
        · exact .inl ((HMV.out s).2 h))
      rw [h1] at iq1; rw [h2] at iq2
      clear h1 h2 hin hsb
      obtain ⟨b8, o8, rfl, hb8, hc8⟩ := RdN.at_ (RdX.on HRb.out hq) hs
      by_cases hk0 : 0 < k
      · obtain ⟨t, ht⟩ : ∃ t, bb[k - 1]? = some t := ⟨_, List.getElem?_eq_getElem (by omega)⟩
        have hlt2 : t < s := by
          obtain ⟨h1, h2⟩ := List.getElem?_eq_some_iff.1 hs
          obtain ⟨h3, h4⟩ := List.getElem?_eq_some_iff.1 ht
          rw [← h2, ← h4]
          exact List.pairwise_iff_getElem.1 HRB.out (k - 1) k h3 h1 (by omega)
        have fm : (Op.bytesLess (bs s).toList (bs t).toList || (bs s).toList == (bs t).toList) = false := by
          rw [bl_eq, bs_eq]
          simp only [Bool.or_eq_false_iff, decide_eq_false_iff_not]
          exact ⟨fun h => nm_lt_irrefl s (nm_lt_trans h hlt2), fun h => nm_lt_irrefl s (h ▸ hlt2)⟩
        obtain ⟨b7, o7, e7, hb7, hc7⟩ := RdN.at_ (RdX.on HRb.out hq) ht
        cases e7
        clear hs ht hlt2
        go_upto_region 7 with fail
        cases D1 with
        | true =>
          refine wp_region_quiet_lit (by kernel_rfl) (by kernel_rfl) ?_
          repeat (go_big_quiet_step (first | (go_at_call 25; with_reducible exact Calls.quiet_of_same (iq1.out _)) | (go_at_call 25; with_reducible exact Calls.quiet_of_same (iq2.out _))))
          refine wpQuiet_nil ?_
          intro _ hw'
          obtain ⟨nq, hw''⟩ := hw'
          subst hw''
          have HBn := Lib.hid (on HQ.out (bel_draws11 wr nq))
          clear hq
          generalize wr.drewN nq = wn at *
          go_wp2
          go_roundw
          case rel => exact ⟨k + 1, by go_num, by omega, HBn.out⟩
          case measure => simp [intOf]; omega
        | false =>
          obtain rfl : D2 = true := HOR.out.resolve_left (by decide)
          refine wp_region_quiet_lit (by kernel_rfl) (by kernel_rfl) ?_
          repeat (go_big_quiet_step (first | (go_at_call 25; with_reducible exact Calls.quiet_of_same (iq1.out _)) | (go_at_call 25; with_reducible exact Calls.quiet_of_same (iq2.out _))))
          refine wpQuiet_nil ?_
          intro _ hw'
          obtain ⟨nq, hw''⟩ := hw'
          subst hw''
          have HBn := Lib.hid (on HQ.out (bel_draws11 wr nq))
          clear hq
          generalize wr.drewN nq = wn at *
          go_wp2
          go_roundw
          case rel => exact ⟨k + 1, by go_num, by omega, HBn.out⟩
          case measure => simp [intOf]; omega
      · have hk1 : ¬ ((0:Int) < (k:Int)) := by omega
        clear hs
        go_upto_region 7 with fail
        cases D1 with
        | true =>
          refine wp_region_quiet_lit (by kernel_rfl) (by kernel_rfl) ?_
          repeat (go_big_quiet_step (first | (go_at_call 25; with_reducible exact Calls.quiet_of_same (iq1.out _)) | (go_at_call 25; with_reducible exact Calls.quiet_of_same (iq2.out _))))
          refine wpQuiet_nil ?_
          intro _ hw'
          obtain ⟨nq, hw''⟩ := hw'
          subst hw''
          have HBn := Lib.hid (on HQ.out (bel_draws11 wr nq))
          clear hq
          generalize wr.drewN nq = wn at *
          go_wp2
          go_roundw
          case rel => exact ⟨k + 1, by go_num, by omega, HBn.out⟩
          case measure => simp [intOf]; omega
        | false =>
          obtain rfl : D2 = true := HOR.out.resolve_left (by decide)
          refine wp_region_quiet_lit (by kernel_rfl) (by kernel_rfl) ?_
          repeat (go_big_quiet_step (first | (go_at_call 25; with_reducible exact Calls.quiet_of_same (iq1.out _)) | (go_at_call 25; with_reducible exact Calls.quiet_of_same (iq2.out _))))
          refine wpQuiet_nil ?_
          intro _ hw'
          obtain ⟨nq, hw''⟩ := hw'
          subst hw''
          have HBn := Lib.hid (on HQ.out (bel_draws11 wr nq))
          clear hq
          generalize wr.drewN nq = wn at *
          go_wp2
          go_roundw
          case rel => exact ⟨k + 1, by go_num, by omega, HBn.out⟩
          case measure => simp [intOf]; omega
    · obtain rfl : k = bb.length := by omega
      have hq7 : Below wr.heap.size wr wr := Below.refl _ _
      have HRv2 := Lib.hid (RdX.on HRv.out hq)
      have HRn2 := Lib.hid (RdX.on HRn.out hq)
      have HRb2 := Lib.hid (RdX.on HRb.out hq)
      have hlv : vv.length ≤ 2000 := by
        have n1 := nm_nodup_len vv bb (by rw [← HE2.out]; exact (namesL_rising _).nodup) (fun y hy => (HMB.out y).2 (.inr ((HMV.out y).1 hy)))
        have := HLB.out
        omega
      clear hq
      go_wp2_with (first
        | (at_builtin; refine wpList_app0 rfl (.tmp 63) (.tmp 64) rfl A5 c5 vv rfl rfl (RdX.on HRv2.out hq7) (by omega) ?_; intro A6 c6 w6 hO6 hg6; have HO6 := Lib.hid hO6; replace hq7 := on hq7 hg6; clear hO6 hg6)
        | (at_builtin; refine wpList_app2 rfl (.tmp 65) (.tmp 66) rfl HO6.out A c bound rfl rfl (RdX.on HRn2.out hq7) (by omega) hq7.size ?_; intro A7 c7 w7 hO7 hg7; have HO7 := Lib.hid hO7; replace hq7 := hq7.trans hg7; clear hO7 hg7))
      have HZ := Lib.hid (on HQ.out hq7)
      have HL2 := Lib.hid HO7.out.rd
      have HBB := Lib.hid (on HBa.out HZ.out)
      have HRb3 := Lib.hid (RdX.on HRb2.out hq7)
      have HRv3 := Lib.hid (RdX.on HRv2.out hq7)
      have hl2 : (vv ++ bound).length = vv.length + bound.length := List.length_append
      clear HQ HRn2 HRv2 HRb2 HRn HRv HRb HO7 HO6
      clear hq7
      go_loopw [69] (fun j wq => ∃ k : Nat, j = .int .i64 (k : Nat) ∧ k ≤ vv.length + bound.length ∧ Below w7.heap.size w7 wq) (fun j _ => vv.length + bound.length - (intOf j).toNat)
      case atStart => exact ⟨0, rfl, Nat.zero_le _, Below.refl _ _⟩
      case round =>
        obtain ⟨k, rfl, hk2, hq⟩ := hrel
        have HQ := Lib.hid hq
        by_cases hlt2 : k < vv.length + bound.length
        · obtain ⟨s, hs⟩ : ∃ s, (vv ++ bound)[k]? = some s := ⟨_, List.getElem?_eq_getElem (by rw [hl2]; exact hlt2)⟩
          have hsb : s ∈ bb := by
            rcases List.mem_append.1 (List.mem_of_getElem? hs) with h | h
            · exact (HMB.out s).2 (.inr ((HMV.out s).1 h))
            · exact (HMB.out s).2 (.inl h)
          obtain ⟨b8, o8, rfl, hb8, hc8⟩ := RdN.at_ (RdX.on HL2.out hq) hs
          have HI : Hid (Calls Try.prog 25 #[.slice A4 bb.length c4, .string (bs s)] wr fun e w' => e = .returned (.bool true) ∧ wr = w') := Lib.hid (by
            have h := in_any A4 c4 bb s wr (RdX.on HRb3.out hq)
            rw [decide_eq_true hsb] at h
            exact h)
          clear hs hsb hq
          go_wp2_with (go_at_call 25; refine HI.out.mono ?_; rintro e w3 ⟨rfl, rfl⟩)
          go_roundw
          case rel => exact ⟨k + 1, by go_num, by omega, HQ.out⟩
          case measure => simp [intOf]; omega
        · obtain rfl : k = vv.length + bound.length := by omega
          have hqw := on HBB.out hq
          have h4 : Below wr.heap.size wr wr := Below.refl _ _
          have HRb4 := Lib.hid (RdX.on HRb3.out hq)
          have HRv4 := Lib.hid (RdX.on HRv3.out hq)
          have HQW := Lib.hid hqw
          have HBI : Hid (∀ V, Below wr.heap.size wr V → Calls Try.prog 16 #[.agg (ltIC x).toArray, .slice A4 bb.length c4] V (SaysN bb V)) := Lib.hid fun V hV => by
            have h := binds_any x A4 c4 bb V (HX.out.1.on (on HQW.out hV)) HX.out.2.1 hx1 (RdX.on HRb4.out hV) HNB.out (by have := HLB.out; omega)
            rw [HE1.out] at h
            exact h
          have HBN : Hid (∀ V, Below wr.heap.size wr V → Calls Try.prog 16 #[.agg (ltIC x).toArray, .slice none 0 0] V (SaysN vv V)) := Lib.hid fun V hV => by
            have h := binds_any x none 0 [] V (HX.out.1.on (on HQW.out hV)) HX.out.2.1 hx1 ⟨Nat.zero_le _, fun i y hy => by simp at hy⟩ (fun s hs => by cases hs) (Nat.zero_le _)
            rw [HE2.out] at h
            exact h
          have HRG4 : Hid (∀ V, Below wr.heap.size wr V → V.rangeAt w.heap.size 0 (ltIC x)) := Lib.hid fun V hV => HRG.out V (on HQW.out hV)
          clear hq hqw
          go_wp2_with (first
            | (refine wpList_load_mid rfl 43 (.tmp 2) rfl w.heap.size 0 rfl (ltIC x) _ (HRG4.out _ h4) Try.underlying43 rfl (by kernel_rfl) ?_)
            | (refine wpList_load_want rfl 43 (.tmp 2) rfl w.heap.size 0 rfl (ltIC x) _ (HRG4.out _ h4) Try.underlying43 rfl (by kernel_rfl) ?_)
            | (go_at_call 16; refine (HBI.out _ h4).mono ?_; rintro e w8 ⟨A8, c8, rfl, hO8, h8⟩; have HO8 := Lib.hid hO8; replace h4 := on h4 h8; clear hO8 h8; clear HBI)
            | (go_at_call 13; refine (same11_yes A8 A4 c8 c4 bb _ HO8.out.rd (RdX.on HRb4.out h4)).mono ?_; rintro e w9 ⟨rfl, h9⟩; replace h4 := on h4 h9; clear h9; clear HRb4)
            | (go_at_call 16; refine (HBN.out _ h4).mono ?_; rintro e w10 ⟨A10, c10, rfl, hO10, h10⟩; have HO10 := Lib.hid hO10; replace h4 := on h4 h10; clear hO10 h10)
            | (go_at_call 13; refine (same11_yes A10 A5 c10 c5 vv _ HO10.out.rd (RdX.on HRv4.out h4)).mono ?_; rintro e w11 ⟨rfl, h11⟩; replace h4 := on h4 h11; clear h11))
          go_ret
          exact ⟨rfl, on HB0.out (on HQW.out h4)⟩

theorem own : ownKnob Try.prog.godebug = none := by kernel_rfl

set_option maxRecDepth 100000 in
theorem lifted (os : Os) (started : os.Started) (H : Type) (enc : TypeId × Value → H) :
    ReturnsInHanded {} Try.checked os 8 .any (Rows.safeBindsSpec.pre6 enc Try.prog Try.f8 Rows.safeBindsRow.domain false) (Rows.safeBindsSpec.post enc Try.prog Try.f8 false true false false) := by
  refine returnsInHanded_of_change (C := Try.checked) own started (by kernel_rfl) Try.func8
    (ChangeSpec.witness6 (enc := enc) (C := Try.checked) false ⟨#[], #[.agg #[.int .i64 0, .string ByteArray.empty, .slice none 0 0, .string ByteArray.empty, .string ByteArray.empty, .int .i64 0, .int .i64 0, .string ByteArray.empty, .string ByteArray.empty, .int .i64 0, .int .i64 0, .string ByteArray.empty, .string ByteArray.empty, .int .i64 0, .int .i64 0, .string ByteArray.empty, .slice none 0 0], .slice none 0 0], []⟩ 8 (by kernel_rfl) (by kernel_rfl) (by kernel_rfl) (by kernel_rfl)) ?_
  intro W base args ds gs before hval0 hW hcnd _
  have hval : ∀ (j : Nat) t v, Try.f8.params[j]? = some t → args[j]? = some v → Value.okWide Try.prog W .any base t v := hval0
  have hW' := hW
  obtain ⟨p, q, hA0, hV, rfl, hfz, hnd⟩ := hW
  have hA : DataW.TrodAll enc Try.prog W 0 (fun _ => true) true Try.f8.params.toList args.toList ds p := hA0
  have hAk := hA
  rw [Try.params8] at hA hval
  obtain ⟨v0, vs0, d0, ds0, p0, q0, hargs, rfl, rfl, h0, r0⟩ := trodAll_cons hA
  obtain ⟨v1, vs1, d1, ds1, p1, q1, rfl, rfl, rfl, h1, r1⟩ := trodAll_cons r0
  obtain ⟨rfl, rfl, rfl⟩ := trodAll_nil r1
  obtain rfl : args = #[v0, v1] := by cases args; simp_all
  obtain ⟨rfl, rfl⟩ := trodVars_none hV
  obtain ⟨x0, rfl, k0'⟩ := open_lit (okWide_struct Try.underlying43 (hval 0 43 v0 rfl rfl)) h0
  obtain ⟨A1, c1, l1, rfl, r1', k1'⟩ := open_nms (okWide_slice Try.underlying23 (hval 1 23 v1 rfl rfl)) h1
  clear hA0 hval0
  refine (walk x0 A1 c1 l1 W k0' r1' k1').mono fun e W' ⟨he, hg⟩ => ?_
  subst he
  refine ⟨_, rfl, post_old hW' (by simpa using hAk) (by rw [Try.params8]; decide) (fun _ _ _ => (trodAll_cons_mk (shut_bool Try.underlying4 _) trodAll_mk0)) rfl (fun _ => rfl) hg⟩

theorem proved : Rows.SafeBindsSaid :=
  OpenClaim.holds_of_wide 8 Try.f8 rfl rfl rfl rfl rfl rfl rfl ⟨rfl, rfl, rfl, rfl, rfl⟩ rfl rfl rfl rfl rfl (by kernel_rfl) Try.func8 (by kernel_rfl)
    (of_decide_eq_true (by kernel_rfl)) (by unfold Func.isWrapper; first | (rw [if_pos (by decide +kernel)]; kernel_rfl) | (rw [if_neg (by decide +kernel)]; exact ⟨rfl, rfl⟩))
    (fun os started H enc _ => lifted os started H enc)
#print axioms proved
end Go.Proofs.Ytahljmddnfldlaa.safeBinds

/-
  The document's comparison of two programs that are alike. (Printed by tools/mkeq9.py.)
-/
import Derived.Test.YtdolhlbkhhnpmaaGreatDoorShwIn
import Derived.Test.YtdolhlbkhhnpmaaGreatDoorPrsEb
import Derived.Test.YtdolhlbkhhnpmaaGreatDoorShwTt
import Derived.Test.YtdolhlbkhhnpmaaGreatDoorPrsEc
import Derived.Deep.RegionHeld3
import Derived.Deep.CutRange
import Derived.Test.YtdolhlbkhhnpmaaGreatDoorShwTx
import Derived.RegionTactic
import Derived.BigQuiet
namespace Go.Proofs.YtdolhlbkhhnpmaaGreatDoor
open Go.RowKit FloM ValM Go.Shelf
set_option linter.unusedVariables false
set_option linter.unusedSimpArgs false
structure LtE where
  k : Int
  m : Am
  o : List UInt8
  a : Tm
  b : Tm
  c : Tm
  p : List SI
structure RlE where
  h : Am
  f : Int
  b : List LtE
structure PgE where
  r : List RlE
  q : Am
def LtI.er (x : LtI) : LtE := ⟨x.k, x.m.am, x.o, x.a, x.b, x.c, x.p⟩
def RlI.er (x : RlI) : RlE := ⟨x.h.am, x.f, x.b.map LtI.er⟩
def PgI.er (x : PgI) : PgE := ⟨x.r.map RlI.er, x.q.am⟩
theorem at_map {α γ : Type} {f : α → γ} {l l' : List α} (h : l.map f = l'.map f) {i : Nat} {x : α} (hx : l[i]? = some x) : ∃ y, l'[i]? = some y ∧ f x = f y := by
  have h1 : (l.map f)[i]? = some (f x) := by rw [List.getElem?_map, hx]; rfl
  rw [h, List.getElem?_map, Option.map_eq_some_iff] at h1
  obtain ⟨y, hy, e⟩ := h1
  exact ⟨y, hy, e.symm⟩
set_option maxRecDepth 20000 in
set_option maxHeartbeats 4000000 in
theorem sameAtom9_yes (x y : AmA) (W : World) (hx : x.rd W) (hy : y.rd W) (h : x.am = y.am) :
    Calls Tryz.prog 34 #[.agg #[.string (bs x.p), .slice x.A x.a.length x.c], .agg #[.string (bs y.p), .slice y.A y.a.length y.c]] W fun e w' => e = .returned (.bool true) ∧ Below W.heap.size W w' := by
  obtain ⟨p, A, c, l⟩ := x
  obtain ⟨p2, A2, c2, l2⟩ := y
  unfold AmA.am at h
  injection h with h1 h2
  subst h1 h2
  have HX := Lib.hid hx; have HY := Lib.hid hy
  have hmx : l.length ≤ 9223372036854775807 := Nat.le_trans hx.1 (by decide)
  clear hx hy
  have hb0 : Below W.heap.size W ((W.alloc (.cells #[.string (bs p), .slice A l.length c] 25)).alloc (.cells #[.string (bs p), .slice A2 l.length c2] 25)) := ((Below.refl _ _).alloc (Nat.le_refl _) _).alloc (by simp) _
  have HB0 := Lib.hid hb0
  have R1 := Lib.hid ((row_new (t := 25) W [.string (bs p), .slice A l.length c]).alloc (.cells #[.string (bs p), .slice A2 l.length c2] 25))
  have R2 := Lib.hid (row_new (t := 25) (W.alloc (.cells #[.string (bs p), .slice A l.length c] 25)) [.string (bs p), .slice A2 l.length c2])
  rw [World.size_alloc] at R2
  go_enter Tryz.func34, Tryz.ntmps34
  go_wp2
  go_loopw [23] (fun vi wr => ∃ k : Nat, vi = .int .i64 (k : Nat) ∧ k ≤ l.length ∧ Below ((W.alloc (.cells #[.string (bs p), .slice A l.length c] 25)).alloc (.cells #[.string (bs p), .slice A2 l.length c2] 25)).heap.size ((W.alloc (.cells #[.string (bs p), .slice A l.length c] 25)).alloc (.cells #[.string (bs p), .slice A2 l.length c2] 25)) wr) (fun vi _ => l.length - (intOf vi).toNat)
  case atStart => exact ⟨0, rfl, Nat.zero_le _, Below.refl _ _⟩
  case round =>
    obtain ⟨k, rfl, hk, hb⟩ := hrel
    have hbW : Below W.heap.size W wr := on HB0.out hb
    have HBW := Lib.hid hbW
    have a0 := (rowOn R1.out hb).cell 1
    have a1 := (rowOn R2.out hb).cell 1
    by_cases hlt : k < l.length
    · obtain ⟨t, ht⟩ : ∃ t, l[k]? = some t := ⟨_, List.getElem?_eq_getElem hlt⟩
      obtain ⟨g, o, rfl, hg, hc⟩ := (RdX.on HX.out hbW).2 k t ht
      obtain ⟨g2, o2, rfl, hg2, hc2⟩ := (RdX.on HY.out hbW).2 k t ht
      have x0 := hc 0 _ rfl; have x1 := hc 1 _ rfl; have x2 := hc 2 _ rfl; have x3 := hc 3 _ rfl
      have y0 := hc2 0 _ rfl; have y1 := hc2 1 _ rfl; have y2 := hc2 2 _ rfl; have y3 := hc2 3 _ rfl
      rw [Nat.add_zero] at x0 y0
      have HB := Lib.hid hb
      clear hc hc2 ht hbW hb
      go_wp2
      go_quiet (fail)
      go_wp2
      go_roundw
      case rel => exact ⟨k + 1, by go_num, by omega, ⟨HB.out.os, HB.out.tape, HB.out.output, HB.out.size, HB.out.block⟩⟩
      case measure => simp [intOf]; omega
    · obtain rfl : k = l.length := by omega
      go_wp2
      go_ret
      exact ⟨rfl, HBW.out⟩
set_option maxRecDepth 20000 in
set_option maxHeartbeats 16000000 in
theorem sameRule9_yes (x y : RlI) (W : World) (hx : x.rd W) (hy : y.rd W) (h : x.er = y.er) :
    Calls Tryz.prog 18 #[.agg #[.string (bs x.h.p), .slice x.h.A x.h.a.length x.h.c, .int .i64 x.f, .slice x.A x.b.length x.c], .agg #[.string (bs y.h.p), .slice y.h.A y.h.a.length y.h.c, .int .i64 y.f, .slice y.A y.b.length y.c]] W fun e w' => e = .returned (.bool true) ∧ Below W.heap.size W w' := by
  unfold RlI.er at h
  injection h with hham hf hbm
  have hbl : x.b.length = y.b.length := by have := congrArg List.length hbm; simpa using this
  have hcW : Below W.heap.size W ((W.alloc (.cells #[.string (bs x.h.p), .slice x.h.A x.h.a.length x.h.c, .int .i64 x.f, .slice x.A x.b.length x.c] 33)).alloc (.cells #[.string (bs y.h.p), .slice y.h.A y.h.a.length y.h.c, .int .i64 y.f, .slice y.A y.b.length y.c] 33)) := ((Below.refl _ _).alloc (Nat.le_refl _) _).alloc (by simp) _
  have RP : Hid (Row 33 ((W.alloc (.cells #[.string (bs x.h.p), .slice x.h.A x.h.a.length x.h.c, .int .i64 x.f, .slice x.A x.b.length x.c] 33)).alloc (.cells #[.string (bs y.h.p), .slice y.h.A y.h.a.length y.h.c, .int .i64 y.f, .slice y.A y.b.length y.c] 33)) W.heap.size [.string (bs x.h.p), .slice x.h.A x.h.a.length x.h.c, .int .i64 x.f, .slice x.A x.b.length x.c]) := Lib.hid ((row_new (t := 33) W [.string (bs x.h.p), .slice x.h.A x.h.a.length x.h.c, .int .i64 x.f, .slice x.A x.b.length x.c]).alloc _)
  have RQ : Hid (Row 33 ((W.alloc (.cells #[.string (bs x.h.p), .slice x.h.A x.h.a.length x.h.c, .int .i64 x.f, .slice x.A x.b.length x.c] 33)).alloc (.cells #[.string (bs y.h.p), .slice y.h.A y.h.a.length y.h.c, .int .i64 y.f, .slice y.A y.b.length y.c] 33)) (W.heap.size + 1) [.string (bs y.h.p), .slice y.h.A y.h.a.length y.h.c, .int .i64 y.f, .slice y.A y.b.length y.c]) := Lib.hid (by have h := row_new (t := 33) (W.alloc (.cells #[.string (bs x.h.p), .slice x.h.A x.h.a.length x.h.c, .int .i64 x.f, .slice x.A x.b.length x.c] 33)) [.string (bs y.h.p), .slice y.h.A y.h.a.length y.h.c, .int .i64 y.f, .slice y.A y.b.length y.c]; rw [World.size_alloc] at h; exact h)
  have HXR := Lib.hid hx; have HYR := Lib.hid hy; have HBM := Lib.hid hbm; have HCW := Lib.hid hcW
  have hfb : (x.f != y.f) = false := by rw [hf]; simp
  have hbn : ((x.b.length : Int) != (y.b.length : Int)) = false := by rw [hbl]; simp
  have hbl1 := Nat.le_of_eq hbl; have hbl2 := Nat.le_of_eq hbl.symm
  have hmb : x.b.length ≤ 9223372036854775807 := hx.2.1.1
  have HAT := Lib.hid (sameAtom9_yes x.h y.h _ (AmA.rd.on hx.1 hcW) (AmA.rd.on hy.1 hcW) hham)
  clear hham hf hbm hbl hcW hx hy
  obtain ⟨wc, hwc⟩ : ∃ wc, Hid (((W.alloc (.cells #[.string (bs x.h.p), .slice x.h.A x.h.a.length x.h.c, .int .i64 x.f, .slice x.A x.b.length x.c] 33)).alloc (.cells #[.string (bs y.h.p), .slice y.h.A y.h.a.length y.h.c, .int .i64 y.f, .slice y.A y.b.length y.c] 33)) = wc) := ⟨_, Lib.hid rfl⟩
  go_enter Tryz.func18, Tryz.ntmps18
  go_wp2_with (go_at_call 34; refine HAT.out.mono ?_; rintro e w5 ⟨rfl, hb5⟩; have p3' := (rowOn RP.out hb5).cell 3; have q3' := (rowOn RQ.out hb5).cell 3; simp only [List.getElem?_cons_zero, List.getElem?_cons_succ] at p3' q3'; have HB5 := Lib.hid hb5; clear hb5)
  rw [hwc.out] at RP RQ HCW HB5
  clear hwc HAT
  go_loopw [33] (fun vi wr2 => ∃ j : Nat, vi = .int .i64 (j : Nat) ∧ j ≤ x.b.length ∧ Below wc.heap.size wc wr2) (fun vi _ => x.b.length - (intOf vi).toNat)
  case atStart => exact ⟨0, rfl, Nat.zero_le _, HB5.out⟩
  case round =>
    obtain ⟨j, rfl, hj, hb2⟩ := hrel
    have HB2 := Lib.hid hb2
    have h2W : Below W.heap.size W wr := on HCW.out hb2
    have HZ2 : Hid (W.heap.size < wr.heap.size ∧ W.heap.size + 1 < wr.heap.size) := Lib.hid ⟨(rowOn RP.out hb2).lt, (rowOn RQ.out hb2).lt⟩
    have b0 := (rowOn RP.out hb2).cell 3; have b1 := (rowOn RQ.out hb2).cell 3
    simp only [List.getElem?_cons_zero, List.getElem?_cons_succ] at b0 b1
    by_cases hjlt : j < x.b.length
    · obtain ⟨u, hu⟩ : ∃ u, x.b[j]? = some u := ⟨_, List.getElem?_eq_getElem hjlt⟩
      obtain ⟨v, hv, huv⟩ := at_map HBM.out hu
      have hjlt2 : j < y.b.length := by omega
      obtain ⟨g3, o3, hA3, hg3, hc3⟩ := (RdX.on HXR.out.2.1 h2W).2 j u hu
      obtain ⟨g4, o4, hA4, hg4, hc4⟩ := (RdX.on HYR.out.2.1 h2W).2 j v hv
      have HUR := Lib.hid (HXR.out.2.2 u (List.mem_of_getElem? hu)); have HVR := Lib.hid (HYR.out.2.2 v (List.mem_of_getElem? hv))
      obtain ⟨lk, um, lo, la, lb, lc, uA, uC, lp⟩ := u
      obtain ⟨lk2, vm, lo2, la2, lb2, lc2, vA, vC, lp2⟩ := v
      unfold LtI.er at huv
      injection huv with e1 hmm e3 e4 e5 e6 e7
      simp only at e1 hmm e3 e4 e5 e6 e7
      subst e1 e3 e4 e5 e6 e7
      have RU : Hid (wr.rangeAt g3 (o3 + j * 17) [.int .i64 lk, .string (bs um.p), .slice um.A um.a.length um.c, .string (bs lo), .string (bs la.v), .int .i64 la.x.k, .int .i64 la.x.n, .string la.x.s, .string (bs lb.v), .int .i64 lb.x.k, .int .i64 lb.x.n, .string lb.x.s, .string (bs lc.v), .int .i64 lc.x.k, .int .i64 lc.x.n, .string lc.x.s, .slice uA lp.length uC]) := Lib.hid hc3; have RV : Hid (wr.rangeAt g4 (o4 + j * 17) [.int .i64 lk, .string (bs vm.p), .slice vm.A vm.a.length vm.c, .string (bs lo), .string (bs la.v), .int .i64 la.x.k, .int .i64 la.x.n, .string la.x.s, .string (bs lb.v), .int .i64 lb.x.k, .int .i64 lb.x.n, .string lb.x.s, .string (bs lc.v), .int .i64 lc.x.k, .int .i64 lc.x.n, .string lc.x.s, .slice vA lp.length vC]) := Lib.hid hc4
      rw [hA3] at b0
      rw [hA4] at b1
      clear hA3 hA4 hc3 hc4 hb2 hu hv
      go_upto_region 6 with fail
      go_cut [6, 7, 33] from 33 to 95 (fun v9 v10 v67 wx => v67 = .int .i64 (j : Nat) ∧ ∃ p2 q2, v9 = .pointer (some ⟨p2, 0, none⟩) ∧ v10 = .pointer (some ⟨q2, 0, none⟩) ∧ Row 53 wx p2 [.int .i64 lk, .string (bs um.p), .slice um.A um.a.length um.c, .string (bs lo), .string (bs la.v), .int .i64 la.x.k, .int .i64 la.x.n, .string la.x.s, .string (bs lb.v), .int .i64 lb.x.k, .int .i64 lb.x.n, .string lb.x.s, .string (bs lc.v), .int .i64 lc.x.k, .int .i64 lc.x.n, .string lc.x.s, .slice uA lp.length uC] ∧ Row 53 wx q2 [.int .i64 lk, .string (bs vm.p), .slice vm.A vm.a.length vm.c, .string (bs lo), .string (bs la.v), .int .i64 la.x.k, .int .i64 la.x.n, .string la.x.s, .string (bs lb.v), .int .i64 lb.x.k, .int .i64 lb.x.n, .string lb.x.s, .string (bs lc.v), .int .i64 lc.x.k, .int .i64 lc.x.n, .string lc.x.s, .slice vA lp.length vC] ∧ Below wr.heap.size wr wx)
      case first =>
        refine wp_region_held_drew (S := fun u => Below wr.heap.size wr u) (by kernel_rfl) (Below.refl _ _).drew (fun hHeld => ?_)
        refine wpAnyH_take (i := 0) (v := ?v0) rfl (by kernel_rfl) (by kernel_rfl) (by kernel_rfl) (fun _ _ _ h => h) (Or.inl ⟨by rfl, ?hy0⟩) hHeld ?rest0
        case hy0 => (intro w hSw; (try dsimp only at hSw); have hz0 := (keep hSw _ _ HZ2.out.1).trans b0; have hz1 := (keep hSw _ _ HZ2.out.2).trans b1; go_simp; try with_reducible rfl)
        try simp only [Act.put, List.setIfInBounds_toArray, List.set_cons_zero, List.set_cons_succ, List.getElem_toArray, List.getElem_cons_zero, List.getElem_cons_succ]
        refine wpAnyH_take (i := 1) (v := ?v1) rfl (by kernel_rfl) (by kernel_rfl) (by kernel_rfl) (fun _ _ _ h => h) (Or.inl ⟨by rfl, ?hy1⟩) hHeld ?rest1
        case hy1 => (intro w hSw; (try dsimp only at hSw); have hz0 := (keep hSw _ _ HZ2.out.1).trans b0; have hz1 := (keep hSw _ _ HZ2.out.2).trans b1; go_simp; try with_reducible rfl)
        try simp only [Act.put, List.setIfInBounds_toArray, List.set_cons_zero, List.set_cons_succ, List.getElem_toArray, List.getElem_cons_zero, List.getElem_cons_succ]
        refine wpAnyH_take (i := 2) (v := ?v2) rfl (by kernel_rfl) (by kernel_rfl) (by kernel_rfl) (fun _ _ _ h => h) (Or.inl ⟨by rfl, ?hy2⟩) hHeld ?rest2
        case hy2 => (intro w hSw; (try dsimp only at hSw); have hz0 := (keep hSw _ _ HZ2.out.1).trans b0; have hz1 := (keep hSw _ _ HZ2.out.2).trans b1; go_simp; try with_reducible rfl)
        try simp only [Act.put, List.setIfInBounds_toArray, List.set_cons_zero, List.set_cons_succ, List.getElem_toArray, List.getElem_cons_zero, List.getElem_cons_succ]
        refine wpAnyH_take (i := 3) (v := ?v3) rfl (by kernel_rfl) (by kernel_rfl) (by kernel_rfl) (fun _ _ _ h => h) (Or.inl ⟨by rfl, ?hy3⟩) hHeld ?rest3
        case hy3 => (intro w hSw; (try dsimp only at hSw); have hz0 := (keep hSw _ _ HZ2.out.1).trans b0; have hz1 := (keep hSw _ _ HZ2.out.2).trans b1; go_simp; try with_reducible rfl)
        try simp only [Act.put, List.setIfInBounds_toArray, List.set_cons_zero, List.set_cons_succ, List.getElem_toArray, List.getElem_cons_zero, List.getElem_cons_succ]
        refine wpAnyH_take (i := 4) (v := .agg #[.int .i64 lk, .string (bs um.p), .slice um.A um.a.length um.c, .string (bs lo), .string (bs la.v), .int .i64 la.x.k, .int .i64 la.x.n, .string la.x.s, .string (bs lb.v), .int .i64 lb.x.k, .int .i64 lb.x.n, .string lb.x.s, .string (bs lc.v), .int .i64 lc.x.k, .int .i64 lc.x.n, .string lc.x.s, .slice uA lp.length uC]) rfl (by kernel_rfl) (by kernel_rfl) (by kernel_rfl) (fun _ _ _ h => h) (yieldsIf_load_mid (by rfl) 53 (.tmp 39) rfl g3 (o3 + j * 17) (by simp [Act.eval, Act.put]) [.int .i64 lk, .string (bs um.p), .slice um.A um.a.length um.c, .string (bs lo), .string (bs la.v), .int .i64 la.x.k, .int .i64 la.x.n, .string la.x.s, .string (bs lb.v), .int .i64 lb.x.k, .int .i64 lb.x.n, .string lb.x.s, .string (bs lc.v), .int .i64 lc.x.k, .int .i64 lc.x.n, .string lc.x.s, .slice uA lp.length uC] _ (fun w hw j' v' h' => (keep hw _ _ hg3).trans (RU.out j' v' h')) Tryz.underlying53 rfl (by kernel_rfl)) hHeld ?rest4
        try simp only [Act.put, List.setIfInBounds_toArray, List.set_cons_zero, List.set_cons_succ, List.getElem_toArray, List.getElem_cons_zero, List.getElem_cons_succ]
        refine wpAnyH_take (i := 5) (v := ?v5) rfl (by kernel_rfl) (by kernel_rfl) (by kernel_rfl) (fun _ _ _ h => h) (Or.inl ⟨by rfl, ?hy5⟩) hHeld ?rest5
        case hy5 => (intro w hSw; (try dsimp only at hSw); have hz0 := (keep hSw _ _ HZ2.out.1).trans b0; have hz1 := (keep hSw _ _ HZ2.out.2).trans b1; go_simp; try with_reducible rfl)
        try simp only [Act.put, List.setIfInBounds_toArray, List.set_cons_zero, List.set_cons_succ, List.getElem_toArray, List.getElem_cons_zero, List.getElem_cons_succ]
        refine wpAnyH_take (i := 6) (v := ?v6) rfl (by kernel_rfl) (by kernel_rfl) (by kernel_rfl) (fun _ _ _ h => h) (Or.inl ⟨by rfl, ?hy6⟩) hHeld ?rest6
        case hy6 => (intro w hSw; (try dsimp only at hSw); have hz0 := (keep hSw _ _ HZ2.out.1).trans b0; have hz1 := (keep hSw _ _ HZ2.out.2).trans b1; go_simp; try with_reducible rfl)
        try simp only [Act.put, List.setIfInBounds_toArray, List.set_cons_zero, List.set_cons_succ, List.getElem_toArray, List.getElem_cons_zero, List.getElem_cons_succ]
        refine wpAnyH_take (i := 7) (v := ?v7) rfl (by kernel_rfl) (by kernel_rfl) (by kernel_rfl) (fun _ _ _ h => h) (Or.inl ⟨by rfl, ?hy7⟩) hHeld ?rest7
        case hy7 => (intro w hSw; (try dsimp only at hSw); have hz0 := (keep hSw _ _ HZ2.out.1).trans b0; have hz1 := (keep hSw _ _ HZ2.out.2).trans b1; go_simp; try with_reducible rfl)
        try simp only [Act.put, List.setIfInBounds_toArray, List.set_cons_zero, List.set_cons_succ, List.getElem_toArray, List.getElem_cons_zero, List.getElem_cons_succ]
        refine wpAnyH_take (i := 8) (v := ?v8) rfl (by kernel_rfl) (by kernel_rfl) (by kernel_rfl) (fun _ _ _ h => h) (Or.inl ⟨by rfl, ?hy8⟩) hHeld ?rest8
        case hy8 => (intro w hSw; (try dsimp only at hSw); have hz0 := (keep hSw _ _ HZ2.out.1).trans b0; have hz1 := (keep hSw _ _ HZ2.out.2).trans b1; go_simp; try with_reducible rfl)
        try simp only [Act.put, List.setIfInBounds_toArray, List.set_cons_zero, List.set_cons_succ, List.getElem_toArray, List.getElem_cons_zero, List.getElem_cons_succ]
        refine wpAnyH_take (i := 9) (v := .agg #[.int .i64 lk, .string (bs vm.p), .slice vm.A vm.a.length vm.c, .string (bs lo), .string (bs la.v), .int .i64 la.x.k, .int .i64 la.x.n, .string la.x.s, .string (bs lb.v), .int .i64 lb.x.k, .int .i64 lb.x.n, .string lb.x.s, .string (bs lc.v), .int .i64 lc.x.k, .int .i64 lc.x.n, .string lc.x.s, .slice vA lp.length vC]) rfl (by kernel_rfl) (by kernel_rfl) (by kernel_rfl) (fun _ _ _ h => h) (yieldsIf_load_mid (by rfl) 53 (.tmp 44) rfl g4 (o4 + j * 17) (by simp [Act.eval, Act.put]) [.int .i64 lk, .string (bs vm.p), .slice vm.A vm.a.length vm.c, .string (bs lo), .string (bs la.v), .int .i64 la.x.k, .int .i64 la.x.n, .string la.x.s, .string (bs lb.v), .int .i64 lb.x.k, .int .i64 lb.x.n, .string lb.x.s, .string (bs lc.v), .int .i64 lc.x.k, .int .i64 lc.x.n, .string lc.x.s, .slice vA lp.length vC] _ (fun w hw j' v' h' => (keep hw _ _ hg4).trans (RV.out j' v' h')) Tryz.underlying53 rfl (by kernel_rfl)) hHeld ?rest9
        try simp only [Act.put, List.setIfInBounds_toArray, List.set_cons_zero, List.set_cons_succ, List.getElem_toArray, List.getElem_cons_zero, List.getElem_cons_succ]
        clear hHeld
        refine wpAnyH_ready (rs := [10, 11]) (by kernel_rfl) (by simp) ?_
        refine AllReadyH.cons rfl (fun K hK => ?_) (AllReadyH.cons rfl (fun K hK => ?_) AllReadyH.nil)
        · go_simp
          refine hK.out _ _ (((by repeat (first | (with_reducible exact Below.refl _ _) | (with_reducible refine Below.drew ?_) | (with_reducible refine Below.alloc ?_ (by simp; try omega) _))))) (fun _ => ?_)
          clear hK K
          refine wpAnyH_ready (rs := [11]) (by kernel_rfl) (by simp) ?_
          refine AllReadyH.cons rfl (fun K hK => ?_) AllReadyH.nil
          go_simp
          refine hK.out _ _ (((by repeat (first | (with_reducible exact Below.refl _ _) | (with_reducible refine Below.drew ?_) | (with_reducible refine Below.alloc ?_ (by simp; try omega) _))))) (fun _ => ?_)
          clear hK K
          refine wpAnyH_ready (rs := [12]) (by kernel_rfl) (by simp) ?_
          refine AllReadyH.cons rfl (fun K hK => ?_) AllReadyH.nil
          rw [if_pos (by rfl)]
          try simp only [Act.put, List.setIfInBounds_toArray, List.set_cons_zero, List.set_cons_succ, List.getElem_toArray, List.getElem_cons_zero, List.getElem_cons_succ]
          obtain ⟨V0, hV0⟩ : ∃ V0, ((wr.alloc (.cells #[.int .i64 0, .string ⟨#[]⟩, .slice none 0 0, .string ⟨#[]⟩, .string ⟨#[]⟩, .int .i64 0, .int .i64 0, .string ⟨#[]⟩, .string ⟨#[]⟩, .int .i64 0, .int .i64 0, .string ⟨#[]⟩, .string ⟨#[]⟩, .int .i64 0, .int .i64 0, .string ⟨#[]⟩, .slice none 0 0] 53)).alloc (.cells #[.int .i64 0, .string ⟨#[]⟩, .slice none 0 0, .string ⟨#[]⟩, .string ⟨#[]⟩, .int .i64 0, .int .i64 0, .string ⟨#[]⟩, .string ⟨#[]⟩, .int .i64 0, .int .i64 0, .string ⟨#[]⟩, .string ⟨#[]⟩, .int .i64 0, .int .i64 0, .string ⟨#[]⟩, .slice none 0 0] 53)).drew = V0 := ⟨_, rfl⟩
          have hb0 : Below wr.heap.size wr V0 := by rw [← hV0]; exact (((Below.refl _ _).alloc (Nat.le_refl _) _).alloc (by simp) _).drew
          have r1 : Row 53 V0 wr.heap.size [.int .i64 0, .string ⟨#[]⟩, .slice none 0 0, .string ⟨#[]⟩, .string ⟨#[]⟩, .int .i64 0, .int .i64 0, .string ⟨#[]⟩, .string ⟨#[]⟩, .int .i64 0, .int .i64 0, .string ⟨#[]⟩, .string ⟨#[]⟩, .int .i64 0, .int .i64 0, .string ⟨#[]⟩, .slice none 0 0] := by rw [← hV0]; exact rowOn ((row_new (t := 53) wr [.int .i64 0, .string ⟨#[]⟩, .slice none 0 0, .string ⟨#[]⟩, .string ⟨#[]⟩, .int .i64 0, .int .i64 0, .string ⟨#[]⟩, .string ⟨#[]⟩, .int .i64 0, .int .i64 0, .string ⟨#[]⟩, .string ⟨#[]⟩, .int .i64 0, .int .i64 0, .string ⟨#[]⟩, .slice none 0 0]).alloc _) (Below.refl _ _).drew
          have r2 : Row 53 V0 (wr.heap.size + 1) [.int .i64 0, .string ⟨#[]⟩, .slice none 0 0, .string ⟨#[]⟩, .string ⟨#[]⟩, .int .i64 0, .int .i64 0, .string ⟨#[]⟩, .string ⟨#[]⟩, .int .i64 0, .int .i64 0, .string ⟨#[]⟩, .string ⟨#[]⟩, .int .i64 0, .int .i64 0, .string ⟨#[]⟩, .slice none 0 0] := by rw [← hV0]; exact rowOn (row_at (w := wr.alloc _) (by simp) [.int .i64 0, .string ⟨#[]⟩, .slice none 0 0, .string ⟨#[]⟩, .string ⟨#[]⟩, .int .i64 0, .int .i64 0, .string ⟨#[]⟩, .string ⟨#[]⟩, .int .i64 0, .int .i64 0, .string ⟨#[]⟩, .string ⟨#[]⟩, .int .i64 0, .int .i64 0, .string ⟨#[]⟩, .slice none 0 0]) (Below.refl _ _).drew
          rw [hV0]
          clear hV0
          refine step_storeR 53 (.tmp 6) (.tmp 40) ?hoq10 wr.heap.size ?hxq10 (.agg #[.int .i64 lk, .string (bs um.p), .slice um.A um.a.length um.c, .string (bs lo), .string (bs la.v), .int .i64 la.x.k, .int .i64 la.x.n, .string la.x.s, .string (bs lb.v), .int .i64 lb.x.k, .int .i64 lb.x.n, .string lb.x.s, .string (bs lc.v), .int .i64 lc.x.k, .int .i64 lc.x.n, .string lc.x.s, .slice uA lp.length uC]) ?hyq10 [.int .i64 lk, .string (bs um.p), .slice um.A um.a.length um.c, .string (bs lo), .string (bs la.v), .int .i64 la.x.k, .int .i64 la.x.n, .string la.x.s, .string (bs lb.v), .int .i64 lb.x.k, .int .i64 lb.x.n, .string lb.x.s, .string (bs lc.v), .int .i64 lc.x.k, .int .i64 lc.x.n, .string lc.x.s, .slice uA lp.length uC] rfl r1 rfl (by kernel_rfl) rfl ?hKzq10
          case hoq10 => rfl
          case hxq10 => first | rfl | simp [Act.eval, Act.put]
          case hyq10 => first | rfl | simp [Act.eval, Act.put]
          intro V1 hR1 hF1 hs1
          have b1' : Below wr.heap.size wr V1 := hb0.trans ((hF1 _).below (Nat.le_refl _) fun k hk e => by omega)
          have rr := r2.fr (hF1 _) r2.lt (by omega)
          refine hK.out _ _ b1' (fun _ => ?_)
          clear hK K
          refine wpAnyH_ready (rs := [13]) (by kernel_rfl) (by simp) ?_
          refine AllReadyH.cons rfl (fun K hK => ?_) AllReadyH.nil
          rw [if_pos (by rfl)]
          try simp only [Act.put, List.setIfInBounds_toArray, List.set_cons_zero, List.set_cons_succ, List.getElem_toArray, List.getElem_cons_zero, List.getElem_cons_succ]
          refine step_storeR 53 (.tmp 7) (.tmp 45) ?ho2q10 (wr.heap.size + 1) ?hx2q10 (.agg #[.int .i64 lk, .string (bs vm.p), .slice vm.A vm.a.length vm.c, .string (bs lo), .string (bs la.v), .int .i64 la.x.k, .int .i64 la.x.n, .string la.x.s, .string (bs lb.v), .int .i64 lb.x.k, .int .i64 lb.x.n, .string lb.x.s, .string (bs lc.v), .int .i64 lc.x.k, .int .i64 lc.x.n, .string lc.x.s, .slice vA lp.length vC]) ?hy2q10 [.int .i64 lk, .string (bs vm.p), .slice vm.A vm.a.length vm.c, .string (bs lo), .string (bs la.v), .int .i64 la.x.k, .int .i64 la.x.n, .string la.x.s, .string (bs lb.v), .int .i64 lb.x.k, .int .i64 lb.x.n, .string lb.x.s, .string (bs lc.v), .int .i64 lc.x.k, .int .i64 lc.x.n, .string lc.x.s, .slice vA lp.length vC] rfl rr rfl (by kernel_rfl) rfl ?hK2zq10
          case ho2q10 => rfl
          case hx2q10 => first | rfl | simp [Act.eval, Act.put]
          case hy2q10 => first | rfl | simp [Act.eval, Act.put]
          intro V2 hR2 hF2 hs2
          have b2' : Below wr.heap.size wr V2 := b1'.trans ((hF2 _).below (Nat.le_refl _) fun k hk e => by omega)
          have hR1' := hR1.fr (hF2 _) hR1.lt (by omega)
          refine hK.out _ _ b2' (fun _ => ?_)
          clear hK K
          refine wpAnyH_done (by kernel_rfl) ?_ _
          try simp only [Act.put, List.setIfInBounds_toArray, List.set_cons_zero, List.set_cons_succ, List.getElem_toArray, List.getElem_cons_zero, List.getElem_cons_succ]
          go_wp2_with fail
          go_meet
          exact ⟨rfl, wr.heap.size, (wr.heap.size + 1), rfl, rfl, hR1', hR2, b2'⟩
        · go_simp
          refine hK.out _ _ (((by repeat (first | (with_reducible exact Below.refl _ _) | (with_reducible refine Below.drew ?_) | (with_reducible refine Below.alloc ?_ (by simp; try omega) _))))) (fun _ => ?_)
          clear hK K
          refine wpAnyH_ready (rs := [10]) (by kernel_rfl) (by simp) ?_
          refine AllReadyH.cons rfl (fun K hK => ?_) AllReadyH.nil
          go_simp
          refine hK.out _ _ (((by repeat (first | (with_reducible exact Below.refl _ _) | (with_reducible refine Below.drew ?_) | (with_reducible refine Below.alloc ?_ (by simp; try omega) _))))) (fun _ => ?_)
          clear hK K
          refine wpAnyH_ready (rs := [12]) (by kernel_rfl) (by simp) ?_
          refine AllReadyH.cons rfl (fun K hK => ?_) AllReadyH.nil
          rw [if_pos (by rfl)]
          try simp only [Act.put, List.setIfInBounds_toArray, List.set_cons_zero, List.set_cons_succ, List.getElem_toArray, List.getElem_cons_zero, List.getElem_cons_succ]
          obtain ⟨V0, hV0⟩ : ∃ V0, ((wr.alloc (.cells #[.int .i64 0, .string ⟨#[]⟩, .slice none 0 0, .string ⟨#[]⟩, .string ⟨#[]⟩, .int .i64 0, .int .i64 0, .string ⟨#[]⟩, .string ⟨#[]⟩, .int .i64 0, .int .i64 0, .string ⟨#[]⟩, .string ⟨#[]⟩, .int .i64 0, .int .i64 0, .string ⟨#[]⟩, .slice none 0 0] 53)).alloc (.cells #[.int .i64 0, .string ⟨#[]⟩, .slice none 0 0, .string ⟨#[]⟩, .string ⟨#[]⟩, .int .i64 0, .int .i64 0, .string ⟨#[]⟩, .string ⟨#[]⟩, .int .i64 0, .int .i64 0, .string ⟨#[]⟩, .string ⟨#[]⟩, .int .i64 0, .int .i64 0, .string ⟨#[]⟩, .slice none 0 0] 53)).drew = V0 := ⟨_, rfl⟩
          have hb0 : Below wr.heap.size wr V0 := by rw [← hV0]; exact (((Below.refl _ _).alloc (Nat.le_refl _) _).alloc (by simp) _).drew
          have r1 : Row 53 V0 wr.heap.size [.int .i64 0, .string ⟨#[]⟩, .slice none 0 0, .string ⟨#[]⟩, .string ⟨#[]⟩, .int .i64 0, .int .i64 0, .string ⟨#[]⟩, .string ⟨#[]⟩, .int .i64 0, .int .i64 0, .string ⟨#[]⟩, .string ⟨#[]⟩, .int .i64 0, .int .i64 0, .string ⟨#[]⟩, .slice none 0 0] := by rw [← hV0]; exact rowOn ((row_new (t := 53) wr [.int .i64 0, .string ⟨#[]⟩, .slice none 0 0, .string ⟨#[]⟩, .string ⟨#[]⟩, .int .i64 0, .int .i64 0, .string ⟨#[]⟩, .string ⟨#[]⟩, .int .i64 0, .int .i64 0, .string ⟨#[]⟩, .string ⟨#[]⟩, .int .i64 0, .int .i64 0, .string ⟨#[]⟩, .slice none 0 0]).alloc _) (Below.refl _ _).drew
          have r2 : Row 53 V0 (wr.heap.size + 1) [.int .i64 0, .string ⟨#[]⟩, .slice none 0 0, .string ⟨#[]⟩, .string ⟨#[]⟩, .int .i64 0, .int .i64 0, .string ⟨#[]⟩, .string ⟨#[]⟩, .int .i64 0, .int .i64 0, .string ⟨#[]⟩, .string ⟨#[]⟩, .int .i64 0, .int .i64 0, .string ⟨#[]⟩, .slice none 0 0] := by rw [← hV0]; exact rowOn (row_at (w := wr.alloc _) (by simp) [.int .i64 0, .string ⟨#[]⟩, .slice none 0 0, .string ⟨#[]⟩, .string ⟨#[]⟩, .int .i64 0, .int .i64 0, .string ⟨#[]⟩, .string ⟨#[]⟩, .int .i64 0, .int .i64 0, .string ⟨#[]⟩, .string ⟨#[]⟩, .int .i64 0, .int .i64 0, .string ⟨#[]⟩, .slice none 0 0]) (Below.refl _ _).drew
          rw [hV0]
          clear hV0
          refine step_storeR 53 (.tmp 6) (.tmp 40) ?hoq11 (wr.heap.size + 1) ?hxq11 (.agg #[.int .i64 lk, .string (bs um.p), .slice um.A um.a.length um.c, .string (bs lo), .string (bs la.v), .int .i64 la.x.k, .int .i64 la.x.n, .string la.x.s, .string (bs lb.v), .int .i64 lb.x.k, .int .i64 lb.x.n, .string lb.x.s, .string (bs lc.v), .int .i64 lc.x.k, .int .i64 lc.x.n, .string lc.x.s, .slice uA lp.length uC]) ?hyq11 [.int .i64 lk, .string (bs um.p), .slice um.A um.a.length um.c, .string (bs lo), .string (bs la.v), .int .i64 la.x.k, .int .i64 la.x.n, .string la.x.s, .string (bs lb.v), .int .i64 lb.x.k, .int .i64 lb.x.n, .string lb.x.s, .string (bs lc.v), .int .i64 lc.x.k, .int .i64 lc.x.n, .string lc.x.s, .slice uA lp.length uC] rfl r2 rfl (by kernel_rfl) rfl ?hKzq11
          case hoq11 => rfl
          case hxq11 => first | rfl | simp [Act.eval, Act.put]
          case hyq11 => first | rfl | simp [Act.eval, Act.put]
          intro V1 hR1 hF1 hs1
          have b1' : Below wr.heap.size wr V1 := hb0.trans ((hF1 _).below (Nat.le_refl _) fun k hk e => by omega)
          have rr := r1.fr (hF1 _) r1.lt (by omega)
          refine hK.out _ _ b1' (fun _ => ?_)
          clear hK K
          refine wpAnyH_ready (rs := [13]) (by kernel_rfl) (by simp) ?_
          refine AllReadyH.cons rfl (fun K hK => ?_) AllReadyH.nil
          rw [if_pos (by rfl)]
          try simp only [Act.put, List.setIfInBounds_toArray, List.set_cons_zero, List.set_cons_succ, List.getElem_toArray, List.getElem_cons_zero, List.getElem_cons_succ]
          refine step_storeR 53 (.tmp 7) (.tmp 45) ?ho2q11 wr.heap.size ?hx2q11 (.agg #[.int .i64 lk, .string (bs vm.p), .slice vm.A vm.a.length vm.c, .string (bs lo), .string (bs la.v), .int .i64 la.x.k, .int .i64 la.x.n, .string la.x.s, .string (bs lb.v), .int .i64 lb.x.k, .int .i64 lb.x.n, .string lb.x.s, .string (bs lc.v), .int .i64 lc.x.k, .int .i64 lc.x.n, .string lc.x.s, .slice vA lp.length vC]) ?hy2q11 [.int .i64 lk, .string (bs vm.p), .slice vm.A vm.a.length vm.c, .string (bs lo), .string (bs la.v), .int .i64 la.x.k, .int .i64 la.x.n, .string la.x.s, .string (bs lb.v), .int .i64 lb.x.k, .int .i64 lb.x.n, .string lb.x.s, .string (bs lc.v), .int .i64 lc.x.k, .int .i64 lc.x.n, .string lc.x.s, .slice vA lp.length vC] rfl rr rfl (by kernel_rfl) rfl ?hK2zq11
          case ho2q11 => rfl
          case hx2q11 => first | rfl | simp [Act.eval, Act.put]
          case hy2q11 => first | rfl | simp [Act.eval, Act.put]
          intro V2 hR2 hF2 hs2
          have b2' : Below wr.heap.size wr V2 := b1'.trans ((hF2 _).below (Nat.le_refl _) fun k hk e => by omega)
          have hR1' := hR1.fr (hF2 _) hR1.lt (by omega)
          refine hK.out _ _ b2' (fun _ => ?_)
          clear hK K
          refine wpAnyH_done (by kernel_rfl) ?_ _
          try simp only [Act.put, List.setIfInBounds_toArray, List.set_cons_zero, List.set_cons_succ, List.getElem_toArray, List.getElem_cons_zero, List.getElem_cons_succ]
          go_wp2_with fail
          go_meet
          exact ⟨rfl, (wr.heap.size + 1), wr.heap.size, rfl, rfl, hR1', hR2, b2'⟩
      case rest =>
        obtain ⟨rfl, p2, q2, rfl, rfl, hRp2, hRq2, hbc2⟩ := hcut
        have hw2W := on h2W hbc2
        have HAT2 := Lib.hid (sameAtom9_yes um vm _ (AmA.rd.on HUR.out.1 hw2W) (AmA.rd.on HVR.out.1 hw2W) hmm)
        have RP2 := Lib.hid hRp2; have RQ2 := Lib.hid hRq2; have HBC2 := Lib.hid hbc2; have HW2 := Lib.hid hw2W
        have m0 := hRp2.cell 0; have n0 := hRq2.cell 0
        have m1 := hRp2.cell 1; have n1 := hRq2.cell 1
        have m2 := hRp2.cell 2; have n2 := hRq2.cell 2
        have m3 := hRp2.cell 3; have n3 := hRq2.cell 3
        have m4 := hRp2.cell 4; have n4 := hRq2.cell 4
        have m5 := hRp2.cell 5; have n5 := hRq2.cell 5
        have m6 := hRp2.cell 6; have n6 := hRq2.cell 6
        have m7 := hRp2.cell 7; have n7 := hRq2.cell 7
        have m8 := hRp2.cell 8; have n8 := hRq2.cell 8
        have m9 := hRp2.cell 9; have n9 := hRq2.cell 9
        have m10 := hRp2.cell 10; have n10 := hRq2.cell 10
        have m11 := hRp2.cell 11; have n11 := hRq2.cell 11
        have m12 := hRp2.cell 12; have n12 := hRq2.cell 12
        have m13 := hRp2.cell 13; have n13 := hRq2.cell 13
        have m14 := hRp2.cell 14; have n14 := hRq2.cell 14
        have m15 := hRp2.cell 15; have n15 := hRq2.cell 15
        have m16 := hRp2.cell 16; have n16 := hRq2.cell 16
        simp only [List.getElem?_cons_zero, List.getElem?_cons_succ] at m0 n0 m1 n1 m2 n2 m3 n3 m4 n4 m5 n5 m6 n6 m7 n7 m8 n8 m9 n9 m10 n10 m11 n11 m12 n12 m13 n13 m14 n14 m15 n15 m16 n16
        clear hRp2 hRq2 hbc2 hw2W hmm b0 b1 h2W
        go_wp2_with (first
          | (go_at_call 34; refine HAT2.out.mono ?_; rintro e w6 ⟨rfl, hb6⟩; have m16' := (rowOn RP2.out hb6).cell 16; have n16' := (rowOn RQ2.out hb6).cell 16; simp only [List.getElem?_cons_zero, List.getElem?_cons_succ] at m16' n16'; have HB6 := Lib.hid hb6; clear hb6)
          | (go_at_call 35; refine (samePath_yes uA vA uC vC lp _ (RdX.on (RdX.on HUR.out.2 HW2.out) HB6.out) (RdX.on (RdX.on HVR.out.2 HW2.out) HB6.out)).mono ?_; rintro e w7 ⟨rfl, hb7⟩; have HB7 := Lib.hid hb7; clear hb7))
        go_roundw
        case rel => exact ⟨j + 1, by go_num, by omega, on HB2.out (on HBC2.out (on HB6.out HB7.out))⟩
        case measure => simp [intOf]; omega
    · obtain rfl : j = x.b.length := by omega
      go_wp2
      go_ret
      exact ⟨rfl, on HCW.out HB2.out⟩
end Go.Proofs.YtdolhlbkhhnpmaaGreatDoor
namespace Go.Proofs.YtdolhlbkhhnpmaaGreatDoor
open Go.RowKit FloM ValM Go.Shelf
set_option linter.unusedVariables false
set_option linter.unusedSimpArgs false
set_option maxRecDepth 20000 in
set_option maxHeartbeats 16000000 in
theorem same9_yes (x y : PgI) (W : World) (hx : x.rd W) (hy : y.rd W) (h : x.er = y.er) :
    Calls Tryz.prog 17 #[.agg #[.slice x.A x.r.length x.c, .string (bs x.q.p), .slice x.q.A x.q.a.length x.q.c], .agg #[.slice y.A y.r.length y.c, .string (bs y.q.p), .slice y.q.A y.q.a.length y.q.c]] W fun e w' => e = .returned (.bool true) ∧ Below W.heap.size W w' := by
  unfold PgI.er at h
  injection h with hrm hqm
  have hrl : x.r.length = y.r.length := by have := congrArg List.length hrm; simpa using this
  have hcW : Below W.heap.size W ((W.alloc (.cells #[.slice x.A x.r.length x.c, .string (bs x.q.p), .slice x.q.A x.q.a.length x.q.c] 27)).alloc (.cells #[.slice y.A y.r.length y.c, .string (bs y.q.p), .slice y.q.A y.q.a.length y.q.c] 27)) := ((Below.refl _ _).alloc (Nat.le_refl _) _).alloc (by simp) _
  have RP : Hid (Row 27 ((W.alloc (.cells #[.slice x.A x.r.length x.c, .string (bs x.q.p), .slice x.q.A x.q.a.length x.q.c] 27)).alloc (.cells #[.slice y.A y.r.length y.c, .string (bs y.q.p), .slice y.q.A y.q.a.length y.q.c] 27)) W.heap.size [.slice x.A x.r.length x.c, .string (bs x.q.p), .slice x.q.A x.q.a.length x.q.c]) := Lib.hid ((row_new (t := 27) W [.slice x.A x.r.length x.c, .string (bs x.q.p), .slice x.q.A x.q.a.length x.q.c]).alloc _)
  have RQ : Hid (Row 27 ((W.alloc (.cells #[.slice x.A x.r.length x.c, .string (bs x.q.p), .slice x.q.A x.q.a.length x.q.c] 27)).alloc (.cells #[.slice y.A y.r.length y.c, .string (bs y.q.p), .slice y.q.A y.q.a.length y.q.c] 27)) (W.heap.size + 1) [.slice y.A y.r.length y.c, .string (bs y.q.p), .slice y.q.A y.q.a.length y.q.c]) := Lib.hid (by have h := row_new (t := 27) (W.alloc (.cells #[.slice x.A x.r.length x.c, .string (bs x.q.p), .slice x.q.A x.q.a.length x.q.c] 27)) [.slice y.A y.r.length y.c, .string (bs y.q.p), .slice y.q.A y.q.a.length y.q.c]; rw [World.size_alloc] at h; exact h)
  have HX := Lib.hid hx; have HY := Lib.hid hy; have HRM := Lib.hid hrm; have HCW := Lib.hid hcW
  have hbn : ((x.r.length : Int) != (y.r.length : Int)) = false := by rw [hrl]; simp
  have hl1 := Nat.le_of_eq hrl; have hl2 := Nat.le_of_eq hrl.symm
  have hmb : x.r.length ≤ 9223372036854775807 := hx.1.1
  have HAT := Lib.hid (sameAtom9_yes x.q y.q _ (AmA.rd.on hx.2.2 hcW) (AmA.rd.on hy.2.2 hcW) hqm)
  clear hrm hqm hrl hcW hx hy
  obtain ⟨wc, hwc⟩ : ∃ wc, Hid (((W.alloc (.cells #[.slice x.A x.r.length x.c, .string (bs x.q.p), .slice x.q.A x.q.a.length x.q.c] 27)).alloc (.cells #[.slice y.A y.r.length y.c, .string (bs y.q.p), .slice y.q.A y.q.a.length y.q.c] 27)) = wc) := ⟨_, Lib.hid rfl⟩
  go_enter Tryz.func17, Tryz.ntmps17
  go_wp2_with (go_at_call 34; refine HAT.out.mono ?_; rintro e w5 ⟨rfl, hb5⟩; have p0' := (rowOn RP.out hb5).cell 0; have q0' := (rowOn RQ.out hb5).cell 0; simp only [List.getElem?_cons_zero] at p0' q0'; have HB5 := Lib.hid hb5; clear hb5)
  rw [hwc.out] at RP RQ HCW HB5
  clear hwc HAT
  go_loopw [24] (fun vi wr2 => ∃ j : Nat, vi = .int .i64 (j : Nat) ∧ j ≤ x.r.length ∧ Below wc.heap.size wc wr2) (fun vi _ => x.r.length - (intOf vi).toNat)
  case atStart => exact ⟨0, rfl, Nat.zero_le _, HB5.out⟩
  case round =>
    obtain ⟨j, rfl, hj, hb2⟩ := hrel
    have HB2 := Lib.hid hb2
    have h2W : Below W.heap.size W wr := on HCW.out hb2
    have H2W := Lib.hid h2W
    have rp := rowOn RP.out hb2
    have rq := rowOn RQ.out hb2
    have hz1 : W.heap.size < wr.heap.size := rp.lt
    have hz2 : W.heap.size + 1 < wr.heap.size := rq.lt
    by_cases hjlt : j < x.r.length
    · obtain ⟨u, hu⟩ : ∃ u, x.r[j]? = some u := ⟨_, List.getElem?_eq_getElem hjlt⟩
      obtain ⟨v, hv, huv⟩ := at_map HRM.out hu
      have hjlt2 : j < y.r.length := by omega
      obtain ⟨g3, o3, hA3, hg3, hc3⟩ := (RdX.on HX.out.1 h2W).2 j u hu
      obtain ⟨g4, o4, hA4, hg4, hc4⟩ := (RdX.on HY.out.1 h2W).2 j v hv
      have hur := HX.out.2.1 u (List.mem_of_getElem? hu)
      have hvr := HY.out.2.1 v (List.mem_of_getElem? hv)
      have HSR : Hid (∀ V, Below W.heap.size W V → Calls Tryz.prog 18 #[.agg #[.string (bs u.h.p), .slice u.h.A u.h.a.length u.h.c, .int .i64 u.f, .slice u.A u.b.length u.c], .agg #[.string (bs v.h.p), .slice v.h.A v.h.a.length v.h.c, .int .i64 v.f, .slice v.A v.b.length v.c]] V fun e w' => e = .returned (.bool true) ∧ Below V.heap.size V w') := Lib.hid fun V hV => sameRule9_yes u v V (hur.on hV) (hvr.on hV) huv
      have HS : Hid (∀ t, Below wr.heap.size wr t → (Below wr.heap.size wr t ∧ t.cell? ⟨W.heap.size, 0, none⟩ = some (.slice (some ⟨g3, o3, none⟩) x.r.length x.c) ∧ t.cell? ⟨W.heap.size + 1, 0, none⟩ = some (.slice (some ⟨g4, o4, none⟩) y.r.length y.c) ∧ t.cell? ⟨g3, o3 + j * 4, none⟩ = some (.string (bs u.h.p)) ∧ t.cell? ⟨g3, o3 + j * 4 + 1, none⟩ = some (.slice u.h.A u.h.a.length u.h.c) ∧ t.cell? ⟨g3, o3 + j * 4 + 2, none⟩ = some (.int .i64 u.f) ∧ t.cell? ⟨g3, o3 + j * 4 + 3, none⟩ = some (.slice u.A u.b.length u.c) ∧ t.cell? ⟨g4, o4 + j * 4, none⟩ = some (.string (bs v.h.p)) ∧ t.cell? ⟨g4, o4 + j * 4 + 1, none⟩ = some (.slice v.h.A v.h.a.length v.h.c) ∧ t.cell? ⟨g4, o4 + j * 4 + 2, none⟩ = some (.int .i64 v.f) ∧ t.cell? ⟨g4, o4 + j * 4 + 3, none⟩ = some (.slice v.A v.b.length v.c))) := Lib.hid fun t ht => ⟨ht, by rw [(rowOn rp ht).cell 0, ← hA3]; rfl, by rw [(rowOn rq ht).cell 0, ← hA4]; rfl, (keep ht _ _ hg3).trans (hc3 0 _ rfl), (keep ht _ _ hg3).trans (hc3 1 _ rfl), (keep ht _ _ hg3).trans (hc3 2 _ rfl), (keep ht _ _ hg3).trans (hc3 3 _ rfl), (keep ht _ _ hg4).trans (hc4 0 _ rfl), (keep ht _ _ hg4).trans (hc4 1 _ rfl), (keep ht _ _ hg4).trans (hc4 2 _ rfl), (keep ht _ _ hg4).trans (hc4 3 _ rfl)⟩
      have h4 : Below wr.heap.size wr wr.drew := (Below.refl _ _).drew
      clear hu hv huv hA3 hA4 hc3 hc4 hb2 h2W rp rq hur hvr
      go_upto_region 6 with fail
      go_region_held3 (fun t => Below wr.heap.size wr t ∧ t.cell? ⟨W.heap.size, 0, none⟩ = some (.slice (some ⟨g3, o3, none⟩) x.r.length x.c) ∧ t.cell? ⟨W.heap.size + 1, 0, none⟩ = some (.slice (some ⟨g4, o4, none⟩) y.r.length y.c) ∧ t.cell? ⟨g3, o3 + j * 4, none⟩ = some (.string (bs u.h.p)) ∧ t.cell? ⟨g3, o3 + j * 4 + 1, none⟩ = some (.slice u.h.A u.h.a.length u.h.c) ∧ t.cell? ⟨g3, o3 + j * 4 + 2, none⟩ = some (.int .i64 u.f) ∧ t.cell? ⟨g3, o3 + j * 4 + 3, none⟩ = some (.slice u.A u.b.length u.c) ∧ t.cell? ⟨g4, o4 + j * 4, none⟩ = some (.string (bs v.h.p)) ∧ t.cell? ⟨g4, o4 + j * 4 + 1, none⟩ = some (.slice v.h.A v.h.a.length v.h.c) ∧ t.cell? ⟨g4, o4 + j * 4 + 2, none⟩ = some (.int .i64 v.f) ∧ t.cell? ⟨g4, o4 + j * 4 + 3, none⟩ = some (.slice v.A v.b.length v.c))
        (exact HS.out _ (by first | exact Below.refl _ _ | exact h4))
        ((go_at_call 18; refine (HSR.out _ (on H2W.out h4)).mono ?_; rintro e w3 ⟨rfl, hb3⟩; replace h4 := on h4 hb3; clear hb3))
      all_goals
        go_wp2
        go_roundw
        case rel => exact ⟨j + 1, by go_num, by omega, on HB2.out h4⟩
        case measure => simp [intOf]; omega
    · obtain rfl : j = x.r.length := by omega
      go_wp2
      go_ret
      exact ⟨rfl, H2W.out⟩
/-! ### What was read -/
theorem RdX.map {β γ : Type} {sz : Nat} {cl : β → List Value} {cl' : γ → List Value} {f : β → γ} (hf : ∀ x, cl' (f x) = cl x) {W : World} {A : Option Addr} {l : List β} (h : RdX sz cl W A l) : RdX sz cl' W A (l.map f) := ⟨by rw [List.length_map]; exact h.1, fun i x hx => by
  rw [List.getElem?_map, Option.map_eq_some_iff] at hx
  obtain ⟨y, hy, rfl⟩ := hx
  obtain ⟨b, o, e, hl, hc⟩ := h.2 i y hy
  exact ⟨b, o, e, hl, fun j v hj => hc j v (by rw [hf] at hj; exact hj)⟩⟩
def ltI (y : LtA) : LtI := ⟨(y.k : Int), y.m, y.o, y.a, y.b, y.c, y.pA, y.pc, y.p.map siOf⟩
def rlI (y : RlA) : RlI := ⟨y.h, (y.f : Int), y.A, y.c, y.b.map ltI⟩
def pgI (y : PgA) : PgI := ⟨y.A, y.c, y.r.map rlI, y.q⟩
theorem ltI_C (y : LtA) : ltIC (ltI y) = litC y := by unfold ltIC ltI litC; simp
theorem rlI_C (y : RlA) : rlIC (rlI y) = rlC y := by unfold rlIC rlI rlC; simp
theorem ltI_rd {y : LtA} {W : World} (h : y.rd W) : (ltI y).rd W := ⟨h.1, RdX.si h.2⟩
theorem rlI_rd {y : RlA} {W : World} (h : y.rd W) : (rlI y).rd W := ⟨h.1, RdX.map ltI_C h.2.1, fun z hz => by
  obtain ⟨u, hu, rfl⟩ := List.mem_map.1 hz
  exact ltI_rd (h.2.2 u hu)⟩
theorem pgI_rd {y : PgA} {W : World} (h : y.rd W) : (pgI y).rd W := ⟨RdX.map rlI_C h.1, fun z hz => by
  obtain ⟨u, hu, rfl⟩ := List.mem_map.1 hz
  exact rlI_rd (h.2.1 u hu), h.2.2⟩
def ltE (x : Lt) : LtE := ⟨(x.k : Int), x.m, x.o, x.a, x.b, x.c, x.p.map siOf⟩
def rlE (x : Rl) : RlE := ⟨x.h, (x.f : Int), x.b.map ltE⟩
def pgE (x : Pg) : PgE := ⟨x.r.map rlE, x.q⟩
theorem pgI_er (y : PgA) : (pgI y).er = pgE y.pg := by
  unfold PgI.er pgE pgI PgA.pg
  simp only [List.map_map]
  congr 1
  refine List.map_congr_left fun u _ => ?_
  show RlI.er (rlI u) = rlE (RlA.rl u)
  unfold RlI.er rlE rlI RlA.rl
  simp only [List.map_map]
  congr 1
/-- A literal that has a text is all that its text says. -/
theorem lt_er {x : LtI} (h : litX x ≠ []) : ltE (ltOf x) = x.er := by
  obtain ⟨hb, ht, _⟩ := litX_some h
  have hk : 1 ≤ x.k ∧ x.k ≤ 5 := by
    by_cases h1 : 1 ≤ x.k ∧ x.k ≤ 5
    · exact h1
    · exact absurd (by unfold litT; rw [if_neg (by omega), if_neg (by omega), if_neg (by omega), if_neg (by omega), if_neg (by omega)]) ht
  have hp : (x.p.map stN).map siOf = x.p := by
    by_cases h5 : x.k = 5
    · have et : litT x = wholeX [[119, 97, 108, 107, 40], termX x.a, [44, 32], pathX deepT (x.p.map stN), [44, 32], termX x.b, [41]] := by unfold litT; rw [if_neg (by omega), if_neg (by omega), if_neg (by omega), if_neg (by omega), if_pos h5]
      rw [et] at ht
      have h2 : pathX deepT (x.p.map stN) ≠ [] := fun e => (wholeX_some ht).1 (by simp [e])
      obtain ⟨pe, g1, g2, _⟩ := tree_path h2
      exact (si_map rfl (fun s hs => (st_kind pe g1 s (by rw [g2]; exact hs)).1)).symm
    · have : x.p = [] := by
        have h7 := (blank_some hb).2.2.2.2.2.2
        unfold restL at h7
        by_cases h12 : x.k = 1 ∨ x.k = 2
        · rw [if_pos h12] at h7; exact h7
        rw [if_neg h12] at h7
        by_cases h3 : x.k = 3
        · rw [if_pos h3] at h7; exact h7
        rw [if_neg h3] at h7
        by_cases h4 : x.k = 4
        · rw [if_pos h4] at h7; exact h7
        rw [if_neg h4, if_neg h5] at h7
        exact h7
      rw [this]; rfl
  unfold ltE ltOf LtI.er
  simp only
  rw [hp, Int.toNat_of_nonneg (by omega)]
theorem rl_er {x : RlI} (h : ruleX litX x ≠ []) (hok : x.ok) : rlE (rlOf x) = x.er := by
  unfold ruleX at h
  obtain ⟨_, hin, hh, _⟩ := ruleT_some h
  obtain ⟨_, hf0, _⟩ := rd_heads hh hok.1.2
  unfold rlE rlOf RlI.er
  simp only [List.map_map]
  rw [Int.toNat_of_nonneg hf0]
  congr 1
  exact List.map_congr_left fun u hu => lt_er (fun e => hin (List.mem_map.2 ⟨u, hu, e⟩))
theorem pg_er {x : PgI} (h : textX litX x ≠ []) (hok : x.ok) : pgE (pgOf x) = x.er := by
  unfold textX at h
  obtain ⟨_, hin, _⟩ := text_some h
  unfold pgE pgOf PgI.er
  simp only [List.map_map]
  congr 1
  exact List.map_congr_left fun u hu => rl_er (line_some (fun e => hin (List.mem_map.2 ⟨u, hu, e⟩))).1 (hok.1 u hu)
end Go.Proofs.YtdolhlbkhhnpmaaGreatDoor
namespace Go.Proofs.YtdolhlbkhhnpmaaGreatDoor
open Go.RowKit FloM ValM Go.Shelf
set_option linter.unusedVariables false
set_option linter.unusedSimpArgs false
def AnyB (W : World) (e : Ending) (w' : World) : Prop := ∃ b, e = .returned (.bool b) ∧ Below W.heap.size W w'
set_option maxRecDepth 20000 in
set_option maxHeartbeats 8000000 in
theorem few9_any (x : PgI) (W : World) (hx : x.rd W) :
    Calls Tryz.prog 8 #[.agg #[.slice x.A x.r.length x.c, .string (bs x.q.p), .slice x.q.A x.q.a.length x.q.c], .int .i64 12, .int .i64 14] W (AnyB W) := by
  have hm1 : x.r.length ≤ 9223372036854775807 := Nat.le_trans hx.1.1 (by decide)
  have hm2 : x.q.a.length ≤ 9223372036854775807 := Nat.le_trans hx.2.2.1 (by decide)
  have hb1 : Below W.heap.size W (W.alloc (.cells #[.slice x.A x.r.length x.c, .string (bs x.q.p), .slice x.q.A x.q.a.length x.q.c] 27)) := (Below.refl _ _).alloc (Nat.le_refl _) _
  have HB1 := Lib.hid hb1
  have HX := Lib.hid hx
  have HRow := Lib.hid (row_new (t := 27) W [.slice x.A x.r.length x.c, .string (bs x.q.p), .slice x.q.A x.q.a.length x.q.c])
  clear hx hb1
  obtain ⟨A, c, rs, ⟨p, Aq, cq, a⟩⟩ := x
  simp only at *
  by_cases h12 : (12 : Int) < (rs.length : Int)
  · go_enter Tryz.func8, Tryz.ntmps8
    go_wp2
    go_ret
    exact ⟨_, rfl, HB1.out⟩
  by_cases h10 : (10 : Int) < (a.length : Int)
  · go_enter Tryz.func8, Tryz.ntmps8
    go_wp2
    go_ret
    exact ⟨_, rfl, HB1.out⟩
  have hr12 : rs.length ≤ 12 := by omega
  go_enter Tryz.func8, Tryz.ntmps8
  go_wp2
  go_loopw [7, 26] (fun sv vi wr => ∃ k s : Nat, vi = .int .i64 (k : Nat) ∧ k ≤ rs.length ∧ sv = .int .i64 (s : Nat) ∧ s ≤ 60 ∧ Below (W.alloc (.cells #[.slice A rs.length c, .string (bs p), .slice Aq a.length cq] 27)).heap.size (W.alloc (.cells #[.slice A rs.length c, .string (bs p), .slice Aq a.length cq] 27)) wr) (fun _ v _ => rs.length - (intOf v).toNat)
  case atStart => exact ⟨0, 0, rfl, Nat.zero_le _, rfl, Nat.zero_le _, Below.refl _ _⟩
  case round =>
    obtain ⟨k, s, rfl, hk, rfl, hs60, hb⟩ := hrel
    have HB := Lib.hid hb
    have hbW : Below W.heap.size W wr := on HB1.out hb
    have HBW := Lib.hid hbW
    have p0 := (rowOn HRow.out hb).cell 0
    simp only [List.getElem?_cons_zero] at p0
    by_cases hlt : k < rs.length
    · obtain ⟨y, hy⟩ : ∃ y, rs[k]? = some y := ⟨_, List.getElem?_eq_getElem hlt⟩
      obtain ⟨b, o, rfl, hbl, hc⟩ := (HX.out.1.on hbW).2 k y hy
      have x0 := hc 0 _ rfl; have x1 := hc 1 _ rfl; have x2 := hc 2 _ rfl; have x3 := hc 3 _ rfl
      rw [Nat.add_zero] at x0
      have hyr : y.rd W := HX.out.2.1 y (List.mem_of_getElem? hy)
      have HY := Lib.hid hyr
      have hn1 : y.b.length ≤ 9223372036854775807 := Nat.le_trans hyr.2.1.1 (by decide)
      have hn2 : y.h.a.length ≤ 9223372036854775807 := Nat.le_trans hyr.1.1 (by decide)
      clear hc hy hb hbW hyr
      obtain ⟨⟨yp, yA, yc, ya⟩, yf, bA, bc, bl⟩ := y
      simp only at *
      have HR2 := Lib.hid (row_new (t := 33) wr [.string (bs yp), .slice yA ya.length yc, .int .i64 yf, .slice bA bl.length bc])
      have HB2 : Hid (Below W.heap.size W (wr.alloc (.cells #[.string (bs yp), .slice yA ya.length yc, .int .i64 yf, .slice bA bl.length bc] 33))) := Lib.hid (HBW.out.alloc HBW.out.size _)
      have HB3 : Hid (Below (W.alloc (.cells #[.slice (some ⟨b, o, none⟩) rs.length c, .string (bs p), .slice Aq a.length cq] 27)).heap.size (W.alloc (.cells #[.slice (some ⟨b, o, none⟩) rs.length c, .string (bs p), .slice Aq a.length cq] 27)) (wr.alloc (.cells #[.string (bs yp), .slice yA ya.length yc, .int .i64 yf, .slice bA bl.length bc] 33))) := Lib.hid (HB.out.alloc HB.out.size _)
      by_cases h14 : (14 : Int) < (bl.length : Int)
      · go_wp2
        go_ret
        exact ⟨_, rfl, HB2.out⟩
      by_cases hh10 : (10 : Int) < (ya.length : Int)
      · go_wp2
        go_ret
        exact ⟨_, rfl, HB2.out⟩
      go_wp2
      go_loopw [7, 49] (fun sv vi wq => ∃ j s : Nat, vi = .int .i64 (j : Nat) ∧ j ≤ bl.length ∧ sv = .int .i64 (s : Nat) ∧ s ≤ 60 ∧ Below (wr.alloc (.cells #[.string (bs yp), .slice yA ya.length yc, .int .i64 yf, .slice bA bl.length bc] 33)).heap.size (wr.alloc (.cells #[.string (bs yp), .slice yA ya.length yc, .int .i64 yf, .slice bA bl.length bc] 33)) wq) (fun _ v _ => bl.length - (intOf v).toNat)
      case atStart => exact ⟨0, s, rfl, Nat.zero_le _, rfl, hs60, Below.refl _ _⟩
      case round =>
        obtain ⟨j, t, rfl, hj, rfl, ht60, hq⟩ := hrel
        have HQ := Lib.hid hq
        have q3 := (rowOn HR2.out hq).cell 3
        simp only [List.getElem?_cons_zero, List.getElem?_cons_succ] at q3
        by_cases hjl : j < bl.length
        · obtain ⟨z, hz⟩ : ∃ z, bl[j]? = some z := ⟨_, List.getElem?_eq_getElem hjl⟩
          obtain ⟨b2, o2, rfl, hbl2, hc2⟩ := (HY.out.2.1.on (on HB2.out hq)).2 j z hz
          have z2 := hc2 2 _ rfl
          have z16 := hc2 16 _ rfl
          have hzr : z.rd W := HY.out.2.2 z (List.mem_of_getElem? hz)
          have hn3 : z.p.length ≤ 9223372036854775807 := Nat.le_trans hzr.2.1 (by decide)
          have hn4 : z.m.a.length ≤ 9223372036854775807 := Nat.le_trans hzr.1.1 (by decide)
          generalize z.p.length = L at *
          generalize z.m.a.length = M at *
          clear hc2 hz hq hzr
          by_cases hp30 : (30 : Int) < (L : Int)
          · go_wp2
            go_ret
            exact ⟨_, rfl, on HB2.out HQ.out⟩
          by_cases ha10 : (10 : Int) < (M : Int)
          · go_wp2
            go_ret
            exact ⟨_, rfl, on HB2.out HQ.out⟩
          have hw : IntKind.i64.wrap ((t : Int) + (L : Int)) = (t : Int) + (L : Int) := by rw [IntKind.wrap_i64]; omega
          by_cases hs : (60 : Int) < (t : Int) + (L : Int)
          · go_wp2
            go_ret
            exact ⟨_, rfl, on HB2.out HQ.out⟩
          · go_wp2
            all_goals
              go_roundw
              case rel => exact ⟨j + 1, t + L, by go_num, by omega, by go_num, by omega, HQ.out⟩
              case measure => simp [intOf]; omega
        · obtain rfl : j = bl.length := by omega
          go_wp2
          all_goals
            go_roundw
            case rel => exact ⟨k + 1, t, by go_num, by omega, rfl, ht60, on HB3.out HQ.out⟩
            case measure => simp [intOf]; omega
    · obtain rfl : k = rs.length := by omega
      go_wp2
      go_ret
      exact ⟨_, rfl, HBW.out⟩
end Go.Proofs.YtdolhlbkhhnpmaaGreatDoor
namespace Go.Proofs.YtdolhlbkhhnpmaaGreatDoor
open Go.RowKit Go.ChangeShapes Go.WideShapes Go.ChangeAt Go.Joins Go.Deep Go.ChangeMaps FloM ValM
set_option linter.unusedVariables false
set_option linter.unusedSimpArgs false
section
variable {H : Type} {enc : TypeId × Value → H} {w : World} {base : Nat} {spare : Nat → Bool} {held : Bool}
theorem field_of {P : Program} {t : TypeId} {fs : Array Field} (hs : P.underlying t = some (.struct fs)) {n : Nat} {cs : List Value} {x : DataW H × List MemPlace} (h : DataW.trod enc P w base spare held n t cs = some x) :
    ∃ m, ∀ (i : Nat) (f : Field), fs[i]? = some f → ∃ y, DataW.trod enc P w base spare held m f.type ((cs.drop f.offset).take (P.cellsOf f.type)) = some y := by
  obtain ⟨xs, m, _, hx, _, hlen, hg⟩ := DataW.trod_struct hs h
  refine ⟨m, fun i f hf => ?_⟩
  have hi : i < xs.length := by rw [hlen]; exact (Array.getElem?_eq_some_iff.1 hf).1
  exact ⟨xs[i], by rw [hg i f hf, List.getElem?_eq_getElem hi]⟩
theorem field_at {P : Program} {fs : Array Field} {m : Nat} {cs : List Value} (hf : ∀ (i : Nat) (f : Field), fs[i]? = some f → ∃ y, DataW.trod enc P w base spare held m f.type ((cs.drop f.offset).take (P.cellsOf f.type)) = some y) (i : Nat) (T : TypeId) (o k : Nat) (hi : (fs[i]?).map (fun f => (f.type, f.offset)) = some (T, o)) (hk : P.cellsOf T = k) :
    ∃ y, DataW.trod enc P w base spare held m T ((cs.drop o).take k) = some y := by
  cases h : fs[i]? with
  | none => rw [h] at hi; cases hi
  | some f =>
    rw [h] at hi
    injection hi with hi; injection hi with h1 h2
    obtain ⟨y, hy⟩ := hf i f h
    rw [h1, h2, hk] at hy
    exact ⟨y, hy⟩
theorem cellsOf_s : Tryz.prog.cellsOf 9 = 1 := by kernel_rfl
theorem cellsOf_i : Tryz.prog.cellsOf 3 = 1 := by kernel_rfl
theorem cellsOf_v : Tryz.prog.cellsOf 47 = 3 := by kernel_rfl
theorem cellsOf_tm : Tryz.prog.cellsOf 49 = 4 := by kernel_rfl
theorem cellsOf_ts : Tryz.prog.cellsOf 23 = 1 := by kernel_rfl
theorem cellsOf_am : Tryz.prog.cellsOf 25 = 2 := by kernel_rfl
theorem cellsOf_st : Tryz.prog.cellsOf 45 = 1 := by kernel_rfl
theorem cellsOf_li : Tryz.prog.cellsOf 53 = 17 := by kernel_rfl
theorem cellsOf_ls : Tryz.prog.cellsOf 31 = 1 := by kernel_rfl
theorem cellsOf_rl : Tryz.prog.cellsOf 33 = 4 := by kernel_rfl
theorem cellsOf_rs : Tryz.prog.cellsOf 22 = 1 := by kernel_rfl
theorem cells_v3 {n : Nat} {c0 c1 c2 : Value} {x : DataW H × List MemPlace} (h : DataW.trod enc Tryz.prog w base spare held n 47 [c0, c1, c2] = some x) :
    ∃ v : V, c0 = .int .i64 v.k ∧ c1 = .int .i64 v.n ∧ c2 = .string v.s ∧ Fits v.n ∧ v.s.size ≤ maxLen := by
  obtain ⟨m, hf⟩ := field_of Tryz.underlying47 h
  obtain ⟨y0, h0⟩ := field_at hf 0 3 0 1 rfl cellsOf_i
  obtain ⟨y1, h1⟩ := field_at hf 1 2 1 1 rfl (by kernel_rfl)
  obtain ⟨y2, h2⟩ := field_at hf 2 9 2 1 rfl cellsOf_s
  obtain ⟨k, e0, _, w0⟩ := DataW.trod_int Tryz.underlying3 h0
  obtain ⟨n, e1, _, w1⟩ := DataW.trod_int Tryz.underlying2 h1
  obtain ⟨s, e2, _, w2⟩ := DataW.trod_string Tryz.underlying9 h2
  simp at e0 e1 e2
  exact ⟨⟨k, n, s⟩, e0, e1, e2, fits_of w1, w2⟩
theorem cells_tm {n : Nat} {cs : List Value} {x : DataW H × List MemPlace} (hl : cs.length = 4) (h : DataW.trod enc Tryz.prog w base spare held n 49 cs = some x) : ∃ t : Tm, cs = tmC t ∧ TmOk t := by
  match cs, hl with
  | [c0, c1, c2, c3], _ =>
    obtain ⟨m, hf⟩ := field_of Tryz.underlying49 h
    obtain ⟨y0, h0⟩ := field_at hf 0 9 0 1 rfl cellsOf_s
    obtain ⟨y1, h1⟩ := field_at hf 1 47 1 3 rfl cellsOf_v
    obtain ⟨s, e0, _, w0⟩ := DataW.trod_string Tryz.underlying9 h0
    simp at e0
    obtain ⟨v, f0, f1, f2, g1, g2⟩ := cells_v3 h1
    subst e0 f0 f1 f2
    refine ⟨⟨ls s, v⟩, by simp [tmC, bs_ls], ?_, g2, g1⟩
    rw [ls_len]; exact w0
instance : Inhabited Tm := ⟨⟨[], v0⟩⟩
instance : Inhabited AmA := ⟨⟨[], none, 0, []⟩⟩
instance : Inhabited LtI := ⟨⟨0, default, [], default, default, default, none, 0, []⟩⟩
instance : Inhabited RlI := ⟨⟨default, 0, none, 0, []⟩⟩
theorem cells_am {n : Nat} {c0 c1 : Value} {x : DataW H × List MemPlace} (h : DataW.trod enc Tryz.prog w base spare held n 25 [c0, c1] = some x) : ∃ y : AmA, c0 = .string (bs y.p) ∧ c1 = .slice y.A y.a.length y.c ∧ y.rd w ∧ AmOk y := by
  obtain ⟨m, hf⟩ := field_of Tryz.underlying25 h
  obtain ⟨y0, h0⟩ := field_at hf 0 9 0 1 rfl cellsOf_s
  obtain ⟨y1, h1⟩ := field_at hf 1 23 1 1 rfl cellsOf_ts
  obtain ⟨s, e0, _, w0⟩ := DataW.trod_string Tryz.underlying9 h0
  simp at e0
  obtain ⟨A, c, l, e1, r1, r2, _⟩ := rows_trod Tryz.underlying23 (sz := 4) cellsOf_tm (by decide) tmC TmOk (fun _ => rfl) (fun n cs x => cells_tm) h1
  simp at e1
  subst e0 e1
  exact ⟨⟨ls s, A, c, l⟩, by simp [bs_ls], rfl, r1, by show (ls s).length ≤ maxLen; rw [ls_len]; exact w0, r2⟩
def LtOk (w : World) (x : LtI) : Prop := x.rd w ∧ x.ok ∧ Fits x.k
theorem cells_lt {n : Nat} {cs : List Value} {x : DataW H × List MemPlace} (hl : cs.length = 17) (h : DataW.trod enc Tryz.prog w base spare held n 53 cs = some x) : ∃ y : LtI, cs = ltIC y ∧ LtOk w y := by
  match cs, hl with
  | [c0, c1, c2, c3, c4, c5, c6, c7, c8, c9, c10, c11, c12, c13, c14, c15, c16], _ =>
    obtain ⟨m, hf⟩ := field_of Tryz.underlying53 h
    obtain ⟨y0, h0⟩ := field_at hf 0 3 0 1 rfl cellsOf_i
    obtain ⟨y1, h1⟩ := field_at hf 1 25 1 2 rfl cellsOf_am
    obtain ⟨y2, h2⟩ := field_at hf 2 9 3 1 rfl cellsOf_s
    obtain ⟨y3, h3⟩ := field_at hf 3 49 4 4 rfl cellsOf_tm
    obtain ⟨y4, h4⟩ := field_at hf 4 49 8 4 rfl cellsOf_tm
    obtain ⟨y5, h5⟩ := field_at hf 5 49 12 4 rfl cellsOf_tm
    obtain ⟨y6, h6⟩ := field_at hf 6 45 16 1 rfl cellsOf_st
    obtain ⟨k, e0, _, w0⟩ := DataW.trod_int Tryz.underlying3 h0
    simp at e0
    obtain ⟨am, a0, a1, a2, a3⟩ := cells_am h1
    obtain ⟨o, e2, _, w2⟩ := DataW.trod_string Tryz.underlying9 h2
    simp at e2
    obtain ⟨ta, t0, g0⟩ := cells_tm (cs := [c4, c5, c6, c7]) rfl h3
    obtain ⟨tb, t1, g1⟩ := cells_tm (cs := [c8, c9, c10, c11]) rfl h4
    obtain ⟨tc, t2, g2⟩ := cells_tm (cs := [c12, c13, c14, c15]) rfl h5
    obtain ⟨A, c, l, e6, r1, r2, _⟩ := rows_trod Tryz.underlying45 (sz := 2) (by kernel_rfl) (by decide) siC SiOk (fun _ => rfl) (fun n cs x => cells_si) h6
    simp at e6
    simp only [tmC, List.cons.injEq, and_true] at t0 t1 t2
    obtain ⟨t00, t01, t02, t03⟩ := t0
    obtain ⟨t10, t11, t12, t13⟩ := t1
    obtain ⟨t20, t21, t22, t23⟩ := t2
    subst e0 a0 a1 e2 t00 t01 t02 t03 t10 t11 t12 t13 t20 t21 t22 t23 e6
    refine ⟨⟨k, am, ls o, ta, tb, tc, A, c, l⟩, by simp [ltIC, bs_ls], ⟨a2, r1⟩, ⟨a3, by show (ls o).length ≤ maxLen; rw [ls_len]; exact w2, g0, g1, g2, fun s hs => (r2 s hs).1⟩, fits_of w0⟩
def RlOk (w : World) (x : RlI) : Prop := x.rd w ∧ x.ok
theorem cells_rl {n : Nat} {cs : List Value} {x : DataW H × List MemPlace} (hl : cs.length = 4) (h : DataW.trod enc Tryz.prog w base spare held n 33 cs = some x) : ∃ y : RlI, cs = rlIC y ∧ RlOk w y := by
  match cs, hl with
  | [c0, c1, c2, c3], _ =>
    obtain ⟨m, hf⟩ := field_of Tryz.underlying33 h
    obtain ⟨y0, h0⟩ := field_at hf 0 25 0 2 rfl cellsOf_am
    obtain ⟨y1, h1⟩ := field_at hf 1 3 2 1 rfl cellsOf_i
    obtain ⟨y2, h2⟩ := field_at hf 2 31 3 1 rfl cellsOf_ls
    obtain ⟨am, a0, a1, a2, a3⟩ := cells_am h0
    obtain ⟨k, e1, _, w1⟩ := DataW.trod_int Tryz.underlying3 h1
    simp at e1
    obtain ⟨A, c, l, e2, r1, r2, _⟩ := rows_trod Tryz.underlying31 (sz := 17) cellsOf_li (by decide) ltIC (LtOk w) (fun _ => rfl) (fun n cs x => cells_lt) h2
    simp at e2
    subst a0 a1 e1 e2
    exact ⟨⟨am, k, A, c, l⟩, rfl, ⟨a2, r1, fun y hy => (r2 y hy).1⟩, ⟨a3, fits_of w1, fun y hy => (r2 y hy).2.1⟩⟩
/-- A parameter of type api.Program. -/
theorem open_prog {v : Value} {d : DataW H} {p : List MemPlace} (hok : ∃ c, v = .agg c ∧ c.size = Tryz.prog.cellsOf 27) (h : DataW.Trod enc Tryz.prog w base spare held 27 v d p) :
    ∃ x : PgI, v = .agg #[.slice x.A x.r.length x.c, .string (bs x.q.p), .slice x.q.A x.q.a.length x.q.c] ∧ x.rd w ∧ x.ok := by
  obtain ⟨cs0, rfl, hsz⟩ := hok
  obtain ⟨fuel, hf⟩ := h
  have hl : (Value.agg cs0).cells.toList.length = 3 := by
    simp only [Value.cells, Array.length_toList]
    rw [hsz]; kernel_rfl
  simp only [Value.cells] at hf hl
  match hc : cs0.toList, hl with
  | [c0, c1, c2], _ =>
    rw [hc] at hf
    obtain ⟨m, hfs⟩ := field_of Tryz.underlying27 hf
    obtain ⟨y0, h0⟩ := field_at hfs 0 22 0 1 rfl cellsOf_rs
    obtain ⟨y1, h1⟩ := field_at hfs 1 25 1 2 rfl cellsOf_am
    obtain ⟨A, c, l, e0, r1, r2, _⟩ := rows_trod Tryz.underlying22 (sz := 4) cellsOf_rl (by decide) rlIC (RlOk w) (fun _ => rfl) (fun n cs x => cells_rl) h0
    simp at e0
    obtain ⟨am, a0, a1, a2, a3⟩ := cells_am h1
    subst e0 a0 a1
    refine ⟨⟨A, c, l, am⟩, ?_, ⟨r1, fun y hy => (r2 y hy).1, a2⟩, ⟨fun y hy => (r2 y hy).2, a3⟩⟩
    have : cs0 = [Value.slice A l.length c, .string (bs am.p), .slice am.A am.a.length am.c].toArray := by rw [← hc]
    rw [this]
end
end Go.Proofs.YtdolhlbkhhnpmaaGreatDoor

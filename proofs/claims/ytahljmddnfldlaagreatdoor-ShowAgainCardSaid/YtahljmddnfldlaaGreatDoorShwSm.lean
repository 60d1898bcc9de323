/-
  The document's comparison of two programs that are alike. (Printed by tools/mkeq9.py.)
-/
import Derived.Test.YtahljmddnfldlaaGreatDoorShwIn
import Derived.Test.YtahljmddnfldlaaGreatDoorPrsEb
import Derived.Test.YtahljmddnfldlaaGreatDoorShwTt
import Derived.Test.YtahljmddnfldlaaGreatDoorPrsEc
import Derived.Deep.RegionHeld3
import Derived.Deep.CutRange
import Derived.Test.YtahljmddnfldlaaGreatDoorShwTx
import Derived.RegionTactic
import Derived.BigQuiet
namespace Go.Proofs.YtahljmddnfldlaaGreatDoor
open Go.RowKit FloM ValM Go.Shelf
set_option linter.unusedVariables false
set_option linter.unusedSimpArgs false
structure LtE where
  k : Int
  m : Am
  o : List UInt8
  a : Tm
  b : Tm
  c : Tm
  p : List SI
structure RlE where
  h : Am
  f : Int
  b : List LtE
structure PgE where
  r : List RlE
  q : Am
def LtI.er (x : LtI) : LtE := ⟨x.k, x.m.am, x.o, x.a, x.b, x.c, x.p⟩
def RlI.er (x : RlI) : RlE := ⟨x.h.am, x.f, x.b.map LtI.er⟩
def PgI.er (x : PgI) : PgE := ⟨x.r.map RlI.er, x.q.am⟩
theorem at_map {α γ : Type} {f : α → γ} {l l' : List α} (h : l.map f = l'.map f) {i : Nat} {x : α} (hx : l[i]? = some x) : ∃ y, l'[i]? = some y ∧ f x = f y := by
  have h1 : (l.map f)[i]? = some (f x) := by rw [List.getElem?_map, hx]; rfl
  rw [h, List.getElem?_map, Option.map_eq_some_iff] at h1
  obtain ⟨y, hy, e⟩ := h1
  exact ⟨y, hy, e.symm⟩
set_option maxRecDepth 20000 in
set_option maxHeartbeats 4000000 in
theorem sameAtom9_yes (x y : AmA) (W : World) (hx : x.rd W) (hy : y.rd W) (h : x.am = y.am) :
    Calls Tryz.prog 31 #[.agg #[.string (bs x.p), .slice x.A x.a.length x.c], .agg #[.string (bs y.p), .slice y.A y.a.length y.c]] W fun e w' => e = .returned (.bool true) ∧ Below W.heap.size W w' := by
  obtain ⟨p, A, c, l⟩ := x
  obtain ⟨p2, A2, c2, l2⟩ := y
  unfold AmA.am at h
  injection h with h1 h2
  subst h1 h2
  have HX := Lib.hid hx; have HY := Lib.hid hy
  have hmx : l.length ≤ 9223372036854775807 := Nat.le_trans hx.1 (by decide)
  clear hx hy
  have hb0 : Below W.heap.size W ((W.alloc (.cells #[.string (bs p), .slice A l.length c] 25)).alloc (.cells #[.string (bs p), .slice A2 l.length c2] 25)) := ((Below.refl _ _).alloc (Nat.le_refl _) _).alloc (by simp) _
  have HB0 := Lib.hid hb0
  have R1 := Lib.hid ((row_new (t := 25) W [.string (bs p), .slice A l.length c]).alloc (.cells #[.string (bs p), .slice A2 l.length c2] 25))
  have R2 := Lib.hid (row_new (t := 25) (W.alloc (.cells #[.string (bs p), .slice A l.length c] 25)) [.string (bs p), .slice A2 l.length c2])
  rw [World.size_alloc] at R2
  go_enter Tryz.func31, Tryz.ntmps31
  go_wp2
  go_loopw [23] (fun vi wr => ∃ k : Nat, vi = .int .i64 (k : Nat) ∧ k ≤ l.length ∧ Below ((W.alloc (.cells #[.string (bs p), .slice A l.length c] 25)).alloc (.cells #[.string (bs p), .slice A2 l.length c2] 25)).heap.size ((W.alloc (.cells #[.string (bs p), .slice A l.length c] 25)).alloc (.cells #[.string (bs p), .slice A2 l.length c2] 25)) wr) (fun vi _ => l.length - (intOf vi).toNat)
  case atStart => exact ⟨0, rfl, Nat.zero_le _, Below.refl _ _⟩
  case round =>
    obtain ⟨k, rfl, hk, hb⟩ := hrel
    have hbW : Below W.heap.size W wr := on HB0.out hb
    have HBW := Lib.hid hbW
    have a0 := (rowOn R1.out hb).cell 1
    have a1 := (rowOn R2.out hb).cell 1
    by_cases hlt : k < l.length
    · obtain ⟨t, ht⟩ : ∃ t, l[k]? = some t := ⟨_, List.getElem?_eq_getElem hlt⟩
      obtain ⟨g, o, rfl, hg, hc⟩ := (RdX.on HX.out hbW).2 k t ht
      obtain ⟨g2, o2, rfl, hg2, hc2⟩ := (RdX.on HY.out hbW).2 k t ht
      have x0 := hc 0 _ rfl; have x1 := hc 1 _ rfl; have x2 := hc 2 _ rfl; have x3 := hc 3 _ rfl
      have y0 := hc2 0 _ rfl; have y1 := hc2 1 _ rfl; have y2 := hc2 2 _ rfl; have y3 := hc2 3 _ rfl
      rw [Nat.add_zero] at x0 y0
      have HB := Lib.hid hb
      clear hc hc2 ht hbW hb
      go_wp2
      go_quiet (fail)
      go_wp2
      go_roundw
      case rel => exact ⟨k + 1, by go_num, by omega, ⟨HB.out.os, HB.out.tape, HB.out.output, HB.out.size, HB.out.block⟩⟩
      case measure => simp [intOf]; omega
    · obtain rfl : k = l.length := by omega
      go_wp2
      go_ret
      exact ⟨rfl, HBW.out⟩
set_option maxRecDepth 20000 in
set_option maxHeartbeats 16000000 in
theorem sameRule9_yes (x y : RlI) (W : World) (hx : x.rd W) (hy : y.rd W) (h : x.er = y.er) :
    Calls Tryz.prog 32 #[.agg #[.string (bs x.h.p), .slice x.h.A x.h.a.length x.h.c, .int .i64 x.f, .slice x.A x.b.length x.c], .agg #[.string (bs y.h.p), .slice y.h.A y.h.a.length y.h.c, .int .i64 y.f, .slice y.A y.b.length y.c]] W fun e w' => e = .returned (.bool true) ∧ Below W.heap.size W w' := by
  unfold RlI.er at h
  injection h with hham hf hbm
  have hbl : x.b.length = y.b.length := by have := congrArg List.length hbm; simpa using this
  have hcW : Below W.heap.size W ((W.alloc (.cells #[.string (bs x.h.p), .slice x.h.A x.h.a.length x.h.c, .int .i64 x.f, .slice x.A x.b.length x.c] 33)).alloc (.cells #[.string (bs y.h.p), .slice y.h.A y.h.a.length y.h.c, .int .i64 y.f, .slice y.A y.b.length y.c] 33)) := ((Below.refl _ _).alloc (Nat.le_refl _) _).alloc (by simp) _
  have RP : Hid (Row 33 ((W.alloc (.cells #[.string (bs x.h.p), .slice x.h.A x.h.a.length x.h.c, .int .i64 x.f, .slice x.A x.b.length x.c] 33)).alloc (.cells #[.string (bs y.h.p), .slice y.h.A y.h.a.length y.h.c, .int .i64 y.f, .slice y.A y.b.length y.c] 33)) W.heap.size [.string (bs x.h.p), .slice x.h.A x.h.a.length x.h.c, .int .i64 x.f, .slice x.A x.b.length x.c]) := Lib.hid ((row_new (t := 33) W [.string (bs x.h.p), .slice x.h.A x.h.a.length x.h.c, .int .i64 x.f, .slice x.A x.b.length x.c]).alloc _)
  have RQ : Hid (Row 33 ((W.alloc (.cells #[.string (bs x.h.p), .slice x.h.A x.h.a.length x.h.c, .int .i64 x.f, .slice x.A x.b.length x.c] 33)).alloc (.cells #[.string (bs y.h.p), .slice y.h.A y.h.a.length y.h.c, .int .i64 y.f, .slice y.A y.b.length y.c] 33)) (W.heap.size + 1) [.string (bs y.h.p), .slice y.h.A y.h.a.length y.h.c, .int .i64 y.f, .slice y.A y.b.length y.c]) := Lib.hid (by have h := row_new (t := 33) (W.alloc (.cells #[.string (bs x.h.p), .slice x.h.A x.h.a.length x.h.c, .int .i64 x.f, .slice x.A x.b.length x.c] 33)) [.string (bs y.h.p), .slice y.h.A y.h.a.length y.h.c, .int .i64 y.f, .slice y.A y.b.length y.c]; rw [World.size_alloc] at h; exact h)
  have HXR := Lib.hid hx; have HYR := Lib.hid hy; have HBM := Lib.hid hbm; have HCW := Lib.hid hcW
  have hfb : (x.f != y.f) = false := by rw [hf]; simp
  have hbn : ((x.b.length : Int) != (y.b.length : Int)) = false := by rw [hbl]; simp
  have hbl1 := Nat.le_of_eq hbl; have hbl2 := Nat.le_of_eq hbl.symm
  have hmb : x.b.length ≤ 9223372036854775807 := hx.2.1.1
  have HAT := Lib.hid (sameAtom9_yes x.h y.h _ (AmA.rd.on hx.1 hcW) (AmA.rd.on hy.1 hcW) hham)
  clear hham hf hbm hbl hcW hx hy
  obtain ⟨wc, hwc⟩ : ∃ wc, Hid (((W.alloc (.cells #[.string (bs x.h.p), .slice x.h.A x.h.a.length x.h.c, .int .i64 x.f, .slice x.A x.b.length x.c] 33)).alloc (.cells #[.string (bs y.h.p), .slice y.h.A y.h.a.length y.h.c, .int .i64 y.f, .slice y.A y.b.length y.c] 33)) = wc) := ⟨_, Lib.hid rfl⟩
  go_enter Tryz.func32, Tryz.ntmps32
  go_wp2_with (go_at_call 31; refine HAT.out.mono ?_; rintro e w5 ⟨rfl, hb5⟩; have p3' := (rowOn RP.out hb5).cell 3; have q3' := (rowOn RQ.out hb5).cell 3; simp only [List.getElem?_cons_zero, List.getElem?_cons_succ] at p3' q3'; have HB5 := Lib.hid hb5; clear hb5)
  rw [hwc.out] at RP RQ HCW HB5
  clear hwc HAT
  go_loopw [33] (fun vi wr2 => ∃ j : Nat, vi = .int .i64 (j : Nat) ∧ j ≤ x.b.length ∧ Below wc.heap.size wc wr2) (fun vi _ => x.b.length - (intOf vi).toNat)
  case atStart => exact ⟨0, rfl, Nat.zero_le _, HB5.out⟩
  case round =>
    obtain ⟨j, rfl, hj, hb2⟩ := hrel
    have HB2 := Lib.hid hb2
    have h2W : Below W.heap.size W wr := on HCW.out hb2
    have HZ2 : Hid (W.heap.size < wr.heap.size ∧ W.heap.size + 1 < wr.heap.size) := Lib.hid ⟨(rowOn RP.out hb2).lt, (rowOn RQ.out hb2).lt⟩
    have b0 := (rowOn RP.out hb2).cell 3; have b1 := (rowOn RQ.out hb2).cell 3
    simp only [List.getElem?_cons_zero, List.getElem?_cons_succ] at b0 b1
    by_cases hjlt : j < x.b.length
    · obtain ⟨u, hu⟩ : ∃ u, x.b[j]? = some u := ⟨_, List.getElem?_eq_getElem hjlt⟩
      obtain ⟨v, hv, huv⟩ := at_map HBM.out hu
      have hjlt2 : j < y.b.length := by omega
      obtain ⟨g3, o3, hA3, hg3, hc3⟩ := (RdX.on HXR.out.2.1 h2W).2 j u hu
      obtain ⟨g4, o4, hA4, hg4, hc4⟩ := (RdX.on HYR.out.2.1 h2W).2 j v hv
      have HUR := Lib.hid (HXR.out.2.2 u (List.mem_of_getElem? hu)); have HVR := Lib.hid (HYR.out.2.2 v (List.mem_of_getElem? hv))
      obtain ⟨lk, um, lo, la, lb, lc, uA, uC, lp⟩ := u
      obtain ⟨lk2, vm, lo2, la2, lb2, lc2, vA, vC, lp2⟩ := v
      unfold LtI.er at huv
      injection huv with e1 hmm e3 e4 e5 e6 e7
      simp only at e1 hmm e3 e4 e5 e6 e7
      subst e1 e3 e4 e5 e6 e7
      have RU : Hid (wr.rangeAt g3 (o3 + j * 17) [.int .i64 lk, .string (bs um.p), .slice um.A um.a.length um.c, .string (bs lo), .string (bs la.v), .int .i64 la.x.k, .int .i64 la.x.n, .string la.x.s, .string (bs lb.v), .int .i64 lb.x.k, .int .i64 lb.x.n, .string lb.x.s, .string (bs lc.v), .int .i64 lc.x.k, .int .i64 lc.x.n, .string lc.x.s, .slice uA lp.length uC]) := Lib.hid hc3; have RV : Hid (wr.rangeAt g4 (o4 + j * 17) [.int .i64 lk, .string (bs vm.p), .slice vm.A vm.a.length vm.c, .string (bs lo), .string (bs la.v), .int .i64 la.x.k, .int .i64 la.x.n, .string la.x.s, .string (bs lb.v), .int .i64 lb.x.k, .int .i64 lb.x.n, .string lb.x.s, .string (bs lc.v), .int .i64 lc.x.k, .int .i64 lc.x.n, .string lc.x.s, .slice vA lp.length vC]) := Lib.hid hc4
      rw [hA3] at b0
      rw [hA4] at b1
      clear hA3 hA4 hc3 hc4 hb2 hu hv
      go_upto_region 6 with fail
      go_cut [6, 7, 33] from 33 to 95 (fun v9 v10 v67 wx => v67 = .int .i64 (j : Nat) ∧ ∃ p2 q2, v9 = .pointer (some ⟨p2, 0, none⟩) ∧ v10 = .pointer (some ⟨q2, 0, none⟩) ∧ Row 52 wx p2 [.int .i64 lk, .string (bs um.p), .slice um.A um.a.length um.c, .string (bs lo), .string (bs la.v), .int .i64 la.x.k, .int .i64 la.x.n, .string la.x.s, .string (bs lb.v), .int .i64 lb.x.k, .int .i64 lb.x.n, .string lb.x.s, .string (bs lc.v), .int .i64 lc.x.k, .int .i64 lc.x.n, .string lc.x.s, .slice uA lp.length uC] ∧ Row 52 wx q2 [.int .i64 lk, .string (bs vm.p), .slice vm.A vm.a.length vm.c, .string (bs lo), .string (bs la.v), .int .i64 la.x.k, .int .i64 la.x.n, .string la.x.s, .string (bs lb.v), .int .i64 lb.x.k, .int .i64 lb.x.n, .string lb.x.s, .string (bs lc.v), .int .i64 lc.x.k, .int .i64 lc.x.n, .string lc.x.s, .slice vA lp.length vC] ∧ Below wr.heap.size wr wx)
      case first =>
        refine wp_region_held_drew (S := fun u => Below wr.heap.size wr u) (by kernel_rfl) (Below.refl _ _).drew (fun hHeld => ?_)
        refine wpAnyH_take (i := 0) (v := ?v0) rfl (by kernel_rfl) (by kernel_rfl) (by kernel_rfl) (fun _ _ _ h => h) (Or.inl ⟨by rfl, ?hy0⟩) hHeld ?rest0
        case hy0 => (intro w hSw; (try dsimp only at hSw); have hz0 := (keep hSw _ _ HZ2.out.1).trans b0; have hz1 := (keep hSw _ _ HZ2.out.2).trans b1; go_simp; try with_reducible rfl)
        try simp only [Act.put, List.setIfInBounds_toArray, List.set_cons_zero, List.set_cons_succ, List.getElem_toArray, List.getElem_cons_zero, List.getElem_cons_succ]
        refine wpAnyH_take (i := 1) (v := ?v1) rfl (by kernel_rfl) (by kernel_rfl) (by kernel_rfl) (fun _ _ _ h => h) (Or.inl ⟨by rfl, ?hy1⟩) hHeld ?rest1
        case hy1 => (intro w hSw; (try dsimp only at hSw); have hz0 := (keep hSw _ _ HZ2.out.1).trans b0; have hz1 := (keep hSw _ _ HZ2.out.2).trans b1; go_simp; try with_reducible rfl)
        try simp only [Act.put, List.setIfInBounds_toArray, List.set_cons_zero, List.set_cons_succ, List.getElem_toArray, List.getElem_cons_zero, List.getElem_cons_succ]
        refine wpAnyH_take (i := 2) (v := ?v2) rfl (by kernel_rfl) (by kernel_rfl) (by kernel_rfl) (fun _ _ _ h => h) (Or.inl ⟨by rfl, ?hy2⟩) hHeld ?rest2
        case hy2 => (intro w hSw; (try dsimp only at hSw); have hz0 := (keep hSw _ _ HZ2.out.1).trans b0; have hz1 := (keep hSw _ _ HZ2.out.2).trans b1; go_simp; try with_reducible rfl)
        try simp only [Act.put, List.setIfInBounds_toArray, List.set_cons_zero, List.set_cons_succ, List.getElem_toArray, List.getElem_cons_zero, List.getElem_cons_succ]
        refine wpAnyH_take (i := 3) (v := ?v3) rfl (by kernel_rfl) (by kernel_rfl) (by kernel_rfl) (fun _ _ _ h => h) (Or.inl ⟨by rfl, ?hy3⟩) hHeld ?rest3
        case hy3 => (intro w hSw; (try dsimp only at hSw); have hz0 := (keep hSw _ _ HZ2.out.1).trans b0; have hz1 := (keep hSw _ _ HZ2.out.2).trans b1; go_simp; try with_reducible rfl)
        try simp only [Act.put, List.setIfInBounds_toArray, List.set_cons_zero, List.set_cons_succ, List.getElem_toArray, List.getElem_cons_zero, List.getElem_cons_succ]
        refine wpAnyH_take (i := 4) (v := .agg #[.int .i64 lk, .string (bs um.p), .slice um.A um.a.length um.c, .string (bs lo), .string (bs la.v), .int .i64 la.x.k, .int .i64 la.x.n, .string la.x.s, .string (bs lb.v), .int .i64 lb.x.k, .int .i64 lb.x.n, .string lb.x.s, .string (bs lc.v), .int .i64 lc.x.k, .int .i64 lc.x.n, .string lc.x.s, .slice uA lp.length uC]) rfl (by kernel_rfl) (by kernel_rfl) (by kernel_rfl) (fun _ _ _ h => h) (yieldsIf_load_mid (by rfl) 52 (.tmp 39) rfl g3 (o3 + j * 17) (by simp [Act.eval, Act.put]) [.int .i64 lk, .string (bs um.p), .slice um.A um.a.length um.c, .string (bs lo), .string (bs la.v), .int .i64 la.x.k, .int .i64 la.x.n, .string la.x.s, .string (bs lb.v), .int .i64 lb.x.k, .int .i64 lb.x.n, .string lb.x.s, .string (bs lc.v), .int .i64 lc.x.k, .int .i64 lc.x.n, .string lc.x.s, .slice uA lp.length uC] _ (fun w hw j' v' h' => (keep hw _ _ hg3).trans (RU.out j' v' h')) Tryz.underlying52 rfl (by kernel_rfl)) hHeld ?rest4
        try simp only [Act.put, List.setIfInBounds_toArray, List.set_cons_zero, List.set_cons_succ, List.getElem_toArray, List.getElem_cons_zero, List.getElem_cons_succ]
        refine wpAnyH_take (i := 5) (v := ?v5) rfl (by kernel_rfl) (by kernel_rfl) (by kernel_rfl) (fun _ _ _ h => h) (Or.inl ⟨by rfl, ?hy5⟩) hHeld ?rest5
        case hy5 => (intro w hSw; (try dsimp only at hSw); have hz0 := (keep hSw _ _ HZ2.out.1).trans b0; have hz1 := (keep hSw _ _ HZ2.out.2).trans b1; go_simp; try with_reducible rfl)
        try simp only [Act.put, List.setIfInBounds_toArray, List.set_cons_zero, List.set_cons_succ, List.getElem_toArray, List.getElem_cons_zero, List.getElem_cons_succ]
        refine wpAnyH_take (i := 6) (v := ?v6) rfl (by kernel_rfl) (by kernel_rfl) (by kernel_rfl) (fun _ _ _ h => h) (Or.inl ⟨by rfl, ?hy6⟩) hHeld ?rest6
        case hy6 => (intro w hSw; (try dsimp only at hSw); have hz0 := (keep hSw _ _ HZ2.out.1).trans b0; have hz1 := (keep hSw _ _ HZ2.out.2).trans b1; go_simp; try with_reducible rfl)
        try simp only [Act.put, List.setIfInBounds_toArray, List.set_cons_zero, List.set_cons_succ, List.getElem_toArray, List.getElem_cons_zero, List.getElem_cons_succ]
        refine wpAnyH_take (i := 7) (v := ?v7) rfl (by kernel_rfl) (by kernel_rfl) (by kernel_rfl) (fun _ _ _ h => h) (Or.inl ⟨by rfl, ?hy7⟩) hHeld ?rest7
        case hy7 => (intro w hSw; (try dsimp only at hSw); have hz0 := (keep hSw _ _ HZ2.out.1).trans b0; have hz1 := (keep hSw _ _ HZ2.out.2).trans b1; go_simp; try with_reducible rfl)
        try simp only [Act.put, List.setIfInBounds_toArray, List.set_cons_zero, List.set_cons_succ, List.getElem_toArray, List.getElem_cons_zero, List.getElem_cons_succ]
        refine wpAnyH_take (i := 8) (v := ?v8) rfl (by kernel_rfl) (by kernel_rfl) (by kernel_rfl) (fun _ _ _ h => h) (Or.inl ⟨by rfl, ?hy8⟩) hHeld ?rest8
        case hy8 => (intro w hSw; (try dsimp only at hSw); have hz0 := (keep hSw _ _ HZ2.out.1).trans b0; have hz1 := (keep hSw _ _ HZ2.out.2).trans b1; go_simp; try with_reducible rfl)
        try simp only [Act.put, List.setIfInBounds_toArray, List.set_cons_zero, List.set_cons_succ, List.getElem_toArray, List.getElem_cons_zero, List.getElem_cons_succ]
        refine wpAnyH_take (i := 9) (v := .agg #[.int .i64 lk, .string (bs vm.p), .slice vm.A vm.a.length vm.c, .string (bs lo), .string (bs la.v), .int .i64 la.x.k, .int .i64 la.x.n, .string la.x.s, .string (bs lb.v), .int .i64 lb.x.k, .int .i64 lb.x.n, .string lb.x.s, .string (bs lc.v), .int .i64 lc.x.k, .int .i64 lc.x.n, .string lc.x.s, .slice vA lp.length vC]) rfl (by kernel_rfl) (by kernel_rfl) (by kernel_rfl) (fun _ _ _ h => h) (yieldsIf_load_mid (by rfl) 52 (.tmp 44) rfl g4 (o4 + j * 17) (by simp [Act.eval, Act.put]) [.int .i64 lk, .string (bs vm.p), .slice vm.A vm.a.length vm.c, .string (bs lo), .string (bs la.v), .int .i64 la.x.k, .int .i64 la.x.n, .string la.x.s, .string (bs lb.v), .int .i64 lb.x.k, .int .i64 lb.x.n, .string lb.x.s, .string (bs lc.v), .int .i64 lc.x.k, .int .i64 lc.x.n, .string lc.x.s, .slice vA lp.length vC] _ (fun w hw j' v' h' => (keep hw _ _ hg4).trans (RV.out j' v' h')) Tryz.underlying52 rfl (by kernel_rfl)) hHeld ?rest9
        try simp only [Act.put, List.setIfInBounds_toArray, List.set_cons_zero, List.set_cons_succ, List.getElem_toArray, List.getElem_cons_zero, List.getElem_cons_succ]
        clear hHeld
        refine wpAnyH_ready (rs := [10, 11]) (by kernel_rfl) (by simp) ?_
        refine AllReadyH.cons rfl (fun K hK => ?_) (AllReadyH.cons rfl (fun K hK => ?_) AllReadyH.nil)
        · go_simp
          refine hK.out _ _ (((by repeat (first | (with_reducible exact Below.refl _ _) | (with_reducible refine Below.drew ?_) | (with_reducible refine Below.alloc ?_ (by simp; try omega) _))))) (fun _ => ?_)
          clear hK K
          refine wpAnyH_ready (rs := [11]) (by kernel_rfl) (by simp) ?_
          refine AllReadyH.cons rfl (fun K hK => ?_) AllReadyH.nil
          go_simp
          refine hK.out _ _ (((by repeat (first | (with_reducible exact Below.refl _ _) | (with_reducible refine Below.drew ?_) | (with_reducible refine Below.alloc ?_ (by simp; try omega) _))))) (fun _ => ?_)
          clear hK K
          refine wpAnyH_ready (rs := [12]) (by kernel_rfl) (by simp) ?_
          refine AllReadyH.cons rfl (fun K hK => ?_) AllReadyH.nil
          rw [if_pos (by rfl)]
          try simp only [Act.put, List.setIfInBounds_toArray, List.set_cons_zero, List.set_cons_succ, List.getElem_toArray, List.getElem_cons_zero, List.getElem_cons_succ]
          obtain ⟨V0, hV0⟩ : ∃ V0, ((wr.alloc (.cells #[.int .i64 0, .string ⟨#[]⟩, .slice none 0 0, .string ⟨#[]⟩, .string ⟨#[]⟩, .int .i64 0, .int .i64 0, .string ⟨#[]⟩, .string ⟨#[]⟩, .int .i64 0, .int .i64 0, .string ⟨#[]⟩, .string ⟨#[]⟩, .int .i64 0, .int .i64 0, .string ⟨#[]⟩, .slice none 0 0] 52)).alloc (.cells #[.int .i64 0, .string ⟨#[]⟩, .slice none 0 0, .string ⟨#[]⟩, .string ⟨#[]⟩, .int .i64 0, .int .i64 0, .string ⟨#[]⟩, .string ⟨#[]⟩, .int .i64 0, .int .i64 0, .string ⟨#[]⟩, .string ⟨#[]⟩, .int .i64 0, .int .i64 0, .string ⟨#[]⟩, .slice none 0 0] 52)).drew = V0 := ⟨_, rfl⟩
          have hb0 : Below wr.heap.size wr V0 := by rw [← hV0]; exact (((Below.refl _ _).alloc (Nat.le_refl _) _).alloc (by simp) _).drew
          have r1 : Row 52 V0 wr.heap.size [.int .i64 0, .string ⟨#[]⟩, .slice none 0 0, .string ⟨#[]⟩, .string ⟨#[]⟩, .int .i64 0, .int .i64 0, .string ⟨#[]⟩, .string ⟨#[]⟩, .int .i64 0, .int .i64 0, .string ⟨#[]⟩, .string ⟨#[]⟩, .int .i64 0, .int .i64 0, .string ⟨#[]⟩, .slice none 0 0] := by rw [← hV0]; exact rowOn ((row_new (t := 52) wr [.int .i64 0, .string ⟨#[]⟩, .slice none 0 0, .string ⟨#[]⟩, .string ⟨#[]⟩, .int .i64 0, .int .i64 0, .string ⟨#[]⟩, .string ⟨#[]⟩, .int .i64 0, .int .i64 0, .string ⟨#[]⟩, .string ⟨#[]⟩, .int .i64 0, .int .i64 0, .string ⟨#[]⟩, .slice none 0 0]).alloc _) (Below.refl _ _).drew
          have r2 : Row 52 V0 (wr.heap.size + 1) [.int .i64 0, .string ⟨#[]⟩, .slice none 0 0, .string ⟨#[]⟩, .string ⟨#[]⟩, .int .i64 0, .int .i64 0, .string ⟨#[]⟩, .string ⟨#[]⟩, .int .i64 0, .int .i64 0, .string ⟨#[]⟩, .string ⟨#[]⟩, .int .i64 0, .int .i64 0, .string ⟨#[]⟩, .slice none 0 0] := by rw [← hV0]; exact rowOn (row_at (w := wr.alloc _) (by simp) [.int .i64 0, .string ⟨#[]⟩, .slice none 0 0, .string ⟨#[]⟩, .string ⟨#[]⟩, .int .i64 0, .int .i64 0, .string ⟨#[]⟩, .string ⟨#[]⟩, .int .i64 0, .int .i64 0, .string ⟨#[]⟩, .string ⟨#[]⟩, .int .i64 0, .int .i64 0, .string ⟨#[]⟩, .slice none 0 0]) (Below.refl _ _).drew
          rw [hV0]
          clear hV0
          refine step_storeR 52 (.tmp 6) (.tmp 40) ?hoq10 wr.heap.size ?hxq10 (.agg #[.int .i64 lk, .string (bs um.p), .slice um.A um.a.length um.c, .string (bs lo), .string (bs la.v), .int .i64 la.x.k, .int .i64 la.x.n, .string la.x.s, .string (bs lb.v), .int .i64 lb.x.k, .int .i64 lb.x.n, .string lb.x.s, .string (bs lc.v), .int .i64 lc.x.k, .int .i64 lc.x.n, .string lc.x.s, .slice uA lp.length uC]) ?hyq10 [.int .i64 lk, .string (bs um.p), .slice um.A um.a.length um.c, .string (bs lo), .string (bs la.v), .int .i64 la.x.k, .int .i64 la.x.n, .string la.x.s, .string (bs lb.v), .int .i64 lb.x.k, .int .i64 lb.x.n, .string lb.x.s, .string (bs lc.v), .int .i64 lc.x.k, .int .i64 lc.x.n, .string lc.x.s, .slice uA lp.length uC] rfl r1 rfl (by kernel_rfl) rfl ?hKzq10
          case hoq10 => rfl
          case hxq10 => first | rfl | simp [Act.eval, Act.put]
          case hyq10 => first | rfl | simp [Act.eval, Act.put]
          intro V1 hR1 hF1 hs1
          have b1' : Below wr.heap.size wr V1 := hb0.trans ((hF1 _).below (Nat.le_refl _) fun k hk e => by omega)
          have rr := r2.fr (hF1 _) r2.lt (by omega)
          refine hK.out _ _ b1' (fun _ => ?_)
          clear hK K
          refine wpAnyH_ready (rs := [13]) (by kernel_rfl) (by simp) ?_
          refine AllReadyH.cons rfl (fun K hK => ?_) AllReadyH.nil
          rw [if_pos (by rfl)]
          try simp only [Act.put, List.setIfInBounds_toArray, List.set_cons_zero, List.set_cons_succ, List.getElem_toArray, List.getElem_cons_zero, List.getElem_cons_succ]
          refine step_storeR 52 (.tmp 7) (.tmp 45) ?ho2q10 (wr.heap.size + 1) ?hx2q10 (.agg #[.int .i64 lk, .string (bs vm.p), .slice vm.A vm.a.length vm.c, .string (bs lo), .string (bs la.v), .int .i64 la.x.k, .int .i64 la.x.n, .string la.x.s, .string (bs lb.v), .int .i64 lb.x.k, .int .i64 lb.x.n, .string lb.x.s, .string (bs lc.v), .int .i64 lc.x.k, .int .i64 lc.x.n, .string lc.x.s, .slice vA lp.length vC]) ?hy2q10 [.int .i64 lk, .string (bs vm.p), .slice vm.A vm.a.length vm.c, .string (bs lo), .string (bs la.v), .int .i64 la.x.k, .int .i64 la.x.n, .string la.x.s, .string (bs lb.v), .int .i64 lb.x.k, .int .i64 lb.x.n, .string lb.x.s, .string (bs lc.v), .int .i64 lc.x.k, .int .i64 lc.x.n, .string lc.x.s, .slice vA lp.length vC] rfl rr rfl (by kernel_rfl) rfl ?hK2zq10
          case ho2q10 => rfl
          case hx2q10 => first | rfl | simp [Act.eval, Act.put]
          case hy2q10 => first | rfl | simp [Act.eval, Act.put]
          intro V2 hR2 hF2 hs2
          have b2' : Below wr.heap.size wr V2 := b1'.trans ((hF2 _).below (Nat.le_refl _) fun k hk e => by omega)
          have hR1' := hR1.fr (hF2 _) hR1.lt (by omega)
          refine hK.out _ _ b2' (fun _ => ?_)
          clear hK K
          refine wpAnyH_done (by kernel_rfl) ?_ _
          try simp only [Act.put, List.setIfInBounds_toArray, List.set_cons_zero, List.set_cons_succ, List.getElem_toArray, List.getElem_cons_zero, List.getElem_cons_succ]
          go_wp2_with fail
          go_meet
          exact ⟨rfl, wr.heap.size, (wr.heap.size + 1), rfl, rfl, hR1', hR2, b2'⟩
        · go_simp
          refine hK.out _ _ (((by repeat (first | (with_reducible exact Below.refl _ _) | (with_reducible refine Below.drew ?_) | (with_reducible refine Below.alloc ?_ (by simp; try omega) _))))) (fun _ => ?_)
          clear hK K
          refine wpAnyH_ready (rs := [10]) (by kernel_rfl) (by simp) ?_
          refine AllReadyH.cons rfl (fun K hK => ?_) AllReadyH.nil
          go_simp
          refine hK.out _ _ (((by repeat (first | (with_reducible exact Below.refl _ _) | (with_reducible refine Below.drew ?_) | (with_reducible refine Below.alloc ?_ (by simp; try omega) _))))) (fun _ => ?_)
          clear hK K
          refine wpAnyH_ready (rs := [12]) (by kernel_rfl) (by simp) ?_
          refine AllReadyH.cons rfl (fun K hK => ?_) AllReadyH.nil
          rw [if_pos (by rfl)]
          try simp only [Act.put, List.setIfInBounds_toArray, List.set_cons_zero, List.set_cons_succ, List.getElem_toArray, List.getElem_cons_zero, List.getElem_cons_succ]
          obtain ⟨V0, hV0⟩ : ∃ V0, ((wr.alloc (.cells #[.int .i64 0, .string ⟨#[]⟩, .slice none 0 0, .string ⟨#[]⟩, .string ⟨#[]⟩, .int .i64 0, .int .i64 0, .string ⟨#[]⟩, .string ⟨#[]⟩, .int .i64 0, .int .i64 0, .string ⟨#[]⟩, .string ⟨#[]⟩, .int .i64 0, .int .i64 0, .string ⟨#[]⟩, .slice none 0 0] 52)).alloc (.cells #[.int .i64 0, .string ⟨#[]⟩, .slice none 0 0, .string ⟨#[]⟩, .string ⟨#[]⟩, .int .i64 0, .int .i64 0, .string ⟨#[]⟩, .string ⟨#[]⟩, .int .i64 0, .int .i64 0, .string ⟨#[]⟩, .string ⟨#[]⟩, .int .i64 0, .int .i64 0, .string ⟨#[]⟩, .slice none 0 0] 52)).drew = V0 := ⟨_, rfl⟩
          have hb0 : Below wr.heap.size wr V0 := by rw [← hV0]; exact (((Below.refl _ _).alloc (Nat.le_refl _) _).alloc (by simp) _).drew
          have r1 : Row 52 V0 wr.heap.size [.int .i64 0, .string ⟨#[]⟩, .slice none 0 0, .string ⟨#[]⟩, .string ⟨#[]⟩, .int .i64 0, .int .i64 0, .string ⟨#[]⟩, .string ⟨#[]⟩, .int .i64 0, .int .i64 0, .string ⟨#[]⟩, .string ⟨#[]⟩, .int .i64 0, .int .i64 0, .string ⟨#[]⟩, .slice none 0 0] := by rw [← hV0]; exact rowOn ((row_new (t := 52) wr [.int .i64 0, .string ⟨#[]⟩, .slice none 0 0, .string ⟨#[]⟩, .string ⟨#[]⟩, .int .i64 0, .int .i64 0, .string ⟨#[]⟩, .string ⟨#[]⟩, .int .i64 0, .int .i64 0, .string ⟨#[]⟩, .string ⟨#[]⟩, .int .i64 0, .int .i64 0, .string ⟨#[]⟩, .slice none 0 0]).alloc _) (Below.refl _ _).drew
          have r2 : Row 52 V0 (wr.heap.size + 1) [.int .i64 0, .string ⟨#[]⟩, .slice none 0 0, .string ⟨#[]⟩, .string ⟨#[]⟩, .int .i64 0, .int .i64 0, .string ⟨#[]⟩, .string ⟨#[]⟩, .int .i64 0, .int .i64 0, .string ⟨#[]⟩, .string ⟨#[]⟩, .int .i64 0, .int .i64 0, .string ⟨#[]⟩, .slice none 0 0] := by rw [← hV0]; exact rowOn (row_at (w := wr.alloc _) (by simp) [.int .i64 0, .string ⟨#[]⟩, .slice none 0 0, .string ⟨#[]⟩, .string ⟨#[]⟩, .int .i64 0, .int .i64 0, .string ⟨#[]⟩, .string ⟨#[]⟩, .int .i64 0, .int .i64 0, .string ⟨#[]⟩, .string ⟨#[]⟩, .int .i64 0, .int .i64 0, .string ⟨#[]⟩, .slice none 0 0]) (Below.refl _ _).drew
          rw [hV0]
          clear hV0
          refine step_storeR 52 (.tmp 6) (.tmp 40) ?hoq11 (wr.heap.size + 1) ?hxq11 (.agg #[.int .i64 lk, .string (bs um.p), .slice um.A um.a.length um.c, .string (bs lo), .string (bs la.v), .int .i64 la.x.k, .int .i64 la.x.n, .string la.x.s, .string (bs lb.v), .int .i64 lb.x.k, .int .i64 lb.x.n, .string lb.x.s, .string (bs lc.v), .int .i64 lc.x.k, .int .i64 lc.x.n, .string lc.x.s, .slice uA lp.length uC]) ?hyq11 [.int .i64 lk, .string (bs um.p), .slice um.A um.a.length um.c, .string (bs lo), .string (bs la.v), .int .i64 la.x.k, .int .i64 la.x.n, .string la.x.s, .string (bs lb.v), .int .i64 lb.x.k, .int .i64 lb.x.n, .string lb.x.s, .string (bs lc.v), .int .i64 lc.x.k, .int .i64 lc.x.n, .string lc.x.s, .slice uA lp.length uC] rfl r2 rfl (by kernel_rfl) rfl ?hKzq11
          case hoq11 => rfl
          case hxq11 => first | rfl | simp [Act.eval, Act.put]
          case hyq11 => first | rfl | simp [Act.eval, Act.put]
          intro V1 hR1 hF1 hs1
          have b1' : Below wr.heap.size wr V1 := hb0.trans ((hF1 _).below (Nat.le_refl _) fun k hk e => by omega)
          have rr := r1.fr (hF1 _) r1.lt (by omega)
          refine hK.out _ _ b1' (fun _ => ?_)
          clear hK K
          refine wpAnyH_ready (rs := [13]) (by kernel_rfl) (by simp) ?_
          refine AllReadyH.cons rfl (fun K hK => ?_) AllReadyH.nil
          rw [if_pos (by rfl)]
          try simp only [Act.put, List.setIfInBounds_toArray, List.set_cons_zero, List.set_cons_succ, List.getElem_toArray, List.getElem_cons_zero, List.getElem_cons_succ]
          refine step_storeR 52 (.tmp 7) (.tmp 45) ?ho2q11 wr.heap.size ?hx2q11 (.agg #[.int .i64 lk, .string (bs vm.p), .slice vm.A vm.a.length vm.c, .string (bs lo), .string (bs la.v), .int .i64 la.x.k, .int .i64 la.x.n, .string la.x.s, .string (bs lb.v), .int .i64 lb.x.k, .int .i64 lb.x.n, .string lb.x.s, .string (bs lc.v), .int .i64 lc.x.k, .int .i64 lc.x.n, .string lc.x.s, .slice vA lp.length vC]) ?hy2q11 [.int .i64 lk, .string (bs vm.p), .slice vm.A vm.a.length vm.c, .string (bs lo), .string (bs la.v), .int .i64 la.x.k, .int .i64 la.x.n, .string la.x.s, .string (bs lb.v), .int .i64 lb.x.k, .int .i64 lb.x.n, .string lb.x.s, .string (bs lc.v), .int .i64 lc.x.k, .int .i64 lc.x.n, .string lc.x.s, .slice vA lp.length vC] rfl rr rfl (by kernel_rfl) rfl ?hK2zq11
          case ho2q11 => rfl
          case hx2q11 => first | rfl | simp [Act.eval, Act.put]
          case hy2q11 => first | rfl | simp [Act.eval, Act.put]
          intro V2 hR2 hF2 hs2
          have b2' : Below wr.heap.size wr V2 := b1'.trans ((hF2 _).below (Nat.le_refl _) fun k hk e => by omega)
          have hR1' := hR1.fr (hF2 _) hR1.lt (by omega)
          refine hK.out _ _ b2' (fun _ => ?_)
          clear hK K
          refine wpAnyH_done (by kernel_rfl) ?_ _
          try simp only [Act.put, List.setIfInBounds_toArray, List.set_cons_zero, List.set_cons_succ, List.getElem_toArray, List.getElem_cons_zero, List.getElem_cons_succ]
          go_wp2_with fail
          go_meet
          exact ⟨rfl, (wr.heap.size + 1), wr.heap.size, rfl, rfl, hR1', hR2, b2'⟩
      case rest =>
        obtain ⟨rfl, p2, q2, rfl, rfl, hRp2, hRq2, hbc2⟩ := hcut
        have hw2W := on h2W hbc2
        have HAT2 := Lib.hid (sameAtom9_yes um vm _ (AmA.rd.on HUR.out.1 hw2W) (AmA.rd.on HVR.out.1 hw2W) hmm)
        have RP2 := Lib.hid hRp2; have RQ2 := Lib.hid hRq2; have HBC2 := Lib.hid hbc2; have HW2 := Lib.hid hw2W
        have m0 := hRp2.cell 0; have n0 := hRq2.cell 0
        have m1 := hRp2.cell 1; have n1 := hRq2.cell 1
        have m2 := hRp2.cell 2; have n2 := hRq2.cell 2
        have m3 := hRp2.cell 3; have n3 := hRq2.cell 3
        have m4 := hRp2.cell 4; have n4 := hRq2.cell 4
        have m5 := hRp2.cell 5; have n5 := hRq2.cell 5
        have m6 := hRp2.cell 6; have n6 := hRq2.cell 6
        have m7 := hRp2.cell 7; have n7 := hRq2.cell 7
        have m8 := hRp2.cell 8; have n8 := hRq2.cell 8
        have m9 := hRp2.cell 9; have n9 := hRq2.cell 9
        have m10 := hRp2.cell 10; have n10 := hRq2.cell 10
        have m11 := hRp2.cell 11; have n11 := hRq2.cell 11
        have m12 := hRp2.cell 12; have n12 := hRq2.cell 12
        have m13 := hRp2.cell 13; have n13 := hRq2.cell 13
        have m14 := hRp2.cell 14; have n14 := hRq2.cell 14
        have m15 := hRp2.cell 15; have n15 := hRq2.cell 15
        have m16 := hRp2.cell 16; have n16 := hRq2.cell 16
        simp only [List.getElem?_cons_zero, List.getElem?_cons_succ] at m0 n0 m1 n1 m2 n2 m3 n3 m4 n4 m5 n5 m6 n6 m7 n7 m8 n8 m9 n9 m10 n10 m11 n11 m12 n12 m13 n13 m14 n14 m15 n15 m16 n16
        clear hRp2 hRq2 hbc2 hw2W hmm b0 b1 h2W
        go_wp2_with (first
          | (go_at_call 31; refine HAT2.out.mono ?_; rintro e w6 ⟨rfl, hb6⟩; have m16' := (rowOn RP2.out hb6).cell 16; have n16' := (rowOn RQ2.out hb6).cell 16; simp only [List.getElem?_cons_zero, List.getElem?_cons_succ] at m16' n16'; have HB6 := Lib.hid hb6; clear hb6)
          | (go_at_call 61; refine (samePath_yes uA vA uC vC lp _ (RdX.on (RdX.on HUR.out.2 HW2.out) HB6.out) (RdX.on (RdX.on HVR.out.2 HW2.out) HB6.out)).mono ?_; rintro e w7 ⟨rfl, hb7⟩; have HB7 := Lib.hid hb7; clear hb7))
        go_roundw
        case rel => exact ⟨j + 1, by go_num, by omega, on HB2.out (on HBC2.out (on HB6.out HB7.out))⟩
        case measure => simp [intOf]; omega
    · obtain rfl : j = x.b.length := by omega
      go_wp2
      go_ret
      exact ⟨rfl, on HCW.out HB2.out⟩
end Go.Proofs.YtahljmddnfldlaaGreatDoor
namespace Go.Proofs.YtahljmddnfldlaaGreatDoor
open Go.RowKit FloM ValM Go.Shelf
set_option linter.unusedVariables false
set_option linter.unusedSimpArgs false
set_option maxRecDepth 20000 in
set_option maxHeartbeats 16000000 in
theorem same9_yes (x y : PgI) (W : World) (hx : x.rd W) (hy : y.rd W) (h : x.er = y.er) :
    Calls Tryz.prog 15 #[.agg #[.slice x.A x.r.length x.c, .string (bs x.q.p), .slice x.q.A x.q.a.length x.q.c], .agg #[.slice y.A y.r.length y.c, .string (bs y.q.p), .slice y.q.A y.q.a.length y.q.c]] W fun e w' => e = .returned (.bool true) ∧ Below W.heap.size W w' := by
  unfold PgI.er at h
  injection h with hrm hqm
  have hrl : x.r.length = y.r.length := by have := congrArg List.length hrm; simpa using this
  have hcW : Below W.heap.size W ((W.alloc (.cells #[.slice x.A x.r.length x.c, .string (bs x.q.p), .slice x.q.A x.q.a.length x.q.c] 27)).alloc (.cells #[.slice y.A y.r.length y.c, .string (bs y.q.p), .slice y.q.A y.q.a.length y.q.c] 27)) := ((Below.refl _ _).alloc (Nat.le_refl _) _).alloc (by simp) _
  have RP : Hid (Row 27 ((W.alloc (.cells #[.slice x.A x.r.length x.c, .string (bs x.q.p), .slice x.q.A x.q.a.length x.q.c] 27)).alloc (.cells #[.slice y.A y.r.length y.c, .string (bs y.q.p), .slice y.q.A y.q.a.length y.q.c] 27)) W.heap.size [.slice x.A x.r.length x.c, .string (bs x.q.p), .slice x.q.A x.q.a.length x.q.c]) := Lib.hid ((row_new (t := 27) W [.slice x.A x.r.length x.c, .string (bs x.q.p), .slice x.q.A x.q.a.length x.q.c]).alloc _)
  have RQ : Hid (Row 27 ((W.alloc (.cells #[.slice x.A x.r.length x.c, .string (bs x.q.p), .slice x.q.A x.q.a.length x.q.c] 27)).alloc (.cells #[.slice y.A y.r.length y.c, .string (bs y.q.p), .slice y.q.A y.q.a.length y.q.c] 27)) (W.heap.size + 1) [.slice y.A y.r.length y.c, .string (bs y.q.p), .slice y.q.A y.q.a.length y.q.c]) := Lib.hid (by have h := row_new (t := 27) (W.alloc (.cells #[.slice x.A x.r.length x.c, .string (bs x.q.p), .slice x.q.A x.q.a.length x.q.c] 27)) [.slice y.A y.r.length y.c, .string (bs y.q.p), .slice y.q.A y.q.a.length y.q.c]; rw [World.size_alloc] at h; exact h)
  have HX := Lib.hid hx; have HY := Lib.hid hy; have HRM := Lib.hid hrm; have HCW := Lib.hid hcW
  have hbn : ((x.r.length : Int) != (y.r.length : Int)) = false := by rw [hrl]; simp
  have hl1 := Nat.le_of_eq hrl; have hl2 := Nat.le_of_eq hrl.symm
  have hmb : x.r.length ≤ 9223372036854775807 := hx.1.1
  have HAT := Lib.hid (sameAtom9_yes x.q y.q _ (AmA.rd.on hx.2.2 hcW) (AmA.rd.on hy.2.2 hcW) hqm)
  clear hrm hqm hrl hcW hx hy
  obtain ⟨wc, hwc⟩ : ∃ wc, Hid (((W.alloc (.cells #[.slice x.A x.r.length x.c, .string (bs x.q.p), .slice x.q.A x.q.a.length x.q.c] 27)).alloc (.cells #[.slice y.A y.r.length y.c, .string (bs y.q.p), .slice y.q.A y.q.a.length y.q.c] 27)) = wc) := ⟨_, Lib.hid rfl⟩
  go_enter Tryz.func15, Tryz.ntmps15
  go_wp2_with (go_at_call 31; refine HAT.out.mono ?_; rintro e w5 ⟨rfl, hb5⟩; have p0' := (rowOn RP.out hb5).cell 0; have q0' := (rowOn RQ.out hb5).cell 0; simp only [List.getElem?_cons_zero] at p0' q0'; have HB5 := Lib.hid hb5; clear hb5)
  rw [hwc.out] at RP RQ HCW HB5
  clear hwc HAT
  go_loopw [24] (fun vi wr2 => ∃ j : Nat, vi = .int .i64 (j : Nat) ∧ j ≤ x.r.length ∧ Below wc.heap.size wc wr2) (fun vi _ => x.r.length - (intOf vi).toNat)
  case atStart => exact ⟨0, rfl, Nat.zero_le _, HB5.out⟩
  case round =>
    obtain ⟨j, rfl, hj, hb2⟩ := hrel
    have HB2 := Lib.hid hb2
    have h2W : Below W.heap.size W wr := on HCW.out hb2
    have H2W := Lib.hid h2W
    have rp := rowOn RP.out hb2
    have rq := rowOn RQ.out hb2
    have hz1 : W.heap.size < wr.heap.size := rp.lt
    have hz2 : W.heap.size + 1 < wr.heap.size := rq.lt
    by_cases hjlt : j < x.r.length
    · obtain ⟨u, hu⟩ : ∃ u, x.r[j]? = some u := ⟨_, List.getElem?_eq_getElem hjlt⟩
      obtain ⟨v, hv, huv⟩ := at_map HRM.out hu
      have hjlt2 : j < y.r.length := by omega
      obtain ⟨g3, o3, hA3, hg3, hc3⟩ := (RdX.on HX.out.1 h2W).2 j u hu
      obtain ⟨g4, o4, hA4, hg4, hc4⟩ := (RdX.on HY.out.1 h2W).2 j v hv
      have hur := HX.out.2.1 u (List.mem_of_getElem? hu)
      have hvr := HY.out.2.1 v (List.mem_of_getElem? hv)
      have HSR : Hid (∀ V, Below W.heap.size W V → Calls Tryz.prog 32 #[.agg #[.string (bs u.h.p), .slice u.h.A u.h.a.length u.h.c, .int .i64 u.f, .slice u.A u.b.length u.c], .agg #[.string (bs v.h.p), .slice v.h.A v.h.a.length v.h.c, .int .i64 v.f, .slice v.A v.b.length v.c]] V fun e w' => e = .returned (.bool true) ∧ Below V.heap.size V w') := Lib.hid fun V hV => sameRule9_yes u v V (hur.on hV) (hvr.on hV) huv
      have HS : Hid (∀ t, Below wr.heap.size wr t → (Below wr.heap.size wr t ∧ t.cell? ⟨W.heap.size, 0, none⟩ = some (.slice (some ⟨g3, o3, none⟩) x.r.length x.c) ∧ t.cell? ⟨W.heap.size + 1, 0, none⟩ = some (.slice (some ⟨g4, o4, none⟩) y.r.length y.c) ∧ t.cell? ⟨g3, o3 + j * 4, none⟩ = some (.string (bs u.h.p)) ∧ t.cell? ⟨g3, o3 + j * 4 + 1, none⟩ = some (.slice u.h.A u.h.a.length u.h.c) ∧ t.cell? ⟨g3, o3 + j * 4 + 2, none⟩ = some (.int .i64 u.f) ∧ t.cell? ⟨g3, o3 + j * 4 + 3, none⟩ = some (.slice u.A u.b.length u.c) ∧ t.cell? ⟨g4, o4 + j * 4, none⟩ = some (.string (bs v.h.p)) ∧ t.cell? ⟨g4, o4 + j * 4 + 1, none⟩ = some (.slice v.h.A v.h.a.length v.h.c) ∧ t.cell? ⟨g4, o4 + j * 4 + 2, none⟩ = some (.int .i64 v.f) ∧ t.cell? ⟨g4, o4 + j * 4 + 3, none⟩ = some (.slice v.A v.b.length v.c))) := Lib.hid fun t ht => ⟨ht, by rw [(rowOn rp ht).cell 0, ← hA3]; rfl, by rw [(rowOn rq ht).cell 0, ← hA4]; rfl, (keep ht _ _ hg3).trans (hc3 0 _ rfl), (keep ht _ _ hg3).trans (hc3 1 _ rfl), (keep ht _ _ hg3).trans (hc3 2 _ rfl), (keep ht _ _ hg3).trans (hc3 3 _ rfl), (keep ht _ _ hg4).trans (hc4 0 _ rfl), (keep ht _ _ hg4).trans (hc4 1 _ rfl), (keep ht _ _ hg4).trans (hc4 2 _ rfl), (keep ht _ _ hg4).trans (hc4 3 _ rfl)⟩
      have h4 : Below wr.heap.size wr wr.drew := (Below.refl _ _).drew
      clear hu hv huv hA3 hA4 hc3 hc4 hb2 h2W rp rq hur hvr
      go_upto_region 6 with fail
      go_region_held3 (fun t => Below wr.heap.size wr t ∧ t.cell? ⟨W.heap.size, 0, none⟩ = some (.slice (some ⟨g3, o3, none⟩) x.r.length x.c) ∧ t.cell? ⟨W.heap.size + 1, 0, none⟩ = some (.slice (some ⟨g4, o4, none⟩) y.r.length y.c) ∧ t.cell? ⟨g3, o3 + j * 4, none⟩ = some (.string (bs u.h.p)) ∧ t.cell? ⟨g3, o3 + j * 4 + 1, none⟩ = some (.slice u.h.A u.h.a.length u.h.c) ∧ t.cell? ⟨g3, o3 + j * 4 + 2, none⟩ = some (.int .i64 u.f) ∧ t.cell? ⟨g3, o3 + j * 4 + 3, none⟩ = some (.slice u.A u.b.length u.c) ∧ t.cell? ⟨g4, o4 + j * 4, none⟩ = some (.string (bs v.h.p)) ∧ t.cell? ⟨g4, o4 + j * 4 + 1, none⟩ = some (.slice v.h.A v.h.a.length v.h.c) ∧ t.cell? ⟨g4, o4 + j * 4 + 2, none⟩ = some (.int .i64 v.f) ∧ t.cell? ⟨g4, o4 + j * 4 + 3, none⟩ = some (.slice v.A v.b.length v.c))
        (exact HS.out _ (by first | exact Below.refl _ _ | exact h4))
        ((go_at_call 32; refine (HSR.out _ (on H2W.out h4)).mono ?_; rintro e w3 ⟨rfl, hb3⟩; replace h4 := on h4 hb3; clear hb3))
      all_goals
        go_wp2
        go_roundw
        case rel => exact ⟨j + 1, by go_num, by omega, on HB2.out h4⟩
        case measure => simp [intOf]; omega
    · obtain rfl : j = x.r.length := by omega
      go_wp2
      go_ret
      exact ⟨rfl, H2W.out⟩
/-! ### What was read -/
theorem RdX.map {β γ : Type} {sz : Nat} {cl : β → List Value} {cl' : γ → List Value} {f : β → γ} (hf : ∀ x, cl' (f x) = cl x) {W : World} {A : Option Addr} {l : List β} (h : RdX sz cl W A l) : RdX sz cl' W A (l.map f) := ⟨by rw [List.length_map]; exact h.1, fun i x hx => by
  rw [List.getElem?_map, Option.map_eq_some_iff] at hx
  obtain ⟨y, hy, rfl⟩ := hx
  obtain ⟨b, o, e, hl, hc⟩ := h.2 i y hy
  exact ⟨b, o, e, hl, fun j v hj => hc j v (by rw [hf] at hj; exact hj)⟩⟩
def ltI (y : LtA) : LtI := ⟨(y.k : Int), y.m, y.o, y.a, y.b, y.c, y.pA, y.pc, y.p.map siOf⟩
def rlI (y : RlA) : RlI := ⟨y.h, (y.f : Int), y.A, y.c, y.b.map ltI⟩
def pgI (y : PgA) : PgI := ⟨y.A, y.c, y.r.map rlI, y.q⟩
theorem ltI_C (y : LtA) : ltIC (ltI y) = litC y := by unfold ltIC ltI litC; simp
theorem rlI_C (y : RlA) : rlIC (rlI y) = rlC y := by unfold rlIC rlI rlC; simp
theorem ltI_rd {y : LtA} {W : World} (h : y.rd W) : (ltI y).rd W := ⟨h.1, RdX.si h.2⟩
theorem rlI_rd {y : RlA} {W : World} (h : y.rd W) : (rlI y).rd W := ⟨h.1, RdX.map ltI_C h.2.1, fun z hz => by
  obtain ⟨u, hu, rfl⟩ := List.mem_map.1 hz
  exact ltI_rd (h.2.2 u hu)⟩
theorem pgI_rd {y : PgA} {W : World} (h : y.rd W) : (pgI y).rd W := ⟨RdX.map rlI_C h.1, fun z hz => by
  obtain ⟨u, hu, rfl⟩ := List.mem_map.1 hz
  exact rlI_rd (h.2.1 u hu), h.2.2⟩
def ltE (x : Lt) : LtE := ⟨(x.k : Int), x.m, x.o, x.a, x.b, x.c, x.p.map siOf⟩
def rlE (x : Rl) : RlE := ⟨x.h, (x.f : Int), x.b.map ltE⟩
def pgE (x : Pg) : PgE := ⟨x.r.map rlE, x.q⟩
theorem pgI_er (y : PgA) : (pgI y).er = pgE y.pg := by
  unfold PgI.er pgE pgI PgA.pg
  simp only [List.map_map]
  congr 1
  refine List.map_congr_left fun u _ => ?_
  show RlI.er (rlI u) = rlE (RlA.rl u)
  unfold RlI.er rlE rlI RlA.rl
  simp only [List.map_map]
  congr 1
/-- A literal that has a text is all that its text says. -/
theorem lt_er {x : LtI} (h : litX x ≠ []) : ltE (ltOf x) = x.er := by
  obtain ⟨hb, ht, _⟩ := litX_some h
  have hk : 1 ≤ x.k ∧ x.k ≤ 5 := by
    by_cases h1 : 1 ≤ x.k ∧ x.k ≤ 5
    · exact h1
    · exact absurd (by unfold litT; rw [if_neg (by omega), if_neg (by omega), if_neg (by omega), if_neg (by omega), if_neg (by omega)]) ht
  have hp : (x.p.map stN).map siOf = x.p := by
    by_cases h5 : x.k = 5
    · have et : litT x = wholeX [[119, 97, 108, 107, 40], termX x.a, [44, 32], pathX deepT (x.p.map stN), [44, 32], termX x.b, [41]] := by unfold litT; rw [if_neg (by omega), if_neg (by omega), if_neg (by omega), if_neg (by omega), if_pos h5]
      rw [et] at ht
      have h2 : pathX deepT (x.p.map stN) ≠ [] := fun e => (wholeX_some ht).1 (by simp [e])
      obtain ⟨pe, g1, g2, _⟩ := tree_path h2
      exact (si_map rfl (fun s hs => (st_kind pe g1 s (by rw [g2]; exact hs)).1)).symm
    · have : x.p = [] := by
        have h7 := (blank_some hb).2.2.2.2.2.2
        unfold restL at h7
        by_cases h12 : x.k = 1 ∨ x.k = 2
        · rw [if_pos h12] at h7; exact h7
        rw [if_neg h12] at h7
        by_cases h3 : x.k = 3
        · rw [if_pos h3] at h7; exact h7
        rw [if_neg h3] at h7
        by_cases h4 : x.k = 4
        · rw [if_pos h4] at h7; exact h7
        rw [if_neg h4, if_neg h5] at h7
        exact h7
      rw [this]; rfl
  unfold ltE ltOf LtI.er
  simp only
  rw [hp, Int.toNat_of_nonneg (by omega)]
theorem rl_er {x : RlI} (h : ruleX litX x ≠ []) (hok : x.ok) : rlE (rlOf x) = x.er := by
  unfold ruleX at h
  obtain ⟨_, hin, hh, _⟩ := ruleT_some h
  obtain ⟨_, hf0, _⟩ := rd_heads hh hok.1.2
  unfold rlE rlOf RlI.er
  simp only [List.map_map]
  rw [Int.toNat_of_nonneg hf0]
  congr 1
  exact List.map_congr_left fun u hu => lt_er (fun e => hin (List.mem_map.2 ⟨u, hu, e⟩))
theorem pg_er {x : PgI} (h : textX litX x ≠ []) (hok : x.ok) : pgE (pgOf x) = x.er := by
  unfold textX at h
  obtain ⟨_, hin, _⟩ := text_some h
  unfold pgE pgOf PgI.er
  simp only [List.map_map]
  congr 1
  exact List.map_congr_left fun u hu => rl_er (line_some (fun e => hin (List.mem_map.2 ⟨u, hu, e⟩))).1 (hok.1 u hu)
end Go.Proofs.YtahljmddnfldlaaGreatDoor
namespace Go.Proofs.YtahljmddnfldlaaGreatDoor
open Go.RowKit FloM ValM Go.Shelf
set_option linter.unusedVariables false
set_option linter.unusedSimpArgs false
/-! ### What a token weighs -/
def wt (ts : List Tk) : Nat := (ts.map fun t => t.t.length + 6).sum
theorem wt_cons (t : Tk) (ts : List Tk) : wt (t :: ts) = t.t.length + 6 + wt ts := by simp [wt]
def AllG (ts : List Tk) : Prop := ∀ t ∈ ts, TkG t
theorem AllG.tail {t : Tk} {ts : List Tk} (h : AllG (t :: ts)) : AllG ts := fun u hu => h u (List.mem_cons_of_mem _ hu)
/-- What a method tells, by what stands behind it, and how much it takes. -/
def OkP {α : Type} (V : α → Tk → Prop) (σ : α → Nat) (f : Ps α) : Prop := ∀ z ts x r, AllG ts → f z ts = .ok x r → V x (hdT z r) ∧ σ x + wt r ≤ wt ts ∧ AllG r
/-- It begins with what a term may be. -/
def StaP {α : Type} (f : Ps α) : Prop := ∀ z ts x r, AllG ts → f z ts = .ok x r → termT (hdT z ts) = true
theorem want_got {m : List UInt8} {z : Nat} {ts r : List Tk} {t : Tk} (hg : AllG ts) (h : wantP m z ts = .ok t r) : ts = t :: r ∧ t.t = m ∧ wt ts = m.length + 6 + wt r ∧ AllG r := by
  obtain ⟨e, hp⟩ := need_len h
  have hm : t.t = m := beq_iff_eq.1 hp
  refine ⟨e, hm, by rw [e, wt_cons, hm], ?_⟩
  rw [e] at hg; exact hg.tail
theorem need_got {p : Tk → Bool} {z : Nat} {ts r : List Tk} {t : Tk} (hg : AllG ts) (h : needP p z ts = .ok t r) : ts = t :: r ∧ p t = true ∧ TkG t ∧ wt ts = t.t.length + 6 + wt r ∧ AllG r := by
  obtain ⟨e, hp⟩ := need_len h
  refine ⟨e, hp, hg t (by rw [e]; simp), by rw [e, wt_cons], ?_⟩
  rw [e] at hg; exact hg.tail
/-! ### Terms -/
theorem right_size {v : V} (h : rightV v = true) : v.s.size ≤ maxLen := by
  have hem : ∀ s : ByteArray, s = ByteArray.empty → s.size ≤ maxLen := fun s e => by rw [e]; exact Nat.zero_le _
  unfold rightV at h
  split at h
  · exact hem _ (by simpa using h)
  split at h
  · rw [Bool.and_eq_true] at h; exact hem _ (by simpa using h.1)
  split at h
  · rw [Bool.and_eq_true] at h
    have h2 := ((nameL_iff _).1 h.2).2.1
    rw [ls_len] at h2
    exact few_max (by omega)
  · cases h
theorem tm_text {t : Tk} (hg : TkG t) (hp : termT t = true) : termX (termOf t) = t.t ∧ t.t ≠ [] ∧ TmOk (termOf t) ∧ (t.k = 2 → varX (termOf t) = t.t) := by
  obtain ⟨_, ho⟩ := first_iff hg
  rw [List.take_length] at ho
  have hne : t.t ≠ [] := fun e => by rw [e] at ho; exact ok_ne ho
  by_cases h2 : t.k = 2
  · have hv : varL t.t = true := by rw [h2] at ho; exact ho
    have e : termOf t = ⟨t.t, v0⟩ := by unfold termOf; rw [if_pos h2]
    have hx : varX ⟨t.t, v0⟩ = t.t := by unfold varX; simp only; rw [hv, (isV0_iff v0).2 rfl]; rfl
    rw [e]
    refine ⟨by unfold termX; simp only; rw [if_neg hne, hx], hne, ⟨few_max (by have := varL_len hv; simp only; omega), Nat.zero_le _, (show (-9223372036854775808 : Int) ≤ 0 by omega), (show (0 : Int) < 9223372036854775808 by omega)⟩, fun _ => hx⟩
  · obtain ⟨v, hv⟩ : ∃ v, readV (bs t.t) = some v := by
      by_cases h1 : t.k = 1
      · rw [h1] at ho
        have hn : name (bs t.t) = true := by unfold name; rw [ls_bs]; exact ho
        exact ⟨⟨3, 0, bs t.t⟩, by unfold readV; rw [if_pos hn]⟩
      · have h3 : t.k = 3 := by
          unfold termT at hp
          simp only [Bool.or_eq_true, beq_iff_eq] at hp
          omega
        rw [h3] at ho
        exact Option.isSome_iff_exists.1 ho
    obtain ⟨g1, g2, g3⟩ := text_read _ _ hv
    have e : termOf t = ⟨[], v⟩ := by unfold termOf; rw [if_neg h2, hv]; rfl
    have e2 : textV v = t.t := by have := congrArg ls g2; rw [ls_bs, ls_bs] at this; exact this
    rw [e]
    exact ⟨by unfold termX; simp only; rw [if_pos trivial, e2], hne, ⟨Nat.zero_le _, right_size g1, g3⟩, fun h => absurd h h2⟩
theorem term_ok : OkP (fun x _ => termX x ≠ [] ∧ TmOk x) (fun x => (termX x).length + 6) termP := fun z ts x r hg e => by
  obtain ⟨t, r1, e1, e2⟩ := bind_ok e
  obtain ⟨rfl, hp, ht, hw, hr⟩ := need_got hg e1
  injection e2 with e2 e3; subst e2 e3
  obtain ⟨a1, a2, a3, _⟩ := tm_text ht hp
  exact ⟨⟨by rw [a1]; exact a2, a3⟩, by show (termX (termOf t)).length + 6 + wt r1 ≤ _; rw [a1, hw]; exact Nat.le_refl _, hr⟩
theorem term_sta : StaP termP := fun z ts x r hg e => by
  obtain ⟨t, r1, e1, e2⟩ := bind_ok e
  obtain ⟨rfl, hp, _⟩ := need_got hg e1
  exact hp
theorem foldW_N {l : List UInt8} (h : foldN l ≠ 0) : foldW (foldN l : Int) = l ∧ foldN l ≤ 5 ∧ l ≠ [] := by
  unfold foldN at h ⊢
  split
  · rename_i e; rw [e]; decide
  split
  · rename_i e; rw [e]; decide
  split
  · rename_i e; rw [e]; decide
  split
  · rename_i e; rw [e]; decide
  split
  · rename_i e; rw [e]; decide
  · rename_i h1 h2 h3 h4 h5
    rw [if_neg h1, if_neg h2, if_neg h3, if_neg h4, if_neg h5] at h
    exact absurd rfl h
def HdV (x : Tm × Nat) (nt : Tk) : Prop := TmOk x.1 ∧ x.2 ≤ 5 ∧ argX (x.2 : Int) 0 x.1 ≠ [] ∧ (x.2 = 0 ∨ nt.t = [41])
theorem argX_none (m : Nat) (t : Tm) : argX 0 m t = termX t := by unfold argX; rw [if_neg (by simp)]
theorem headT_ok : OkP HdV (fun x => (argX (x.2 : Int) 0 x.1).length + 6) headP := fun z ts x r hg e => by
  unfold headP at e
  obtain ⟨t, r1, e1, e2⟩ := bind_ok e
  obtain ⟨⟨b1, b2⟩, b3, b4⟩ := term_ok z ts t r1 hg e1
  split at e2
  · injection e2 with e2 e3; subst e2 e3
    have e0 : argX ((0 : Nat) : Int) 0 t = termX t := argX_none 0 t
    exact ⟨⟨b2, Nat.zero_le _, by simp only; rw [e0]; exact b1, .inl rfl⟩, by simp only; rw [e0]; exact b3, b4⟩
  · rename_i hc
    rw [not_or, Decidable.not_not] at hc
    obtain ⟨t', r2, e3, e4⟩ := bind_ok e2
    obtain ⟨c, r3, e5, e6⟩ := bind_ok e4
    have hq := hd_tail hc.2 (by simp)
    generalize hdT z r1 = q at hq hc
    rw [hq] at b3 b4
    rw [wt_cons, hc.2] at b3
    obtain ⟨_, hp, ht, hw, hr⟩ := need_got b4.tail e3
    obtain ⟨_, _, hw2, hr2⟩ := want_got hr e5
    split at e6
    · rename_i h41
      injection e6 with e6 e7; subst e6 e7
      obtain ⟨u1, u2, u3⟩ := foldW_N hc.1
      have hk : t'.k = 2 := by unfold varT at hp; simpa using hp
      have e0 : termOf t' = ⟨t'.t, v0⟩ := by unfold termOf; rw [if_pos hk]
      obtain ⟨_, a2, a3, a4⟩ := tm_text ht (by unfold termT; rw [hk]; rfl)
      have a5 := a4 hk
      rw [e0] at a5 a3
      have hf : ts = hdT z ts :: ts.tail := hd_tail rfl u3
      have e8 : argX (foldN (hdT z ts).t : Int) 0 ⟨t'.t, v0⟩ = (hdT z ts).t ++ [40] ++ t'.t ++ [41] := by
        unfold argX
        rw [if_pos ⟨rfl, by have := hc.1; omega⟩, a5, u1]
        unfold wholeX
        rw [if_neg (by simp only [List.mem_cons, List.not_mem_nil, or_false]; rintro (h | h | h | h); exact u3 h.symm; cases h; exact a2 h.symm; cases h)]
        simp
      have hw0 : wt ts = (hdT z ts).t.length + 6 + wt ts.tail := by conv => lhs; rw [hf, wt_cons]
      have hw1 : wt ts.tail = wt r1 := by
        obtain ⟨t0, r0, g1, g2⟩ := bind_ok e1
        obtain ⟨g3, _⟩ := need_got hg g1
        injection g2 with _ g2
        rw [g3, g2]; rfl
      rw [hq, wt_cons, hc.2] at hw1
      simp only [List.length_cons, List.length_nil] at hw1 hw2
      refine ⟨⟨a3, u2, by simp only; rw [e8]; simp, .inr h41⟩, ?_, hr2⟩
      simp only
      rw [e8]
      simp only [List.length_append, List.length_cons, List.length_nil]
      omega
    · cases e6
theorem headT_sta : StaP headP := fun z ts x r hg e => by
  unfold headP at e
  obtain ⟨t, r1, e1, e2⟩ := bind_ok e
  exact term_sta z ts t r1 hg e1
/-! ### Lists -/
def ListV {α : Type} (V : α → Tk → Prop) (l : List α) (nt : Tk) : Prop := ∃ i y, l = i ++ [y] ∧ (∀ x ∈ i, ∃ u : Tk, u.t = [44] ∧ V x u) ∧ V y nt
section
variable {α : Type} {V : α → Tk → Prop} {σ : α → Nat} {item : Ps α} {most : Nat}
theorem listL_ok (hi : OkP V σ item) (hs : StaP item) {z : Nat} : ∀ (n : Nat) (acc : List α) (ts : List Tk) (l : List α) (r : List Tk), AllG ts → ListV V acc (hdT z ts) → acc.length ≤ most → listL most item z n acc ts = .ok l r →
    ListV V l (hdT z r) ∧ l.length ≤ most ∧ (l.map σ).sum + wt r ≤ (acc.map σ).sum + wt ts ∧ AllG r
  | 0, acc, ts, l, r, hg, hv, hm, e => by
    injection e with e1 e2; subst e1 e2
    exact ⟨hv, hm, Nat.le_refl _, hg⟩
  | n + 1, acc, ts, l, r, hg, hv, hm, e => by
    unfold listL at e
    split at e
    · rename_i h44
      have hq := hd_tail h44 (by simp)
      generalize hdT z ts = q at hq h44 hv
      split at e
      · cases e
      · rename_i hfull
        obtain ⟨x, r1, e1, e2⟩ := bind_ok e
        have hgt : AllG ts.tail := by rw [hq] at hg; exact hg.tail
        obtain ⟨b1, b2, b3⟩ := hi z _ x r1 hgt e1
        have hst := hs z _ x r1 hgt e1
        have hlt : acc.length < most := by
          have : acc.length ≠ most := fun h => hfull ⟨h, hst⟩
          omega
        have hv2 : ListV V (acc ++ [x]) (hdT z r1) := ⟨acc, x, rfl, fun y hy => by
          obtain ⟨i, w, rfl, h1, h2⟩ := hv
          rcases List.mem_append.1 hy with hy | hy
          · exact h1 y hy
          · rw [List.mem_singleton.1 hy]; exact ⟨q, h44, h2⟩, b1⟩
        obtain ⟨c1, c2, c3, c4⟩ := listL_ok hi hs n (acc ++ [x]) r1 l r b3 hv2 (by simp; omega) e2
        refine ⟨c1, c2, ?_, c4⟩
        rw [List.map_append, List.sum_append] at c3
        simp only [List.map_cons, List.map_nil, List.sum_cons, List.sum_nil] at c3
        have : wt ts = q.t.length + 6 + wt ts.tail := by conv => lhs; rw [hq, wt_cons]
        omega
    · injection e with e1 e2; subst e1 e2
      exact ⟨hv, hm, Nat.le_refl _, hg⟩
theorem list_ok (hi : OkP V σ item) (hs : StaP item) (h1 : 1 ≤ most) : OkP (fun l nt => ListV V l nt ∧ l.length ≤ most) (fun l => (l.map σ).sum) (listP most item) := fun z ts l r hg e => by
  unfold listP at e
  generalize many = n at e
  obtain ⟨x, r1, e1, e2⟩ := bind_ok e
  obtain ⟨b1, b2, b3⟩ := hi z ts x r1 hg e1
  obtain ⟨c1, c2, c3, c4⟩ := listL_ok hi hs n [x] r1 l r b3 ⟨[], x, rfl, by simp, b1⟩ (by simpa using h1) e2
  refine ⟨⟨c1, c2⟩, ?_, c4⟩
  simp only [List.map_cons, List.map_nil, List.sum_cons, List.sum_nil] at c3
  simp only
  omega
end
theorem lens_sum : ∀ ts : List (List UInt8), Lib.lens ts + 2 * ts.length = (ts.map fun t => t.length + 2).sum
  | [] => by simp [Lib.lens]
  | x :: r => by
    have e : Lib.lens (x :: r) = x.length + Lib.lens r := by simp [Lib.lens]
    have := lens_sum r
    rw [e, List.map_cons, List.sum_cons, List.length_cons]; omega
theorem join_sum (ts : List (List UInt8)) : (Lib.join ts [44, 32]).length ≤ (ts.map fun t => t.length + 2).sum := by
  cases ts with
  | nil => simp [Lib.join_nil]
  | cons x r =>
    have h := lens_sum (x :: r)
    rw [Lib.join_length, ← h]
    simp only [List.length_cons, List.length_nil]
    omega
theorem sum_le {α : Type} {f g : α → Nat} : ∀ (l : List α), (∀ x ∈ l, f x ≤ g x) → (l.map f).sum ≤ (l.map g).sum
  | [], _ => by simp
  | x :: l, h => by
    have h1 := sum_le l (fun y hy => h y (List.mem_cons_of_mem _ hy))
    have h2 := h x (by simp)
    simp only [List.map_cons, List.sum_cons]; omega
/-! ### Atoms -/
def AtmV {α : Type} (V : α → Tk → Prop) (x : List UInt8 × List α) : Prop := predL x.1 = true ∧ (x.2 = [] ∨ ∃ u : Tk, u.t = [41] ∧ ListV V x.2 u ∧ x.2.length ≤ 8)
theorem atomB_ok {α : Type} {V : α → Tk → Prop} {σ : α → Nat} {arg : Ps α} (hi : OkP V σ arg) (hs : StaP arg) : OkP (fun x _ => AtmV V x) (fun x => x.1.length + 6 + (x.2.map σ).sum + 2 * min 1 x.2.length) (atomB arg) := fun z ts x r hg e => by
  unfold atomB at e
  obtain ⟨t, r1, e1, e2⟩ := bind_ok e
  obtain ⟨rfl, hp, ht, hw, hr⟩ := need_got hg e1
  have hpt := pred_tok hp
  have hpl : predL t.t = true := by unfold predL; rw [TkG.name ht hpt.1, hpt.2]; rfl
  split at e2
  · rename_i h40
    have hq := hd_tail h40 (by simp)
    generalize hdT z r1 = q at hq h40
    obtain ⟨l, r2, e3, e4⟩ := bind_ok e2
    obtain ⟨c, r3, e5, e6⟩ := bind_ok e4
    injection e6 with e6 e7; subst e6 e7
    have hgt : AllG r1.tail := by rw [hq] at hr; exact hr.tail
    obtain ⟨⟨b1, b0⟩, b2, b3⟩ := list_ok hi hs (by decide) z _ l r2 hgt e3
    obtain ⟨g1, g2, g3, g4⟩ := want_got b3 e5
    have hw1 : wt r1 = q.t.length + 6 + wt r1.tail := by conv => lhs; rw [hq, wt_cons]
    refine ⟨⟨hpl, .inr ⟨c, g2, by rw [g1] at b1; exact b1, b0⟩⟩, ?_, g4⟩
    simp only at b2 ⊢
    simp only [List.length_cons, List.length_nil] at g3
    omega
  · injection e2 with e6 e7; subst e6 e7
    refine ⟨⟨hpl, .inl rfl⟩, ?_, hr⟩
    simp only [List.map_nil, List.sum_nil, List.length_nil]
    omega
def amJ (x : Am) : AmA := ⟨x.p, none, 0, x.a⟩
theorem heads_text {p : List UInt8} {l : List (Tm × Nat)} (h : AtmV HdV (p, l)) : headX p (l.map Prod.fst) ((l.getLast?.map Prod.snd).getD 0 : Nat) ≠ [] ∧ (headX p (l.map Prod.fst) ((l.getLast?.map Prod.snd).getD 0 : Nat)).length ≤ p.length + (l.map fun x => (argX (x.2 : Int) 0 x.1).length + 6).sum + 2 * min 1 l.length ∧ AmOk ⟨p, none, 0, l.map Prod.fst⟩ ∧ (l.getLast?.map Prod.snd).getD 0 ≤ 5 := by
  obtain ⟨hp, hl⟩ := h
  simp only at hp hl
  have hpn := predL_ne hp
  have hpm : p.length ≤ maxLen := few_max (by have := ((nameL_iff _).1 (pred_parts hp).1).2.1; omega)
  rcases hl with rfl | ⟨u, hu, ⟨i, y, rfl, h1, h2⟩, h8⟩
  · simp only [List.map_nil, List.getLast?_nil, Option.map_none, Option.getD_none]
    have e : headX p [] ((0 : Nat) : Int) = p := by
      unfold headX
      rw [if_neg (by simp [argsX, hp]), if_pos rfl, if_neg (by simp)]
    rw [e]
    exact ⟨hpn, by simp, ⟨hpm, by simp⟩, Nat.zero_le _⟩
  · have hz : ∀ x ∈ i, x.2 = 0 ∧ HdV x u := fun x hx => by
      obtain ⟨w, hw, hv⟩ := h1 x hx
      have : x.2 = 0 := by
        rcases hv.2.2.2 with h | h
        · exact h
        · rw [hw] at h; cases h
      exact ⟨this, hv.1, hv.2.1, hv.2.2.1, .inl this⟩
    have e1 : (((i ++ [y]).getLast?.map Prod.snd).getD 0) = y.2 := by simp
    rw [e1]
    have e2 : argsX (y.2 : Int) ((i ++ [y]).map Prod.fst) = (i ++ [y]).map fun x => argX (x.2 : Int) 0 x.1 := by
      rw [List.map_append, List.map_cons, List.map_nil, argsX_snoc, List.map_append, List.map_map]
      congr 1
      refine List.map_congr_left fun x hx => ?_
      show termX x.1 = argX (x.2 : Int) 0 x.1
      rw [(hz x hx).1]; exact (argX_none 0 x.1).symm
    have hin : [] ∉ argsX (y.2 : Int) ((i ++ [y]).map Prod.fst) := by
      rw [e2]
      intro h
      obtain ⟨x, hx, e⟩ := List.mem_map.1 h
      rcases List.mem_append.1 hx with hx | hx
      · exact (hz x hx).2.2.2.1 e
      · rw [List.mem_singleton.1 hx] at e; exact h2.2.2.1 e
    have e3 : headX p ((i ++ [y]).map Prod.fst) (y.2 : Int) = p ++ [40] ++ joinA (y.2 : Int) ((i ++ [y]).map Prod.fst) ++ [41] := by
      unfold headX
      rw [if_neg (by simp only [not_or]; exact ⟨by rw [List.length_map]; omega, hin, by rw [hp]; decide⟩), if_neg (by simp)]
    rw [e3]
    refine ⟨by simp, ?_, ⟨hpm, fun t ht => ?_⟩, h2.2.1⟩
    · have hj : (joinA (y.2 : Int) ((i ++ [y]).map Prod.fst)).length ≤ ((i ++ [y]).map fun x => (argX (x.2 : Int) 0 x.1).length + 6).sum := by
        unfold joinA
        rw [e2]
        refine Nat.le_trans (join_sum _) ?_
        rw [List.map_map]
        exact sum_le _ (fun x _ => by simp only [Function.comp]; omega)
      have hm : min 1 (i ++ [y]).length = 1 := by simp
      rw [hm]
      simp only [List.length_append, List.length_cons, List.length_nil] at hj ⊢
      omega
    · obtain ⟨x, hx, rfl⟩ := List.mem_map.1 ht
      rcases List.mem_append.1 hx with hx | hx
      · exact (hz x hx).2.1
      · rw [List.mem_singleton.1 hx]; exact h2.1
theorem atom_ok : OkP (fun x _ => atomX (amJ x) ≠ [] ∧ AmOk (amJ x)) (fun x => (atomX (amJ x)).length + 6) atomP := fun z ts x r hg e => by
  unfold atomP at e
  obtain ⟨y, r1, e1, e2⟩ := bind_ok e
  injection e2 with e2 e3; subst e2 e3
  have hi : OkP (fun x _ => termX x ≠ [] ∧ TmOk x) (fun x => (termX x).length + 6) termP := term_ok
  obtain ⟨⟨h1, h2⟩, b2, b3⟩ := atomB_ok hi term_sta z ts y r1 hg e1
  obtain ⟨p, l⟩ := y
  simp only at h1 h2 b2 ⊢
  have h : AtmV HdV (p, l.map g0) := by
    refine ⟨h1, ?_⟩
    rcases h2 with rfl | ⟨u, hu, ⟨i, y, rfl, c1, c2⟩, h8⟩
    · exact .inl rfl
    · have hV : ∀ t u, (termX t ≠ [] ∧ TmOk t) → HdV (g0 t) u := fun t u ht => ⟨ht.2, Nat.zero_le _, by show argX ((0 : Nat) : Int) 0 t ≠ []; rw [show ((0 : Nat) : Int) = 0 from rfl, argX_none]; exact ht.1, .inl rfl⟩
      refine .inr ⟨u, hu, ⟨i.map g0, g0 y, by simp, fun x hx => ?_, hV y u c2⟩, by simpa using h8⟩
      obtain ⟨t, ht, rfl⟩ := List.mem_map.1 hx
      obtain ⟨w, hw, hv⟩ := c1 t ht
      exact ⟨w, hw, hV t w hv⟩
  obtain ⟨a1, a2, a3, _⟩ := heads_text h
  have e4 : (l.map g0).map Prod.fst = l := by rw [List.map_map]; conv => rhs; rw [← List.map_id l]
                                              rfl
  have e5 : (((l.map g0).getLast?.map Prod.snd).getD 0) = 0 := by
    rcases List.eq_nil_or_concat l with rfl | ⟨i, y, rfl⟩
    · rfl
    · simp [g0]
  have e6 : ((l.map g0).map fun x => (argX (x.2 : Int) 0 x.1).length + 6) = l.map fun t => (termX t).length + 6 := by
    rw [List.map_map]
    refine List.map_congr_left fun t _ => ?_
    show (argX ((0 : Nat) : Int) 0 t).length + 6 = _
    rw [show ((0 : Nat) : Int) = 0 from rfl, argX_none]
  rw [e4, e5] at a1
  rw [e4, e5, e6, List.length_map] at a2
  rw [e4] at a3
  refine ⟨⟨a1, a3⟩, ?_, b3⟩
  have : (atomX (amJ ⟨p, l⟩)).length ≤ p.length + (l.map fun t => (termX t).length + 6).sum + 2 * min 1 l.length := a2
  omega
/-! ### Paths -/
def stW (s : List St) : Nat := (s.map fun x => x.l.length + 5).sum
theorem stW_app (a b : List St) : stW (a ++ b) = stW a + stW b := by simp [stW]
theorem inE_len (x : List UInt8) (h least : Nat) : (inE (x, h) least).length ≤ x.length + 2 := by unfold inE; split <;> simp
theorem tx_w : ∀ e : PE, e.tx.length + 2 ≤ stW e.st
  | .leaf b l => by cases b <;> simp [PE.tx, PE.st, stW]
  | .un k e => by
    have h1 := tx_w e
    have h2 := inE_len e.tx e.hold 2
    have e1 : stW (PE.un k e).st = stW e.st + 5 := by show stW (e.st ++ [⟨k, []⟩]) = _; rw [stW_app]; rfl
    have e2 : (PE.un k e).tx.length = (inE (e.tx, e.hold) 2).length + 1 := by show (inE (e.tx, e.hold) 2 ++ [mkU k]).length = _; simp
    omega
  | .bin k a b => by
    have h1 := tx_w a
    have h2 := tx_w b
    have e1 : stW (PE.bin k a b).st = stW a.st + stW b.st + 5 := by show stW (a.st ++ b.st ++ [⟨k, []⟩]) = _; rw [stW_app, stW_app]; rfl
    have e2 : (PE.bin k a b).tx.length ≤ a.tx.length + 2 + 1 + (b.tx.length + 2) := by
      have e3 : (PE.bin k a b).tx = if k = 3 then inE (a.tx, a.hold) 1 ++ [47] ++ inE (b.tx, b.hold) 2 else inE (a.tx, a.hold) 0 ++ [124] ++ inE (b.tx, b.hold) 1 := rfl
      rw [e3]
      have a0 := inE_len a.tx a.hold 1
      have a1 := inE_len b.tx b.hold 2
      have a2 := inE_len a.tx a.hold 0
      have a3 := inE_len b.tx b.hold 1
      split <;> simp only [List.length_append, List.length_cons, List.length_nil] <;> omega
    omega
def WtP (f : Ps (List St)) : Prop := ∀ z ts s r, f z ts = .ok s r → stW s + wt r ≤ wt ts
theorem need_wt {p : Tk → Bool} {z : Nat} {ts : List Tk} {t : Tk} {r : List Tk} (h : needP p z ts = .ok t r) : wt ts = t.t.length + 6 + wt r := by rw [(need_len h).1, wt_cons]
theorem hd_wt {z : Nat} {ts : List Tk} {m : List UInt8} (h : (hdT z ts).t = m) (hm : m ≠ []) : wt ts = m.length + 6 + wt ts.tail := by
  have hq := hd_tail h hm
  generalize hdT z ts = q at hq h
  rw [← h]
  conv => lhs; rw [hq, wt_cons]
theorem stars_wt : ∀ (ts : List Tk) (acc : List St), stW (starsL acc ts).1 + wt (starsL acc ts).2 ≤ stW acc + wt ts
  | [], acc => Nat.le_refl _
  | t :: r, acc => by
    unfold starsL
    split
    · rename_i k _
      have := stars_wt r (acc ++ [⟨k, []⟩])
      have e : stW [⟨k, []⟩] = 5 := rfl
      rw [stW_app, e] at this
      rw [wt_cons]; omega
    · exact Nat.le_refl _
theorem WtP.part {op : Ps (List St)} (h : WtP op) : WtP (partP op) := fun z ts s r e => by
  obtain ⟨a, r', e1, e2⟩ := bind_ok e
  have h1 := h z ts a r' e1
  have h2 := stars_wt r' a
  injection e2 with e2 e3; subst e2 e3
  omega
theorem seqL_wt {m : List UInt8} {k : Nat} {op : Ps (List St)} (h : WtP op) (hm : m ≠ []) {z : Nat} : ∀ (n : Nat) (acc : List St) (ts : List Tk) (s : List St) (r : List Tk), seqL m k op z n acc ts = .ok s r → stW s + wt r ≤ stW acc + wt ts
  | 0, acc, ts, s, r, e => by injection e with e2 e3; subst e2 e3; exact Nat.le_refl _
  | n + 1, acc, ts, s, r, e => by
    unfold seqL at e
    split at e
    · rename_i hh
      have ht := hd_wt hh hm
      obtain ⟨a, r', e1, e2⟩ := bind_ok e
      have h1 := h z _ a r' e1
      have h2 := seqL_wt h hm n _ r' s r e2
      have e5 : stW [⟨k, []⟩] = 5 := rfl
      rw [stW_app, stW_app, e5] at h2
      omega
    · injection e with e2 e3; subst e2 e3; exact Nat.le_refl _
theorem WtP.sequ {m : List UInt8} {k : Nat} {op : Ps (List St)} (h : WtP op) (hm : m ≠ []) : WtP (sequP m k op) := fun z ts s r e => by
  unfold sequP at e
  generalize many = n at e
  obtain ⟨a, r', e1, e2⟩ := bind_ok e
  have h1 := h z ts a r' e1
  have h2 := seqL_wt h hm _ _ _ _ _ e2
  omega
def WtI (inner : Option (Ps (List St))) : Prop := ∀ f, inner = some f → WtP f
theorem WtP.oper {inner : Option (Ps (List St))} (h : WtI inner) : WtP (operP inner) := fun z ts s r e => by
  have e1w : ∀ (k : Nat) (l : List UInt8), stW [⟨k, l⟩] = l.length + 5 := fun k l => by simp [stW]
  unfold operP at e
  split at e
  · rename_i hh
    have ht := hd_wt hh (by simp)
    cases inner with
    | none => cases e
    | some f =>
      obtain ⟨a, r1, e1, e2⟩ := bind_ok e
      obtain ⟨t, r2, e3, e4⟩ := bind_ok e2
      have h1 := h f rfl z _ a r1 e1
      have h3 := need_wt e3
      injection e4 with e4 e5; subst e4 e5
      omega
  · split at e
    · rename_i hh
      have ht := hd_wt hh (by simp)
      obtain ⟨t, r1, e1, e2⟩ := bind_ok e
      have h3 := need_wt e1
      injection e2 with e4 e5; subst e4 e5
      rw [e1w]; omega
    · obtain ⟨t, r1, e1, e2⟩ := bind_ok e
      have h3 := need_wt e1
      injection e2 with e4 e5; subst e4 e5
      rw [e1w]; omega
theorem WtP.path {inner : Option (Ps (List St))} (h : WtI inner) : WtP (pathB inner) := fun z ts s r e => by
  obtain ⟨a, r1, e1, e2⟩ := bind_ok e
  have h1 := (((WtP.oper h).part.sequ (m := [47]) (k := 3) (by simp)).sequ (m := [124]) (k := 4) (by simp)) z ts a r1 e1
  split at e2
  · cases e2
  · injection e2 with e4 e5; subst e4 e5; exact h1
theorem wtI : ∀ k, WtI (innerP k)
  | 0 => fun f e => by cases e
  | k + 1 => fun f e => by
    injection e with e
    subst e
    rw [pathP_eq]
    exact WtP.path (wtI k)
theorem path_wt (k : Nat) : WtP (pathP k) := by rw [pathP_eq]; exact WtP.path (wtI k)
theorem tkG_ok {t : Tk} (h : TkG t) : TokOk t := by
  have h1 : firstL t.t = some (t.k, t.t.length) := h
  refine ⟨fun e => ?_, fun hk => ⟨fun e => ?_, fun e => ?_⟩⟩
  · rw [e] at h1
    have := first_pos h1
    simp at this
  · rw [e, first_open] at h1
    injection h1 with h1; injection h1 with h1 _; omega
  · rw [e, first_close] at h1
    injection h1 with h1; injection h1 with h1 _; omega
theorem tree_label : ∀ (e : PE), e.good → ∀ s ∈ e.st, s.l.length ≤ 1000
  | .leaf b l, h, s, hs => by
    have : s = ⟨if b then 2 else 1, l⟩ := by simpa [PE.st] using hs
    subst this
    have := ((nameL_iff _).1 (pred_parts h).1).2.1
    simp only; omega
  | .un k e, h, s, hs => by
    have hs' : s ∈ e.st ++ [⟨k, []⟩] := hs
    rw [List.mem_append, List.mem_singleton] at hs'
    rcases hs' with h1 | rfl
    · exact tree_label e h.2 s h1
    · exact Nat.zero_le _
  | .bin k a b, h, s, hs => by
    have hs' : s ∈ a.st ++ b.st ++ [⟨k, []⟩] := hs
    rw [List.mem_append, List.mem_append, List.mem_singleton] at hs'
    rcases hs' with (h1 | h1) | rfl
    · exact tree_label a h.2.1 s h1
    · exact tree_label b h.2.2 s h1
    · exact Nat.zero_le _
theorem path_ok : OkP (fun s _ => pathX deepT ((s.map siOf).map stN) ≠ [] ∧ ∀ x ∈ s.map siOf, x.2.size ≤ maxLen) (fun s => (pathX deepT ((s.map siOf).map stN)).length + 2) (pathP 32) := fun z ts s r hg e => by
  obtain ⟨u, t, d, b1, b2, b3, b4, b5⟩ := path_grows 32 z ts s r hg e
  obtain ⟨u', c1, c2, _⟩ := path_nest 32 z ts s r (fun t ht => tkG_ok (hg t ht)) e
  have hu : u' = u := List.append_cancel_right (c1.symm.trans b1)
  rw [hu] at c2
  have h32 : d ≤ 32 := by
    obtain ⟨m', g1, g2⟩ := c2 0 0
    have g3 := b4 0 0 (Nat.le_refl _)
    rw [g1] at g3
    injection g3 with _ g3
    omega
  have hl := path_few e
  have h0 : inD t.dp t.hold 0 = t.dp := by unfold inD; rw [if_neg (by omega)]
  rw [h0] at b5
  have e1 : (s.map siOf).map stN = s := by rw [← b3]; exact map_si b2
  show (pathX deepT ((s.map siOf).map stN) ≠ [] ∧ ∀ x ∈ s.map siOf, x.2.size ≤ maxLen) ∧ (pathX deepT ((s.map siOf).map stN)).length + 2 + wt r ≤ wt ts ∧ AllG r
  have e2 : pathX deepT ((s.map siOf).map stN) = t.tx := by rw [e1, ← b3, path_tree b2 (by rw [b3]; exact hl), if_neg (by omega)]
  rw [e2]
  have hw := path_wt 32 z ts s r e
  have htx := tx_w t
  rw [b3] at htx
  refine ⟨⟨tx_ne b2, fun x hx => ?_⟩, by omega, fun x hx => hg x (by rw [b1]; exact List.mem_append_right _ hx)⟩
  obtain ⟨y, hy, rfl⟩ := List.mem_map.1 hx
  show (bs y.l).size ≤ maxLen
  rw [bs_size]
  have hm : y.l.length ≤ 1000 := tree_label t b2 y (b3.symm ▸ hy)
  exact few_max hm
end Go.Proofs.YtahljmddnfldlaaGreatDoor
namespace Go.Proofs.YtahljmddnfldlaaGreatDoor
open Go.RowKit FloM ValM Go.Shelf
set_option linter.unusedVariables false
set_option linter.unusedSimpArgs false
def ltJ (x : Lt) : LtI := ⟨(x.k : Int), amJ x.m, x.o, x.a, x.b, x.c, none, 0, x.p.map siOf⟩
def rlJ (x : Rl) : RlI := ⟨amJ x.h, (x.f : Int), none, 0, x.b.map ltJ⟩
def pgJ (x : Pg) : PgI := ⟨none, 0, x.r.map rlJ, amJ x.q⟩
theorem isZ0 : isZ tm0 = true := (isZ_iff tm0).2 rfl
theorem tm0_ok : TmOk tm0 := ⟨Nat.zero_le _, Nat.zero_le _, by decide, by decide⟩
theorem am0_ok : AmOk (amJ am0) := ⟨Nat.zero_le _, fun t ht => by cases ht⟩
theorem few_len {l : List UInt8} (h : l.length ≤ 40) : l.length ≤ maxLen := few_max (by omega)
theorem whole_ne {l : List (List UInt8)} (h : [] ∉ l) (h2 : ∃ x ∈ l, x ≠ []) : wholeX l = l.flatten ∧ wholeX l ≠ [] := by
  have e : wholeX l = l.flatten := by unfold wholeX; rw [if_neg h]
  refine ⟨e, ?_⟩
  rw [e]
  obtain ⟨x, hx, hn⟩ := h2
  intro h0
  exact hn (List.flatten_eq_nil_iff.1 h0 x hx)
def LitV (x : Lt) : Prop := litX (ltJ x) ≠ [] ∧ (ltJ x).ok
theorem cmp_ne {o : Tk} (h : cmpT o = true) : cmpX o.t = o.t ∧ o.t ≠ [] ∧ o.t.length ≤ 2 := by
  unfold cmpT at h
  simp only [Bool.or_eq_true, beq_iff_eq] at h
  unfold cmpX
  rcases h with h | h | h | h <;> rw [h] <;> decide
theorem opr_ne {l : List UInt8} (h : opL l ≠ []) : oprX (opL l) = l ∧ l ≠ [] ∧ (opL l).length ≤ 1 := by
  unfold opL at h ⊢
  split
  · rename_i e; rw [e]; decide
  split
  · rename_i e; rw [e]; decide
  split
  · rename_i e; rw [e]; decide
  · rename_i h1 h2 h3
    rw [if_neg h1, if_neg h2, if_neg h3] at h
    exact absurd rfl h
theorem comp_ok : OkP (fun x _ => LitV x) (fun x => (litX (ltJ x)).length + 2) compP := fun z ts x r hg e => by
  unfold compP at e
  obtain ⟨a, r1, e1, e2⟩ := bind_ok e
  obtain ⟨⟨a1, a2⟩, a3, a4⟩ := term_ok z ts a r1 hg e1
  obtain ⟨o, r2, e3, e4⟩ := bind_ok e2
  obtain ⟨_, o1, _, o2, o3⟩ := need_got a4 e3
  obtain ⟨b, r3, e5, e6⟩ := bind_ok e4
  obtain ⟨⟨b1, b2⟩, b3, b4⟩ := term_ok z r2 b r3 o3 e5
  injection e6 with e6 e7; subst e6 e7
  obtain ⟨c1, c2, c3⟩ := cmp_ne o1
  have e0 : litX (ltJ ⟨3, am0, o.t, a, b, tm0, []⟩) = wholeX [termX a, [32], o.t, [32], termX b] := by
    show (if blankB (restL (ltJ ⟨3, am0, o.t, a, b, tm0, []⟩)) = true then wholeX [termX a, [32], cmpX o.t, [32], termX b] else []) = _
    rw [if_pos (by show (true && true && true && isZ tm0 && isZ tm0 && isZ tm0 && true) = true; rw [isZ0]; rfl), c1]
  obtain ⟨w1, w2⟩ := whole_ne (l := [termX a, [32], o.t, [32], termX b]) (by simp only [List.mem_cons, List.not_mem_nil, or_false]; rintro (h | h | h | h | h); exact a1 h.symm; cases h; exact c2 h.symm; cases h; exact b1 h.symm) ⟨[32], by simp, by simp⟩
  refine ⟨⟨by rw [e0]; exact w2, am0_ok, few_len (by show o.t.length ≤ 40; omega), a2, b2, tm0_ok, fun s hs => by cases hs⟩, ?_, b4⟩
  simp only at a3 b3 ⊢
  rw [e0, w1]
  simp only [List.flatten_cons, List.flatten_nil, List.length_append, List.length_cons, List.length_nil]
  omega
theorem let_ok {z : Nat} {ts r : List Tk} {x : Lt} (hg : AllG ts) (hv : varT (hdT z ts) = true) (e : letP z ts = .ok x r) : LitV x ∧ (litX (ltJ x)).length + 2 + wt r ≤ wt ts ∧ AllG r := by
  unfold letP at e
  obtain ⟨a, r1, e1, e2⟩ := bind_ok e
  obtain ⟨ta, q1, f1, f2⟩ := bind_ok e1
  obtain ⟨g1, g2, g3, g4, g5⟩ := need_got hg f1
  injection f2 with f2 f3; subst f2 f3
  rw [g1] at hv
  have hk : ta.k = 2 := by have : varT ta = true := hv; unfold varT at this; simpa using this
  obtain ⟨t1, t2, t3, t4⟩ := tm_text g3 g2
  have t5 := t4 hk
  obtain ⟨i, r2, e3, e4⟩ := bind_ok e2
  obtain ⟨_, _, i1, i2⟩ := want_got g5 e3
  obtain ⟨b, r3, e5, e6⟩ := bind_ok e4
  obtain ⟨⟨b1, b2⟩, b3, b4⟩ := term_ok z r2 b r3 i2 e5
  obtain ⟨o, r4, e7, e8⟩ := bind_ok e6
  obtain ⟨_, o1, _, o2, o3⟩ := need_got b4 e7
  obtain ⟨c, r5, e9, e10⟩ := bind_ok e8
  obtain ⟨⟨c1, c2⟩, c3, c4⟩ := term_ok z r4 c r5 o3 e9
  injection e10 with e10 e11; subst e10 e11
  have o4 : opL o.t ≠ [] := by unfold opT at o1; simpa using o1
  obtain ⟨p1, p2, p3⟩ := opr_ne o4
  have e0 : litX (ltJ ⟨4, am0, opL o.t, termOf ta, b, c, []⟩) = wholeX [ta.t, [32, 105, 115, 32], termX b, [32], o.t, [32], termX c] := by
    show (if blankB (restL (ltJ ⟨4, am0, opL o.t, termOf ta, b, c, []⟩)) = true then wholeX [varX (termOf ta), [32, 105, 115, 32], termX b, [32], oprX (opL o.t), [32], termX c] else []) = _
    rw [if_pos (by show (true && true && true && isZ tm0 && isZ tm0 && isZ tm0 && true) = true; rw [isZ0]; rfl), p1, t5]
  obtain ⟨w1, w2⟩ := whole_ne (l := [ta.t, [32, 105, 115, 32], termX b, [32], o.t, [32], termX c]) (by simp only [List.mem_cons, List.not_mem_nil, or_false]; rintro (h | h | h | h | h | h | h); exact t2 h.symm; cases h; exact b1 h.symm; cases h; exact p2 h.symm; cases h; exact c1 h.symm) ⟨[32], by simp, by simp⟩
  refine ⟨⟨by rw [e0]; exact w2, am0_ok, few_len (by show (opL o.t).length ≤ 40; omega), t3, b2, c2, fun s hs => by cases hs⟩, ?_, c4⟩
  simp only at b3 c3
  rw [e0, w1]
  simp only [List.flatten_cons, List.flatten_nil, List.length_append, List.length_cons, List.length_nil] at i1 ⊢
  omega
theorem walk_ok {z : Nat} {ts r : List Tk} {x : Lt} (hg : AllG ts) (e : walkP z ts = .ok x r) : LitV x ∧ (litX (ltJ x)).length + 2 + wt r ≤ wt ts ∧ AllG r := by
  unfold walkP at e
  obtain ⟨k1, r1, e1, e2⟩ := bind_ok e
  obtain ⟨_, _, i1, j1⟩ := want_got hg e1
  obtain ⟨k2, r2, e3, e4⟩ := bind_ok e2
  obtain ⟨_, _, i2, j2⟩ := want_got j1 e3
  obtain ⟨a, r3, e5, e6⟩ := bind_ok e4
  obtain ⟨⟨a1, a2⟩, a3, a4⟩ := term_ok z r2 a r3 j2 e5
  obtain ⟨k3, r4, e7, e8⟩ := bind_ok e6
  obtain ⟨_, _, i3, j3⟩ := want_got a4 e7
  obtain ⟨p, r5, e9, e10⟩ := bind_ok e8
  obtain ⟨⟨p1, p2⟩, p3, p4⟩ := path_ok z r4 p r5 j3 e9
  obtain ⟨k4, r6, e11, e12⟩ := bind_ok e10
  obtain ⟨_, _, i4, j4⟩ := want_got p4 e11
  obtain ⟨b, r7, e13, e14⟩ := bind_ok e12
  obtain ⟨⟨b1, b2⟩, b3, b4⟩ := term_ok z r6 b r7 j4 e13
  obtain ⟨k5, r8, e15, e16⟩ := bind_ok e14
  obtain ⟨_, _, i5, j5⟩ := want_got b4 e15
  injection e16 with e16 e17; subst e16 e17
  have e0 : litX (ltJ ⟨5, am0, [], a, b, tm0, p⟩) = wholeX [[119, 97, 108, 107, 40], termX a, [44, 32], pathX deepT ((p.map siOf).map stN), [44, 32], termX b, [41]] := by
    show (if blankB (restL (ltJ ⟨5, am0, [], a, b, tm0, p⟩)) = true then _ else []) = _
    rw [if_pos (by show (true && true && true && isZ tm0 && isZ tm0 && isZ tm0 && true) = true; rw [isZ0]; rfl)]
    rfl
  replace p3 : (pathX deepT ((p.map siOf).map stN)).length + 2 + wt r5 ≤ wt r4 := p3
  generalize pathX deepT ((p.map siOf).map stN) = P at *
  obtain ⟨w1, w2⟩ := whole_ne (l := [[119, 97, 108, 107, 40], termX a, [44, 32], P, [44, 32], termX b, [41]]) (by simp only [List.mem_cons, List.not_mem_nil, or_false]; rintro (h | h | h | h | h | h | h); cases h; exact a1 h.symm; cases h; exact p1 h.symm; cases h; exact b1 h.symm; cases h) ⟨[41], by simp, by simp⟩
  refine ⟨⟨by rw [e0]; exact w2, am0_ok, Nat.zero_le _, a2, b2, tm0_ok, p2⟩, ?_, j5⟩
  simp only at a3 b3
  rw [e0, w1]
  simp only [List.flatten_cons, List.flatten_nil, List.length_append, List.length_cons, List.length_nil] at i1 i2 i3 i4 i5 ⊢
  omega
theorem lit_ok : OkP (fun x _ => LitV x) (fun x => (litX (ltJ x)).length + 2) litP := fun z ts x r hg e => by
  unfold litP at e
  split at e
  · exact comp_ok z ts x r hg e
  split at e
  · rename_i h
    exact let_ok hg h.1 e
  split at e
  · obtain ⟨k1, r1, e1, e2⟩ := bind_ok e
    obtain ⟨_, _, i1, j1⟩ := want_got hg e1
    obtain ⟨m, r2, e3, e4⟩ := bind_ok e2
    obtain ⟨⟨a1, a2⟩, a3, a4⟩ := atom_ok z r1 m r2 j1 e3
    injection e4 with e4 e5; subst e4 e5
    have e0 : litX (ltJ ⟨2, m, [], tm0, tm0, tm0, []⟩) = wholeX [[110, 111, 116, 32], atomX (amJ m)] := by
      show (if blankB (restL (ltJ ⟨2, m, [], tm0, tm0, tm0, []⟩)) = true then wholeX [[110, 111, 116, 32], atomX (amJ m)] else []) = _
      rw [if_pos (by show (true && true && true && isZ tm0 && isZ tm0 && isZ tm0 && true) = true; rw [isZ0]; rfl)]
    obtain ⟨w1, w2⟩ := whole_ne (l := [[110, 111, 116, 32], atomX (amJ m)]) (by simp only [List.mem_cons, List.not_mem_nil, or_false]; rintro (h | h); cases h; exact a1 h.symm) ⟨[110, 111, 116, 32], by simp, by simp⟩
    refine ⟨⟨by rw [e0]; exact w2, a2, Nat.zero_le _, tm0_ok, tm0_ok, tm0_ok, fun s hs => by cases hs⟩, ?_, a4⟩
    simp only at a3 ⊢
    rw [e0, w1]
    simp only [List.flatten_cons, List.flatten_nil, List.length_append, List.length_cons, List.length_nil] at i1 ⊢
    omega
  split at e
  · exact walk_ok hg e
  split at e
  · obtain ⟨m, r2, e3, e4⟩ := bind_ok e
    obtain ⟨⟨a1, a2⟩, a3, a4⟩ := atom_ok z ts m r2 hg e3
    injection e4 with e4 e5; subst e4 e5
    have e0 : litX (ltJ ⟨1, m, [], tm0, tm0, tm0, []⟩) = atomX (amJ m) := by
      show (if blankB (restL (ltJ ⟨1, m, [], tm0, tm0, tm0, []⟩)) = true then atomX (amJ m) else []) = _
      rw [if_pos (by show (true && true && true && isZ tm0 && isZ tm0 && isZ tm0 && true) = true; rw [isZ0]; rfl)]
    refine ⟨⟨by rw [e0]; exact a1, a2, Nat.zero_le _, tm0_ok, tm0_ok, tm0_ok, fun s hs => by cases hs⟩, ?_, a4⟩
    simp only at a3 ⊢
    rw [e0]; omega
  · exact comp_ok z ts x r hg e
theorem word_term {t : Tk} {m : List UInt8} (hm : firstL m = some (1, m.length)) (hg : TkG t) (h : t.t = m) : termT t = true := by
  have h1 : firstL t.t = some (t.k, t.t.length) := hg
  rw [h, hm] at h1
  injection h1 with h1; injection h1 with h1 _
  unfold termT; rw [← h1]; rfl
theorem atom_sta : StaP atomP := fun z ts x r hg e => by
  unfold atomP at e
  obtain ⟨y, r1, e1, _⟩ := bind_ok e
  unfold atomB at e1
  obtain ⟨t, r2, e2, _⟩ := bind_ok e1
  obtain ⟨rfl, hp, _⟩ := need_got hg e2
  show termT t = true
  unfold termT; rw [(pred_tok hp).1]; rfl
theorem comp_sta : StaP compP := fun z ts x r hg e => by
  unfold compP at e
  obtain ⟨a, r1, e1, _⟩ := bind_ok e
  exact term_sta z ts a r1 hg e1
theorem want_sta {m : List UInt8} (hm : firstL m = some (1, m.length)) {α : Type} {g : Tk → List Tk → Ans α} {z : Nat} {ts r : List Tk} {x : α} (hg : AllG ts) (e : (wantP m z ts).bind g = .ok x r) : termT (hdT z ts) = true := by
  obtain ⟨t, r1, e1, _⟩ := bind_ok e
  obtain ⟨rfl, hp, _⟩ := want_got hg e1
  exact word_term hm (hg t (by simp)) hp
theorem lit_sta : StaP litP := fun z ts x r hg e => by
  unfold litP at e
  split at e
  · exact comp_sta z ts x r hg e
  split at e
  · unfold letP at e
    obtain ⟨a, r1, e1, _⟩ := bind_ok e
    exact term_sta z ts a r1 hg e1
  split at e
  · exact want_sta (by decide) hg e
  split at e
  · unfold walkP at e; exact want_sta (by decide) hg e
  split at e
  · obtain ⟨m, r1, e1, _⟩ := bind_ok e
    exact atom_sta z ts m r1 hg e1
  · exact comp_sta z ts x r hg e
/-! ### Rules -/
def RulV (x : Rl) : Prop := ruleX litX (rlJ x) ≠ [] ∧ (rlJ x).ok
theorem rule_text {h : List UInt8} {l : List Lt} (hh : h ≠ []) (hl : l.length ≤ 12) (hv : ∀ x ∈ l, LitV x) : ruleT h ((l.map ltJ).map litX) ≠ [] ∧ (ruleT h ((l.map ltJ).map litX)).length ≤ h.length + (l.map fun x => (litX (ltJ x)).length + 2).sum + 5 := by
  have hin : [] ∉ (l.map ltJ).map litX := fun h0 => by
    rw [List.map_map] at h0
    obtain ⟨x, hx, e⟩ := List.mem_map.1 h0
    exact (hv x hx).1 e
  have e : ruleT h ((l.map ltJ).map litX) = if (l.map ltJ).map litX = [] then h ++ [46] else h ++ [32, 58, 45, 32] ++ joinB ((l.map ltJ).map litX) ++ [46] := by
    unfold ruleT
    rw [if_neg (by simp only [not_or]; exact ⟨by simp; omega, hin, hh⟩)]
  rw [e]
  have hj : (joinB ((l.map ltJ).map litX)).length ≤ (l.map fun x => (litX (ltJ x)).length + 2).sum := by
    unfold joinB
    refine Nat.le_trans (join_sum _) ?_
    rw [List.map_map, List.map_map]
    exact Nat.le_refl _
  split
  · exact ⟨by simp, by simp; omega⟩
  · refine ⟨by simp, ?_⟩
    simp only [List.length_append, List.length_cons, List.length_nil]
    omega
theorem rule_ok : OkP (fun x _ => RulV x) (fun x => (ruleX litX (rlJ x)).length + 1) ruleP := fun z ts x r hg e => by
  unfold ruleP at e
  obtain ⟨y, r1, e1, e2⟩ := bind_ok e
  obtain ⟨h1, h2, h3⟩ := atomB_ok headT_ok headT_sta z ts y r1 hg e1
  obtain ⟨p, l⟩ := y
  obtain ⟨a1, a2, a3, a4⟩ := heads_text h1
  simp only at h2 e2
  generalize (l.getLast?.map Prod.snd).getD 0 = f at a1 a2 a4 e2
  have key : ∀ b : List Lt, b.length ≤ 12 → (∀ x ∈ b, LitV x) → RulV ⟨⟨p, l.map Prod.fst⟩, f, b⟩ ∧ (ruleX litX (rlJ ⟨⟨p, l.map Prod.fst⟩, f, b⟩)).length ≤ (headX p (l.map Prod.fst) (f : Int)).length + (b.map fun x => (litX (ltJ x)).length + 2).sum + 5 := fun b hb hv => by
    obtain ⟨c1, c2⟩ := rule_text a1 hb hv
    refine ⟨⟨c1, a3, ⟨by show (-9223372036854775808 : Int) ≤ (f : Int); omega, by show (f : Int) < 9223372036854775808; omega⟩, fun y hy => ?_⟩, c2⟩
    obtain ⟨x, hx, rfl⟩ := List.mem_map.1 hy
    exact (hv x hx).2
  split at e2
  · rename_i h58
    have hq := hd_wt h58 (by simp)
    have hq2 := hd_tail h58 (by simp)
    have hgt : AllG r1.tail := by rw [hq2] at h3; exact h3.tail
    obtain ⟨b, r2, e3, e4⟩ := bind_ok e2
    obtain ⟨⟨⟨i, w, hbw, b1, b2⟩, b3⟩, b4, b5⟩ := list_ok lit_ok lit_sta (by decide) z _ b r2 hgt e3
    obtain ⟨d, r3, e5, e6⟩ := bind_ok e4
    obtain ⟨_, _, d1, d2⟩ := want_got b5 e5
    injection e6 with e6 e7; subst e6 e7
    obtain ⟨k1, k2⟩ := key b b3 (fun x hx => by
      rw [hbw] at hx
      rcases List.mem_append.1 hx with hx | hx
      · obtain ⟨u, _, hu⟩ := b1 x hx; exact hu
      · rw [List.mem_singleton.1 hx]; exact b2)
    refine ⟨k1, ?_, d2⟩
    simp only at b4 ⊢
    simp only [List.length_cons, List.length_nil] at d1 hq
    omega
  · obtain ⟨d, r3, e5, e6⟩ := bind_ok e2
    obtain ⟨_, _, d1, d2⟩ := want_got h3 e5
    injection e6 with e6 e7; subst e6 e7
    obtain ⟨k1, k2⟩ := key [] (Nat.zero_le _) (fun x hx => by cases hx)
    refine ⟨k1, ?_, d2⟩
    simp only [List.map_nil, List.sum_nil] at k2
    simp only [List.length_cons, List.length_nil] at d1 ⊢
    omega
theorem rulesL_ok {z : Nat} : ∀ (n : Nat) (acc : List Rl) (ts : List Tk) (l : List Rl) (r : List Tk), AllG ts → acc.length ≤ 200 → (∀ x ∈ acc, RulV x) → rulesL z n acc ts = .ok l r →
    l.length ≤ 200 ∧ (∀ x ∈ l, RulV x) ∧ (l.map fun x => (ruleX litX (rlJ x)).length + 1).sum + wt r ≤ (acc.map fun x => (ruleX litX (rlJ x)).length + 1).sum + wt ts ∧ AllG r
  | 0, acc, ts, l, r, hg, hl, hv, e => by
    injection e with e1 e2; subst e1 e2
    exact ⟨hl, hv, Nat.le_refl _, hg⟩
  | n + 1, acc, ts, l, r, hg, hl, hv, e => by
    unfold rulesL at e
    split at e
    · split at e
      · cases e
      · rename_i hne
        obtain ⟨x, r1, e1, e2⟩ := bind_ok e
        obtain ⟨b1, b2, b3⟩ := rule_ok z ts x r1 hg e1
        obtain ⟨c1, c2, c3, c4⟩ := rulesL_ok n (acc ++ [x]) r1 l r b3 (by simp; omega) (fun y hy => by
          rcases List.mem_append.1 hy with hy | hy
          · exact hv y hy
          · rw [List.mem_singleton.1 hy]; exact b1) e2
        refine ⟨c1, c2, ?_, c4⟩
        rw [List.map_append, List.sum_append] at c3
        simp only [List.map_cons, List.map_nil, List.sum_cons, List.sum_nil] at c3
        simp only at b2
        omega
    · injection e with e1 e2; subst e1 e2
      exact ⟨hl, hv, Nat.le_refl _, hg⟩
theorem flat_sum : ∀ l : List (List UInt8), l.flatten.length = (l.map List.length).sum
  | [] => rfl
  | x :: l => by rw [List.flatten_cons, List.length_append, flat_sum l]; rfl
theorem wt_le : ∀ ts : List Tk, AllG ts → wt ts ≤ 7 * (ts.map fun t => t.t.length).sum
  | [], _ => Nat.le_refl _
  | t :: ts, h => by
    have h1 := wt_le ts h.tail
    have h2 : 0 < t.t.length := List.length_pos_iff.2 (tkG_ok (h t (by simp))).1
    rw [wt_cons, List.map_cons, List.sum_cons]; omega
/-- What is read of a text has a text. -/
theorem prog_text {z : Nat} {ts r : List Tk} {x : Pg} (hg : AllG ts) (hw : wt ts ≤ 15000) (e : progP z ts = .ok x r) : textX litX (pgJ x) ≠ [] ∧ (pgJ x).ok := by
  unfold progP at e
  generalize many = n at e
  obtain ⟨l, r1, e1, e2⟩ := bind_ok e
  obtain ⟨a1, a2, a3, a4⟩ := rulesL_ok n [] ts l r1 hg (by simp) (by simp) e1
  obtain ⟨k1, r2, e3, e4⟩ := bind_ok e2
  obtain ⟨_, _, i1, j1⟩ := want_got a4 e3
  obtain ⟨q, r3, e5, e6⟩ := bind_ok e4
  obtain ⟨⟨b1, b2⟩, b3, b4⟩ := atom_ok z r2 q r3 j1 e5
  obtain ⟨k2, r4, e7, e8⟩ := bind_ok e6
  injection e8 with e8 e9; subst e8 e9
  have hline : ∀ y ∈ l, lineX litX (rlJ y) = ruleX litX (rlJ y) ++ [10] := fun y hy => by
    unfold lineX
    rw [(whole_ne (l := [ruleX litX (rlJ y), [10]]) (by simp only [List.mem_cons, List.not_mem_nil, or_false]; rintro (h | h); exact (a2 y hy).1 h.symm; cases h) ⟨[10], by simp, by simp⟩).1]
    simp
  have hq : queryX (amJ q) = [63, 45, 32] ++ atomX (amJ q) ++ [46, 10] := by
    unfold queryX
    rw [(whole_ne (l := [[63, 45, 32], atomX (amJ q), [46, 10]]) (by simp only [List.mem_cons, List.not_mem_nil, or_false]; rintro (h | h | h); cases h; exact b1 h.symm; cases h) ⟨[46, 10], by simp, by simp⟩).1]
    simp
  have hin : [] ∉ (l.map rlJ).map (lineX litX) := fun h => by
    rw [List.map_map] at h
    obtain ⟨y, hy, e⟩ := List.mem_map.1 h
    have e' : lineX litX (rlJ y) = [] := e
    rw [hline y hy] at e'
    simp at e'
  have hlen : ((l.map rlJ).map (lineX litX)).flatten.length ≤ (l.map fun x => (ruleX litX (rlJ x)).length + 1).sum := by
    rw [flat_sum, List.map_map, List.map_map]
    refine sum_le l fun y hy => ?_
    show (lineX litX (rlJ y)).length ≤ _
    rw [hline y hy]; simp
  simp only [List.map_nil, List.sum_nil] at a3
  simp only [List.length_cons, List.length_nil] at i1
  simp only at b3
  have e0 : textX litX (pgJ ⟨l, q⟩) = ((l.map rlJ).map (lineX litX)).flatten ++ queryX (amJ q) := by
    show textT ((l.map rlJ).map (lineX litX)) (queryX (amJ q)) = _
    unfold textT
    rw [if_neg]
    simp only [not_or]
    refine ⟨by simp; omega, hin, by rw [hq]; simp, ?_⟩
    rw [hq]
    simp only [List.length_append, List.length_cons, List.length_nil]
    omega
  refine ⟨by rw [e0, hq]; simp, fun y hy => ?_, b2⟩
  obtain ⟨x, hx, rfl⟩ := List.mem_map.1 hy
  exact (a2 x hx).2
/-! ### A text hangs on what it says alone -/
theorem lit_same {x y : LtI} (h : x.er = y.er) : litX x = litX y := by
  obtain ⟨k, ⟨p, A, c, a⟩, o, ta, tb, tc, pA, pc, q⟩ := x
  obtain ⟨k', ⟨p', A', c', a'⟩, o', ta', tb', tc', pA', pc', q'⟩ := y
  simp only [LtI.er, AmA.am, LtE.mk.injEq, Am.mk.injEq] at h
  obtain ⟨rfl, ⟨rfl, rfl⟩, rfl, rfl, rfl, rfl, rfl⟩ := h
  have e2 : blankB (restL ⟨k, ⟨p, A, c, a⟩, o, ta, tb, tc, pA, pc, q⟩) = blankB (restL ⟨k, ⟨p, A', c', a⟩, o, ta, tb, tc, pA', pc', q⟩) := by
    unfold restL
    simp only
    by_cases h1 : k = 1 ∨ k = 2
    · rw [if_pos h1, if_pos h1]; rfl
    by_cases h3 : k = 3
    · rw [if_neg h1, if_neg h1, if_pos h3, if_pos h3]; rfl
    by_cases h4 : k = 4
    · rw [if_neg h1, if_neg h1, if_neg h3, if_neg h3, if_pos h4, if_pos h4]; rfl
    by_cases h5 : k = 5
    · rw [if_neg h1, if_neg h1, if_neg h3, if_neg h3, if_neg h4, if_neg h4, if_pos h5, if_pos h5]; rfl
    · rw [if_neg h1, if_neg h1, if_neg h3, if_neg h3, if_neg h4, if_neg h4, if_neg h5, if_neg h5]; rfl
  unfold litX
  rw [e2]
  rfl
theorem lits_same : ∀ {l m : List LtI}, l.map LtI.er = m.map LtI.er → l.map litX = m.map litX
  | [], [], _ => rfl
  | [], _ :: _, h => by cases h
  | _ :: _, [], h => by cases h
  | x :: l, y :: m, h => by
    simp only [List.map_cons, List.cons.injEq] at h ⊢
    exact ⟨lit_same h.1, lits_same h.2⟩
theorem rule_same {x y : RlI} (h : x.er = y.er) : lineX litX x = lineX litX y := by
  unfold RlI.er at h
  injection h with h1 h2 h3
  unfold lineX ruleX
  have e1 : x.h.p = y.h.p := congrArg Am.p h1
  have e2 : x.h.a = y.h.a := congrArg Am.a h1
  rw [e1, e2, h2, lits_same h3]
theorem rules_same : ∀ {l m : List RlI}, l.map RlI.er = m.map RlI.er → l.map (lineX litX) = m.map (lineX litX)
  | [], [], _ => rfl
  | [], _ :: _, h => by cases h
  | _ :: _, [], h => by cases h
  | x :: l, y :: m, h => by
    simp only [List.map_cons, List.cons.injEq] at h ⊢
    exact ⟨rule_same h.1, rules_same h.2⟩
theorem text_same {x y : PgI} (h : x.er = y.er) : textX litX x = textX litX y := by
  unfold PgI.er at h
  injection h with h1 h2
  unfold textX queryX atomX
  have e1 : x.q.p = y.q.p := congrArg Am.p h2
  have e2 : x.q.a = y.q.a := congrArg Am.a h2
  rw [rules_same h1, e1, e2]
end Go.Proofs.YtahljmddnfldlaaGreatDoor
namespace Go.Proofs.YtahljmddnfldlaaGreatDoor
open Go.RowKit FloM ValM Go.Shelf
set_option linter.unusedVariables false
set_option linter.unusedSimpArgs false
end Go.Proofs.YtahljmddnfldlaaGreatDoor
namespace Go.Proofs.YtahljmddnfldlaaGreatDoor
open Go.RowKit Go.ChangeShapes Go.WideShapes Go.ChangeAt Go.Joins Go.Deep Go.ChangeMaps FloM ValM
set_option linter.unusedVariables false
set_option linter.unusedSimpArgs false
section
variable {H : Type} {enc : TypeId × Value → H} {w : World} {base : Nat} {spare : Nat → Bool} {held : Bool}
instance : Inhabited Tm := ⟨⟨[], v0⟩⟩
instance : Inhabited AmA := ⟨⟨[], none, 0, []⟩⟩
instance : Inhabited LtI := ⟨⟨0, default, [], default, default, default, none, 0, []⟩⟩
instance : Inhabited RlI := ⟨⟨default, 0, none, 0, []⟩⟩
end
end Go.Proofs.YtahljmddnfldlaaGreatDoor

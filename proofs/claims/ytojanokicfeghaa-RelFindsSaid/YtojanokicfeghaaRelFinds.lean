/-
  RelFinds (layer 5, rel): for every perms, l, which and col the call returns true: by all columns a tuple alone is found; by none all are; by one more column no more than by fewer. No condition.
-/
import Derived.Test.YtojanokicfeghaaRows
import Derived.Test.YtojanokicfeghaaRelMore
import Derived.Test.YtojanokicfeghaaRelB
import Derived.Test.YtojanokicfeghaaRelB
import Derived.WalkKit
import Derived.ProofKit
import Derived.OpenShut
namespace Go.Proofs.Ytojanokicfeghaa.relFinds
open Go.ChangeShapes Go.WideShapes Go.ChangeAt Go.RowKit FloM ValM
set_option linter.unusedVariables false
set_option linter.unusedSimpArgs false
theorem rI1 (w : World) (l : List Int) (t : TypeId) (o : Obj) : RdI ((w.alloc (.cells (icells l).toArray t)).alloc o).drew (some ⟨w.heap.size, 0, none⟩) l := (rdI_row' w l t).on ((Below.refl _ _).alloc (Nat.le_refl _) o).drew
theorem rI2 (w : World) (l : List Int) (t : TypeId) (o : Obj) : RdI ((w.alloc o).alloc (.cells (icells l).toArray t)).drew (some ⟨w.heap.size + 1, 0, none⟩) l := by have := rdI_row' (w.alloc o) l t; rw [World.size_alloc] at this; exact this.on (Below.refl _ _).drew
theorem rV1 (w : World) (l : List V) (t : TypeId) (o : Obj) : RdV ((w.alloc (.cells (vcells l).toArray t)).alloc o).drew (some ⟨w.heap.size, 0, none⟩) l := (rdV_row' w l t).on ((Below.refl _ _).alloc (Nat.le_refl _) o).drew
theorem rV2 (w : World) (l : List V) (t : TypeId) (o : Obj) : RdV ((w.alloc o).alloc (.cells (vcells l).toArray t)).drew (some ⟨w.heap.size + 1, 0, none⟩) l := by have := rdV_row' (w.alloc o) l t; rw [World.size_alloc] at this; exact this.on (Below.refl _ _).drew
theorem bel_drawN' {B : Nat} {w u : World} (h : Below B w u) (k : Nat) : Below B w (u.drewN k) := ⟨h.os, h.tape, h.output, h.size, h.block⟩
set_option maxRecDepth 20000 in
set_option maxHeartbeats 4000000 in
theorem walk_no (A0 A1 : Option Addr) (c0 c1 : Nat) (ps : List IS) (xs : List Sl) (a2 a3 : Int) (w : World) (r0 : RdP w A0 ps) (m0 : ps.length ≤ maxLen) (r1 : RdL w A1 xs) (m1 : xs.length ≤ maxLen)
    (h : fewR (ps.map IS.l) (xs.map Sl.l) = false ∨ fewR (ps.map IS.l) (xs.map Sl.l) = true ∧ xs.length = 0) :
    Calls Try.prog 5 #[.slice A0 ps.length c0, .slice A1 xs.length c1, .int .u8 a2, .int .u8 a3] w fun e w' => e = .returned (.bool true) ∧ Below w.heap.size w w' := by
  have hB := Below.refl w.heap.size w
  have R0 := Lib.hid r0; have R1 := Lib.hid r1; clear r0 r1
  have HFW : Hid (∀ W, Below w.heap.size w W → Calls Try.prog 24 #[.slice A0 ps.length c0, .slice A1 xs.length c1] W fun e w' => e = .returned (.bool (fewR (ps.map IS.l) (xs.map Sl.l))) ∧ W = w') := Lib.hid fun W hW => fewR_any A0 A1 c0 c1 ps xs W (R0.out.on hW) (R1.out.on hW) m0 m1
  rcases h with h | ⟨h, h8⟩
  · rw [h] at HFW
    clear h
    go_enter Try.func5, Try.ntmps5
    go_wp2_with (first
      | (go_at_call 23; refine (awakeR_any _).mono ?_; rintro e w1 ⟨rfl, h'⟩; replace hB := on hB h'; clear h')
      | (go_at_call 24; refine (HFW.out _ hB).mono ?_; rintro e w2 ⟨rfl, rfl⟩))
    go_ret
    exact ⟨rfl, hB⟩
  · rw [h] at HFW
    obtain rfl := List.length_eq_zero_iff.1 h8
    simp only [List.length_nil] at HFW ⊢
    clear h h8 m1
    go_enter Try.func5, Try.ntmps5
    go_wp2_with (first
      | (go_at_call 23; refine (awakeR_any _).mono ?_; rintro e w1 ⟨rfl, h'⟩; replace hB := on hB h'; clear h')
      | (go_at_call 24; refine (HFW.out _ hB).mono ?_; rintro e w2 ⟨rfl, rfl⟩))
    go_ret
    exact ⟨rfl, hB⟩
set_option maxRecDepth 20000 in
set_option maxHeartbeats 8000000 in
theorem walk_yes (A0 A1 : Option Addr) (c0 c1 : Nat) (ps : List IS) (xs : List Sl) (k2 k3 i0 : Nat) (x : Sl) (w : World) (r0 : RdP w A0 ps) (m0 : ps.length ≤ maxLen) (r1 : RdL w A1 xs) (m1 : xs.length ≤ maxLen)
    (hf : fewR (ps.map IS.l) (xs.map Sl.l) = true) (hne : 0 < xs.length) (h2 : k2 % xs.length = i0) (hk2 : k2 < 256) (hk3 : k3 < 256) (hx : xs[i0]? = some x) (hxc : x.l.length ≤ x.c) :
    Calls Try.prog 5 #[.slice A0 ps.length c0, .slice A1 xs.length c1, .int .u8 (k2 : Int), .int .u8 (k3 : Int)] w fun e w' => e = .returned (.bool true) ∧ Below w.heap.size w w' := by
  have hB := Below.refl w.heap.size w
  have R0 := Lib.hid r0; have R1 := Lib.hid r1; clear r0 r1
  obtain ⟨f1, f2, f3, f4⟩ := fewR_yes hf
  rw [List.length_map] at f3 f4
  have HFL := Lib.hid f2; clear f1 f2
  have HFW : Hid (∀ W, Below w.heap.size w W → Calls Try.prog 24 #[.slice A0 ps.length c0, .slice A1 xs.length c1] W fun e w' => e = .returned (.bool true) ∧ W = w') := Lib.hid fun W hW => by
    have := fewR_any A0 A1 c0 c1 ps xs W (R0.out.on hW) (R1.out.on hW) m0 m1
    rw [hf] at this; exact this
  clear hf
  have hlt0 : i0 < xs.length := (List.getElem?_eq_some_iff.1 hx).1
  have hne' : ¬ (xs.length : Int) = 0 := by omega
  have hrem : Int.tmod (k2 : Int) (xs.length : Int) = (i0 : Int) := by rw [Int.tmod_eq_emod_of_nonneg (by omega), ← h2]; rfl
  obtain ⟨ab, ao, rfl, hab, hrow⟩ : ∃ b o, A1 = some ⟨b, o, none⟩ ∧ b < w.heap.size ∧ ∀ j y, xs[j]? = some y → w.cell? ⟨b, o + j, none⟩ = some (.slice y.A y.l.length y.c) := by
    obtain ⟨b, o, rfl, hb, _⟩ := R1.out.at_ (List.getElem?_eq_getElem hne)
    refine ⟨b, o, rfl, hb, fun j x hx => ?_⟩
    obtain ⟨b', o', e, _, hc⟩ := R1.out.at_ hx
    injection e with e; injection e with e1 e2 _; subst e1 e2; exact hc
  have cx := hrow i0 x hx
  have RX := Lib.hid (R1.out.each x (List.mem_of_getElem? hx))
  have HXH := Lib.hid (show x.l ∈ xs.map Sl.l from List.mem_map.2 ⟨x, List.mem_of_getElem? hx, rfl⟩)
  have hx12 : x.l.length ≤ 12 := HFL.out _ HXH.out
  have HROW := Lib.hid hrow
  clear hx hrow h2
  by_cases hall : x.l.length ≤ 8 ∧ ∀ p ∈ ps, goodP x.l.length p.l = true
  · obtain ⟨hn8, hall⟩ := hall
    have HG := Lib.hid hall
    have HNG : Hid (∀ W, Below w.heap.size w W → Calls Try.prog 25 #[.int .i64 (x.l.length : Int), .slice A0 ps.length c0] W fun e w' => ∃ r g0 gs, e = .returned (.tuple #[.pointer (some ⟨r, 0, none⟩), .int .i64 0]) ∧ NewS W x.l.length (ps.map IS.l) r g0 gs w') := Lib.hid fun W hW => (relNew_any A0 c0 x.l.length ps W hn8 (R0.out.on hW) (by omega)).mono (by
      rintro e w' (⟨_, h⟩ | ⟨⟨x, hx, hg⟩, _⟩)
      · exact h
      · rw [HG.out x hx] at hg; cases hg)
    clear hall
    go_enter Try.func5, Try.ntmps5
    go_wp2_with (first
      | (go_at_call 23; refine (awakeR_any _).mono ?_; rintro e w1 ⟨rfl, h'⟩; replace hB := on hB h'; clear h'; replace cx := (keep hB _ _ hab).trans cx)
      | (go_at_call 24; refine (HFW.out _ hB).mono ?_; rintro e w2 ⟨rfl, rfl⟩)
      | (go_at_call 25; refine (HNG.out _ hB).mono ?_; rintro e w3 ⟨r, g0, gs, rfl, hs⟩; have hR := Lib.hid ((OneR.start hs).base hB); clear hs hB))
    clear cx
    go_loopw [52] (fun v wr => ∃ k : Nat, v = .int .i64 (k : Nat) ∧ k ≤ xs.length ∧ OneR w r x.l.length g0 gs (ps.map IS.l) ((xs.map Sl.l).take k) wr) (fun v _ => xs.length - (intOf v).toNat)
    case atStart => exact ⟨0, rfl, Nat.zero_le _, hR.out⟩
    case round =>
      clear hR
      obtain ⟨k, rfl, hk, hD⟩ := hrel
      have HD := Lib.hid hD; clear hD
      by_cases hlt : k < xs.length
      · have hy := List.getElem?_eq_getElem hlt
        generalize xs[k] = a at hy
        have ca := (keep HD.out.b _ _ hab).trans (HROW.out k a hy)
        have RA := Lib.hid (R1.out.each a (List.mem_of_getElem? hy))
        have HA := Lib.hid (show (xs.map Sl.l)[k]? = some a.l by rw [List.getElem?_map, hy]; rfl)
        have HPT := Lib.hid (relPutS_any a.A a.c a.l wr HD.out.s (RA.out.1.on HD.out.b) (fun hne ad ha hX => by
          obtain ⟨b, o, e, hb, _⟩ := RA.out.1 0 _ (List.getElem?_eq_getElem (List.length_pos_iff.2 hne))
          rw [ha] at e; cases e
          have := HD.out.x0 _ hX
          simp only at this; omega) HD.out.x1 (by rw [List.length_take, List.length_map]; omega))
        clear hy
        go_wp2_with (go_at_call 26; refine HPT.out.mono ?_; rintro e w5 ⟨rfl, hs, hF⟩; have HD5 := Lib.hid (HD.out.put hs hF); clear hs hF)
        go_roundw
        case rel => exact ⟨k + 1, by go_num, by omega, by rw [take_snoc' HA.out]; exact HD5.out⟩
        case measure => simp [intOf]; omega
      · obtain rfl : k = xs.length := by omega
        rw [List.take_of_length_le (by simp)] at HD
        have hH : (xs.map Sl.l).length ≤ 100000 := by rw [List.length_map]; omega
        have HF1 : Hid (∀ W P cp, OneR w r x.l.length g0 gs (ps.map IS.l) (xs.map Sl.l) W → RdI W P (upto x.l.length) → (∀ b o, P = some ⟨b, o, none⟩ → ¬ (b = g0 ∨ b ∈ gs)) → Calls Try.prog 28 #[.pointer (some ⟨r, 0, none⟩), .slice P x.l.length cp, .slice x.A x.l.length x.c] W fun e w' => ∃ B d, e = .returned (.slice B 1 d) ∧ Below W.heap.size W w') := Lib.hid fun W P cp hO hp hq => by
          have := oneFind P x.A cp x.c (upto x.l.length) x.l hO hn8 hH hp hq (RX.out.1.on hO.b) (by rw [upto_len]; omega)
          rw [upto_len, find_all HXH.out rfl] at this
          refine this.mono ?_
          rintro e w' ⟨B, d, ys, rfl, _, _, hb⟩
          exact ⟨B, d, rfl, hb⟩
        have HF2 : Hid (∀ W, OneR w r x.l.length g0 gs (ps.map IS.l) (xs.map Sl.l) W → Calls Try.prog 28 #[.pointer (some ⟨r, 0, none⟩), .slice none 0 0, .slice none 0 0] W fun e w' => ∃ B d ys, e = .returned (.slice B (puts (upto x.l.length) (xs.map Sl.l)).length d) ∧ RdL w' B ys ∧ lsOf ys = puts (upto x.l.length) (xs.map Sl.l) ∧ Below W.heap.size W w') := Lib.hid fun W hO => by
          have := oneFind none none 0 0 [] [] hO hn8 hH RdI.nil (fun b o e => by cases e) RdV.nil (by simp)
          rw [find_none] at this
          exact this
        have hM := puts_len (upto x.l.length) (xs.map Sl.l)
        rw [List.length_map] at hM
        have HSM : Hid (∀ W B C d c ys zs, RdL W B ys → RdL W C zs → lsOf ys = puts (upto x.l.length) (xs.map Sl.l) → lsOf zs = puts (upto x.l.length) (xs.map Sl.l) → Calls Try.prog 29 #[.slice B (puts (upto x.l.length) (xs.map Sl.l)).length d, .slice C (puts (upto x.l.length) (xs.map Sl.l)).length c] W fun e w' => e = .returned (.bool true) ∧ Below W.heap.size W w') := Lib.hid fun W B C d c ys zs h1 h2 h3 h4 => by
          have l3 : ys.length = (puts (upto x.l.length) (xs.map Sl.l)).length := by rw [← h3]; simp [lsOf]
          have l4 : zs.length = (puts (upto x.l.length) (xs.map Sl.l)).length := by rw [← h4]; simp [lsOf]
          have := same_yes B C d c ys zs W h1 h2 (by rw [l3]; unfold maxLen; omega) (by rw [h3, h4])
          rwa [l3, l4] at this
        by_cases hn0 : x.l.length = 0
        · have hn0' : ((x.l.length : Int) == 0) = true := by rw [hn0]; rfl
          clear hn0
          go_wp2_with (first
          | (go_at_call 32; refine (plain_any x.l.length wr (by omega)).mono ?_; rintro e w6 ⟨P6, cp6, rfl, hp, hq, hb⟩; have HD6 := Lib.hid (HD.out.on hb); have HP6 := Lib.hid hp; have HQ6 := Lib.hid (show ∀ b o, P6 = some ⟨b, o, none⟩ → ¬ (b = g0 ∨ b ∈ gs) from fun b o e hx => by have := hq b o e; have := HD.out.x1 b hx; omega); clear hp hq hb)
          | (go_at_call 28; first
            | ((with_reducible refine (HF1.out _ P6 cp6 HD6.out HP6.out HQ6.out).mono ?_); rintro e w7 ⟨B7, d7, rfl, hb⟩; have HD7 := Lib.hid (HD6.out.on hb); clear hb)
            | ((with_reducible refine (HF2.out _ HD7.out).mono ?_); rintro e w8 ⟨B8, d8, ys8, rfl, hy, hys, hb⟩; have HD8 := Lib.hid (HD7.out.on hb); have HY8 := Lib.hid hy; have HE8 := Lib.hid hys; clear hy hys hb))
          | (go_at_call 30; refine (oneAll HD8.out hn8 (by rw [List.length_map]; omega)).mono ?_; rintro e w9 ⟨B9, d9, ys9, rfl, hy, hys, hb⟩; have HD9 := Lib.hid (HD8.out.on hb); have HY9 := Lib.hid hy; have HE9 := Lib.hid hys; have HY89 := Lib.hid (HY8.out.on hb); clear hy hys hb)
          | (go_at_call 29; refine (HSM.out _ B8 B9 d8 d9 ys8 ys9 HY89.out HY9.out HE8.out HE9.out).mono ?_; rintro e w10 ⟨rfl, hb⟩; have HD10 := Lib.hid (HD9.out.on hb); clear hb))
          go_ret
          exact ⟨rfl, HD10.out.b⟩
        · have hn0' : ¬ (x.l.length : Int) = 0 := by omega
          obtain ⟨q, hq⟩ : ∃ q, k3 % x.l.length = q := ⟨_, rfl⟩
          have hqn : q < x.l.length := by rw [← hq]; exact Nat.mod_lt _ (by omega)
          have hrem3 : Int.tmod (k3 : Int) (x.l.length : Int) = (q : Int) := by rw [Int.tmod_eq_emod_of_nonneg (by omega), ← hq]; rfl
          clear hq
          obtain ⟨⟨vk, vn, vs⟩, hv⟩ : ∃ v, x.l[q]? = some v := ⟨_, List.getElem?_eq_getElem hqn⟩
          obtain ⟨xb, xo, hxA, hxb, _⟩ := RX.out.1 q _ hv
          have HV := Lib.hid hv; clear hv
          rw [hxA] at HF1
          have RXX : Hid (RdV w (some ⟨xb, xo, none⟩) x.l) := Lib.hid (by rw [← hxA]; exact RX.out.1)
          obtain ⟨L1, hL1⟩ : ∃ L1, (findL x.l.length [(q : Int)] [⟨vk, vn, vs⟩] (xs.map Sl.l)).length = L1 := ⟨_, rfl⟩
          have HL1 := Lib.hid (find_some HXH.out rfl HV.out)
          have HL2 := Lib.hid (find_le (n := x.l.length) (H := xs.map Sl.l) [(q : Int)] [⟨vk, vn, vs⟩])
          have HL3 : Hid (∀ (i : Nat) (u : V), (findL x.l.length [(q : Int), (i : Int)] [⟨vk, vn, vs⟩, u] (xs.map Sl.l)).length ≤ L1) := Lib.hid fun i u => by rw [← hL1]; exact find_two hqn
          rw [hL1] at HL1 HL2
          have HF3 : Hid (∀ W, OneR w r x.l.length g0 gs (ps.map IS.l) (xs.map Sl.l) W → Calls Try.prog 28 #[.pointer (some ⟨r, 0, none⟩), .slice (some ⟨W.heap.size, 0, none⟩) 1 1, .slice (some ⟨xb, xo + q * 3, none⟩) 1 (x.c - q)] (W.alloc (.cells #[.int .i64 (q : Int)] 3)) fun e w' => ∃ B d, e = .returned (.slice B L1 d) ∧ Below W.heap.size W w') := Lib.hid fun W hO => by
            have := aw_find (q : Int) (some ⟨xb, xo + q * 3, none⟩) (x.c - q) ⟨vk, vn, vs⟩ hO hH (fun i u hu => by
              cases i with
              | zero =>
                simp at hu; subst hu
                obtain ⟨b, o, e, hb, c0, c1, c2⟩ := (RXX.out.on hO.b) q _ HV.out
                cases e
                exact ⟨xb, xo + q * 3, rfl, hb, by simpa using c0, by simpa using c1, by simpa using c2⟩
              | succ i => simp at hu)
            rw [hL1] at this
            exact this
          clear hL1
          have HF5 : Hid (∀ W Bc Bv, OneR w r x.l.length g0 gs (ps.map IS.l) (xs.map Sl.l) W → RdI W (some ⟨Bc, 0, none⟩) [(q : Int), (q : Int)] → ¬ (Bc = g0 ∨ Bc ∈ gs) → RdV W (some ⟨Bv, 0, none⟩) [⟨vk, vn, vs⟩, ⟨vk, vn, vs⟩] → Calls Try.prog 28 #[.pointer (some ⟨r, 0, none⟩), .slice (some ⟨Bc, 0, none⟩) 2 2, .slice (some ⟨Bv, 0, none⟩) 2 2] W fun e w' => ∃ B d, e = .returned (.slice B 0 d) ∧ Below W.heap.size W w') := Lib.hid fun W Bc Bv hO hc ho hv => by
            have := oneFind (some ⟨Bc, 0, none⟩) (some ⟨Bv, 0, none⟩) 2 2 [(q : Int), (q : Int)] [⟨vk, vn, vs⟩, ⟨vk, vn, vs⟩] hO hn8 hH hc (fun b o e => by cases e; exact ho) hv (by simp)
            rw [find_twice] at this
            simp only [List.length_cons, List.length_nil, Nat.zero_add, Nat.reduceAdd] at this
            refine this.mono ?_
            rintro e w' ⟨B, d, ys, rfl, _, _, hb⟩
            exact ⟨B, d, rfl, hb⟩
          have HF6 : Hid (∀ W Bc, OneR w r x.l.length g0 gs (ps.map IS.l) (xs.map Sl.l) W → RdI W (some ⟨Bc, 0, none⟩) [(x.l.length : Int)] → ¬ (Bc = g0 ∨ Bc ∈ gs) → Calls Try.prog 28 #[.pointer (some ⟨r, 0, none⟩), .slice (some ⟨Bc, 0, none⟩) 1 1, .slice (some ⟨xb, xo, none⟩) 1 x.c] W fun e w' => ∃ B d, e = .returned (.slice B 0 d) ∧ Below W.heap.size W w') := Lib.hid fun W Bc hO hc ho => by
            obtain ⟨a, ha⟩ : ∃ a, RdV W (some ⟨xb, xo, none⟩) [a] := by
              have hr := RXX.out.on hO.b
              generalize x.l = l at hr hqn
              cases l with
              | nil => simp at hqn
              | cons a t => exact ⟨a, rdV_head hr⟩
            have := oneFind (some ⟨Bc, 0, none⟩) (some ⟨xb, xo, none⟩) 1 x.c [(x.l.length : Int)] [a] hO hn8 hH hc (fun b o e => by cases e; exact ho) ha (by simp)
            rw [find_far] at this
            simp only [List.length_cons, List.length_nil, Nat.zero_add] at this
            refine this.mono ?_
            rintro e w' ⟨B, d, ys, rfl, _, _, hb⟩
            exact ⟨B, d, rfl, hb⟩
          obtain ⟨m9, hm9⟩ : ∃ m9, (puts (upto x.l.length) (xs.map Sl.l)).length = m9 := ⟨_, rfl⟩
          have HLEN : Hid (∀ W, OneR w r x.l.length g0 gs (ps.map IS.l) (xs.map Sl.l) W → Calls Try.prog 33 #[.pointer (some ⟨r, 0, none⟩)] W fun e w' => e = .returned (.int .i64 (m9 : Nat)) ∧ W = w') := Lib.hid fun W hO => by
            have := relLen_any W hO.s
            rw [hm9] at this; exact this
          have HL4 : Hid (L1 ≤ m9) := Lib.hid (by rw [← hm9]; exact HL2.out)
          clear hm9
          have HF4 : Hid (∀ W Bc Bv (i : Nat) (u : V), OneR w r x.l.length g0 gs (ps.map IS.l) (xs.map Sl.l) W → RdI W (some ⟨Bc, 0, none⟩) [(q : Int), (i : Int)] → ¬ (Bc = g0 ∨ Bc ∈ gs) → RdV W (some ⟨Bv, 0, none⟩) [⟨vk, vn, vs⟩, u] → Calls Try.prog 28 #[.pointer (some ⟨r, 0, none⟩), .slice (some ⟨Bc, 0, none⟩) 2 2, .slice (some ⟨Bv, 0, none⟩) 2 2] W fun e w' => ∃ B d L, e = .returned (.slice B L d) ∧ (L : Int) ≤ L1 ∧ Below W.heap.size W w') := Lib.hid fun W Bc Bv i u hO hc ho hv => by
            have := oneFind (some ⟨Bc, 0, none⟩) (some ⟨Bv, 0, none⟩) 2 2 [(q : Int), (i : Int)] [⟨vk, vn, vs⟩, u] hO hn8 hH hc (fun b o e => by cases e; exact ho) hv (by simp)
            simp only [List.length_cons, List.length_nil, Nat.zero_add, Nat.reduceAdd] at this
            refine this.mono ?_
            rintro e w' ⟨B, d, ys, rfl, _, _, hb⟩
            exact ⟨B, d, _, rfl, by have := HL3.out i u; omega, hb⟩
          go_wp2_with (first
          | (go_at_call 32; refine (plain_any x.l.length wr (by omega)).mono ?_; rintro e w6 ⟨P6, cp6, rfl, hp, hq, hb⟩; have HD6 := Lib.hid (HD.out.on hb); have HP6 := Lib.hid hp; have HQ6 := Lib.hid (show ∀ b o, P6 = some ⟨b, o, none⟩ → ¬ (b = g0 ∨ b ∈ gs) from fun b o e hx => by have := hq b o e; have := HD.out.x1 b hx; omega); clear hp hq hb)
          | (go_at_call 28; first
            | ((with_reducible refine (HF1.out _ P6 cp6 HD6.out HP6.out HQ6.out).mono ?_); rintro e w7 ⟨B7, d7, rfl, hb⟩; have HD7 := Lib.hid (HD6.out.on hb); clear hb)
            | ((with_reducible refine (HF2.out _ HD7.out).mono ?_); rintro e w8 ⟨B8, d8, ys8, rfl, hy, hys, hb⟩; have HD8 := Lib.hid (HD7.out.on hb); have HY8 := Lib.hid hy; have HE8 := Lib.hid hys; clear hy hys hb)
            | ((with_reducible refine (HF3.out _ HD10.out).mono ?_); rintro e w11 ⟨B11, d11, rfl, hb⟩; have HD11 := Lib.hid (HD10.out.on hb); clear hb))
          | (go_at_call 30; refine (oneAll HD8.out hn8 (by rw [List.length_map]; omega)).mono ?_; rintro e w9 ⟨B9, d9, ys9, rfl, hy, hys, hb⟩; have HD9 := Lib.hid (HD8.out.on hb); have HY9 := Lib.hid hy; have HE9 := Lib.hid hys; have HY89 := Lib.hid (HY8.out.on hb); clear hy hys hb)
          | (go_at_call 29; refine (HSM.out _ B8 B9 d8 d9 ys8 ys9 HY89.out HY9.out HE8.out HE9.out).mono ?_; rintro e w10 ⟨rfl, hb⟩; have HD10 := Lib.hid (HD9.out.on hb); clear hb))
          go_loopw [94] (fun v wr => ∃ i : Nat, v = .int .i64 (i : Nat) ∧ i ≤ x.l.length ∧ OneR w r x.l.length g0 gs (ps.map IS.l) (xs.map Sl.l) wr) (fun v _ => x.l.length - (intOf v).toNat)
          case atStart => exact ⟨0, rfl, Nat.zero_le _, HD11.out⟩
          case round =>
            clear HD HD6 HD7 HD8 HD9 HD10 HD11 HF1 HF2 HF3 HSM
            obtain ⟨i, rfl, hi, hD⟩ := hrel
            have HD := Lib.hid hD; clear hD
            by_cases hlt : i < x.l.length
            · by_cases hiq : i = q
              · subst hiq
                go_wp2_with fail
                go_quiet (fail)
                all_goals
                  go_wp2
                  go_roundw
                  case rel => exact ⟨i + 1, by go_num, by omega, HD.out.on (by first | exact (Below.refl _ _).drew | exact bel_drawN' (Below.refl _ _) _)⟩
                  case measure => simp [intOf]; omega
              · obtain ⟨⟨uk, un, us⟩, hu⟩ : ∃ u, x.l[i]? = some u := ⟨_, List.getElem?_eq_getElem hlt⟩
                obtain ⟨b1, o1, e1, hb1, a0, a1, a2⟩ := (RXX.out.on HD.out.b) q _ HV.out
                obtain ⟨b2, o2, e2, hb2, d0, d1, d2⟩ := (RXX.out.on HD.out.b) i _ hu
                cases e1; cases e2
                clear hu
                have hiq' : ((i : Int) != (q : Int)) = true := by simp; omega
                clear hiq
                go_wp2_with fail
                go_region_held3 (fun u => Below wr.heap.size wr u ∧ u.cell? ⟨xb, xo + q * 3, none⟩ = some (.int .i64 vk) ∧ u.cell? ⟨xb, xo + q * 3 + 1, none⟩ = some (.int .i64 vn) ∧ u.cell? ⟨xb, xo + q * 3 + 2, none⟩ = some (.string vs) ∧ u.cell? ⟨xb, xo + i * 3, none⟩ = some (.int .i64 uk) ∧ u.cell? ⟨xb, xo + i * 3 + 1, none⟩ = some (.int .i64 un) ∧ u.cell? ⟨xb, xo + i * 3 + 2, none⟩ = some (.string us))
                  ((refine (fun hh => ⟨hh, held_cell hb1 a0 hh, held_cell hb1 a1 hh, held_cell hb1 a2 hh, held_cell hb1 d0 hh, held_cell hb1 d1 hh, held_cell hb1 d2 hh⟩) ?_; repeat (first | exact Below.refl _ _ | exact h12 | apply Below.drew | (refine bel_alloc ?_ ?_; (first | omega | (focus (simp; done)) | (focus (simp; omega)))))))
                  ((go_at_call 28; refine (HF4.out _ _ _ i ⟨uk, un, us⟩ (HD.out.on (((Below.refl _ _).alloc (Nat.le_refl _) _).alloc (by simp) _).drew) (by first | exact rI1 _ _ _ _ | exact rI2 _ _ _ _) (fun hx => by have := HD.out.x1 _ hx; omega) (by first | exact rV1 _ _ _ _ | exact rV2 _ _ _ _)).mono ?_; rintro e w12 ⟨B12, d12, L12, rfl, hl12, hb12⟩; have h12 : Below wr.heap.size wr w12 := on (((Below.refl _ _).alloc (Nat.le_refl _) _).alloc (by simp) _).drew hb12; clear hb12; dsimp only))
                all_goals
                  go_wp2
                  go_roundw
                  case rel => exact ⟨i + 1, by go_num, by omega, HD.out.on h12⟩
                  case measure => simp [intOf]; omega
            · obtain rfl : i = x.l.length := by omega
              obtain ⟨b1, o1, e1, hb1, a0, a1, a2⟩ := (RXX.out.on HD.out.b) q _ HV.out
              cases e1
              have g1 : (1 : Int) ≤ (L1 : Int) := by have := HL1.out; omega
              have g2 : (L1 : Int) ≤ (m9 : Int) := by have := HL4.out; omega
              have g3 : (1 : Int) ≤ (x.c : Int) := by omega
              go_wp2_with fail
              go_region_held3 (fun u => Below wr.heap.size wr u ∧ u.cell? ⟨xb, xo + q * 3, none⟩ = some (.int .i64 vk) ∧ u.cell? ⟨xb, xo + q * 3 + 1, none⟩ = some (.int .i64 vn) ∧ u.cell? ⟨xb, xo + q * 3 + 2, none⟩ = some (.string vs))
                ((refine (fun hh => ⟨hh, held_cell hb1 a0 hh, held_cell hb1 a1 hh, held_cell hb1 a2 hh⟩) ?_; repeat (first | exact Below.refl _ _ | exact h13 | exact h12 | apply Below.drew | (refine bel_alloc ?_ ?_; (first | omega | (focus (simp; done)) | (focus (simp; omega)))))))
                ((first
                  | (go_at_call 33; refine (HLEN.out _ (HD.out.on (by repeat (first | exact Below.refl _ _ | apply Below.drew)))).mono ?_; rintro e w11 ⟨rfl, rfl⟩; dsimp only)
                  | (go_at_call 28; first
                    | ((with_reducible refine (HF5.out _ _ _ ?_ ?_ ?_ ?_).mono ?_); (exact HD.out.on (((Below.refl _ _).alloc (Nat.le_refl _) _).alloc (by simp) _).drew); (first | exact rI1 _ _ _ _ | exact rI2 _ _ _ _); (exact fun hx => by have := HD.out.x1 _ hx; omega); (first | exact rV1 _ _ _ _ | exact rV2 _ _ _ _); rintro e w12 ⟨B12, d12, rfl, hb12⟩; have h12 : Below wr.heap.size wr w12 := on (((Below.refl _ _).alloc (Nat.le_refl _) _).alloc (by simp) _).drew hb12; have s12 := h12.size; clear hb12; dsimp only)
                    | ((with_reducible refine (HF6.out _ _ ?_ ?_ ?_).mono ?_); (exact HD.out.on (on h12 ((Below.refl _ _).alloc (Nat.le_refl _) _))); (exact rdI_row' _ _ _); (exact fun hx => by have := HD.out.x1 _ hx; omega); rintro e w13 ⟨B13, d13, rfl, hb13⟩; have h13 : Below wr.heap.size wr w13 := on (on h12 ((Below.refl _ _).alloc (Nat.le_refl _) _)) hb13; clear hb13; dsimp only))))
              all_goals
                go_wp2
                go_ret
                exact ⟨rfl, (HD.out.on h13).b⟩
  · have HBAD : Hid (∀ W, Below w.heap.size w W → Calls Try.prog 25 #[.int .i64 (x.l.length : Int), .slice A0 ps.length c0] W fun e w' => e = .returned (.tuple #[.pointer none, .int .i64 1]) ∧ Below W.heap.size W w') := Lib.hid fun W hW => by
      by_cases hn8 : x.l.length ≤ 8
      · refine (relNew_any A0 c0 x.l.length ps W hn8 (R0.out.on hW) (by omega)).mono ?_
        rintro e w' (⟨h, _⟩ | ⟨_, h⟩)
        · exact absurd ⟨hn8, h⟩ hall
        · exact h
      · refine (relNew_out (x.l.length : Int) (.slice A0 ps.length c0) W (.inr (by omega))).mono ?_
        rintro e w' ⟨rfl, rfl⟩
        exact ⟨rfl, Below.refl _ _⟩
    clear hall
    go_enter Try.func5, Try.ntmps5
    go_wp2_with (first
      | (go_at_call 23; refine (awakeR_any _).mono ?_; rintro e w1 ⟨rfl, h'⟩; replace hB := on hB h'; clear h'; replace cx := (keep hB _ _ hab).trans cx)
      | (go_at_call 24; refine (HFW.out _ hB).mono ?_; rintro e w2 ⟨rfl, rfl⟩)
      | (go_at_call 25; refine (HBAD.out _ hB).mono ?_; rintro e w3 ⟨rfl, hb⟩; replace hB := on hB hb; clear hb))
    go_ret
    exact ⟨rfl, hB⟩
theorem walk (A0 : Option Addr) (c0 : Nat) (ps : List IS) (A1 : Option Addr) (c1 : Nat) (xs : List Sl) (a2 a3 : Int) (w : World) (r0 : RdP w A0 ps) (m0 : ps.length ≤ maxLen) (q0 : ∀ x ∈ ps, x.l.length ≤ x.c) (r1 : RdL w A1 xs) (m1 : xs.length ≤ maxLen) (q1 : xs.length ≤ c1) (k1 : ∀ x ∈ xs, x.l.length ≤ x.c) (w2 : (Lit.int .u8 a2).wf = true) (w3 : (Lit.int .u8 a3).wf = true) :
    Calls Try.prog 5 #[.slice A0 ps.length c0, .slice A1 xs.length c1, .int .u8 a2, .int .u8 a3] w fun e w' => e = .returned (.bool true) ∧ Below w.heap.size w w' := by
  by_cases h : fewR (ps.map IS.l) (xs.map Sl.l) = true ∧ 0 < xs.length
  · have h2 : 0 ≤ a2 ∧ a2 < 256 := by simp [Lit.wf, IntKind.min, IntKind.max, IntKind.bits, IntKind.signed] at w2; omega
    have h3 : 0 ≤ a3 ∧ a3 < 256 := by simp [Lit.wf, IntKind.min, IntKind.max, IntKind.bits, IntKind.signed] at w3; omega
    obtain ⟨k2, rfl⟩ := Int.eq_ofNat_of_zero_le h2.1
    obtain ⟨k3, rfl⟩ := Int.eq_ofNat_of_zero_le h3.1
    have hl : k2 % xs.length < xs.length := Nat.mod_lt _ h.2
    exact walk_yes A0 A1 c0 c1 ps xs k2 k3 _ _ w r0 m0 r1 m1 h.1 h.2 rfl (by omega) (by omega) (List.getElem?_eq_getElem hl) (k1 _ (List.getElem_mem hl))
  · refine walk_no A0 A1 c0 c1 ps xs a2 a3 w r0 m0 r1 m1 ?_
    cases hf : fewR (ps.map IS.l) (xs.map Sl.l) <;> simp [hf] at h ⊢ <;> omega

theorem own : ownKnob Try.prog.godebug = none := by kernel_rfl

set_option maxRecDepth 100000 in
theorem lifted (os : Os) (started : os.Started) (H : Type) (enc : TypeId × Value → H) :
    ReturnsInHanded {} Try.checked os 5 .any (Rows.relFindsSpec.pre6 enc Try.prog Try.f5 Rows.relFindsRow.domain false) (Rows.relFindsSpec.post enc Try.prog Try.f5 false true false false) := by
  refine returnsInHanded_of_change (C := Try.checked) own started (by kernel_rfl) Try.func5
    (ChangeSpec.witness6 (enc := enc) (C := Try.checked) false ⟨#[], #[.slice none 0 0, .slice none 0 0, .int .u8 0, .int .u8 0], []⟩ 8 (by kernel_rfl) (by kernel_rfl) (by kernel_rfl) (by kernel_rfl)) ?_
  intro W base args ds gs before hval0 hW hcnd _
  have hval : ∀ (j : Nat) t v, Try.f5.params[j]? = some t → args[j]? = some v → Value.okWide Try.prog W .any base t v := hval0
  have hW' := hW
  obtain ⟨p, q, hA0, hV, rfl, hfz, hnd⟩ := hW
  have hA : DataW.TrodAll enc Try.prog W 0 (fun _ => true) true Try.f5.params.toList args.toList ds p := hA0
  have hAk := hA
  rw [Try.params5] at hA hval
  obtain ⟨v0, vs0, d0, ds0, p0, q0, hargs, rfl, rfl, h0, r0⟩ := trodAll_cons hA
  obtain ⟨v1, vs1, d1, ds1, p1, q1, rfl, rfl, rfl, h1, r1⟩ := trodAll_cons r0
  obtain ⟨v2, vs2, d2, ds2, p2, q2, rfl, rfl, rfl, h2, r2⟩ := trodAll_cons r1
  obtain ⟨v3, vs3, d3, ds3, p3, q3, rfl, rfl, rfl, h3, r3⟩ := trodAll_cons r2
  obtain ⟨rfl, rfl, rfl⟩ := trodAll_nil r3
  obtain rfl : args = #[v0, v1, v2, v3] := by cases args; simp_all
  obtain ⟨rfl, rfl⟩ := trodVars_none hV
  obtain ⟨A0, c0, l0, rfl, r0', m0', q0'⟩ := open_perms (okWide_slice Try.underlying45 (hval 0 45 v0 rfl rfl)) h0
  obtain ⟨A1, c1, l1, rfl, r1', m1', q1', k1'⟩ := open_tupsC (okWide_slice Try.underlying22 (hval 1 22 v1 rfl rfl)) h1
  obtain ⟨a2, rfl, rfl, rfl, w2⟩ := open_int Try.underlying5 (hval 2 5 v2 rfl rfl) h2
  obtain ⟨a3, rfl, rfl, rfl, w3⟩ := open_int Try.underlying5 (hval 3 5 v3 rfl rfl) h3
  clear hA0 hval0
  refine (walk A0 c0 l0 A1 c1 l1 a2 a3 W r0' m0' q0' r1' m1' q1' k1' w2 w3).mono fun e W' ⟨he, hg⟩ => ?_
  subst he
  refine ⟨_, rfl, post_old hW' (by simpa using hAk) (by rw [Try.params5]; decide) (fun _ _ _ => (trodAll_cons_mk (shut_bool Try.underlying4 _) trodAll_mk0)) rfl (fun _ => rfl) hg⟩

theorem proved : Rows.RelFindsSaid :=
  OpenClaim.holds_of_wide 5 Try.f5 rfl rfl rfl rfl rfl rfl rfl ⟨rfl, rfl, rfl, rfl, rfl⟩ rfl rfl rfl rfl rfl (by kernel_rfl) Try.func5 (by kernel_rfl)
    (of_decide_eq_true (by kernel_rfl)) (by unfold Func.isWrapper; first | (rw [if_pos (by decide +kernel)]; kernel_rfl) | (rw [if_neg (by decide +kernel)]; exact ⟨rfl, rfl⟩))
    (fun os started H enc _ => lifted os started H enc)
#print axioms proved
end Go.Proofs.Ytojanokicfeghaa.relFinds

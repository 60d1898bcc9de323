/-
  BtreeParts (layer 4, btree): for every p and l the call returns true: what begins with any first value, for each such value once, is all there is, in order. No condition.
-/
import Derived.Test.YtdpflmbnomeaaaaRows
import Derived.Test.YtdpflmbnomeaaaaBtPart
import Derived.Test.YtdpflmbnomeaaaaBtRefT
import Derived.Test.YtdpflmbnomeaaaaBtOpen
import Derived.Test.YtdpflmbnomeaaaaBtAwake
import Derived.WalkKit
import Derived.ProofKit
import Derived.OpenShut
namespace Go.Proofs.Ytdpflmbnomeaaaa.btreeParts
open Go.ChangeShapes Go.WideShapes Go.ChangeAt Go.RowKit FloM ValM
set_option linter.unusedVariables false
set_option linter.unusedSimpArgs false
set_option maxHeartbeats 4000000 in
theorem walk_off (A0 A1 : Option Addr) (c0 c1 : Nat) (p : List Int) (xs : List Sl) (w : World) (r0 : RdI w A0 p) (r1 : RdL w A1 xs) (m1 : xs.length ≤ maxLen)
    (h : fewB (lsOf xs) = false ∨ fewB (lsOf xs) = true ∧ (8 < p.length ∨ p.length ≤ 8 ∧ (p.length = 0 ∨ p.length ≠ 0 ∧ permB p = false))) :
    Calls Try.prog 9 #[.slice A0 p.length c0, .slice A1 xs.length c1] w fun e w' => e = .returned (.bool true) ∧ Below w.heap.size w w' := by
  have hB := Below.refl w.heap.size w
  have R0 := Lib.hid r0; have R1 := Lib.hid r1; clear r0 r1
  rcases h with h | ⟨h1, h | ⟨h2, h | ⟨h3, h⟩⟩⟩
  · have HF := Lib.hid h; clear h
    go_enter Try.func9, Try.ntmps9
    go_wp2_with (first
      | (go_at_call 15; refine (awake_any _).mono ?_; rintro e w1 ⟨rfl, h'⟩; replace hB := on hB h'; clear h')
      | (go_at_call 16; refine (few_any A1 c1 xs _ (R1.out.on hB) m1).mono ?_; rintro e w2 ⟨rfl, rfl⟩; rw [HF.out]))
    go_ret
    exact ⟨rfl, hB⟩
  · have HF := Lib.hid h1; clear h1
    have h' : 8 < (p.length : Int) := by omega
    go_enter Try.func9, Try.ntmps9
    go_wp2_with (first
      | (go_at_call 15; refine (awake_any _).mono ?_; rintro e w1 ⟨rfl, h'⟩; replace hB := on hB h'; clear h')
      | (go_at_call 16; refine (few_any A1 c1 xs _ (R1.out.on hB) m1).mono ?_; rintro e w2 ⟨rfl, rfl⟩; rw [HF.out]))
    go_ret
    exact ⟨rfl, hB⟩
  · have HF := Lib.hid h1; clear h1
    have h' : ¬ 8 < (p.length : Int) := by omega
    have h'' : (p.length : Int) = 0 := by omega
    go_enter Try.func9, Try.ntmps9
    go_wp2_with (first
      | (go_at_call 15; refine (awake_any _).mono ?_; rintro e w1 ⟨rfl, h'⟩; replace hB := on hB h'; clear h')
      | (go_at_call 16; refine (few_any A1 c1 xs _ (R1.out.on hB) m1).mono ?_; rintro e w2 ⟨rfl, rfl⟩; rw [HF.out]))
    go_ret
    exact ⟨rfl, hB⟩
  · have HF := Lib.hid h1; have HP := Lib.hid h; clear h1 h
    have h' : ¬ 8 < (p.length : Int) := by omega
    have h'' : ¬ (p.length : Int) = 0 := by omega
    go_enter Try.func9, Try.ntmps9
    go_wp2_with (first
      | (go_at_call 15; refine (awake_any _).mono ?_; rintro e w1 ⟨rfl, h'⟩; replace hB := on hB h'; clear h')
      | (go_at_call 16; refine (few_any A1 c1 xs _ (R1.out.on hB) m1).mono ?_; rintro e w2 ⟨rfl, rfl⟩; rw [HF.out])
      | (go_at_call 32; refine (refPerm_any _ c0 p _ (R0.out.on hB) (by omega)).mono ?_; rintro e w2 ⟨rfl, rfl⟩; rw [HP.out]))
    go_ret
    exact ⟨rfl, hB⟩
set_option maxRecDepth 20000 in
set_option maxHeartbeats 16000000 in
theorem walk_yes (A0 A1 : Option Addr) (c0 c1 : Nat) (p : List Int) (xs : List Sl) (w : World) (r0 : RdI w A0 p) (r1 : RdL w A1 xs) (m1 : xs.length ≤ maxLen)
    (hf : fewB (lsOf xs) = true) (h8 : p.length ≤ 8) (hp0 : p.length ≠ 0) (hp : permB p = true) :
    Calls Try.prog 9 #[.slice A0 p.length c0, .slice A1 xs.length c1] w fun e w' => e = .returned (.bool true) ∧ Below w.heap.size w w' := by
  have hB := Below.refl w.heap.size w
  have R0 := Lib.hid r0; have R1 := Lib.hid r1; clear r0 r1
  have hf2 := (fewB_yes hf).2
  have hlen : (lsOf xs).length = xs.length := by simp [lsOf]
  rw [hlen] at hf2
  have HF := Lib.hid hf; have HP := Lib.hid hp; clear hf
  have h' : ¬ 8 < (p.length : Int) := by omega
  have h'' : ((p.length : Int) == 0) = false := by rw [beq_eq_false_iff_ne]; omega
  obtain ⟨pb, po, rfl, hpb, hprow⟩ := R0.out.row (by omega)
  have hq0 := List.getElem?_eq_getElem (show 0 < p.length by omega)
  have hqin := inR_iff.1 ((perm_iff.1 hp).1 p[0] (List.getElem_mem _))
  obtain ⟨q, hq⟩ := Int.eq_ofNat_of_zero_le hqin.1
  rw [hq] at hq0 hqin
  have hql : q < p.length := by omega
  have cp0 : w.cell? ⟨pb, po, none⟩ = some (.int .i64 (q : Int)) := by have := hprow 0 _ hq0; simpa using this
  have HQ := Lib.hid hq0; have CP := Lib.hid cp0; clear hq hq0 hqin hprow cp0 hp
  go_enter Try.func9, Try.ntmps9
  go_wp2_with (first
    | (go_at_call 15; refine (awake_any _).mono ?_; rintro e w1 ⟨rfl, h'⟩; replace hB := on hB h'; clear h')
    | (go_at_call 16; refine (few_any A1 c1 xs _ (R1.out.on hB) m1).mono ?_; rintro e w2 ⟨rfl, rfl⟩; rw [HF.out])
    | (go_at_call 32; refine (refPerm_any _ c0 p _ (R0.out.on hB) (by omega)).mono ?_; rintro e w2 ⟨rfl, rfl⟩; rw [HP.out])
    | (go_at_call 17; refine (new_any _ c0 p _ h8 (R0.out.on hB) HP.out).mono ?_; rintro e w3 ⟨g, P1, cp1, rfl, N1⟩; have hT := Lib.hid (OneT.start N1 hB HP.out h8); clear N1 hB))
  go_loopw [41] (fun v wr => ∃ (k : Nat), v = .int .i64 (k : Nat) ∧ k ≤ xs.length ∧ OneT w g p (puts p ((lsOf xs).take k)) wr) (fun v _ => xs.length - (intOf v).toNat)
  case atStart => exact ⟨0, rfl, Nat.zero_le _, hT.out⟩
  case round =>
    obtain ⟨k, rfl, hk, hD⟩ := hrel
    clear hT
    have HD := Lib.hid hD; clear hD
    by_cases hlt : k < xs.length
    · obtain ⟨ab, ao, rfl, hab, hrow⟩ := R1.out.row (by omega)
      have hx := List.getElem?_eq_getElem hlt
      generalize xs[k] = x at hx
      have cx := (keep HD.out.b _ _ hab).trans (hrow k x hx)
      have HX := Lib.hid (lsOf_at hx)
      have rx := Lib.hid (R1.out.each x (List.mem_of_getElem? hx))
      have hl1 : (puts p ((lsOf xs).take k)).length < 100000 := by have := puts_len p ((lsOf xs).take k); rw [List.length_take] at this; omega
      have HL1 := Lib.hid hl1
      clear hrow hx hl1
      go_wp2_with (go_at_call 19; refine (putS_any x.A x.c x.l _ HD.out.t (rx.out.1.on HD.out.b) HL1.out HD.out.x).mono ?_; rintro e w5 ⟨rfl, ht, hF⟩; rw [← puts_next HX.out] at ht; have hE := Lib.hid (HD.out.put ht hF); clear HD ht)
      go_roundw
      case rel => exact ⟨k + 1, by go_num, by omega, hE.out⟩
      case measure => simp [intOf]; omega
    · obtain rfl : k = xs.length := by omega
      rw [List.take_of_length_le (by omega)] at HD
      have hpl := puts_len p (lsOf xs)
      rw [hlen] at hpl
      have HFS := Lib.hid ((puts_fit p (lsOf xs)).short (by omega))
      generalize puts p (lsOf xs) = M at HD hpl HFS
      go_wp2_with (first
        | (go_at_call 26; refine (allS_any _ HD.out.t HD.out.x).mono ?_; rintro e w5 ⟨gf, lb, rfl, hen, hq, hb⟩; replace HD := Lib.hid (HD.out.on hb); replace hq := Lib.hid hq; replace hen := Lib.hid hen; clear hb)
        | (go_at_call 25; refine (toldS_any _ hen.out hq.out HD.out.x (by omega) HFS.out).mono ?_; rintro e w6 ⟨A, c, zs, rfl, hz, hb, _, hrt⟩; replace HD := Lib.hid (HD.out.on hb); have HZ := Lib.hid hz; have HRT := Lib.hid hrt; clear hq hen hb hz hrt))
      have HW := Lib.hid (ws_lists 1 HP.out HD.out.t.fit)
      have hzl : zs.length = M.length := HZ.out.len
      go_loopw [9, 56] (fun u v wr => ∃ (k : Nat) (ys : List Sl) (A2 : Option Addr) (c2 : Nat), v = .int .i64 (k : Nat) ∧ k ≤ M.length ∧ u = .slice A2 ys.length c2 ∧ PartI (· = g) w6 ys A2 c2 wr ∧ (k = 0 → ys = []) ∧ (∀ a, k ≠ 0 → M[k - 1]? = some a → lsOf ys = upT (p.take 1) a M)) (fun _ v _ => M.length - (intOf v).toNat)
      case atStart => exact ⟨0, [], none, 0, rfl, Nat.zero_le _, rfl, ⟨Below.refl _ _, own_nil _ _ _ _, (fun y hy => by cases hy)⟩, fun _ => rfl, fun a h => absurd rfl h⟩
      case round =>
        obtain ⟨k, ys, A2, c2, rfl, hk, rfl, hP, hP0, hPk⟩ := hrel
        have HPI := Lib.hid hP; have HP0 := Lib.hid hP0; have HPK := Lib.hid hPk
        clear hP hP0 hPk
        by_cases hlt : k < M.length
        · skip
          obtain ⟨zb, zo, hze, hzb, hrow⟩ := (HZ.out.on HPI.out.b).rd.row (by omega)
          cases hze
          have hx := List.getElem?_eq_getElem (show k < zs.length by omega)
          generalize zs[k] = x at hx
          have cx := hrow k x hx
          have HX := Lib.hid (HZ.out.at_ hx)
          have hxl := HD.out.t.fit.lens x.l (List.mem_of_getElem? HX.out)
          have hxo := (HRT.out.each x (List.mem_of_getElem? hx)).on HPI.out.b
          obtain ⟨xb, xo, hxA, hxb, hxrow⟩ := rdV_row hxo.rd (by omega)
          have hv := List.getElem?_eq_getElem (show q < x.l.length by omega)
          generalize x.l[q] = v at hv
          obtain ⟨v0, v1, v2⟩ := hxrow q v hv
          have hcap := hxo.cap
          rw [hxA] at cx
          rw [hxl] at cx hcap
          have HV := Lib.hid (pick_one HQ.out hv)
          have HRV := Lib.hid (show RdV wr (some ⟨xb, xo + q * 3, none⟩) [v] from fun i u hu => by
            cases i with
            | zero => simp at hu; subst hu; exact ⟨xb, xo + q * 3, rfl, hxb, by simpa [CellsV] using ⟨v0, v1, v2⟩⟩
            | succ i => simp at hu)
          have cp1 := (keep (on HD.out.b HPI.out.b) _ _ hpb).trans CP.out
          have hpb' : pb < wr.heap.size := Nat.lt_of_lt_of_le hpb (on HD.out.b HPI.out.b).size
          clear hxo
          have hne : ¬ x.c = q := by omega
          have hq1 : (0 : Int) ≤ (q : Int) := by omega
          have hq2 : (q : Int) ≤ (q : Int) + 1 := by omega
          have hq3 : (q : Int) + 1 ≤ (x.c : Int) := by omega
          have hq4 : IntKind.i64.wrap ((q : Int) + 1) = (q : Int) + 1 := by rw [IntKind.wrap_i64]; omega
          have hq5 : (0 : Int) ≤ (q : Int) + 1 := by omega
          have hq6 : ((q : Int) + 1).toNat = q + 1 := by omega
          have hk1 : (0 : Int) ≤ (k : Int) := by omega
          have hk2 : (k : Int) < (M.length : Int) := by omega
          have hp1 : (0 : Int) < (p.length : Int) := by omega
          have hp2 : 0 < p.length := by omega
          have HXM := Lib.hid (List.mem_of_getElem? HX.out)
          have HLB := Lib.hid (show (beg p [v] M).length ≤ 1000000 from by have := beg_len p [v] M; omega)
          have HFB := Lib.hid (beg_short (p := p) (hd := [v]) HFS.out)
          have HPOS := Lib.hid (show 0 < (beg p [v] M).length by
            rw [beg_first HV.out]
            exact List.length_pos_iff.2 (fun e => by
              have : x.l ∈ M.filter fun y => cmpC (p.take 1) y x.l == 0 := List.mem_filter.2 ⟨HXM.out, by rw [cmpC_self]; rfl⟩
              rw [e] at this; cases this))
          have HYL := Lib.hid (show ys.length ≤ 1000 by
            have e : ys.length = (lsOf ys).length := by simp [lsOf]
            rcases Nat.eq_zero_or_pos k with h0 | h0
            · rw [HP0.out h0]; simp
            · have ha := List.getElem?_eq_getElem (show k - 1 < M.length by omega)
              rw [e, HPK.out _ (by omega) ha]
              have := List.length_filter_le (fun y => cmpC (p.take 1) y M[k - 1] == -1 || cmpC (p.take 1) y M[k - 1] == 0) M
              unfold upT; omega)
          have HFR : Hid (∀ (c : Nat) (W : World), Below wr.heap.size wr W → Calls Try.prog 27 #[.pointer (some ⟨g, 0, none⟩), .slice (some ⟨xb, xo + q * 3, none⟩) 1 c] W (SaysQ (· = g) (beg p [v] M) W)) := Lib.hid (fun c W hW => by
            have hT := (HD.out.on HPI.out.b).on hW
            exact fromS_any (some ⟨xb, xo + q * 3, none⟩) c [v] W hT.t (HRV.out.on hW) (by simp; omega) hT.x)
          obtain ⟨i1, yi0, yz0, yz1, yz2⟩ := info_parts info_tup
          have dx : ∀ n, (wr.drewN n).cell? ⟨zb, zo + k, none⟩ = some (.slice (some ⟨xb, xo, none⟩) p.length x.c) := fun n => (keep (bel_drawN wr n) _ _ hzb).trans cx
          have dp : ∀ n, (wr.drewN n).cell? ⟨pb, po, none⟩ = some (.int .i64 (q : Int)) := fun n => (keep (bel_drawN wr n) _ _ hpb').trans cp1
          rcases Nat.eq_zero_or_pos k with h0 | h0
          · subst h0
            have HUP := Lib.hid (show lsOf ys ++ beg p [v] M = upT (p.take 1) x.l M by
              rw [HP0.out rfl, part_first HW.out HX.out, beg_first HV.out]; rfl)
            have cx' : wr.cell? ⟨zb, zo, none⟩ = some (.slice (some ⟨xb, xo, none⟩) p.length x.c) := by simpa using cx
            clear dx dp hrow hxrow hx
            go_wp2_with fail
            go_quiet (fail)
            all_goals
              go_wp2_with fail
              go_region_law (first
                | (refine step_append_lies _ rfl (.tmp 83) (.tmp 98) 23 rfl w6.heap.size 24 i1 _ 1 24 Try.underlying23 yi0 yz0 yz1 yz2 rfl (by decide) (.slice A2 ys.length c2) ys.length (ys.map Sl.val) (by simp [Act.eval, Act.put]) ?_ ⟨tb, tq, none⟩ (beg p [v] M).length c9 (zs9.map Sl.val) (by simp [Act.eval, Act.put]) ?_ ?_ (tup_cells _) HPOS.out ?_ ?_ ?_ w9.heap.size rfl ?_; (exact own_on HPI.out.own (on (on (bel_drawN wr _) hbA) hbB)); (rw [List.length_map, HZ9.out.len]; omega); (exact HT9.out.rd.news); (have := HYL.out; have := HLB.out; unfold maxLen; omega); (have := HYL.out; have := HLB.out; omega); (have := HPI.out.b.size; have := (on (on (bel_drawN wr _) hbA) hbB).size; omega); intro g3 k3 w10 ho3 hg3 hor3 hlt3; replace ho3 := Lib.hid ho3; replace hg3 := Lib.hid hg3; clear hor3 hlt3)
                | (go_simp; go_at_call 27; refine (HFR.out _ _ ?_).mono ?_; (exact (bel_drawN wr _)); rintro e w8 ⟨gf, lb, rfl, hen, hq, hbA⟩; replace hq := Lib.hid hq; replace hen := Lib.hid hen; dsimp only)
                | (go_simp; go_at_call 25; refine (toldS_any _ hen.out hq.out ?_ HLB.out HFB.out).mono ?_; (exact ((HD.out.on HPI.out.b).on (on (bel_drawN wr _) hbA)).x); rintro e w9 ⟨A9, c9, zs9, rfl, hz, hbB, _, hrt⟩; obtain ⟨tb, tq, rfl, _, _⟩ := hz.rd.row (by rw [hz.len]; exact HPOS.out); have HZ9 := Lib.hid hz; have HT9 := Lib.hid hrt; clear hz hrt hq hen; dsimp only))
            all_goals
              have ho := ho3.out
              rw [← HZ9.out.len] at ho
              have HAP := Lib.hid ((HPI.out.on (on (on (bel_drawN wr _) hbA) hbB)).app (zs := zs9) (fun z hz => HT9.out.each z hz) ho hg3.out)
              clear ho
              go_wp2
              go_roundw
              case rel => exact ⟨0 + 1, ys ++ zs9, some ⟨g3, 0, none⟩, k3, by go_num, by omega, by rw [List.length_append, HZ9.out.len], HAP.out, fun h => absurd h (by omega), fun a _ ha => by
                have e : a = x.l := by have h1 : M[0]? = some a := ha; rw [HX.out] at h1; exact (Option.some.inj h1).symm
                subst e
                rw [← HUP.out, ← HZ9.out.e]; simp [lsOf]⟩
              case measure => simp [intOf]; omega
          · obtain ⟨j, rfl⟩ : ∃ j, k = j + 1 := ⟨k - 1, by omega⟩
            have hy := List.getElem?_eq_getElem (show j < zs.length by omega)
            generalize zs[j] = y at hy
            have cy := hrow j y hy
            have HY := Lib.hid (HZ.out.at_ hy)
            have hyl := HD.out.t.fit.lens y.l (List.mem_of_getElem? HY.out)
            have hyo := (HRT.out.each y (List.mem_of_getElem? hy)).on HPI.out.b
            obtain ⟨yb, yo, hyA, hyb, hyrow⟩ := rdV_row hyo.rd (by omega)
            have hu := List.getElem?_eq_getElem (show q < y.l.length by omega)
            generalize y.l[q] = u at hu
            obtain ⟨u0, u1, u2⟩ := hyrow q u hu
            rw [hyA] at cy
            rw [hyl] at cy
            have HUV := Lib.hid (pick_one HQ.out hu)
            have HPJ := Lib.hid (show lsOf ys = upT (p.take 1) y.l M from HPK.out y.l (by omega) HY.out)
            have hq7 : (q : Int) < (p.length : Int) := by omega
            have hq8 : q < p.length := by omega
            have hj9 : j < M.length := by omega
            have hj10 : j + 1 < M.length := by omega
            have hi1 : (0 : Int) ≤ (j : Int) := by omega
            have hi2 : (j : Int) < (M.length : Int) := by omega
            have hi3 : (0 : Int) ≤ (j : Int) + 1 := by omega
            have hi4 : ((j : Int) + 1).toNat = j + 1 := by omega
            have hi6 : (j : Int) + 1 < (M.length : Int) := by omega
            have hi7 : IntKind.i64.wrap (j : Int) = (j : Int) := by rw [IntKind.wrap_i64]; omega
            have hi8 : (((j : Int) + 1) == 0) = false := by rw [beq_eq_false_iff_ne]; omega
            clear hyo hu hy hyrow dx dp hxrow hrow hx
            obtain ⟨vk, vn, vs⟩ := v
            obtain ⟨uk, un, us⟩ := u
            simp only at v0 v1 v2 u0 u1 u2
            by_cases e1 : vk = uk
            · subst e1
              by_cases e2 : vn = un
              · subst e2
                by_cases e3 : vs = us
                · subst e3
                  have HSM := Lib.hid (show lsOf ys = upT (p.take 1) x.l M by
                    rw [HPJ.out]; exact (part_same ((one_zero HUV.out HV.out).2 rfl)).symm)
                  go_wp2_with fail
                  go_quiet (fail)
                  all_goals
                    go_wp2
                    go_roundw
                    case rel => exact ⟨j + 1 + 1, ys, A2, c2, by go_num, by omega, rfl, HPI.out.on (bel_drawN wr _), fun h => absurd h (by omega), fun a _ ha => by
                      have e : a = x.l := by have h1 : M[j + 1]? = some a := ha; rw [HX.out] at h1; exact (Option.some.inj h1).symm
                      subst e
                      exact HSM.out⟩
                    case measure => simp [intOf]; omega
                · have hb3 : (vs.toList == us.toList) = false := by rw [str_eq]; simpa using e3
                  have HUP := Lib.hid (show lsOf ys ++ beg p [⟨vk, vn, vs⟩] M = upT (p.take 1) x.l M by
                    rw [HPJ.out, part_next HW.out HY.out HX.out (fun h => by have := (one_zero HUV.out HV.out).1 h; simp only [V.mk.injEq, true_and] at this; exact e3 this.symm), beg_first HV.out])
                  clear e3
                  go_wp2_with fail
                  go_quiet (fail)
                  all_goals
                    go_wp2_with fail
                    go_region_law (first
                      | (refine step_append_lies _ rfl (.tmp 83) (.tmp 98) 23 rfl w6.heap.size 24 i1 _ 1 24 Try.underlying23 yi0 yz0 yz1 yz2 rfl (by decide) (.slice A2 ys.length c2) ys.length (ys.map Sl.val) (by simp [Act.eval, Act.put]) ?_ ⟨tb, tq, none⟩ (beg p [⟨vk, vn, vs⟩] M).length c9 (zs9.map Sl.val) (by simp [Act.eval, Act.put]) ?_ ?_ (tup_cells _) HPOS.out ?_ ?_ ?_ w9.heap.size rfl ?_; (exact own_on HPI.out.own (on (on (bel_drawN wr _) hbA) hbB)); (rw [List.length_map, HZ9.out.len]; omega); (exact HT9.out.rd.news); (have := HYL.out; have := HLB.out; unfold maxLen; omega); (have := HYL.out; have := HLB.out; omega); (have := HPI.out.b.size; have := (on (on (bel_drawN wr _) hbA) hbB).size; omega); intro g3 k3 w10 ho3 hg3 hor3 hlt3; replace ho3 := Lib.hid ho3; replace hg3 := Lib.hid hg3; clear hor3 hlt3)
                      | (go_simp; go_at_call 27; refine (HFR.out _ _ ?_).mono ?_; (exact (bel_drawN wr _)); rintro e w8 ⟨gf, lb, rfl, hen, hq, hbA⟩; replace hq := Lib.hid hq; replace hen := Lib.hid hen; dsimp only)
                      | (go_simp; go_at_call 25; refine (toldS_any _ hen.out hq.out ?_ HLB.out HFB.out).mono ?_; (exact ((HD.out.on HPI.out.b).on (on (bel_drawN wr _) hbA)).x); rintro e w9 ⟨A9, c9, zs9, rfl, hz, hbB, _, hrt⟩; obtain ⟨tb, tq, rfl, _, _⟩ := hz.rd.row (by rw [hz.len]; exact HPOS.out); have HZ9 := Lib.hid hz; have HT9 := Lib.hid hrt; clear hz hrt hq hen; dsimp only))
                  all_goals
                    have ho := ho3.out
                    rw [← HZ9.out.len] at ho
                    have HAP := Lib.hid ((HPI.out.on (on (on (bel_drawN wr _) hbA) hbB)).app (zs := zs9) (fun z hz => HT9.out.each z hz) ho hg3.out)
                    clear ho
                    go_wp2
                    go_roundw
                    case rel => exact ⟨(j + 1) + 1, ys ++ zs9, some ⟨g3, 0, none⟩, k3, by go_num, by omega, by rw [List.length_append, HZ9.out.len], HAP.out, fun h => absurd h (by omega), fun a _ ha => by
                      have e : a = x.l := by have h1 : M[(j + 1)]? = some a := ha; rw [HX.out] at h1; exact (Option.some.inj h1).symm
                      subst e
                      rw [← HUP.out, ← HZ9.out.e]; simp [lsOf]⟩
                    case measure => simp [intOf]; omega
              · have hb2 : (vn == un) = false := by simpa using e2
                have HUP := Lib.hid (show lsOf ys ++ beg p [⟨vk, vn, vs⟩] M = upT (p.take 1) x.l M by
                  rw [HPJ.out, part_next HW.out HY.out HX.out (fun h => by have := (one_zero HUV.out HV.out).1 h; simp only [V.mk.injEq, true_and] at this; exact e2 this.1.symm), beg_first HV.out])
                clear e2
                go_wp2_with fail
                go_quiet (fail)
                all_goals
                  go_wp2_with fail
                  go_region_law (first
                    | (refine step_append_lies _ rfl (.tmp 83) (.tmp 98) 23 rfl w6.heap.size 24 i1 _ 1 24 Try.underlying23 yi0 yz0 yz1 yz2 rfl (by decide) (.slice A2 ys.length c2) ys.length (ys.map Sl.val) (by simp [Act.eval, Act.put]) ?_ ⟨tb, tq, none⟩ (beg p [⟨vk, vn, vs⟩] M).length c9 (zs9.map Sl.val) (by simp [Act.eval, Act.put]) ?_ ?_ (tup_cells _) HPOS.out ?_ ?_ ?_ w9.heap.size rfl ?_; (exact own_on HPI.out.own (on (on (bel_drawN wr _) hbA) hbB)); (rw [List.length_map, HZ9.out.len]; omega); (exact HT9.out.rd.news); (have := HYL.out; have := HLB.out; unfold maxLen; omega); (have := HYL.out; have := HLB.out; omega); (have := HPI.out.b.size; have := (on (on (bel_drawN wr _) hbA) hbB).size; omega); intro g3 k3 w10 ho3 hg3 hor3 hlt3; replace ho3 := Lib.hid ho3; replace hg3 := Lib.hid hg3; clear hor3 hlt3)
                    | (go_simp; go_at_call 27; refine (HFR.out _ _ ?_).mono ?_; (exact (bel_drawN wr _)); rintro e w8 ⟨gf, lb, rfl, hen, hq, hbA⟩; replace hq := Lib.hid hq; replace hen := Lib.hid hen; dsimp only)
                    | (go_simp; go_at_call 25; refine (toldS_any _ hen.out hq.out ?_ HLB.out HFB.out).mono ?_; (exact ((HD.out.on HPI.out.b).on (on (bel_drawN wr _) hbA)).x); rintro e w9 ⟨A9, c9, zs9, rfl, hz, hbB, _, hrt⟩; obtain ⟨tb, tq, rfl, _, _⟩ := hz.rd.row (by rw [hz.len]; exact HPOS.out); have HZ9 := Lib.hid hz; have HT9 := Lib.hid hrt; clear hz hrt hq hen; dsimp only))
                all_goals
                  have ho := ho3.out
                  rw [← HZ9.out.len] at ho
                  have HAP := Lib.hid ((HPI.out.on (on (on (bel_drawN wr _) hbA) hbB)).app (zs := zs9) (fun z hz => HT9.out.each z hz) ho hg3.out)
                  clear ho
                  go_wp2
                  go_roundw
                  case rel => exact ⟨(j + 1) + 1, ys ++ zs9, some ⟨g3, 0, none⟩, k3, by go_num, by omega, by rw [List.length_append, HZ9.out.len], HAP.out, fun h => absurd h (by omega), fun a _ ha => by
                    have e : a = x.l := by have h1 : M[(j + 1)]? = some a := ha; rw [HX.out] at h1; exact (Option.some.inj h1).symm
                    subst e
                    rw [← HUP.out, ← HZ9.out.e]; simp [lsOf]⟩
                  case measure => simp [intOf]; omega
            · have hb1 : (vk == uk) = false := by simpa using e1
              have HUP := Lib.hid (show lsOf ys ++ beg p [⟨vk, vn, vs⟩] M = upT (p.take 1) x.l M by
                rw [HPJ.out, part_next HW.out HY.out HX.out (fun h => by have := (one_zero HUV.out HV.out).1 h; simp only [V.mk.injEq] at this; exact e1 this.1.symm), beg_first HV.out])
              clear e1
              go_wp2_with fail
              go_quiet (fail)
              all_goals
                go_wp2_with fail
                go_region_law (first
                  | (refine step_append_lies _ rfl (.tmp 83) (.tmp 98) 23 rfl w6.heap.size 24 i1 _ 1 24 Try.underlying23 yi0 yz0 yz1 yz2 rfl (by decide) (.slice A2 ys.length c2) ys.length (ys.map Sl.val) (by simp [Act.eval, Act.put]) ?_ ⟨tb, tq, none⟩ (beg p [⟨vk, vn, vs⟩] M).length c9 (zs9.map Sl.val) (by simp [Act.eval, Act.put]) ?_ ?_ (tup_cells _) HPOS.out ?_ ?_ ?_ w9.heap.size rfl ?_; (exact own_on HPI.out.own (on (on (bel_drawN wr _) hbA) hbB)); (rw [List.length_map, HZ9.out.len]; omega); (exact HT9.out.rd.news); (have := HYL.out; have := HLB.out; unfold maxLen; omega); (have := HYL.out; have := HLB.out; omega); (have := HPI.out.b.size; have := (on (on (bel_drawN wr _) hbA) hbB).size; omega); intro g3 k3 w10 ho3 hg3 hor3 hlt3; replace ho3 := Lib.hid ho3; replace hg3 := Lib.hid hg3; clear hor3 hlt3)
                  | (go_simp; go_at_call 27; refine (HFR.out _ _ ?_).mono ?_; (exact (bel_drawN wr _)); rintro e w8 ⟨gf, lb, rfl, hen, hq, hbA⟩; replace hq := Lib.hid hq; replace hen := Lib.hid hen; dsimp only)
                  | (go_simp; go_at_call 25; refine (toldS_any _ hen.out hq.out ?_ HLB.out HFB.out).mono ?_; (exact ((HD.out.on HPI.out.b).on (on (bel_drawN wr _) hbA)).x); rintro e w9 ⟨A9, c9, zs9, rfl, hz, hbB, _, hrt⟩; obtain ⟨tb, tq, rfl, _, _⟩ := hz.rd.row (by rw [hz.len]; exact HPOS.out); have HZ9 := Lib.hid hz; have HT9 := Lib.hid hrt; clear hz hrt hq hen; dsimp only))
              all_goals
                have ho := ho3.out
                rw [← HZ9.out.len] at ho
                have HAP := Lib.hid ((HPI.out.on (on (on (bel_drawN wr _) hbA) hbB)).app (zs := zs9) (fun z hz => HT9.out.each z hz) ho hg3.out)
                clear ho
                go_wp2
                go_roundw
                case rel => exact ⟨(j + 1) + 1, ys ++ zs9, some ⟨g3, 0, none⟩, k3, by go_num, by omega, by rw [List.length_append, HZ9.out.len], HAP.out, fun h => absurd h (by omega), fun a _ ha => by
                  have e : a = x.l := by have h1 : M[(j + 1)]? = some a := ha; rw [HX.out] at h1; exact (Option.some.inj h1).symm
                  subst e
                  rw [← HUP.out, ← HZ9.out.e]; simp [lsOf]⟩
                case measure => simp [intOf]; omega
        · obtain rfl : k = M.length := by omega
          have hlt' : ¬ (M.length : Int) < (M.length : Int) := by omega
          have HE := Lib.hid (show lsOf ys = M by
            rcases Nat.eq_zero_or_pos M.length with h0 | h0
            · rw [HP0.out h0, List.eq_nil_of_length_eq_zero h0]; rfl
            · have ha := List.getElem?_eq_getElem (show M.length - 1 < M.length by omega)
              rw [HPK.out _ (by omega) ha, part_last HW.out ha (by omega)])
          have hyl : ys.length = M.length := by rw [← HE.out]; simp [lsOf]
          have HR := Lib.hid (show ToldR wr A2 c2 ys M from ⟨⟨own_rdC HPI.out.own, fun y hy => ⟨(HPI.out.each y hy).rd, by
            have := HFS.out y.l (by rw [← HE.out]; exact List.mem_map_of_mem hy)
            unfold maxLen; omega⟩⟩, HE.out, by rw [← hyl]; exact (own_cap HPI.out.own).1, (own_cap HPI.out.own).2, fun _ _ => Nat.zero_le _⟩)
          rw [hyl]
          go_wp2_with (go_at_call 24; refine (sameR_any HR.out (HZ.out.on HPI.out.b) (by unfold maxLen; omega)).mono ?_; rintro e w10 ⟨rfl, hb⟩)
          go_ret
          exact ⟨rfl, on (on HD.out.b HPI.out.b) hb⟩
theorem walk (A0 : Option Addr) (c0 : Nat) (p : List Int) (A1 : Option Addr) (c1 : Nat) (xs : List Sl) (w : World) (r0 : RdI w A0 p) (q0 : p.length ≤ c0) (m0 : p.length ≤ maxLen) (z0 : A0 = none → c0 = 0) (r1 : RdL w A1 xs) (m1 : xs.length ≤ maxLen) (q1 : xs.length ≤ c1) :
    Calls Try.prog 9 #[.slice A0 p.length c0, .slice A1 xs.length c1] w fun e w' => e = .returned (.bool true) ∧ Below w.heap.size w w' := by
  by_cases h : fewB (lsOf xs) = true ∧ p.length ≤ 8 ∧ p.length ≠ 0 ∧ permB p = true
  · exact walk_yes A0 A1 c0 c1 p xs w r0 r1 m1 h.1 h.2.1 h.2.2.1 h.2.2.2
  · refine walk_off A0 A1 c0 c1 p xs w r0 r1 m1 ?_
    by_cases h1 : fewB (lsOf xs) = true
    · refine .inr ⟨h1, ?_⟩
      by_cases h2 : 8 < p.length
      · exact .inl h2
      · refine .inr ⟨by omega, ?_⟩
        by_cases h3 : p.length = 0
        · exact .inl h3
        · refine .inr ⟨h3, ?_⟩
          cases hb : permB p with
          | false => rfl
          | true => exact absurd ⟨h1, by omega, h3, hb⟩ h
    · exact .inl (by simpa using h1)

theorem own : ownKnob Try.prog.godebug = none := by kernel_rfl

set_option maxRecDepth 100000 in
theorem lifted (os : Os) (started : os.Started) (H : Type) (enc : TypeId × Value → H) :
    ReturnsInHanded {} Try.checked os 9 .any (Rows.btreePartsSpec.pre6 enc Try.prog Try.f9 Rows.btreePartsRow.domain false) (Rows.btreePartsSpec.post enc Try.prog Try.f9 false true false false) := by
  refine returnsInHanded_of_change (C := Try.checked) own started (by kernel_rfl) Try.func9
    (ChangeSpec.witness6 (enc := enc) (C := Try.checked) false ⟨#[], #[.slice none 0 0, .slice none 0 0], []⟩ 8 (by kernel_rfl) (by kernel_rfl) (by kernel_rfl) (by kernel_rfl)) ?_
  intro W base args ds gs before hval0 hW hcnd _
  have hval : ∀ (j : Nat) t v, Try.f9.params[j]? = some t → args[j]? = some v → Value.okWide Try.prog W .any base t v := hval0
  have hW' := hW
  obtain ⟨p, q, hA0, hV, rfl, hfz, hnd⟩ := hW
  have hA : DataW.TrodAll enc Try.prog W 0 (fun _ => true) true Try.f9.params.toList args.toList ds p := hA0
  have hAk := hA
  rw [Try.params9] at hA hval
  obtain ⟨v0, vs0, d0, ds0, p0, q0, hargs, rfl, rfl, h0, r0⟩ := trodAll_cons hA
  obtain ⟨v1, vs1, d1, ds1, p1, q1, rfl, rfl, rfl, h1, r1⟩ := trodAll_cons r0
  obtain ⟨rfl, rfl, rfl⟩ := trodAll_nil r1
  obtain rfl : args = #[v0, v1] := by cases args; simp_all
  obtain ⟨rfl, rfl⟩ := trodVars_none hV
  obtain ⟨A0, c0, l0, rfl, r0', q0', m0', z0'⟩ := open_nums (okWide_slice Try.underlying22 (hval 0 22 v0 rfl rfl)) h0
  obtain ⟨A1, c1, l1, rfl, r1', m1', q1'⟩ := open_tups (okWide_slice Try.underlying23 (hval 1 23 v1 rfl rfl)) h1
  clear hA0 hval0
  refine (walk A0 c0 l0 A1 c1 l1 W r0' q0' m0' z0' r1' m1' q1').mono fun e W' ⟨he, hg⟩ => ?_
  subst he
  refine ⟨_, rfl, post_old hW' (by simpa using hAk) (by rw [Try.params9]; decide) (fun _ _ _ => (trodAll_cons_mk (shut_bool Try.underlying4 _) trodAll_mk0)) rfl (fun _ => rfl) hg⟩

theorem proved : Rows.BtreePartsSaid :=
  OpenClaim.holds_of_wide 9 Try.f9 rfl rfl rfl rfl rfl rfl rfl ⟨rfl, rfl, rfl, rfl, rfl⟩ rfl rfl rfl rfl rfl (by kernel_rfl) Try.func9 (by kernel_rfl)
    (of_decide_eq_true (by kernel_rfl)) (by unfold Func.isWrapper; first | (rw [if_pos (by decide +kernel)]; kernel_rfl) | (rw [if_neg (by decide +kernel)]; exact ⟨rfl, rfl⟩))
    (fun os started H enc _ => lifted os started H enc)
#print axioms proved
end Go.Proofs.Ytdpflmbnomeaaaa.btreeParts

/-
  BtreeMerge (layer 4, btree): for every p, q, l and m the call returns true: what is merged is there, as if each tuple had been put; it is told how many weren't; the other one stays as it is. No condition.
-/
import Derived.Test.YtdpflmbnomeaaaaRows
import Derived.Test.YtdpflmbnomeaaaaBtTri
import Derived.Test.YtdpflmbnomeaaaaBtOpen
import Derived.Test.YtdpflmbnomeaaaaBtAwake
import Derived.WalkKit
import Derived.ProofKit
import Derived.OpenShut
namespace Go.Proofs.Ytdpflmbnomeaaaa.btreeMerge
open Go.ChangeShapes Go.WideShapes Go.ChangeAt Go.RowKit FloM ValM
set_option linter.unusedVariables false
set_option linter.unusedSimpArgs false
set_option maxHeartbeats 4000000 in
theorem walk_off (A0 A1 A2 A3 : Option Addr) (c0 c1 c2 c3 : Nat) (p q : List Int) (xs ys : List Sl) (w : World) (r2 : RdL w A2 xs) (m2 : xs.length ≤ maxLen) (r3 : RdL w A3 ys) (m3 : ys.length ≤ maxLen)
    (h : fewB (lsOf xs) = false ∨ fewB (lsOf xs) = true ∧ (fewB (lsOf ys) = false ∨ fewB (lsOf ys) = true ∧ (8 < p.length ∨ p.length ≤ 8 ∧ 8 < q.length))) :
    Calls Try.prog 7 #[.slice A0 p.length c0, .slice A1 q.length c1, .slice A2 xs.length c2, .slice A3 ys.length c3] w fun e w' => e = .returned (.bool true) ∧ Below w.heap.size w w' := by
  have hB := Below.refl w.heap.size w
  have R2 := Lib.hid r2; have R3 := Lib.hid r3; clear r2 r3
  rcases h with h | ⟨h1, h | ⟨h2, h | ⟨h, h'⟩⟩⟩
  · have HF := Lib.hid h; clear h
    go_enter Try.func7, Try.ntmps7
    go_wp2_with (first
      | (go_at_call 15; refine (awake_any _).mono ?_; rintro e w1 ⟨rfl, h'⟩; replace hB := on hB h'; clear h')
      | (go_at_call 16; first | ((with_reducible refine (few_any A2 c2 xs _ (R2.out.on hB) m2).mono ?_); rintro e w2 ⟨rfl, rfl⟩; rw [HF.out]) | ((with_reducible refine (few_any A3 c3 ys _ (R3.out.on hB) m3).mono ?_); rintro e w2 ⟨rfl, rfl⟩; rw [HG.out])))
    go_ret
    exact ⟨rfl, hB⟩
  · have HF := Lib.hid h1; have HG := Lib.hid h; clear h1 h
    go_enter Try.func7, Try.ntmps7
    go_wp2_with (first
      | (go_at_call 15; refine (awake_any _).mono ?_; rintro e w1 ⟨rfl, h'⟩; replace hB := on hB h'; clear h')
      | (go_at_call 16; first | ((with_reducible refine (few_any A2 c2 xs _ (R2.out.on hB) m2).mono ?_); rintro e w2 ⟨rfl, rfl⟩; rw [HF.out]) | ((with_reducible refine (few_any A3 c3 ys _ (R3.out.on hB) m3).mono ?_); rintro e w2 ⟨rfl, rfl⟩; rw [HG.out])))
    go_ret
    exact ⟨rfl, hB⟩
  · have HF := Lib.hid h1; have HG := Lib.hid h2; clear h1 h2
    have h' : 8 < (p.length : Int) := by omega
    go_enter Try.func7, Try.ntmps7
    go_wp2_with (first
      | (go_at_call 15; refine (awake_any _).mono ?_; rintro e w1 ⟨rfl, h'⟩; replace hB := on hB h'; clear h')
      | (go_at_call 16; first | ((with_reducible refine (few_any A2 c2 xs _ (R2.out.on hB) m2).mono ?_); rintro e w2 ⟨rfl, rfl⟩; rw [HF.out]) | ((with_reducible refine (few_any A3 c3 ys _ (R3.out.on hB) m3).mono ?_); rintro e w2 ⟨rfl, rfl⟩; rw [HG.out])))
    go_ret
    exact ⟨rfl, hB⟩
  · have HF := Lib.hid h1; have HG := Lib.hid h2; clear h1 h2
    have h'' : ¬ 8 < (p.length : Int) := by omega
    have h3 : 8 < (q.length : Int) := by omega
    go_enter Try.func7, Try.ntmps7
    go_wp2_with (first
      | (go_at_call 15; refine (awake_any _).mono ?_; rintro e w1 ⟨rfl, h'⟩; replace hB := on hB h'; clear h')
      | (go_at_call 16; first | ((with_reducible refine (few_any A2 c2 xs _ (R2.out.on hB) m2).mono ?_); rintro e w2 ⟨rfl, rfl⟩; rw [HF.out]) | ((with_reducible refine (few_any A3 c3 ys _ (R3.out.on hB) m3).mono ?_); rintro e w2 ⟨rfl, rfl⟩; rw [HG.out])))
    go_ret
    exact ⟨rfl, hB⟩
set_option maxHeartbeats 4000000 in
theorem walk_no (A0 A1 A2 A3 : Option Addr) (c0 c1 c2 c3 : Nat) (p q : List Int) (xs ys : List Sl) (w : World) (r0 : RdI w A0 p) (r1 : RdI w A1 q) (r2 : RdL w A2 xs) (m2 : xs.length ≤ maxLen) (r3 : RdL w A3 ys) (m3 : ys.length ≤ maxLen)
    (hf : fewB (lsOf xs) = true) (hg : fewB (lsOf ys) = true) (h8 : p.length ≤ 8) (h9 : q.length ≤ 8) (hno : permB p = false ∨ permB p = true ∧ permB q = false) :
    Calls Try.prog 7 #[.slice A0 p.length c0, .slice A1 q.length c1, .slice A2 xs.length c2, .slice A3 ys.length c3] w fun e w' => e = .returned (.bool true) ∧ Below w.heap.size w w' := by
  have hB := Below.refl w.heap.size w
  have R0 := Lib.hid r0; have R1 := Lib.hid r1; have R2 := Lib.hid r2; have R3 := Lib.hid r3; clear r0 r1 r2 r3
  have HF := Lib.hid hf; have HG := Lib.hid hg; clear hf hg
  have h' : ¬ 8 < (p.length : Int) := by omega
  have h'' : ¬ 8 < (q.length : Int) := by omega
  rcases hno with hp | ⟨hp, hq⟩
  · have HP := Lib.hid (show newE p = 1 by unfold newE; rw [hp]; rfl)
    obtain ⟨nq, hq⟩ : ∃ nq, newE q = nq := ⟨_, rfl⟩
    have HQ := Lib.hid hq; clear hp hq
    go_enter Try.func7, Try.ntmps7
    go_wp2_with (first
      | (go_at_call 15; refine (awake_any _).mono ?_; rintro e w1 ⟨rfl, h'⟩; replace hB := on hB h'; clear h')
      | (go_at_call 16; first | ((with_reducible refine (few_any A2 c2 xs _ (R2.out.on hB) m2).mono ?_); rintro e w2 ⟨rfl, rfl⟩; rw [HF.out]) | ((with_reducible refine (few_any A3 c3 ys _ (R3.out.on hB) m3).mono ?_); rintro e w2 ⟨rfl, rfl⟩; rw [HG.out]))
      | (go_at_call 17; first
        | ((with_reducible refine (newX_any A0 c0 p _ h8 (R0.out.on hB)).mono ?_); rw [HP.out]; rintro e w3 ⟨r, rfl, h'⟩; replace hB := on hB h'; clear h')
        | ((with_reducible refine (newX_any A1 c1 q _ h9 (R1.out.on hB)).mono ?_); rw [HQ.out]; rintro e w3 ⟨r2, rfl, h'⟩; replace hB := on hB h'; clear h'))
      | (go_at_call 18; refine (refNewX_any A0 c0 p _ h8 (R0.out.on hB)).mono ?_; rintro e w4 ⟨r3, rfl, h'⟩; replace hB := on hB h'; clear h'))
    go_ret
    exact ⟨rfl, hB⟩
  · have HP := Lib.hid (show newE p = 0 by unfold newE; rw [hp]; rfl)
    have HQ := Lib.hid (show newE q = 1 by unfold newE; rw [hq]; rfl)
    clear hp hq
    go_enter Try.func7, Try.ntmps7
    go_wp2_with (first
      | (go_at_call 15; refine (awake_any _).mono ?_; rintro e w1 ⟨rfl, h'⟩; replace hB := on hB h'; clear h')
      | (go_at_call 16; first | ((with_reducible refine (few_any A2 c2 xs _ (R2.out.on hB) m2).mono ?_); rintro e w2 ⟨rfl, rfl⟩; rw [HF.out]) | ((with_reducible refine (few_any A3 c3 ys _ (R3.out.on hB) m3).mono ?_); rintro e w2 ⟨rfl, rfl⟩; rw [HG.out]))
      | (go_at_call 17; first
        | ((with_reducible refine (newX_any A0 c0 p _ h8 (R0.out.on hB)).mono ?_); rw [HP.out]; rintro e w3 ⟨r, rfl, h'⟩; replace hB := on hB h'; clear h')
        | ((with_reducible refine (newX_any A1 c1 q _ h9 (R1.out.on hB)).mono ?_); rw [HQ.out]; rintro e w3 ⟨r2, rfl, h'⟩; replace hB := on hB h'; clear h'))
      | (go_at_call 18; refine (refNewX_any A0 c0 p _ h8 (R0.out.on hB)).mono ?_; rintro e w4 ⟨r3, rfl, h'⟩; replace hB := on hB h'; clear h'))
    go_ret
    exact ⟨rfl, hB⟩
set_option maxRecDepth 20000 in
set_option maxHeartbeats 16000000 in
theorem walk_yes (A0 A1 A2 A3 : Option Addr) (c0 c1 c2 c3 : Nat) (p q : List Int) (xs ys : List Sl) (w : World) (r0 : RdI w A0 p) (r1 : RdI w A1 q) (r2 : RdL w A2 xs) (m2 : xs.length ≤ maxLen) (r3 : RdL w A3 ys) (m3 : ys.length ≤ maxLen)
    (hf : fewB (lsOf xs) = true) (hg : fewB (lsOf ys) = true) (h8 : p.length ≤ 8) (h9 : q.length ≤ 8) (hp : permB p = true) (hq : permB q = true) :
    Calls Try.prog 7 #[.slice A0 p.length c0, .slice A1 q.length c1, .slice A2 xs.length c2, .slice A3 ys.length c3] w fun e w' => e = .returned (.bool true) ∧ Below w.heap.size w w' := by
  have hB := Below.refl w.heap.size w
  have R0 := Lib.hid r0; have R1 := Lib.hid r1; have R2 := Lib.hid r2; have R3 := Lib.hid r3; clear r0 r1 r2 r3
  have hf2 := (fewB_yes hf).2; have hg2 := (fewB_yes hg).2
  have hlen : (lsOf xs).length = xs.length := by simp [lsOf]
  have hlen2 : (lsOf ys).length = ys.length := by simp [lsOf]
  rw [hlen] at hf2; rw [hlen2] at hg2
  have HF := Lib.hid hf; have HG := Lib.hid hg; clear hf hg
  have h' : ¬ 8 < (p.length : Int) := by omega
  have h'' : ¬ 8 < (q.length : Int) := by omega
  have HP := Lib.hid hp; have HQ := Lib.hid hq; clear hp hq
  go_enter Try.func7, Try.ntmps7
  go_wp2_with (first
    | (go_at_call 15; refine (awake_any _).mono ?_; rintro e w1 ⟨rfl, h'⟩; replace hB := on hB h'; clear h')
    | (go_at_call 16; first | ((with_reducible refine (few_any A2 c2 xs _ (R2.out.on hB) m2).mono ?_); rintro e w2 ⟨rfl, rfl⟩; rw [HF.out]) | ((with_reducible refine (few_any A3 c3 ys _ (R3.out.on hB) m3).mono ?_); rintro e w2 ⟨rfl, rfl⟩; rw [HG.out]))
    | (go_at_call 17; first
      | (refine (new_any A1 c1 q _ h9 (R1.out.on hN1.2) HQ.out).mono ?_; rintro e w4 ⟨g2, P2, cp2, rfl, N2⟩; have hN2 := And.intro (Lib.hid N2) (hN1.2.trans (N2.b.mono hN1.2.size)); clear N2)
      | (refine (new_any A0 c0 p _ h8 (R0.out.on hB) HP.out).mono ?_; rintro e w3 ⟨g1, P1, cp1, rfl, N1⟩; have hN1 := And.intro (Lib.hid N1) (hB.trans (N1.b.mono hB.size)); clear N1))
    | (go_at_call 18; refine (refNew_any A0 c0 p _ (R0.out.on hN2.2) h8 HP.out).mono ?_; rintro e w5 ⟨b, P3, cp3, rfl, N3⟩; have hT := Lib.hid (TriT.start hN1.1.out hN2.1.out N3 hB HP.out h8 HQ.out h9); clear hN1 hN2 hB N3))
  go_loopw [63] (fun v wr => ∃ (k : Nat), v = .int .i64 (k : Nat) ∧ k ≤ xs.length ∧ TriT w g1 g2 b p q (puts p ((lsOf xs).take k)) [] (puts p ((lsOf xs).take k)) wr) (fun v _ => xs.length - (intOf v).toNat)
  case atStart => exact ⟨0, rfl, Nat.zero_le _, hT.out⟩
  case round =>
    obtain ⟨k, rfl, hk, hD⟩ := hrel
    clear hT
    have HD := Lib.hid hD; clear hD
    by_cases hlt : k < xs.length
    · obtain ⟨ab, ao, rfl, hab, hrow⟩ := R2.out.row (by omega)
      have hx := List.getElem?_eq_getElem hlt
      generalize xs[k] = x at hx
      have cx0 := hrow k x hx
      have cx := (keep HD.out.bw _ _ hab).trans cx0
      have HX := Lib.hid (lsOf_at hx)
      have rx := Lib.hid (R2.out.each x (List.mem_of_getElem? hx))
      have hl1 : (puts p ((lsOf xs).take k)).length < 100000 := by have := puts_len p ((lsOf xs).take k); rw [List.length_take] at this; omega
      have HL1 := Lib.hid hl1; have CX := Lib.hid cx0
      clear hrow hx hl1 cx0
      go_wp2_with (first
        | (go_at_call 19; refine (putS_any x.A x.c x.l _ HD.out.t (rx.out.1.on HD.out.bw) HL1.out HD.out.x).mono ?_; rintro e w6 ⟨rfl, ht, hF⟩; rw [← puts_next HX.out] at ht; have hE := Lib.hid (HD.out.put1 ht hF); have cy := (keep hE.out.bw _ _ hab).trans CX.out; clear ht)
        | (go_at_call 20; refine (refPut_any x.A x.c x.l _ hE.out.r (rx.out.1.on hE.out.bw) (by have := HL1.out; omega) hE.out.x).mono ?_; rintro e w7 ⟨rfl, hr, hF2⟩; rw [← puts_next HX.out] at hr; have hE2 := Lib.hid (hE.out.put3 hr hF2); clear hE hr))
      go_roundw
      case rel => exact ⟨k + 1, by go_num, by omega, hE2.out⟩
      case measure => simp [intOf]; omega
    · obtain rfl : k = xs.length := by omega
      rw [List.take_of_length_le (by omega)] at HD
      have hpl := puts_len p (lsOf xs)
      rw [hlen] at hpl
      generalize puts p (lsOf xs) = M at HD hpl
      go_wp2_with fail
      go_loopw [81] (fun v wr => ∃ (k : Nat), v = .int .i64 (k : Nat) ∧ k ≤ ys.length ∧ TriT w g1 g2 b p q M (puts q ((lsOf ys).take k)) M wr) (fun v _ => ys.length - (intOf v).toNat)
      case atStart => exact ⟨0, rfl, Nat.zero_le _, HD.out⟩
      case round =>
        obtain ⟨k, rfl, hk, hD⟩ := hrel
        clear HD
        have HD := Lib.hid hD; clear hD
        by_cases hlt : k < ys.length
        · obtain ⟨ab, ao, rfl, hab, hrow⟩ := R3.out.row (by omega)
          have hx := List.getElem?_eq_getElem hlt
          generalize ys[k] = x at hx
          have cx := (keep HD.out.bw _ _ hab).trans (hrow k x hx)
          have HX := Lib.hid (lsOf_at hx)
          have rx := Lib.hid (R3.out.each x (List.mem_of_getElem? hx))
          have hl1 : (puts q ((lsOf ys).take k)).length < 100000 := by have := puts_len q ((lsOf ys).take k); rw [List.length_take] at this; omega
          have HL1 := Lib.hid hl1
          clear hrow hx hl1
          go_wp2_with (go_at_call 19; refine (putS_any x.A x.c x.l _ HD.out.u (rx.out.1.on HD.out.bw) HL1.out HD.out.x).mono ?_; rintro e w6 ⟨rfl, ht, hF⟩; rw [← puts_next HX.out] at ht; have hE := Lib.hid (HD.out.put2 ht hF); clear ht)
          go_roundw
          case rel => exact ⟨k + 1, by go_num, by omega, hE.out⟩
          case measure => simp [intOf]; omega
        · obtain rfl : k = ys.length := by omega
          rw [List.take_of_length_le (by omega)] at HD
          have hpl2 := puts_len q (lsOf ys)
          rw [hlen2] at hpl2
          have HF3 := Lib.hid ((puts_fit q (lsOf ys)).short (by omega))
          generalize puts q (lsOf ys) = M2 at HD hpl2 HF3
          go_wp2_with (first
            | (go_at_call 26; refine (allS_any _ HD.out.u HD.out.x).mono ?_; rintro e w5 ⟨gf, lb, rfl, hen, hq, hb⟩; replace HD := Lib.hid (HD.out.on hb); replace hq := Lib.hid hq; replace hen := Lib.hid hen; clear hb)
            | (go_at_call 25; refine (toldS_any _ hen.out hq.out HD.out.x (by omega) HF3.out).mono ?_; rintro e w6 ⟨A, c, zs, rfl, hz, hb, _, hrt⟩; replace HD := Lib.hid (HD.out.on hb); have HZ := Lib.hid (ToldX.of hz hrt); clear hq hen hb hz hrt)
            | (go_at_call 21; refine (lenS_any _ HD.out.t).mono ?_; rintro e w7 ⟨rfl, rfl⟩))
          go_loopw [98] (fun v wr => ∃ (k : Nat), v = .int .i64 (k : Nat) ∧ k ≤ M2.length ∧ TriT w g1 g2 b p q M M2 (mergeM p M (M2.take k)) wr ∧ ToldX (fun k => k = g1 ∨ k = g2 ∨ k = b) wr A c zs M2) (fun v _ => M2.length - (intOf v).toNat)
          case atStart => exact ⟨0, rfl, Nat.zero_le _, HD.out, HZ.out⟩
          case round =>
            obtain ⟨k, rfl, hk, hD, hz⟩ := hrel
            clear HD HZ
            have HD := Lib.hid hD; have HZ := Lib.hid hz; clear hD hz
            have hzl : zs.length = M2.length := by rw [← HZ.out.e]; simp [lsOf]
            by_cases hlt : k < M2.length
            · obtain ⟨ab, ao, rfl, hab, hrow⟩ := (HZ.out.toldR HF3.out).rd.row (by omega)
              have hx := List.getElem?_eq_getElem (show k < zs.length by omega)
              generalize zs[k] = x at hx
              have cx := hrow k x hx
              have HX := Lib.hid (show M2[k]? = some x.l by rw [← HZ.out.e]; exact lsOf_at hx)
              have rx := Lib.hid ((HZ.out.toldR HF3.out).rd.each x (List.mem_of_getElem? hx))
              have hl1 : (mergeM p M (M2.take k)).length ≤ 100000 := by have := mergeM_len p M (M2.take k); rw [List.length_take] at this; omega
              have HL1 := Lib.hid hl1
              clear hrow hx hl1
              go_wp2_with (go_at_call 20; refine (refPut_any x.A x.c x.l _ HD.out.r rx.out.1 HL1.out HD.out.x).mono ?_; rintro e w7 ⟨rfl, hr, hF2⟩; rw [← merge_next HX.out] at hr; have hE2 := Lib.hid (HD.out.put3 hr hF2); have HZ2 := Lib.hid (HZ.out.onF (hF2.sub fun i _ hi => .inr (.inr hi))); clear hr)
              go_roundw
              case rel => exact ⟨k + 1, by go_num, by omega, hE2.out, HZ2.out⟩
              case measure => simp [intOf]; omega
            · obtain rfl : k = M2.length := by omega
              rw [List.take_of_length_le (Nat.le_refl _)] at HD
              have hag := mergeM_again (p := p) (M := M) (l := M2) HP.out HD.out.t.fit
              have hml := mergeM_len p M M2
              have HFS := Lib.hid ((mergeM_fit M2 HD.out.t.fit).short (by omega))
              have HAG := Lib.hid hag; clear hag
              obtain ⟨M3, hM3⟩ : ∃ M3, mergeM p M M2 = M3 := ⟨_, rfl⟩
              rw [hM3] at HD hml HFS HAG
              have HM3 := Lib.hid hM3; clear hM3
              go_wp2_with (go_at_call 35; refine (HD.out.merge (by omega)).mono ?_; rw [HM3.out]; rintro e w8 ⟨cn, rfl, hcn, hT, hF⟩; replace HZ := Lib.hid (HZ.out.onF (hF.sub fun i _ hi => .inl hi)); have HD8 := Lib.hid hT; clear hT HD)
              obtain ⟨A7, c7, us, hR7, d1, hb8⟩ := HD8.out.r.rowX
              have hbg : b ≠ g1 := by have := HD8.out.lt; have := HD8.out.lt2; omega
              have HU := Lib.hid hR7; clear hR7
              have HD := Lib.hid (HD8.out.on (Below.refl _ _).drew)
              have hS : Fr (· = g1) w8.heap.size w8 w8.drew := Fr.of (Below.refl _ _).drew
              have hw : IntKind.i64.wrap ((M3.length : Int) - (M.length : Int)) = (cn : Int) := by rw [IntKind.wrap_i64]; omega
              have hsX : ∀ W, Fr (· = g1) w8.heap.size w8 W → Fr (fun k => k = g1 ∨ k = g2 ∨ k = b) w8.heap.size w8 W := fun W h => h.sub fun i _ hi => .inl hi
              have HSX := Lib.hid hsX; clear hsX
              go_region_held3 (fun u => Fr (· = g1) w8.heap.size w8 u ∧ u.cell? ⟨b, 1, none⟩ = some (.slice A7 M3.length c7))
                (first | exact ⟨Fr.refl _ _ _, d1⟩ | exact ⟨hS, (hS.cell hb8 hbg).trans d1⟩)
                ((first
                  | (go_at_call 21; refine (lenS_any _ HD.out.t).mono ?_; rintro e w9 ⟨rfl, rfl⟩)
                  | (go_at_call 26; first
                    | ((with_reducible refine (allS_any _ HD.out.t HD.out.x).mono ?_); rintro e w9 ⟨gf, lb, rfl, hen, hq, hb⟩; replace hS := hS.trans (Fr.of (hb.mono hS.size)); replace HD := Lib.hid (HD.out.on hb); have hq1 := Lib.hid hq; have hen1 := Lib.hid hen; clear hb hq hen)
                    | ((with_reducible refine (allS_any _ HD.out.u HD.out.x).mono ?_); rintro e w9 ⟨gf, lb, rfl, hen, hq, hb⟩; replace hS := hS.trans (Fr.of (hb.mono hS.size)); replace HD := Lib.hid (HD.out.on hb); have hq2 := Lib.hid hq; have hen2 := Lib.hid hen; clear hb hq hen))
                  | (go_at_call 25; first
                    | (refine (toldS_any _ hen1.out hq1.out HD.out.x (by omega) HFS.out).mono ?_; rintro e w10 ⟨A8, c8, zs8, rfl, hz, hb, _, _⟩; replace hS := hS.trans (Fr.of (hb.mono hS.size)); replace HD := Lib.hid (HD.out.on hb); have HZ1 := Lib.hid hz; clear hb hz hq1 hen1)
                    | (refine (toldS_any _ hen2.out hq2.out HD.out.x (by omega) HF3.out).mono ?_; rintro e w10 ⟨A9, c9, zs9, rfl, hz, hb, _, _⟩; replace hS := hS.trans (Fr.of (hb.mono hS.size)); replace HD := Lib.hid (HD.out.on hb); have HZ2 := Lib.hid hz; clear hb hz hq2 hen2))
                  | (go_at_call 24; first
                    | (refine (sameR_any HZ1.out ((HU.out.onF (HSX.out _ hS)).toldR HFS.out) (by unfold maxLen; omega)).mono ?_; rintro e w11 ⟨rfl, hb⟩; replace hS := hS.trans (Fr.of (hb.mono hS.size)); replace HD := Lib.hid (HD.out.on hb); clear hb HZ1)
                    | (refine (sameR_any HZ2.out ((HZ.out.onF (HSX.out _ hS)).toldR HF3.out) (by unfold maxLen; omega)).mono ?_; rintro e w11 ⟨rfl, hb⟩; replace hS := hS.trans (Fr.of (hb.mono hS.size)); replace HD := Lib.hid (HD.out.on hb); clear hb HZ2))
                  | (go_at_call 35; first
                    | ((with_reducible refine (HD.out.merge (by omega)).mono ?_); rw [HAG.out]; rintro e w12 ⟨c2, rfl, hc2, hT, hF⟩; have hz0 : c2 = 0 := (by omega); subst hz0; replace hS := hS.trans (hF.mono hS.size); replace HD := Lib.hid hT; clear hT hF hc2)
                    | ((with_reducible refine (HD.out.mergeNil (by omega)).mono ?_); rintro e w13 ⟨rfl, hT, hF⟩; replace hS := hS.trans (hF.mono hS.size); replace HD := Lib.hid hT; clear hT hF))))
              all_goals go_wp2
              all_goals go_ret
              all_goals exact ⟨rfl, HD.out.bw⟩
theorem walk (A0 : Option Addr) (c0 : Nat) (p : List Int) (A1 : Option Addr) (c1 : Nat) (q : List Int) (A2 : Option Addr) (c2 : Nat) (xs : List Sl) (A3 : Option Addr) (c3 : Nat) (ys : List Sl) (w : World) (r0 : RdI w A0 p) (q0 : p.length ≤ c0) (m0 : p.length ≤ maxLen) (z0 : A0 = none → c0 = 0) (r1 : RdI w A1 q) (q1 : q.length ≤ c1) (m1 : q.length ≤ maxLen) (z1 : A1 = none → c1 = 0) (r2 : RdL w A2 xs) (m2 : xs.length ≤ maxLen) (q2 : xs.length ≤ c2) (r3 : RdL w A3 ys) (m3 : ys.length ≤ maxLen) (q3 : ys.length ≤ c3) :
    Calls Try.prog 7 #[.slice A0 p.length c0, .slice A1 q.length c1, .slice A2 xs.length c2, .slice A3 ys.length c3] w fun e w' => e = .returned (.bool true) ∧ Below w.heap.size w w' := by
  by_cases h : fewB (lsOf xs) = true ∧ fewB (lsOf ys) = true ∧ p.length ≤ 8 ∧ q.length ≤ 8
  · by_cases h2 : permB p = true ∧ permB q = true
    · exact walk_yes A0 A1 A2 A3 c0 c1 c2 c3 p q xs ys w r0 r1 r2 m2 r3 m3 h.1 h.2.1 h.2.2.1 h.2.2.2 h2.1 h2.2
    · exact walk_no A0 A1 A2 A3 c0 c1 c2 c3 p q xs ys w r0 r1 r2 m2 r3 m3 h.1 h.2.1 h.2.2.1 h.2.2.2 (by cases hb : permB p <;> cases hc : permB q <;> simp [hb, hc] at h2 ⊢)
  · refine walk_off A0 A1 A2 A3 c0 c1 c2 c3 p q xs ys w r2 m2 r3 m3 ?_
    cases hf : fewB (lsOf xs) <;> cases hg : fewB (lsOf ys) <;> simp [hf, hg] at h ⊢ <;> omega

theorem own : ownKnob Try.prog.godebug = none := by kernel_rfl

set_option maxRecDepth 100000 in
theorem lifted (os : Os) (started : os.Started) (H : Type) (enc : TypeId × Value → H) :
    ReturnsInHanded {} Try.checked os 7 .any (Rows.btreeMergeSpec.pre6 enc Try.prog Try.f7 Rows.btreeMergeRow.domain false) (Rows.btreeMergeSpec.post enc Try.prog Try.f7 false true false false) := by
  refine returnsInHanded_of_change (C := Try.checked) own started (by kernel_rfl) Try.func7
    (ChangeSpec.witness6 (enc := enc) (C := Try.checked) false ⟨#[], #[.slice none 0 0, .slice none 0 0, .slice none 0 0, .slice none 0 0], []⟩ 8 (by kernel_rfl) (by kernel_rfl) (by kernel_rfl) (by kernel_rfl)) ?_
  intro W base args ds gs before hval0 hW hcnd _
  have hval : ∀ (j : Nat) t v, Try.f7.params[j]? = some t → args[j]? = some v → Value.okWide Try.prog W .any base t v := hval0
  have hW' := hW
  obtain ⟨p, q, hA0, hV, rfl, hfz, hnd⟩ := hW
  have hA : DataW.TrodAll enc Try.prog W 0 (fun _ => true) true Try.f7.params.toList args.toList ds p := hA0
  have hAk := hA
  rw [Try.params7] at hA hval
  obtain ⟨v0, vs0, d0, ds0, p0, q0, hargs, rfl, rfl, h0, r0⟩ := trodAll_cons hA
  obtain ⟨v1, vs1, d1, ds1, p1, q1, rfl, rfl, rfl, h1, r1⟩ := trodAll_cons r0
  obtain ⟨v2, vs2, d2, ds2, p2, q2, rfl, rfl, rfl, h2, r2⟩ := trodAll_cons r1
  obtain ⟨v3, vs3, d3, ds3, p3, q3, rfl, rfl, rfl, h3, r3⟩ := trodAll_cons r2
  obtain ⟨rfl, rfl, rfl⟩ := trodAll_nil r3
  obtain rfl : args = #[v0, v1, v2, v3] := by cases args; simp_all
  obtain ⟨rfl, rfl⟩ := trodVars_none hV
  obtain ⟨A0, c0, l0, rfl, r0', q0', m0', z0'⟩ := open_nums (okWide_slice Try.underlying22 (hval 0 22 v0 rfl rfl)) h0
  obtain ⟨A1, c1, l1, rfl, r1', q1', m1', z1'⟩ := open_nums (okWide_slice Try.underlying22 (hval 1 22 v1 rfl rfl)) h1
  obtain ⟨A2, c2, l2, rfl, r2', m2', q2'⟩ := open_tups (okWide_slice Try.underlying23 (hval 2 23 v2 rfl rfl)) h2
  obtain ⟨A3, c3, l3, rfl, r3', m3', q3'⟩ := open_tups (okWide_slice Try.underlying23 (hval 3 23 v3 rfl rfl)) h3
  clear hA0 hval0
  refine (walk A0 c0 l0 A1 c1 l1 A2 c2 l2 A3 c3 l3 W r0' q0' m0' z0' r1' q1' m1' z1' r2' m2' q2' r3' m3' q3').mono fun e W' ⟨he, hg⟩ => ?_
  subst he
  refine ⟨_, rfl, post_old hW' (by simpa using hAk) (by rw [Try.params7]; decide) (fun _ _ _ => (trodAll_cons_mk (shut_bool Try.underlying4 _) trodAll_mk0)) rfl (fun _ => rfl) hg⟩

theorem proved : Rows.BtreeMergeSaid :=
  OpenClaim.holds_of_wide 7 Try.f7 rfl rfl rfl rfl rfl rfl rfl ⟨rfl, rfl, rfl, rfl, rfl⟩ rfl rfl rfl rfl rfl (by kernel_rfl) Try.func7 (by kernel_rfl)
    (of_decide_eq_true (by kernel_rfl)) (by unfold Func.isWrapper; first | (rw [if_pos (by decide +kernel)]; kernel_rfl) | (rw [if_neg (by decide +kernel)]; exact ⟨rfl, rfl⟩))
    (fun os started H enc _ => lifted os started H enc)
#print axioms proved
end Go.Proofs.Ytdpflmbnomeaaaa.btreeMerge

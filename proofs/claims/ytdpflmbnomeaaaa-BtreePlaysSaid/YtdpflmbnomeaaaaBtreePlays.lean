/-
  BtreePlays (layer 4, btree): for every p, l and head the call returns true: whatever is put, each answer, all tuples in order, and those that begin with any values, is as the document's own tree says. No condition.
-/
import Derived.Test.YtdpflmbnomeaaaaRows
import Derived.Test.YtdpflmbnomeaaaaBtPlay
import Derived.Test.YtdpflmbnomeaaaaBtOpen
import Derived.Test.YtdpflmbnomeaaaaBtAwake
import Derived.WalkKit
import Derived.ProofKit
import Derived.OpenShut
namespace Go.Proofs.Ytdpflmbnomeaaaa.btreePlays
open Go.ChangeShapes Go.WideShapes Go.ChangeAt Go.RowKit FloM ValM
set_option linter.unusedVariables false
set_option linter.unusedSimpArgs false
set_option maxHeartbeats 4000000 in
theorem walk_off (A0 A1 A2 : Option Addr) (c0 c1 c2 : Nat) (p : List Int) (xs : List Sl) (hd : List V) (w : World) (r1 : RdL w A1 xs) (m1 : xs.length ≤ maxLen)
    (h : fewB (lsOf xs) = false ∨ fewB (lsOf xs) = true ∧ (20 < p.length ∨ p.length ≤ 20 ∧ 20 < hd.length)) :
    Calls Try.prog 3 #[.slice A0 p.length c0, .slice A1 xs.length c1, .slice A2 hd.length c2] w fun e w' => e = .returned (.bool true) ∧ Below w.heap.size w w' := by
  have hB := Below.refl w.heap.size w
  have R1 := Lib.hid r1; clear r1
  rcases h with h | ⟨h1, h | ⟨h, h2⟩⟩
  · have HF := Lib.hid h; clear h
    go_enter Try.func3, Try.ntmps3
    go_wp2_with (first
      | (go_at_call 15; refine (awake_any _).mono ?_; rintro e w1 ⟨rfl, h'⟩; replace hB := on hB h'; clear h')
      | (go_at_call 16; refine (few_any A1 c1 xs _ (R1.out.on hB) m1).mono ?_; rintro e w2 ⟨rfl, rfl⟩; rw [HF.out]))
    go_ret
    exact ⟨rfl, hB⟩
  · have HF := Lib.hid h1; clear h1
    have h' : 20 < (p.length : Int) := by omega
    go_enter Try.func3, Try.ntmps3
    go_wp2_with (first
      | (go_at_call 15; refine (awake_any _).mono ?_; rintro e w1 ⟨rfl, h'⟩; replace hB := on hB h'; clear h')
      | (go_at_call 16; refine (few_any A1 c1 xs _ (R1.out.on hB) m1).mono ?_; rintro e w2 ⟨rfl, rfl⟩; rw [HF.out]))
    go_ret
    exact ⟨rfl, hB⟩
  · have HF := Lib.hid h1; clear h1
    have h' : ¬ 20 < (p.length : Int) := by omega
    have h'' : 20 < (hd.length : Int) := by omega
    go_enter Try.func3, Try.ntmps3
    go_wp2_with (first
      | (go_at_call 15; refine (awake_any _).mono ?_; rintro e w1 ⟨rfl, h'⟩; replace hB := on hB h'; clear h')
      | (go_at_call 16; refine (few_any A1 c1 xs _ (R1.out.on hB) m1).mono ?_; rintro e w2 ⟨rfl, rfl⟩; rw [HF.out]))
    go_ret
    exact ⟨rfl, hB⟩
set_option maxHeartbeats 4000000 in
theorem walk_no (A0 A1 A2 : Option Addr) (c0 c1 c2 : Nat) (p : List Int) (xs : List Sl) (hd : List V) (w : World) (r0 : RdI w A0 p) (r1 : RdL w A1 xs) (m0 : p.length ≤ maxLen) (m1 : xs.length ≤ maxLen)
    (hf : fewB (lsOf xs) = true) (h20 : p.length ≤ 20) (hd20 : hd.length ≤ 20) (hno : permB p = false ∨ 8 < p.length) :
    Calls Try.prog 3 #[.slice A0 p.length c0, .slice A1 xs.length c1, .slice A2 hd.length c2] w fun e w' => e = .returned (.bool true) ∧ Below w.heap.size w w' := by
  have hB := Below.refl w.heap.size w
  have R0 := Lib.hid r0; have R1 := Lib.hid r1; clear r0 r1
  have HF := Lib.hid hf; clear hf
  have h' : ¬ 20 < (p.length : Int) := by omega
  have h'' : ¬ 20 < (hd.length : Int) := by omega
  have HN : Hid (∀ W, RdI W A0 p → Calls Try.prog 17 #[.slice A0 p.length c0] W fun e w' => e = .returned (.tuple #[.pointer none, .int .i64 1]) ∧ Below W.heap.size W w') := fun W hr => by
    rcases Nat.lt_or_ge 8 p.length with h | h
    · refine (new_long A0 c0 p.length W h m0).mono ?_
      rintro e w' ⟨rfl, rfl⟩; exact ⟨rfl, Below.refl _ _⟩
    · exact new_bad A0 c0 p W h hr (hno.resolve_right (by omega))
  have HNO := Lib.hid hno; clear hno
  go_enter Try.func3, Try.ntmps3
  go_wp2_with (first
    | (go_at_call 15; refine (awake_any _).mono ?_; rintro e w1 ⟨rfl, h'⟩; replace hB := on hB h'; clear h')
    | (go_at_call 16; refine (few_any A1 c1 xs _ (R1.out.on hB) m1).mono ?_; rintro e w2 ⟨rfl, rfl⟩; rw [HF.out])
    | (go_at_call 17; refine (HN.out _ (R0.out.on hB)).mono ?_; rintro e w3 ⟨rfl, h'⟩; replace hB := on hB h'; clear h')
    | (go_at_call 18; refine (refNew_bad A0 c0 p _ (R0.out.on hB) (by omega) HNO.out).mono ?_; rintro e w4 ⟨rfl, rfl⟩))
  go_ret
  exact ⟨rfl, hB⟩
set_option maxRecDepth 20000 in
set_option maxHeartbeats 16000000 in
theorem walk_yes (A0 A1 A2 : Option Addr) (c0 c1 c2 : Nat) (p : List Int) (xs : List Sl) (hd : List V) (w : World) (r0 : RdI w A0 p) (r1 : RdL w A1 xs) (r2 : RdV w A2 hd) (m0 : p.length ≤ maxLen) (m1 : xs.length ≤ maxLen)
    (hf : fewB (lsOf xs) = true) (h8 : p.length ≤ 8) (hd20 : hd.length ≤ 20) (hp : permB p = true) :
    Calls Try.prog 3 #[.slice A0 p.length c0, .slice A1 xs.length c1, .slice A2 hd.length c2] w fun e w' => e = .returned (.bool true) ∧ Below w.heap.size w w' := by
  have hB := Below.refl w.heap.size w
  have R0 := Lib.hid r0; have R1 := Lib.hid r1; have R2 := Lib.hid r2; clear r0 r1 r2
  obtain ⟨hf1, hf2⟩ := fewB_yes hf
  rw [lsOf, List.length_map] at hf2
  have HF := Lib.hid hf; have HF1 := Lib.hid hf1; clear hf hf1
  have h' : ¬ 20 < (p.length : Int) := by omega
  have h'' : ¬ 20 < (hd.length : Int) := by omega
  have HP := Lib.hid hp; clear hp
  have hlen : (lsOf xs).length = xs.length := by simp [lsOf]
  go_enter Try.func3, Try.ntmps3
  go_wp2_with (first
    | (go_at_call 15; refine (awake_any _).mono ?_; rintro e w1 ⟨rfl, h'⟩; replace hB := on hB h'; clear h')
    | (go_at_call 16; refine (few_any A1 c1 xs _ (R1.out.on hB) m1).mono ?_; rintro e w2 ⟨rfl, rfl⟩; rw [HF.out])
    | (go_at_call 17; refine (new_any A0 c0 p _ h8 (R0.out.on hB) HP.out).mono ?_; rintro e w3 ⟨g, P1, cp1, rfl, N1⟩; have hN1 := Lib.hid N1; have hB1 := hB.trans (N1.b.mono hB.size); clear N1)
    | (go_at_call 18; refine (refNew_any A0 c0 p _ (R0.out.on hB1) h8 HP.out).mono ?_; rintro e w4 ⟨b, P2, cp2, rfl, N2⟩; have hT := Lib.hid (PlayH.start hN1.out N2 hB (Below.refl _ _) HP.out h8); clear hN1 hB hB1 N2))
  go_loopw [59] (fun v wr => ∃ (k : Nat), v = .int .i64 (k : Nat) ∧ k ≤ xs.length ∧ PlayH w g b p (puts p ((lsOf xs).take k)) (puts p ((lsOf xs).take k)) wr) (fun v _ => xs.length - (intOf v).toNat)
  case atStart => exact ⟨0, rfl, Nat.zero_le _, hT.out⟩
  case round =>
    obtain ⟨k, rfl, hk, hD⟩ := hrel
    clear hT
    have HD := Lib.hid hD; clear hD
    by_cases hlt : k < xs.length
    · obtain ⟨ab, ao, rfl, hab, hrow⟩ := R1.out.row (by omega)
      have hx := List.getElem?_eq_getElem hlt
      generalize xs[k] = x at hx
      have cx0 := hrow k x hx
      have cx := (keep HD.out.bw _ _ hab).trans cx0
      have HX := Lib.hid (lsOf_at hx)
      have rx := Lib.hid (R1.out.each x (List.mem_of_getElem? hx))
      have hl1 : (puts p ((lsOf xs).take k)).length < 100000 := by have := puts_len p ((lsOf xs).take k); rw [List.length_take] at this; omega
      have hl2 : (puts p ((lsOf xs).take (k + 1))).length ≤ 100000 := by have := puts_len p ((lsOf xs).take (k + 1)); rw [List.length_take] at this; omega
      have HL1 := Lib.hid hl1; have HL2 := Lib.hid hl2; have CX := Lib.hid cx0
      have hi1 : (0 : Int) ≤ (k : Int) := by omega
      have hi2 : (k : Int) < (xs.length : Int) := by omega
      clear hrow hx hl1 hl2 cx0
      go_wp2_with (first
        | (go_at_call 19; refine (putS_any x.A x.c x.l _ HD.out.t (rx.out.1.on HD.out.bw) HL1.out HD.out.x).mono ?_; rintro e w5 ⟨rfl, ht, hF⟩; rw [← puts_next HX.out] at ht; have hE := Lib.hid (HD.out.put1 ht hF); have cy := (keep hE.out.bw _ _ hab).trans CX.out; clear ht)
        | (go_at_call 20; refine (refPut_any x.A x.c x.l _ hE.out.r (rx.out.1.on hE.out.bw) (by have := HL1.out; omega) hE.out.x).mono ?_; rintro e w6 ⟨rfl, hr, hF2⟩; rw [← puts_next HX.out] at hr; have hE2 := Lib.hid (hE.out.put2 hr hF2); have cz := (keep hE2.out.bw _ _ hab).trans CX.out; clear hE hr))
      obtain ⟨A7, c7, ys, hR7, d1, hb6⟩ := hE2.out.r.row
      have hab6 : ab < w6.heap.size := Nat.lt_of_lt_of_le hab hE2.out.bw.size
      clear hR7
      obtain ⟨M, hM⟩ : ∃ M, puts p ((lsOf xs).take (k + 1)) = M := ⟨_, rfl⟩
      rw [hM] at hE2 d1 HL2
      have HM := Lib.hid hM; clear hM
      obtain ⟨bq, hbq⟩ : ∃ bq, hasB p x.l M = bq := ⟨_, rfl⟩
      have HBQ := Lib.hid hbq; clear hbq
      go_region_held3 (fun u => Below w6.heap.size w6 u ∧ u.cell? ⟨b, 1, none⟩ = some (.slice A7 M.length c7) ∧ u.cell? ⟨ab, ao + k, none⟩ = some (.slice x.A x.l.length x.c))
        (first | exact ⟨Below.refl _ _, d1, cz⟩ | exact ⟨(Below.refl _ _).drew, d1, cz⟩ | exact ⟨h5, (k5 _ _ hb6).trans d1, (k5 _ _ hab6).trans cz⟩ | exact ⟨h4, (k4 _ _ hb6).trans d1, (k4 _ _ hab6).trans cz⟩)
        ((first
          | (go_at_call 21; refine (lenS_any _ (hE2.out.t.on (Below.refl _ _).drew)).mono ?_; rintro e w7 ⟨rfl, rfl⟩)
          | (go_at_call 22; refine (hasS_any x.A x.c x.l _ (hE2.out.t.on (Below.refl _ _).drew) ((rx.out.1.on hE2.out.bw).on (Below.refl _ _).drew)).mono ?_; rw [HBQ.out]; rintro e w8 ⟨rfl, h4⟩; replace h4 : Below w6.heap.size w6 w8 := (Below.refl w6.heap.size w6).drew.trans h4; have k4 := keep h4)
          | (go_at_call 23; refine (refHas_any x.A x.c x.l _ (hE2.out.r.on h4) (rx.out.1.on (on hE2.out.bw h4)) rx.out.2 HL2.out).mono ?_; rw [HBQ.out]; rintro e w9 ⟨rfl, h5⟩; replace h5 : Below w6.heap.size w6 w9 := h4.trans (h5.mono h4.size); have k5 := keep h5)))
      all_goals
        go_wp2
        go_roundw
        case rel => exact ⟨k + 1, by go_num, by omega, by rw [HM.out]; exact hE2.out.on h5⟩
        case measure => simp [intOf]; omega
    · obtain rfl : k = xs.length := by omega
      rw [List.take_of_length_le (by omega)] at HD
      have hpl := puts_len p (lsOf xs)
      rw [hlen] at hpl
      have HFS := Lib.hid ((puts_fit p (lsOf xs)).short (by omega))
      generalize puts p (lsOf xs) = M at HD hpl HFS
      obtain ⟨A7, c7, ys, hR7, d1, hb6⟩ := HD.out.r.row
      have HY := Lib.hid hR7; clear hR7
      obtain ⟨bq, hbq⟩ : ∃ bq, hasB p hd M = bq := ⟨_, rfl⟩
      have HBQ := Lib.hid hbq; clear hbq
      have hbx := begX_len p hd M
      have HBS := Lib.hid (begX_short (p := p) (hd := hd) HFS.out)
      have hS : Below wr.heap.size wr wr.drew := (Below.refl wr.heap.size wr).drew
      have hml : hd.length ≤ maxLen := by unfold maxLen; omega
      go_wp2_with fail
      go_region_held3 (fun u => Below wr.heap.size wr u ∧ u.cell? ⟨b, 1, none⟩ = some (.slice A7 M.length c7))
        (first | exact ⟨Below.refl _ _, d1⟩ | exact ⟨hS, (keep hS _ _ hb6).trans d1⟩)
        ((first
          | (go_at_call 26; refine (allS_any _ (HD.out.on hS).t (HD.out.on hS).x).mono ?_; rintro e w5 ⟨gf, lb, rfl, hen, hq, hb⟩; replace hS := hS.trans (hb.mono hS.size); have hq1 := Lib.hid hq; have hen1 := Lib.hid hen; clear hb hq hen)
          | (go_at_call 25; first
            | (refine (toldS_any _ hen1.out hq1.out (HD.out.on hS).x (by omega) HFS.out).mono ?_; rintro e w6 ⟨A8, c8, zs, rfl, hz, hb, _, _⟩; replace hS := hS.trans (hb.mono hS.size); have HZ := Lib.hid hz; clear hb hz hq1 hen1)
            | (refine (toldS_any _ hen2.out hq2.out (HD.out.on hS).x (by omega) HBS.out).mono ?_; rintro e w9 ⟨A9, c9, zs2, rfl, hz, hb, _, _⟩; replace hS := hS.trans (hb.mono hS.size); have HZ2 := Lib.hid hz; clear hb hz hq2 hen2))
          | (go_at_call 24; first
            | (refine (sameR_any HZ.out (HY.out.on hS) (by unfold maxLen; omega)).mono ?_; rintro e w7 ⟨rfl, hb⟩; replace hS := hS.trans (hb.mono hS.size); clear hb HZ)
            | (refine (sameR_any HZ2.out HZ3.out (by unfold maxLen; omega)).mono ?_; rintro e w11 ⟨rfl, hb⟩; replace hS := hS.trans (hb.mono hS.size); clear hb HZ2 HZ3))
          | (go_at_call 27; refine (fromX_any A2 c2 hd _ (HD.out.on hS).t (R2.out.on (on HD.out.bw hS)) (HD.out.on hS).x).mono ?_; rintro e w8 ⟨gf, lb, rfl, hen, hq, hb⟩; replace hS := hS.trans (hb.mono hS.size); have hq2 := Lib.hid hq; have hen2 := Lib.hid hen; clear hb hq hen)
          | (go_at_call 28; refine (refFromX_any A2 c2 hd _ (HD.out.on hS).r (R2.out.on (on HD.out.bw hS)) (by omega)).mono ?_; rintro e w10 ⟨A10, c10, zs3, rfl, hz, hb⟩; replace hS := hS.trans (hb.mono hS.size); replace HZ2 := Lib.hid (HZ2.out.on hb); have HZ3 := Lib.hid hz; clear hb hz)
          | (go_at_call 22; refine (hasS_any A2 c2 hd _ (HD.out.on hS).t (R2.out.on (on HD.out.bw hS))).mono ?_; rw [HBQ.out]; rintro e w12 ⟨rfl, hb⟩; replace hS := hS.trans (hb.mono hS.size); clear hb)
          | (go_at_call 23; refine (refHas_any A2 c2 hd _ (HD.out.on hS).r (R2.out.on (on HD.out.bw hS)) hml (by omega)).mono ?_; rw [HBQ.out]; rintro e w13 ⟨rfl, hb⟩; replace hS := hS.trans (hb.mono hS.size); clear hb)))
      all_goals go_wp2
      all_goals go_ret
      all_goals exact ⟨rfl, on HD.out.bw hS⟩
theorem walk (A0 : Option Addr) (c0 : Nat) (p : List Int) (A1 : Option Addr) (c1 : Nat) (xs : List Sl) (A2 : Option Addr) (c2 : Nat) (hd : List V) (w : World) (r0 : RdI w A0 p) (q0 : p.length ≤ c0) (m0 : p.length ≤ maxLen) (z0 : A0 = none → c0 = 0) (r1 : RdL w A1 xs) (m1 : xs.length ≤ maxLen) (q1 : xs.length ≤ c1) (r2 : RdV w A2 hd) (k2 : OkL hd) (m2 : hd.length ≤ maxLen) :
    Calls Try.prog 3 #[.slice A0 p.length c0, .slice A1 xs.length c1, .slice A2 hd.length c2] w fun e w' => e = .returned (.bool true) ∧ Below w.heap.size w w' := by
  by_cases h : fewB (lsOf xs) = true ∧ p.length ≤ 20 ∧ hd.length ≤ 20
  · by_cases h2 : permB p = true ∧ p.length ≤ 8
    · exact walk_yes A0 A1 A2 c0 c1 c2 p xs hd w r0 r1 r2 m0 m1 h.1 h2.2 h.2.2 h2.1
    · exact walk_no A0 A1 A2 c0 c1 c2 p xs hd w r0 r1 m0 m1 h.1 h.2.1 h.2.2 (by cases hb : permB p <;> simp [hb] at h2 ⊢; omega)
  · refine walk_off A0 A1 A2 c0 c1 c2 p xs hd w r1 m1 ?_
    cases hf : fewB (lsOf xs) <;> simp [hf] at h ⊢ <;> omega

theorem own : ownKnob Try.prog.godebug = none := by kernel_rfl

set_option maxRecDepth 100000 in
theorem lifted (os : Os) (started : os.Started) (H : Type) (enc : TypeId × Value → H) :
    ReturnsInHanded {} Try.checked os 3 .any (Rows.btreePlaysSpec.pre6 enc Try.prog Try.f3 Rows.btreePlaysRow.domain false) (Rows.btreePlaysSpec.post enc Try.prog Try.f3 false true false false) := by
  refine returnsInHanded_of_change (C := Try.checked) own started (by kernel_rfl) Try.func3
    (ChangeSpec.witness6 (enc := enc) (C := Try.checked) false ⟨#[], #[.slice none 0 0, .slice none 0 0, .slice none 0 0], []⟩ 8 (by kernel_rfl) (by kernel_rfl) (by kernel_rfl) (by kernel_rfl)) ?_
  intro W base args ds gs before hval0 hW hcnd _
  have hval : ∀ (j : Nat) t v, Try.f3.params[j]? = some t → args[j]? = some v → Value.okWide Try.prog W .any base t v := hval0
  have hW' := hW
  obtain ⟨p, q, hA0, hV, rfl, hfz, hnd⟩ := hW
  have hA : DataW.TrodAll enc Try.prog W 0 (fun _ => true) true Try.f3.params.toList args.toList ds p := hA0
  have hAk := hA
  rw [Try.params3] at hA hval
  obtain ⟨v0, vs0, d0, ds0, p0, q0, hargs, rfl, rfl, h0, r0⟩ := trodAll_cons hA
  obtain ⟨v1, vs1, d1, ds1, p1, q1, rfl, rfl, rfl, h1, r1⟩ := trodAll_cons r0
  obtain ⟨v2, vs2, d2, ds2, p2, q2, rfl, rfl, rfl, h2, r2⟩ := trodAll_cons r1
  obtain ⟨rfl, rfl, rfl⟩ := trodAll_nil r2
  obtain rfl : args = #[v0, v1, v2] := by cases args; simp_all
  obtain ⟨rfl, rfl⟩ := trodVars_none hV
  obtain ⟨A0, c0, l0, rfl, r0', q0', m0', z0'⟩ := open_nums (okWide_slice Try.underlying22 (hval 0 22 v0 rfl rfl)) h0
  obtain ⟨A1, c1, l1, rfl, r1', m1', q1'⟩ := open_tups (okWide_slice Try.underlying23 (hval 1 23 v1 rfl rfl)) h1
  obtain ⟨A2, c2, l2, rfl, r2', k2', m2'⟩ := open_vals (okWide_slice Try.underlying24 (hval 2 24 v2 rfl rfl)) h2
  clear hA0 hval0
  refine (walk A0 c0 l0 A1 c1 l1 A2 c2 l2 W r0' q0' m0' z0' r1' m1' q1' r2' k2' m2').mono fun e W' ⟨he, hg⟩ => ?_
  subst he
  refine ⟨_, rfl, post_old hW' (by simpa using hAk) (by rw [Try.params3]; decide) (fun _ _ _ => (trodAll_cons_mk (shut_bool Try.underlying4 _) trodAll_mk0)) rfl (fun _ => rfl) hg⟩

theorem proved : Rows.BtreePlaysSaid :=
  OpenClaim.holds_of_wide 3 Try.f3 rfl rfl rfl rfl rfl rfl rfl ⟨rfl, rfl, rfl, rfl, rfl⟩ rfl rfl rfl rfl rfl (by kernel_rfl) Try.func3 (by kernel_rfl)
    (of_decide_eq_true (by kernel_rfl)) (by unfold Func.isWrapper; first | (rw [if_pos (by decide +kernel)]; kernel_rfl) | (rw [if_neg (by decide +kernel)]; exact ⟨rfl, rfl⟩))
    (fun os started H enc _ => lifted os started H enc)
#print axioms proved
end Go.Proofs.Ytdpflmbnomeaaaa.btreePlays

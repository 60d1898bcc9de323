/-
  RelParts (layer 5, rel): for every perms, l and cols the call returns true: by any columns each tuple is found by its own values, and by no other ones; so the parts that are found, one for each, are all. No condition.
-/
import Derived.Test.YtfdhkldgenkobaaRows
import Derived.Test.YtfdhkldgenkobaaRelPar
import Derived.Test.YtfdhkldgenkobaaTupRef
import Derived.Test.YtfdhkldgenkobaaRelB
import Derived.Test.YtfdhkldgenkobaaRelB
import Derived.WalkKit
import Derived.ProofKit
import Derived.OpenShut
namespace Go.Proofs.Ytfdhkldgenkobaa.relParts
open Go.ChangeShapes Go.WideShapes Go.ChangeAt Go.RowKit FloM ValM
set_option linter.unusedVariables false
set_option linter.unusedSimpArgs false
theorem lsOf_at {ys : List Sl} {k : Nat} {y : Sl} (h : ys[k]? = some y) : (lsOf ys)[k]? = some y.l := by simp [lsOf, h]
theorem bel_drawN' {B : Nat} {w u : World} (h : Below B w u) (k : Nat) : Below B w (u.drewN k) := ⟨h.os, h.tape, h.output, h.size, h.block⟩
set_option maxRecDepth 20000 in
set_option maxHeartbeats 4000000 in
theorem walk_no (A0 A1 A2 : Option Addr) (c0 c1 c2 : Nat) (ps : List IS) (xs : List Sl) (cols : List Int) (w : World) (r0 : RdP w A0 ps) (m0 : ps.length ≤ maxLen) (r1 : RdL w A1 xs) (m1 : xs.length ≤ maxLen)
    (h : fewR (ps.map IS.l) (xs.map Sl.l) = false ∨ fewR (ps.map IS.l) (xs.map Sl.l) = true ∧ (xs.length = 0 ∨ 0 < xs.length ∧ 12 < (cols.length : Int))) :
    Calls Try.prog 4 #[.slice A0 ps.length c0, .slice A1 xs.length c1, .slice A2 cols.length c2] w fun e w' => e = .returned (.bool true) ∧ Below w.heap.size w w' := by
  have hB := Below.refl w.heap.size w
  have R0 := Lib.hid r0; have R1 := Lib.hid r1; clear r0 r1
  have HFW : Hid (∀ W, Below w.heap.size w W → Calls Try.prog 8 #[.slice A0 ps.length c0, .slice A1 xs.length c1] W fun e w' => e = .returned (.bool (fewR (ps.map IS.l) (xs.map Sl.l))) ∧ W = w') := Lib.hid fun W hW => fewR_any A0 A1 c0 c1 ps xs W (R0.out.on hW) (R1.out.on hW) m0 m1
  rcases h with h | ⟨h, h8 | ⟨h8, h12⟩⟩
  · rw [h] at HFW
    clear h
    go_enter Try.func4, Try.ntmps4
    go_wp2_with (first
      | (go_at_call 7; refine (awakeR_any _).mono ?_; rintro e w1 ⟨rfl, h'⟩; replace hB := on hB h'; clear h')
      | (go_at_call 8; refine (HFW.out _ hB).mono ?_; rintro e w2 ⟨rfl, rfl⟩))
    go_ret
    exact ⟨rfl, hB⟩
  · rw [h] at HFW
    obtain rfl := List.length_eq_zero_iff.1 h8
    simp only [List.length_nil] at HFW ⊢
    clear h h8 m1
    go_enter Try.func4, Try.ntmps4
    go_wp2_with (first
      | (go_at_call 7; refine (awakeR_any _).mono ?_; rintro e w1 ⟨rfl, h'⟩; replace hB := on hB h'; clear h')
      | (go_at_call 8; refine (HFW.out _ hB).mono ?_; rintro e w2 ⟨rfl, rfl⟩))
    go_ret
    exact ⟨rfl, hB⟩
  · rw [h] at HFW
    have hne' : ((xs.length : Int) == 0) = false := by rw [beq_eq_false_iff_ne]; omega
    clear h
    go_enter Try.func4, Try.ntmps4
    go_wp2_with (first
      | (go_at_call 7; refine (awakeR_any _).mono ?_; rintro e w1 ⟨rfl, h'⟩; replace hB := on hB h'; clear h')
      | (go_at_call 8; refine (HFW.out _ hB).mono ?_; rintro e w2 ⟨rfl, rfl⟩))
    go_ret
    exact ⟨rfl, hB⟩
set_option maxRecDepth 20000 in
set_option maxHeartbeats 60000000 in
theorem walk_yes (A0 A1 A2 : Option Addr) (c0 c1 c2 : Nat) (ps : List IS) (xs : List Sl) (cols : List Int) (x : Sl) (w : World) (r0 : RdP w A0 ps) (m0 : ps.length ≤ maxLen) (r1 : RdL w A1 xs) (m1 : xs.length ≤ maxLen) (r2 : RdI w A2 cols)
    (hf : fewR (ps.map IS.l) (xs.map Sl.l) = true) (hne : 0 < xs.length) (hx : xs[0]? = some x) (h12 : ¬ 12 < (cols.length : Int)) :
    Calls Try.prog 4 #[.slice A0 ps.length c0, .slice A1 xs.length c1, .slice A2 cols.length c2] w fun e w' => e = .returned (.bool true) ∧ Below w.heap.size w w' := by
  have hB := Below.refl w.heap.size w
  have R0 := Lib.hid r0; have R1 := Lib.hid r1; have R2 := Lib.hid r2; clear r0 r1 r2
  obtain ⟨f1, f2, f3, f4⟩ := fewR_yes hf
  rw [List.length_map] at f3 f4
  have HFL := Lib.hid f2; clear f1 f2
  have HFW : Hid (∀ W, Below w.heap.size w W → Calls Try.prog 8 #[.slice A0 ps.length c0, .slice A1 xs.length c1] W fun e w' => e = .returned (.bool true) ∧ W = w') := Lib.hid fun W hW => by
    have := fewR_any A0 A1 c0 c1 ps xs W (R0.out.on hW) (R1.out.on hW) m0 m1
    rw [hf] at this; exact this
  clear hf
  have hne' : ((xs.length : Int) == 0) = false := by rw [beq_eq_false_iff_ne]; omega
  obtain ⟨ab, ao, rfl, hab, hrow⟩ : ∃ b o, A1 = some ⟨b, o, none⟩ ∧ b < w.heap.size ∧ ∀ j y, xs[j]? = some y → w.cell? ⟨b, o + j, none⟩ = some (.slice y.A y.l.length y.c) := by
    obtain ⟨b, o, rfl, hb, _⟩ := R1.out.at_ (List.getElem?_eq_getElem hne)
    refine ⟨b, o, rfl, hb, fun j x hx => ?_⟩
    obtain ⟨b', o', e, _, hc⟩ := R1.out.at_ hx
    injection e with e; injection e with e1 e2 _; subst e1 e2; exact hc
  have cx : w.cell? ⟨ab, ao, none⟩ = some (.slice x.A x.l.length x.c) := by simpa using hrow 0 x hx
  have HXH := Lib.hid (show x.l ∈ xs.map Sl.l from List.mem_map.2 ⟨x, List.mem_of_getElem? hx, rfl⟩)
  have hx12 : x.l.length ≤ 12 := HFL.out _ HXH.out
  have HROW := Lib.hid hrow
  clear hx hrow
  by_cases hall : x.l.length ≤ 8 ∧ ∀ p ∈ ps, goodP x.l.length p.l = true
  · obtain ⟨hn8, hall⟩ := hall
    have HG := Lib.hid hall
    have HNG : Hid (∀ W, Below w.heap.size w W → Calls Try.prog 9 #[.int .i64 (x.l.length : Int), .slice A0 ps.length c0] W fun e w' => ∃ r g0 gs, e = .returned (.tuple #[.pointer (some ⟨r, 0, none⟩), .int .i64 0]) ∧ NewS W x.l.length (ps.map IS.l) r g0 gs w') := Lib.hid fun W hW => (relNew_any A0 c0 x.l.length ps W hn8 (R0.out.on hW) (by omega)).mono (by
      rintro e w' (⟨_, h⟩ | ⟨⟨x, hx, hg⟩, _⟩)
      · exact h
      · rw [HG.out x hx] at hg; cases hg)
    clear hall
    go_enter Try.func4, Try.ntmps4
    go_wp2_with (first
      | (go_at_call 7; refine (awakeR_any _).mono ?_; rintro e w1 ⟨rfl, h'⟩; replace hB := on hB h'; clear h'; replace cx := (keep hB _ _ hab).trans cx)
      | (go_at_call 8; refine (HFW.out _ hB).mono ?_; rintro e w2 ⟨rfl, rfl⟩)
      | (go_at_call 9; refine (HNG.out _ hB).mono ?_; rintro e w3 ⟨r, g0, gs, rfl, hs⟩; have hR := Lib.hid ((OneR.start hs).base hB); clear hs hB))
    clear cx
    go_loopw [52] (fun v wr => ∃ k : Nat, v = .int .i64 (k : Nat) ∧ k ≤ xs.length ∧ OneR w r x.l.length g0 gs (ps.map IS.l) ((xs.map Sl.l).take k) wr) (fun v _ => xs.length - (intOf v).toNat)
    case atStart => exact ⟨0, rfl, Nat.zero_le _, hR.out⟩
    case round =>
      clear hR
      obtain ⟨k, rfl, hk, hD⟩ := hrel
      have HD := Lib.hid hD; clear hD
      by_cases hlt : k < xs.length
      · have hy := List.getElem?_eq_getElem hlt
        generalize xs[k] = a at hy
        have ca := (keep HD.out.b _ _ hab).trans (HROW.out k a hy)
        have RA := Lib.hid (R1.out.each a (List.mem_of_getElem? hy))
        have HA := Lib.hid (show (xs.map Sl.l)[k]? = some a.l by rw [List.getElem?_map, hy]; rfl)
        have HPT := Lib.hid (relPutS_any a.A a.c a.l wr HD.out.s (RA.out.1.on HD.out.b) (fun hne ad ha hX => by
          obtain ⟨b, o, e, hb, _⟩ := RA.out.1 0 _ (List.getElem?_eq_getElem (List.length_pos_iff.2 hne))
          rw [ha] at e; cases e
          have := HD.out.x0 _ hX
          simp only at this; omega) HD.out.x1 (by rw [List.length_take, List.length_map]; omega))
        clear hy
        go_wp2_with (go_at_call 10; refine HPT.out.mono ?_; rintro e w5 ⟨rfl, hs, hF⟩; have HD5 := Lib.hid (HD.out.put hs hF); clear hs hF)
        go_roundw
        case rel => exact ⟨k + 1, by go_num, by omega, by rw [take_snoc' HA.out]; exact HD5.out⟩
        case measure => simp [intOf]; omega
      · obtain rfl : k = xs.length := by omega
        rw [List.take_of_length_le (by simp)] at HD
        have hH : (xs.map Sl.l).length ≤ 100000 := by rw [List.length_map]; omega
        have hHl : (xs.map Sl.l).length ≤ 60 := by rw [List.length_map]; omega
        clear HROW HFW HNG HG HFL R0 R1 m0 m1 f3 hab hne' hk hlt
        generalize hHE : xs.map Sl.l = H at HD hH hHl HXH
        have hML : (puts (upto x.l.length) H).length ≤ 60 := Nat.le_trans (puts_len _ _) hHl
        have hMX : x.l ∈ puts (upto x.l.length) H := (puts_mem (upto_perm _) H).2 ⟨HXH.out, by rw [upto_len]⟩
        have hMN : ∀ y ∈ puts (upto x.l.length) H, y.length = x.l.length := fun y hy => by
          have := ((puts_mem (upto_perm _) H).1 hy).2; rwa [upto_len] at this
        have HMN := Lib.hid hMN; have HMX := Lib.hid hMX
        clear hHE HXH hHl f4 hne hMX hMN
        obtain ⟨n, hn⟩ : ∃ n, x.l.length = n := ⟨_, rfl⟩
        rw [hn] at HD hML HMN HMX hn8 hx12 ⊢
        have HNX := Lib.hid hn
        clear hn
        have HALL : Hid (∀ W, OneR w r n g0 gs (ps.map IS.l) H W → Calls Try.prog 11 #[.pointer (some ⟨r, 0, none⟩)] W fun e w' => ∃ B d ys, e = .returned (.slice B (puts (upto n) H).length d) ∧ RdL w' B ys ∧ lsOf ys = puts (upto n) H ∧ Below W.heap.size W w') := Lib.hid fun W hO => oneAll hO hn8 hH
        have HLEN : Hid (∀ W, OneR w r n g0 gs (ps.map IS.l) H W → Calls Try.prog 14 #[.pointer (some ⟨r, 0, none⟩)] W fun e w' => e = .returned (.int .i64 ((puts (upto n) H).length : Nat)) ∧ W = w') := Lib.hid fun W hO => relLen_any W hO.s
        obtain ⟨M, hM⟩ : ∃ M, puts (upto n) H = M := ⟨_, rfl⟩
        have HME := Lib.hid hM
        rw [hM] at HALL HLEN hML HMN HMX
        clear hM
        have hMp : 0 < M.length := List.length_pos_of_mem HMX.out
        go_wp2_with (go_at_call 11; refine (HALL.out _ HD.out).mono ?_; rintro e w8 ⟨B8, d8, ys8, rfl, hy, hys, hb⟩; have HD8 := Lib.hid (HD.out.on hb); have HY8 := Lib.hid hy; have HE8 := Lib.hid hys; clear hy hys hb)
        clear HALL HD
        have HYL : Hid (ys8.length = M.length) := Lib.hid (by rw [← HE8.out]; simp [lsOf])
        by_cases hin : ∀ c ∈ cols, inR n c = true
        · have HIN := Lib.hid hin; clear hin
          have HPL : Hid (∀ y ∈ M, (pickL y cols).length = cols.length) := Lib.hid fun y hy => pick_perm_len fun c hc => by rw [HMN.out y hy]; exact HIN.out c hc
          have HFD : Hid (∀ W A c (vs : List V), OneR w r n g0 gs (ps.map IS.l) H W → RdV W A vs → vs.length = cols.length → Calls Try.prog 18 #[.pointer (some ⟨r, 0, none⟩), .slice A2 cols.length c2, .slice A cols.length c] W fun e w' => ∃ B d, e = .returned (.slice B (findL n cols vs H).length d) ∧ Below W.heap.size W w') := Lib.hid fun W A c vs hO hv he => by
            have := xFind A2 A c2 c cols vs hO.s hO.x1 hn8 hH (R2.out.on hO.b) (fun hne b o e hx => by
              obtain ⟨b', o', e', hb', _⟩ := R2.out 0 _ (List.getElem?_eq_getElem (List.length_pos_iff.2 hne))
              rw [e] at e'; cases e'
              have := hO.x0 b hx; omega) hv (by omega)
            rw [he] at this
            refine this.mono ?_
            rintro e w' ⟨B, d, ys, rfl, _, _, hb⟩
            exact ⟨B, d, rfl, hb⟩
          have HPK : Hid (∀ W (y : Sl), RdV W y.A y.l → y.l ∈ M → Below w.heap.size w W → Calls Try.prog 19 #[.slice y.A y.l.length y.c, .slice A2 cols.length c2] W fun e w' => ∃ A c, e = .returned (.slice A cols.length c) ∧ RdV w' A (pickL y.l cols) ∧ Below W.heap.size W w') := Lib.hid fun W y hr hm hb => by
            have := refPick_any y.A A2 y.c c2 y.l cols W hr (R2.out.on hb) (by rw [HMN.out _ hm]; omega) (by omega)
            refine this.mono ?_
            rintro e w' ⟨A, c, rfl, hr', _, hb'⟩
            exact ⟨A, c, by rw [HPL.out _ hm], hr', hb'⟩
          go_loopw [12, 66] (fun m v wr => ∃ k : Nat, v = .int .i64 (k : Nat) ∧ k ≤ M.length ∧ m = .int .i64 (manyL n cols M k : Nat) ∧ Below w8.heap.size w8 wr) (fun _ v _ => M.length - (intOf v).toNat)
          case atStart => exact ⟨0, rfl, Nat.zero_le _, by unfold manyL; rw [gotN_zero]; split <;> rfl, Below.refl _ _⟩
          case round =>
            obtain ⟨k, rfl, hk, rfl, hB9⟩ := hrel
            have hmk := manyL_le (n := n) (cols := cols) (M := M) k
            by_cases hlt : k < M.length
            · have hky : k < ys8.length := by rw [HYL.out]; exact hlt
              have hy := List.getElem?_eq_getElem hky
              generalize ys8[k] = y at hy
              obtain ⟨b, o, rfl, hbl, hcy⟩ := (HY8.out.on hB9).at_ hy
              have hMk : M[k]? = some y.l := by rw [← HE8.out]; exact lsOf_at hy
              have HMK := Lib.hid hMk
              have hyM : y.l ∈ M := List.mem_of_getElem? hMk
              have HYM := Lib.hid hyM
              have HRY := Lib.hid ((HY8.out.on hB9).each y (List.mem_of_getElem? hy)).1
              have hmk1 := manyL_le (n := n) (cols := cols) (M := M) (k + 1)
              have HNEW := Lib.hid (manyL_new (H := H) (n := n) (cols := cols) (k := k) HME.out.symm hMk (HPL.out _ hyM))
              have HOLD := Lib.hid (manyL_old (n := n) (cols := cols) hMk)
              have HB9 := Lib.hid hB9
              obtain ⟨v0, hv⟩ : ∃ v0, pickL y.l cols = v0 := ⟨_, rfl⟩
              have hPKY := HPK.out wr y HRY.out hyM (on HD8.out.b hB9)
              rw [hv] at hPKY HNEW HOLD
              have HPKY := Lib.hid hPKY
              have HVL : Hid (v0.length = cols.length) := Lib.hid (by rw [← hv]; exact HPL.out _ hyM)
              clear hy hMk hyM hky hPKY hv hB9
              go_wp2_with (go_at_call 19; refine HPKY.out.mono ?_; rintro e w9 ⟨A9, d9, rfl, hr9, hb9⟩; have HR9 := Lib.hid hr9; have HB10 := Lib.hid (on HB9.out hb9); clear hr9 hb9)
              clear hcy
              go_loopw [15, 87] (fun f v wr2 => ∃ j : Nat, v = .int .i64 (j : Nat) ∧ j ≤ k ∧ f = .bool (decide (v0 ∉ keysL cols M j)) ∧ Below w9.heap.size w9 wr2) (fun _ v _ => k - (intOf v).toNat)
              case atStart => exact ⟨0, rfl, Nat.zero_le _, by simp [keysL], Below.refl _ _⟩
              case round =>
                obtain ⟨j, rfl, hj, hfv, hB2⟩ := hrel
                have HB2 := Lib.hid hB2; clear hB2
                by_cases hjk : j < k
                · have hjy : j < ys8.length := by rw [HYL.out]; omega
                  have hz := List.getElem?_eq_getElem hjy
                  generalize ys8[j] = z at hz
                  have hzc := (HY8.out.on (on HB10.out HB2.out)).at_ hz
                  obtain ⟨b', o', e', hbl', hcz⟩ := hzc
                  injection e' with e'; injection e' with e1 e2 _; subst e1 e2
                  have hMj : M[j]? = some z.l := by rw [← HE8.out]; exact lsOf_at hz
                  have hKS := keysL_snoc (cols := cols) hMj
                  have HRZ := Lib.hid ((HY8.out.on (on HB10.out HB2.out)).each z (List.mem_of_getElem? hz)).1
                  have hPKZ := HPK.out _ z HRZ.out (List.mem_of_getElem? hMj) (on HD8.out.b (on HB10.out HB2.out))
                  have HZL : Hid ((pickL z.l cols).length = cols.length) := Lib.hid (HPL.out _ (List.mem_of_getElem? hMj))
                  generalize pickL z.l cols = u at hKS hPKZ HZL
                  have HKS := Lib.hid hKS; have HPKZ := Lib.hid hPKZ
                  clear hMj hz hjy hKS hPKZ
                  by_cases hm : v0 ∈ keysL cols M j
                  · rw [decide_eq_false (by simpa using hm)] at hfv
                    subst hfv
                    have HM := Lib.hid hm; clear hm
                    go_wp2
                    go_roundw
                    case rel => exact ⟨j + 1, by go_num, by omega, by rw [HKS.out, decide_eq_false (Decidable.not_not.2 (List.mem_append.2 (.inl HM.out)))], HB2.out⟩
                    case measure => simp [intOf]; omega
                  · rw [decide_eq_true (by simpa using hm)] at hfv
                    subst hfv
                    have HM := Lib.hid hm; clear hm
                    by_cases huv : u = v0
                    · have HORD : Hid (∀ W A c, RdV W A u → RdV W A9 v0 → Calls Try.prog 20 #[.slice A cols.length c, .slice A9 cols.length d9] W fun e w' => e = .returned (.int .i64 0) ∧ Below W.heap.size W w') := Lib.hid fun W A c h1 h2 => by
                        have := refOrder_any A A9 c d9 u v0 W h1 h2 (by rw [HZL.out]; unfold maxLen; omega) (by rw [HVL.out]; unfold maxLen; omega)
                        rw [HZL.out, HVL.out, (ord_zero u v0).2 huv] at this
                        exact this
                      have HUV := Lib.hid huv; clear huv
                      go_wp2_with (first
                        | (go_at_call 19; refine HPKZ.out.mono ?_; rintro e w11 ⟨A11, d11, rfl, hr11, hb11⟩; have HR11 := Lib.hid hr11; have HB11 := Lib.hid (on HB2.out hb11); clear hr11 hb11)
                        | (go_at_call 20; refine (HORD.out _ A11 d11 HR11.out (HR9.out.on HB11.out)).mono ?_; rintro e w12 ⟨rfl, hb12⟩; have HB12 := Lib.hid (on HB11.out hb12); clear hb12))
                      go_roundw
                      case rel => exact ⟨j + 1, by go_num, by omega, by rw [HKS.out, decide_eq_false (by rw [HUV.out]; simp)], HB12.out⟩
                      case measure => simp [intOf]; omega
                    · have HORD : Hid (∀ W A c, RdV W A u → RdV W A9 v0 → Calls Try.prog 20 #[.slice A cols.length c, .slice A9 cols.length d9] W fun e w' => ∃ q : Int, e = .returned (.int .i64 q) ∧ (q != 0) = true ∧ Below W.heap.size W w') := Lib.hid fun W A c h1 h2 => by
                        have := refOrder_any A A9 c d9 u v0 W h1 h2 (by rw [HZL.out]; unfold maxLen; omega) (by rw [HVL.out]; unfold maxLen; omega)
                        rw [HZL.out, HVL.out] at this
                        refine this.mono ?_
                        rintro e w' ⟨rfl, hb⟩
                        exact ⟨_, rfl, by rw [bne_iff_ne]; exact fun e => huv ((ord_zero u v0).1 e), hb⟩
                      have HUV := Lib.hid huv; clear huv
                      go_wp2_with (first
                        | (go_at_call 19; refine HPKZ.out.mono ?_; rintro e w11 ⟨A11, d11, rfl, hr11, hb11⟩; have HR11 := Lib.hid hr11; have HB11 := Lib.hid (on HB2.out hb11); clear hr11 hb11)
                        | (go_at_call 20; refine (HORD.out _ A11 d11 HR11.out (HR9.out.on HB11.out)).mono ?_; rintro e w12 ⟨q12, rfl, hq12, hb12⟩; have HB12 := Lib.hid (on HB11.out hb12); clear hb12))
                      go_roundw
                      case rel => exact ⟨j + 1, by go_num, by omega, by rw [HKS.out, decide_eq_true (by rw [List.mem_append, List.mem_singleton]; rintro (h | h); exact HM.out h; exact HUV.out h.symm)], HB12.out⟩
                      case measure => simp [intOf]; omega
                · obtain rfl : j = k := by omega
                  by_cases hm : v0 ∈ keysL cols M j
                  · rw [decide_eq_false (by simpa using hm)] at hfv
                    subst hfv
                    have hold := HOLD.out hm
                    have HO := Lib.hid hold; clear hm hold
                    go_wp2
                    go_roundw
                    case rel => exact ⟨j + 1, by go_num, by omega, by rw [HO.out], on HB10.out HB2.out⟩
                    case measure => simp [intOf]; omega
                  · rw [decide_eq_true (by simpa using hm)] at hfv
                    subst hfv
                    have hnew := HNEW.out hm
                    clear hm
                    have hFDV := HFD.out _ A9 d9 v0 (HD8.out.on (on HB10.out HB2.out)) (HR9.out.on HB2.out) HVL.out
                    obtain ⟨L, hL⟩ : ∃ L, (findL n cols v0 H).length = L := ⟨_, rfl⟩
                    rw [hL] at hnew hFDV
                    obtain ⟨q0, hq0⟩ : ∃ q0, manyL n cols M j = q0 := ⟨_, rfl⟩
                    rw [hq0] at hnew hmk ⊢
                    rw [hnew] at hmk1
                    have HN := Lib.hid hnew; have HF := Lib.hid hFDV
                    clear hL hq0 hnew hFDV HNEW HOLD
                    go_wp2_with (go_at_call 18; refine HF.out.mono ?_; rintro e w13 ⟨B13, d13, rfl, hb13⟩; have HB13 := Lib.hid (on (on HB10.out HB2.out) hb13); clear hb13)
                    go_roundw
                    case rel => exact ⟨j + 1, by go_num, by omega, by rw [HN.out]; go_num, HB13.out⟩
                    case measure => simp [intOf]; omega
            · obtain rfl : k = M.length := by omega
              have HQ : Hid (manyL n cols M M.length = if distB n cols = true then M.length else 0) := Lib.hid (by unfold manyL; rw [gotN_all])
              generalize manyL n cols M M.length = q9 at HQ hmk ⊢
              have HB9 := Lib.hid hB9
              clear hB9 HFD HPK HPL HY8 HE8 HYL
              go_wp2
              go_loopw [114] (fun v wr2 => ∃ i : Nat, v = .int .i64 (i : Nat) ∧ i ≤ cols.length ∧ (cols.take i).Nodup ∧ Below w8.heap.size w8 wr2) (fun v _ => cols.length - (intOf v).toNat)
              case atStart => exact ⟨0, rfl, Nat.zero_le _, by simp, HB9.out⟩
              case round =>
                clear HB9
                obtain ⟨i, rfl, hi, hnd, hB9⟩ := hrel
                have HND := Lib.hid hnd; have HB9 := Lib.hid hB9; clear hnd hB9
                by_cases hic : i < cols.length
                · have hx := List.getElem?_eq_getElem hic
                  generalize cols[i] = ci at hx
                  have HX := Lib.hid hx; clear hx
                  go_wp2
                  go_loopw [118] (fun v wr2 => ∃ j : Nat, v = .int .i64 (j : Nat) ∧ j ≤ i ∧ ci ∉ cols.take j ∧ Below w8.heap.size w8 wr2) (fun v _ => i - (intOf v).toNat)
                  case atStart => exact ⟨0, rfl, Nat.zero_le _, by simp, HB9.out⟩
                  case round =>
                    clear HB9
                    obtain ⟨j, rfl, hj, hnj, hB9⟩ := hrel
                    have HNJ := Lib.hid hnj; have HB9 := Lib.hid hB9; clear hnj hB9
                    by_cases hji : j < i
                    · obtain ⟨cb, co, rfl, hcb, hcrow⟩ := (R2.out.on (on HD8.out.b HB9.out)).row (by omega)
                      have hy := List.getElem?_eq_getElem (show j < cols.length by omega)
                      generalize cols[j] = cj at hy
                      have d1 := hcrow j _ hy
                      have d2 := hcrow i _ HX.out
                      have HY := Lib.hid hy
                      clear hcrow hy
                      have hij1 : (i : Int) < (cols.length : Int) := by omega
                      have hij2 : (j : Int) < (cols.length : Int) := by omega
                      by_cases hcc : cj = ci
                      · subst hcc
                        have hq9 : q9 = 0 := by
                          rw [HQ.out, if_neg]
                          intro hd
                          have hnd := (distB_iff.1 hd).2
                          rw [split_take HX.out, List.nodup_append] at hnd
                          exact hnd.2.2 _ (List.mem_of_getElem? (by rw [List.getElem?_take, if_pos hji]; exact HY.out)) _ List.mem_cons_self rfl
                        subst hq9
                        go_wp2_with fail
                        go_quiet (fail)
                        all_goals
                          go_wp2
                          go_ret
                          exact ⟨rfl, on HD8.out.b (on HB9.out (by first | exact (Below.refl _ _).drew | exact bel_drawN' (Below.refl _ _) _))⟩
                      · go_wp2_with fail
                        go_quiet (fail)
                        all_goals
                          go_wp2
                          go_roundw
                          case rel => exact ⟨j + 1, by go_num, by omega, by rw [take_snoc' HY.out, List.mem_append, List.mem_singleton]; rintro (h | h); exact HNJ.out h; exact hcc h.symm, on HB9.out (by first | exact (Below.refl _ _).drew | exact bel_drawN' (Below.refl _ _) _)⟩
                          case measure => simp [intOf]; omega
                    · obtain rfl : j = i := by omega
                      go_wp2
                      go_roundw
                      case rel => exact ⟨j + 1, by go_num, by omega, by rw [take_snoc' HX.out]; exact List.nodup_append.2 ⟨HND.out, by simp, fun a ha b hb e => HNJ.out (by rw [List.mem_singleton] at hb; subst hb; subst e; exact ha)⟩, HB9.out⟩
                      case measure => simp [intOf]; omega
                · obtain rfl : i = cols.length := by omega
                  have hnd := HND.out
                  rw [List.take_of_length_le (Nat.le_refl _)] at hnd
                  have hq9 : q9 = M.length := by rw [HQ.out, if_pos (distB_iff.2 ⟨HIN.out, hnd⟩)]
                  subst hq9
                  clear hnd HQ
                  go_wp2_with (go_at_call 14; refine (HLEN.out _ (HD8.out.on HB9.out)).mono ?_; rintro e w14 ⟨rfl, rfl⟩)
                  go_ret
                  exact ⟨rfl, on HD8.out.b HB9.out⟩
        · have HOUT : Hid (∃ c ∈ cols, inR n c = false) := Lib.hid (by simpa using hin)
          clear hin
          go_loopw [66] (fun v wr => v = .int .i64 0 ∧ Below w8.heap.size w8 wr) (fun v _ => M.length - (intOf v).toNat)
          case atStart => exact ⟨rfl, Below.refl _ _⟩
          case round =>
            obtain ⟨rfl, hB9⟩ := hrel
            have hy := List.getElem?_eq_getElem (show 0 < ys8.length by rw [HYL.out]; exact hMp)
            obtain ⟨y, hy⟩ : ∃ y, ys8[0]? = some y := ⟨_, hy⟩
            obtain ⟨b, o, rfl, hbl, hcy⟩ := (HY8.out.on hB9).at_ hy
            have hcy' : wr.cell? ⟨b, o, none⟩ = some (.slice y.A y.l.length y.c) := by simpa using hcy
            have hyM : y.l ∈ M := by rw [← HE8.out]; exact List.mem_map.2 ⟨y, List.mem_of_getElem? hy, rfl⟩
            have hyn := HMN.out _ hyM
            have HRY := Lib.hid ((HY8.out.on hB9).each y (List.mem_of_getElem? hy)).1
            have hsh := pick_short (t := y.l) (p := cols) (by rw [hyn]; exact HOUT.out)
            have hpk := (refPick_any y.A A2 y.c c2 y.l cols wr HRY.out (R2.out.on (on HD8.out.b hB9)) (by omega) (by omega))
            rw [hyn] at hpk
            have HPK := Lib.hid hpk
            clear hpk
            have HFD : Hid (∀ W A c (vs : List V), OneR w r n g0 gs (ps.map IS.l) H W → RdV W A vs → cols.length ≠ vs.length → Calls Try.prog 18 #[.pointer (some ⟨r, 0, none⟩), .slice A2 cols.length c2, .slice A vs.length c] W fun e w' => ∃ B d, e = .returned (.slice B 0 d) ∧ Below W.heap.size W w') := Lib.hid fun W A c vs hO hv hne => by
              have := xFind A2 A c2 c cols vs hO.s hO.x1 hn8 hH (R2.out.on hO.b) (fun hne b o e hx => by
                obtain ⟨b', o', e', hb', _⟩ := R2.out 0 _ (List.getElem?_eq_getElem (List.length_pos_iff.2 hne))
                rw [e] at e'; cases e'
                have := hO.x0 b hx; omega) hv (by omega)
              rw [find_short hne] at this
              refine this.mono ?_
              rintro e w' ⟨B, d, ys, rfl, _, _, hb⟩
              exact ⟨B, d, rfl, hb⟩
            have hsh' : (((pickL y.l cols).length : Int) != (cols.length : Int)) = true := by rw [bne_iff_ne]; omega
            have HSH := Lib.hid (show cols.length ≠ (pickL y.l cols).length by omega)
            generalize pickL y.l cols = vs at HPK HSH hsh'
            clear hsh hy hyM hcy
            go_wp2_with (first
              | (go_at_call 19; (with_reducible refine HPK.out.mono ?_); rintro e w9 ⟨A9, d9, rfl, hr9, _, hb9⟩; have HR9 := Lib.hid hr9; have HB9 := Lib.hid hb9; clear hr9 hb9)
              | (go_at_call 18; (with_reducible refine (HFD.out _ A9 d9 vs (HD8.out.on (on hB9 HB9.out)) HR9.out HSH.out).mono ?_); rintro e w10 ⟨B10, d10, rfl, hb10⟩; have HB10 := Lib.hid hb10; clear hb10))
            go_ret
            exact ⟨rfl, on (on HD8.out.b hB9) (on HB9.out HB10.out)⟩
  · have HBAD : Hid (∀ W, Below w.heap.size w W → Calls Try.prog 9 #[.int .i64 (x.l.length : Int), .slice A0 ps.length c0] W fun e w' => e = .returned (.tuple #[.pointer none, .int .i64 1]) ∧ Below W.heap.size W w') := Lib.hid fun W hW => by
      by_cases hn8 : x.l.length ≤ 8
      · refine (relNew_any A0 c0 x.l.length ps W hn8 (R0.out.on hW) (by omega)).mono ?_
        rintro e w' (⟨h, _⟩ | ⟨_, h⟩)
        · exact absurd ⟨hn8, h⟩ hall
        · exact h
      · refine (relNew_out (x.l.length : Int) (.slice A0 ps.length c0) W (.inr (by omega))).mono ?_
        rintro e w' ⟨rfl, rfl⟩
        exact ⟨rfl, Below.refl _ _⟩
    clear hall
    go_enter Try.func4, Try.ntmps4
    go_wp2_with (first
      | (go_at_call 7; refine (awakeR_any _).mono ?_; rintro e w1 ⟨rfl, h'⟩; replace hB := on hB h'; clear h'; replace cx := (keep hB _ _ hab).trans cx)
      | (go_at_call 8; refine (HFW.out _ hB).mono ?_; rintro e w2 ⟨rfl, rfl⟩)
      | (go_at_call 9; refine (HBAD.out _ hB).mono ?_; rintro e w3 ⟨rfl, hb⟩; replace hB := on hB hb; clear hb))
    go_ret
    exact ⟨rfl, hB⟩
theorem walk (A0 : Option Addr) (c0 : Nat) (ps : List IS) (A1 : Option Addr) (c1 : Nat) (xs : List Sl) (A2 : Option Addr) (c2 : Nat) (cols : List Int) (w : World) (r0 : RdP w A0 ps) (m0 : ps.length ≤ maxLen) (q0 : ∀ x ∈ ps, x.l.length ≤ x.c) (r1 : RdL w A1 xs) (m1 : xs.length ≤ maxLen) (q1 : xs.length ≤ c1) (r2 : RdI w A2 cols) (q2 : cols.length ≤ c2) (m2 : cols.length ≤ maxLen) (z2 : A2 = none → c2 = 0) :
    Calls Try.prog 4 #[.slice A0 ps.length c0, .slice A1 xs.length c1, .slice A2 cols.length c2] w fun e w' => e = .returned (.bool true) ∧ Below w.heap.size w w' := by
  by_cases h : fewR (ps.map IS.l) (xs.map Sl.l) = true ∧ 0 < xs.length ∧ ¬ 12 < (cols.length : Int)
  · exact walk_yes A0 A1 A2 c0 c1 c2 ps xs cols _ w r0 m0 r1 m1 r2 h.1 h.2.1 (List.getElem?_eq_getElem h.2.1) h.2.2
  · refine walk_no A0 A1 A2 c0 c1 c2 ps xs cols w r0 m0 r1 m1 ?_
    cases hf : fewR (ps.map IS.l) (xs.map Sl.l) with
    | false => exact .inl rfl
    | true =>
      refine .inr ⟨rfl, ?_⟩
      by_cases h0 : xs.length = 0
      · exact .inl h0
      · refine .inr ⟨by omega, ?_⟩
        by_cases h12 : 12 < (cols.length : Int)
        · exact h12
        · exact absurd ⟨hf, by omega, h12⟩ h

theorem own : ownKnob Try.prog.godebug = none := by kernel_rfl

set_option maxRecDepth 100000 in
theorem lifted (os : Os) (started : os.Started) (H : Type) (enc : TypeId × Value → H) :
    ReturnsInHanded {} Try.checked os 4 .any (Rows.relPartsSpec.pre6 enc Try.prog Try.f4 Rows.relPartsRow.domain false) (Rows.relPartsSpec.post enc Try.prog Try.f4 false true false false) := by
  refine returnsInHanded_of_change (C := Try.checked) own started (by kernel_rfl) Try.func4
    (ChangeSpec.witness6 (enc := enc) (C := Try.checked) false ⟨#[], #[.slice none 0 0, .slice none 0 0, .slice none 0 0], []⟩ 8 (by kernel_rfl) (by kernel_rfl) (by kernel_rfl) (by kernel_rfl)) ?_
  intro W base args ds gs before hval0 hW hcnd _
  have hval : ∀ (j : Nat) t v, Try.f4.params[j]? = some t → args[j]? = some v → Value.okWide Try.prog W .any base t v := hval0
  have hW' := hW
  obtain ⟨p, q, hA0, hV, rfl, hfz, hnd⟩ := hW
  have hA : DataW.TrodAll enc Try.prog W 0 (fun _ => true) true Try.f4.params.toList args.toList ds p := hA0
  have hAk := hA
  rw [Try.params4] at hA hval
  obtain ⟨v0, vs0, d0, ds0, p0, q0, hargs, rfl, rfl, h0, r0⟩ := trodAll_cons hA
  obtain ⟨v1, vs1, d1, ds1, p1, q1, rfl, rfl, rfl, h1, r1⟩ := trodAll_cons r0
  obtain ⟨v2, vs2, d2, ds2, p2, q2, rfl, rfl, rfl, h2, r2⟩ := trodAll_cons r1
  obtain ⟨rfl, rfl, rfl⟩ := trodAll_nil r2
  obtain rfl : args = #[v0, v1, v2] := by cases args; simp_all
  obtain ⟨rfl, rfl⟩ := trodVars_none hV
  obtain ⟨A0, c0, l0, rfl, r0', m0', q0'⟩ := open_perms (okWide_slice Try.underlying22 (hval 0 22 v0 rfl rfl)) h0
  obtain ⟨A1, c1, l1, rfl, r1', m1', q1'⟩ := open_tups (okWide_slice Try.underlying23 (hval 1 23 v1 rfl rfl)) h1
  obtain ⟨A2, c2, l2, rfl, r2', q2', m2', z2'⟩ := open_nums (okWide_slice Try.underlying43 (hval 2 43 v2 rfl rfl)) h2
  clear hA0 hval0
  refine (walk A0 c0 l0 A1 c1 l1 A2 c2 l2 W r0' m0' q0' r1' m1' q1' r2' q2' m2' z2').mono fun e W' ⟨he, hg⟩ => ?_
  subst he
  refine ⟨_, rfl, post_old hW' (by simpa using hAk) (by rw [Try.params4]; decide) (fun _ _ _ => (trodAll_cons_mk (shut_bool Try.underlying4 _) trodAll_mk0)) rfl (fun _ => rfl) hg⟩

theorem proved : Rows.RelPartsSaid :=
  OpenClaim.holds_of_wide 4 Try.f4 rfl rfl rfl rfl rfl rfl rfl ⟨rfl, rfl, rfl, rfl, rfl⟩ rfl rfl rfl rfl rfl (by kernel_rfl) Try.func4 (by kernel_rfl)
    (of_decide_eq_true (by kernel_rfl)) (by unfold Func.isWrapper; first | (rw [if_pos (by decide +kernel)]; kernel_rfl) | (rw [if_neg (by decide +kernel)]; exact ⟨rfl, rfl⟩))
    (fun os started H enc _ => lifted os started H enc)
#print axioms proved
end Go.Proofs.Ytfdhkldgenkobaa.relParts

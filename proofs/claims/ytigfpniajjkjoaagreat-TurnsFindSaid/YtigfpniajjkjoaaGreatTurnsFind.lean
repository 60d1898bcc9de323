/-
  TurnsFind (layer 6, turns): for every l, cols and vals the call returns true: what is found is of all that is there so far, what is new of what is found; in a turn with nothing new nothing is; what is there stays. No condition.
-/
import Derived.Test.YtigfpniajjkjoaaGreatRows
import Derived.Test.YtigfpniajjkjoaaGreatTurWas
import Derived.Test.YtigfpniajjkjoaaGreatTurOne
import Derived.Test.YtigfpniajjkjoaaGreatTurOne
import Derived.WalkKit
import Derived.ProofKit
import Derived.OpenShut
namespace Go.Proofs.YtigfpniajjkjoaaGreat.turnsFind
open Go.ChangeShapes Go.WideShapes Go.ChangeAt Go.RowKit FloM ValM
set_option linter.unusedVariables false
set_option linter.unusedSimpArgs false
theorem addL_ge {n : Nat} {x : List V} {HA HP : List (List V)} {left : Int} : left - 1 ≤ addL n x HA HP left ∧ addL n x HA HP left ≤ left := by
  unfold addL; split <;> omega
theorem addH_len {n : Nat} {x : List V} {HA HP : List (List V)} {left : Int} : (addH n x HA HP left).length ≤ HP.length + 1 := by
  unfold addH; split <;> simp
set_option maxRecDepth 20000 in
set_option maxHeartbeats 8000000 in
theorem walk_no (A0 A1 A2 : Option Addr) (c0 c1 c2 : Nat) (os : List OpV) (cols : List Int) (vals : List V) (w : World) (r0 : RdO w A0 os) (m0 : os.length ≤ maxLen)
    (h : fewR [] (os.map OpV.l) = false ∨ fewR [] (os.map OpV.l) = true ∧ (os = [] ∨ 0 < os.length ∧ (12 < cols.length ∨ cols.length ≤ 12 ∧ 12 < vals.length))) :
    Calls Tryz.prog 6 #[.slice A0 os.length c0, .slice A1 cols.length c1, .slice A2 vals.length c2] w fun e w' => e = .returned (.bool true) ∧ Below w.heap.size w w' := by
  have hB := Below.refl w.heap.size w
  have R0 := Lib.hid r0; clear r0
  have HFW : Hid (∀ W, Below w.heap.size w W → Calls Tryz.prog 24 #[.slice none 0 0, .slice A0 os.length c0] W fun e w' => e = .returned (.bool (fewR [] (os.map OpV.l))) ∧ W = w') := Lib.hid fun W hW => fewO_any none A0 0 c0 [] os W RdP.nil (R0.out.on hW) (by simp) m0
  rcases h with h | ⟨h, h8 | ⟨hne, h8 | ⟨h8, h9⟩⟩⟩
  · rw [h] at HFW
    clear h
    go_enter Tryz.func6, Tryz.ntmps6
    go_wp2_with (first
      | (go_at_call 23; refine (awakeT_any _).mono ?_; rintro e w1 ⟨rfl, h'⟩; replace hB := on hB h'; clear h')
      | (go_at_call 24; refine (HFW.out _ hB).mono ?_; rintro e w2 ⟨rfl, rfl⟩))
    go_ret
    exact ⟨rfl, hB⟩
  · rw [h] at HFW
    subst h8
    simp only [List.length_nil] at HFW ⊢
    clear h m0
    go_enter Tryz.func6, Tryz.ntmps6
    go_wp2_with (first
      | (go_at_call 23; refine (awakeT_any _).mono ?_; rintro e w1 ⟨rfl, h'⟩; replace hB := on hB h'; clear h')
      | (go_at_call 24; refine (HFW.out _ hB).mono ?_; rintro e w2 ⟨rfl, rfl⟩))
    go_ret
    exact ⟨rfl, hB⟩
  · rw [h] at HFW
    have hne' : ((os.length : Int) == 0) = false := by rw [beq_eq_false_iff_ne]; omega
    have h12 : 12 < (cols.length : Int) := by omega
    clear h h8
    go_enter Tryz.func6, Tryz.ntmps6
    go_wp2_with (first
      | (go_at_call 23; refine (awakeT_any _).mono ?_; rintro e w1 ⟨rfl, h'⟩; replace hB := on hB h'; clear h')
      | (go_at_call 24; refine (HFW.out _ hB).mono ?_; rintro e w2 ⟨rfl, rfl⟩))
    go_ret
    exact ⟨rfl, hB⟩
  · rw [h] at HFW
    have hne' : ((os.length : Int) == 0) = false := by rw [beq_eq_false_iff_ne]; omega
    have h12 : ¬ 12 < (cols.length : Int) := by omega
    have h13 : 12 < (vals.length : Int) := by omega
    clear h h8 h9
    go_enter Tryz.func6, Tryz.ntmps6
    go_wp2_with (first
      | (go_at_call 23; refine (awakeT_any _).mono ?_; rintro e w1 ⟨rfl, h'⟩; replace hB := on hB h'; clear h')
      | (go_at_call 24; refine (HFW.out _ hB).mono ?_; rintro e w2 ⟨rfl, rfl⟩))
    go_ret
    exact ⟨rfl, hB⟩
set_option maxRecDepth 20000 in
set_option maxHeartbeats 60000000 in
theorem walk_yes (A0 A1 A2 : Option Addr) (c0 c1 c2 : Nat) (os : List OpV) (cols : List Int) (vals : List V) (o0 : OpV) (w : World) (r0 : RdO w A0 os) (m0 : os.length ≤ maxLen) (r1 : RdI w A1 cols) (r2 : RdV w A2 vals)
    (hf : fewR [] (os.map OpV.l) = true) (hne : 0 < os.length) (ho : os[0]? = some o0) (h12 : cols.length ≤ 12) (h13 : vals.length ≤ 12) :
    Calls Tryz.prog 6 #[.slice A0 os.length c0, .slice A1 cols.length c1, .slice A2 vals.length c2] w fun e w' => e = .returned (.bool true) ∧ Below w.heap.size w w' := by
  have hB := Below.refl w.heap.size w
  have R0 := Lib.hid r0; have R1 := Lib.hid r1; have R2 := Lib.hid r2; clear r0 r1 r2
  obtain ⟨_, f2, _, f4⟩ := fewR_yes hf
  rw [List.length_map] at f4
  have HFL : Hid (∀ o ∈ os, o.l.length ≤ 12) := Lib.hid fun o ho => f2 _ (List.mem_map_of_mem ho)
  have HFW : Hid (∀ W, Below w.heap.size w W → Calls Tryz.prog 24 #[.slice none 0 0, .slice A0 os.length c0] W fun e w' => e = .returned (.bool true) ∧ W = w') := Lib.hid fun W hW => by
    have := fewO_any none A0 0 c0 [] os W RdP.nil (R0.out.on hW) (by simp) m0
    rw [show (List.map IS.l []) = [] from rfl, hf] at this; exact this
  clear hf f2
  have hne' : ((os.length : Int) == 0) = false := by rw [beq_eq_false_iff_ne]; omega
  have h12' : ¬ 12 < (cols.length : Int) := by omega
  have h13' : ¬ 12 < (vals.length : Int) := by omega
  obtain ⟨ab, ao, rfl, hab, q0, _⟩ := R0.out.rd 0 o0 ho
  have q0' : w.cell? ⟨ab, ao, none⟩ = some (.slice o0.A o0.l.length o0.c) := by simpa using q0
  have HC0 : Hid (∀ W, Below w.heap.size w W → W.cell? ⟨ab, ao, none⟩ = some (.slice o0.A o0.l.length o0.c)) := Lib.hid fun W hW => (keep hW _ _ hab).trans q0'
  clear q0 q0' ho
  obtain ⟨n, hn⟩ : ∃ n, o0.l.length = n := ⟨_, rfl⟩
  rw [hn] at HC0
  clear hn
  by_cases hn8 : n ≤ 8
  · go_enter Tryz.func6, Tryz.ntmps6
    go_wp2_with (first
      | (go_at_call 23; refine (awakeT_any _).mono ?_; rintro e w1 ⟨rfl, h'⟩; replace hB := on hB h'; have cx := HC0.out _ hB; clear h')
      | (go_at_call 24; refine (HFW.out _ hB).mono ?_; rintro e w2 ⟨rfl, rfl⟩)
      | (go_at_call 25; refine (turNew0_any (w := w) (left := 1000) hn8 (hB.trans (((Below.refl w1.heap.size w1).alloc (Nat.le_refl _) _).mono hB.size)) hB.size (heap_alloc_new _ _)).mono ?_; rintro e w3 ⟨t, rfl, h⟩; have HT := Lib.hid h; clear h))
    generalize hpu : w1.heap.size = p at HT ⊢
    clear hpu cx HC0
    go_loopw [56] (fun v wr => ∃ (k : Nat) (left : Int) (HA HL HP : List (List V)), v = .int .i64 (k : Nat) ∧ k ≤ os.length ∧ HA.length + HP.length ≤ k ∧ HL.length ≤ k ∧ 1000 - k ≤ left ∧ left ≤ 1000 ∧ (∀ x ∈ puts (upto n) HL, x ∈ puts (upto n) HA) ∧ TOne w t p n left HA HL HP wr) (fun v _ => os.length - (intOf v).toNat)
    case atStart => exact ⟨0, 1000, [], [], [], rfl, Nat.zero_le _, by simp, by simp, by simp, by simp, fun x hx => hx, HT.out⟩
    case round =>
      clear HT hB
      obtain ⟨k, left, HA, HL, HP, rfl, hk, g1, g2, l0, l1, hsub, hT⟩ := hrel
      have HT := Lib.hid hT; have HSUB := Lib.hid hsub; clear hT hsub
      by_cases hlt : k < os.length
      · obtain ⟨o, hy⟩ : ∃ o, os[k]? = some o := ⟨_, List.getElem?_eq_getElem hlt⟩
        obtain ⟨ob, oo, e', hob, q0, q1⟩ := R0.out.rd k o hy
        injection e' with e'; injection e' with e1 e2 _; subst e1 e2
        have hRo := Lib.hid (R0.out.each o (List.mem_of_getElem? hy)).1
        have hlo := HFL.out o (List.mem_of_getElem? hy)
        have HD0 : Hid (∀ W, Below w.heap.size w W → W.cell? ⟨ab, ao + k * 2, none⟩ = some (.slice o.A o.l.length o.c)) := Lib.hid fun W hW => (keep hW _ _ hab).trans q0
        have HD1 : Hid (∀ W, Below w.heap.size w W → W.cell? ⟨ab, ao + k * 2 + 1, none⟩ = some (.bool o.t)) := Lib.hid fun W hW => (keep hW _ _ hab).trans q1
        clear q0 q1 hy
        have hpl := puts_len (upto n) HP
        have hpa := puts_len (upto n) HA
        have HWS := Lib.hid (HT.out.was (by omega))
        obtain ⟨L, hL⟩ : ∃ L, puts (upto n) HA = L := ⟨_, rfl⟩
        rw [hL] at HWS hpa
        have HLE := Lib.hid hL
        clear hL
        -- what the turn, or the addition, makes of it
        obtain ⟨bt, er, left2, HA2, HL2, HP2, HOT, HST, j1, j2, j3, j4, HS2, HUP, HEMP⟩ : ∃ (bt : Bool) (er : Ending) (left2 : Int) (HA2 HL2 HP2 : List (List V)), Hid (o.t = bt) ∧
            Hid (∀ W A xs, TWas w t p n left HA HL HP A xs W → (if bt then Calls Tryz.prog 27 #[.pointer (some ⟨t, 0, none⟩)] W else Calls Tryz.prog 29 #[.pointer (some ⟨t, 0, none⟩), .slice o.A o.l.length o.c] W) fun e w' => e = er ∧ TWas w t p n left2 HA2 HL2 HP2 A xs w') ∧
            HA2.length + HP2.length ≤ k + 1 ∧ HL2.length ≤ k + 1 ∧ 1000 - (k + 1 : Nat) ≤ left2 ∧ left2 ≤ 1000 ∧ Hid (∀ x ∈ puts (upto n) HL2, x ∈ puts (upto n) HA2) ∧ Hid (∀ x ∈ L, x ∈ puts (upto n) HA2) ∧
            Hid ((bt = true ∧ er = .returned (.bool true)) ∨ (bt = true ∧ er = .returned (.bool false) ∧ puts (upto n) HL2 = [] ∧ (puts (upto n) HA2).length = L.length) ∨ (bt = false ∧ (∃ b i, er = .returned (.tuple #[.bool b, .int .i64 i])) ∧ (puts (upto n) HA2).length = L.length)) := by
          cases hot : o.t with
          | true =>
            refine ⟨true, .returned (.bool (decide (0 < (puts (upto n) HP).length))), left, HA ++ puts (upto n) HP, HP, [], Lib.hid rfl, Lib.hid fun W A xs h => ?_, ?_, by omega, by omega, l1, Lib.hid fun x hx => puts_new hx, Lib.hid fun x hx => puts_up (by rw [HLE.out]; exact hx), ?_⟩
            · rw [if_pos rfl]; exact h.turn (by omega)
            · rw [List.length_append, List.length_nil]; omega
            · cases hp : puts (upto n) HP with
              | nil => exact Lib.hid (.inr (.inl ⟨rfl, rfl, rfl, by rw [List.append_nil, HLE.out]⟩))
              | cons y ys => exact Lib.hid (.inl ⟨rfl, by simp⟩)
          | false =>
            have e1 := addL_ge (n := n) (x := o.l) (HA := HA) (HP := HP) (left := left)
            have e2 := addH_len (n := n) (x := o.l) (HA := HA) (HP := HP) (left := left)
            refine ⟨false, .returned (.tuple #[.bool (addB n o.l HA HP left), .int .i64 (addE n o.l HA HP left)]), addL n o.l HA HP left, HA, HL, addH n o.l HA HP left, Lib.hid rfl, Lib.hid fun W A xs h => ?_, by omega, by omega, by omega, by omega, HSUB, Lib.hid fun x hx => by rw [HLE.out]; exact hx, Lib.hid (.inr (.inr ⟨rfl, ⟨_, _, rfl⟩, by rw [HLE.out]⟩))⟩
            rw [if_neg (by simp)]
            exact h.add hRo.out (by omega) (by omega) (by omega) (by omega)
        have hpa2 := puts_len (upto n) HA2
        have hpl2 := puts_len (upto n) HL2
        obtain ⟨L2, hL2⟩ : ∃ L2, puts (upto n) HA2 = L2 := ⟨_, rfl⟩
        obtain ⟨N2, hN2⟩ : ∃ N2, puts (upto n) HL2 = N2 := ⟨_, rfl⟩
        have HM2 : Hid (∀ x ∈ L2, x.length = n ∧ hasB (upto n) x L2 = true) := Lib.hid fun x hx => by
          rw [← hL2] at hx ⊢
          exact ⟨puts_lenN hx, puts_has hx⟩
        have HMW : Hid (∀ x ∈ L, x.length = n) := Lib.hid fun x hx => by
          rw [← HLE.out] at hx
          exact puts_lenN hx
        have HF2 : Hid (∀ x ∈ findL n cols vals HA2, x ∈ L2) := Lib.hid fun x hx => by rw [← hL2]; exact findL_in hx
        have HN2 : Hid (∀ x ∈ findL n cols vals HL2, x ∈ N2 ∧ x ∈ findL n cols vals HA2) := Lib.hid fun x hx => ⟨by rw [← hN2]; exact findL_in hx, findL_up HS2.out hx⟩
        have HALL : Hid (∀ W, TOne w t p n left2 HA2 HL2 HP2 W → Calls Tryz.prog 34 #[.pointer (some ⟨t, 0, none⟩)] W fun e w' => ∃ A c xs, e = .returned (.slice A L2.length c) ∧ lsOf xs = L2 ∧ L2.length ≤ c ∧ TWas w t p n left2 HA2 HL2 HP2 A xs w' ∧ Below W.heap.size W w') := Lib.hid fun W h => by
          have := h.was (by omega); rwa [hL2] at this
        have HNW0 : Hid (∀ W, TOne w t p n left2 HA2 HL2 HP2 W → Calls Tryz.prog 33 #[.pointer (some ⟨t, 0, none⟩), .slice none 0 0, .slice none 0 0] W (FindQC N2 W)) := Lib.hid fun W h => by
          have := h.latestC0 (by omega); rwa [hN2] at this
        have HLN : Hid (∀ W, TOne w t p n left2 HA2 HL2 HP2 W → Calls Tryz.prog 31 #[.pointer (some ⟨t, 0, none⟩)] W fun e w' => e = .returned (.int .i64 (L2.length : Nat)) ∧ W = w') := Lib.hid fun W h => by
          have := h.len; rwa [hL2] at this
        have HHS : Hid (∀ W x B c, TOne w t p n left2 HA2 HL2 HP2 W → RdV W B x → x ∈ L2 → Calls Tryz.prog 32 #[.pointer (some ⟨t, 0, none⟩), .slice B x.length c] W fun e w' => e = .returned (.bool true) ∧ Below W.heap.size W w') := Lib.hid fun W x B c h hr hx => by
          have := h.has (ca := c) hr
          rwa [hL2, (HM2.out x hx).2] at this
        have HUP2 : Hid (∀ x ∈ L, x ∈ L2) := Lib.hid fun x hx => by rw [← hL2]; exact HUP.out x hx
        rw [hL2, hN2] at HEMP
        rw [hL2] at hpa2; rw [hN2] at hpl2
        clear hL2 hN2 HUP
        have hfl : (findL n cols vals HA2).length ≤ HA2.length := Nat.le_trans (find_le cols vals) (puts_len _ _)
        have hnl : (findL n cols vals HL2).length ≤ HL2.length := Nat.le_trans (find_le cols vals) (puts_len _ _)
        have HFD : Hid (∀ W, TOne w t p n left2 HA2 HL2 HP2 W → Calls Tryz.prog 35 #[.pointer (some ⟨t, 0, none⟩), .slice A1 cols.length c1, .slice A2 vals.length c2] W (FindQC (findL n cols vals HA2) W)) := Lib.hid fun W h => h.findC (by omega) R1.out (R2.out.on h.bw) (by omega)
        have HNW : Hid (∀ W, TOne w t p n left2 HA2 HL2 HP2 W → Calls Tryz.prog 33 #[.pointer (some ⟨t, 0, none⟩), .slice A1 cols.length c1, .slice A2 vals.length c2] W (FindQC (findL n cols vals HL2) W)) := Lib.hid fun W h => h.latestC (by omega) R1.out (R2.out.on h.bw) (by omega)
        generalize findL n cols vals HA2 = F2 at HF2 HN2 hfl HFD
        generalize findL n cols vals HL2 = G2 at HN2 hnl HNW
        have HING : Hid (∀ W A c xs Ls B cx x, RdL W A xs → lsOf xs = Ls → Ls.length ≤ c → Ls.length ≤ 1000 → RdV W B x → x.length ≤ 8 → x ∈ Ls → Calls Tryz.prog 36 #[.slice A Ls.length c, .slice B x.length cx] W fun e w' => e = .returned (.bool true) ∧ Below W.heap.size W w') := Lib.hid fun W A c xs Ls B cx x hx hl hc hm hr h8 hin => by
          subst hl
          have hll : (lsOf xs).length = xs.length := by simp [lsOf]
          rw [hll] at hc hm ⊢
          exact in_yes A B c cx xs x W hx hc (by omega) hr (by unfold maxLen; omega) hin
        have HG8 : Hid (∀ x ∈ L2, x.length ≤ 8) := Lib.hid fun x hx => by rw [(HM2.out x hx).1]; exact hn8
        have HW8 : Hid (∀ x ∈ L, x.length ≤ 8) := Lib.hid fun x hx => by rw [HMW.out x hx]; exact hn8
        clear HSUB HFL HM2 HMW
        rcases HEMP.out with ⟨rfl, rfl⟩ | ⟨rfl, rfl, rfl, hLL⟩ | ⟨rfl, ⟨bb, ii, rfl⟩, hLL⟩
        all_goals
          simp only [if_true, Bool.false_eq_true, if_false] at HST
          rw [HOT.out] at HD1
          try rw [hLL] at HLN
          try clear hLL
          clear HEMP HOT
          go_wp2_with (first
            | (go_at_call 34; first
              | ((with_reducible refine HWS.out.mono ?_); rintro e w4 ⟨A5, c5, zs, rfl, hz, hc5, hW, _⟩; have HW4 := Lib.hid hW; have HZ := Lib.hid hz; have d1 := HD1.out _ hW.bw; have d0 := HD0.out _ hW.bw; clear hW hz HWS)
              | (refine (HALL.out _ HW5.out.one).mono ?_; rintro e w6 ⟨A6, c6, zs6, rfl, hz6, hc6, hW6, hb6⟩; have HT6 := Lib.hid hW6.one; have HY6 := Lib.hid (hW6.rdl fun y hy => by have := HG8.out y.l (by rw [← hz6]; exact List.mem_map_of_mem hy); unfold maxLen; omega); have HZ6 := Lib.hid hz6; have HY5 := Lib.hid ((HW5.out.on hb6).rdl fun y hy => by have := HW8.out y.l (by rw [← HZ.out]; exact List.mem_map_of_mem hy); unfold maxLen; omega); clear hW6 hz6 hb6 HALL))
            | (go_at_call 27; refine (HST.out _ _ _ HW4.out).mono ?_; rintro e w5 ⟨rfl, h⟩; have HW5 := Lib.hid h; clear h HST)
            | (go_at_call 29; refine (HST.out _ _ _ HW4.out).mono ?_; rintro e w5 ⟨rfl, h⟩; have HW5 := Lib.hid h; clear h HST)
            | (go_at_call 31; refine (HLN.out _ HW5.out.one).mono ?_; rintro e w5c ⟨rfl, rfl⟩)
            | (go_at_call 35; refine (HFD.out _ HT6.out).mono ?_; rintro e w7 ⟨A7, c7, zs7, rfl, hy7, hz7, hb7, hc7⟩; have HT7 := Lib.hid (HT6.out.on hb7); have HY67 := Lib.hid (HY6.out.on hb7); have HY57 := Lib.hid (HY5.out.on hb7); have HY7 := Lib.hid hy7; have HZ7 := Lib.hid hz7; clear hy7 hz7 hb7 HT6 HY6 HY5)
            | (go_at_call 33; first
              | ((with_reducible refine (HNW0.out _ HW5.out.one).mono ?_); rintro e w5b ⟨B0, d0b, ys0, rfl, _, _, hb0, _⟩; replace HW5 := Lib.hid (HW5.out.on hb0); clear hb0)
              | (refine (HNW.out _ HT7.out).mono ?_; rintro e w8 ⟨A8, c8, zs8, rfl, hy8, hz8, hb8, hc8⟩; have HT8 := Lib.hid (HT7.out.on hb8); have HY68 := Lib.hid (HY67.out.on hb8); have HY58 := Lib.hid (HY57.out.on hb8); have HY78 := Lib.hid (HY7.out.on hb8); have HY8 := Lib.hid hy8; have HZ8 := Lib.hid hz8; clear hy8 hz8 hb8 HT7 HY67 HY57 HY7)))
        all_goals
          have hzl : zs.length = L.length := by rw [← HZ.out]; simp [lsOf]
          have hzl7 : zs7.length = F2.length := by rw [← HZ7.out]; simp [lsOf]
          have hzl8 : zs8.length = G2.length := by rw [← HZ8.out]; simp [lsOf]
          have HZL := Lib.hid hzl; have HZL7 := Lib.hid hzl7; have HZL8 := Lib.hid hzl8
          clear hzl hzl7 hzl8 HW4 HW5 HNW HFD HLN
          try clear d0
          clear d1
          go_loopw [106] (fun v wr2 => ∃ i : Nat, v = .int .i64 (i : Nat) ∧ i ≤ L.length ∧ Below w8.heap.size w8 wr2) (fun v _ => L.length - (intOf v).toNat)
          case atStart => exact ⟨0, rfl, Nat.zero_le _, Below.refl _ _⟩
          case round =>
            obtain ⟨i, rfl, hi, hB⟩ := hrel
            by_cases hli : i < L.length
            · obtain ⟨z, hz⟩ : ∃ z, zs[i]? = some z := ⟨_, List.getElem?_eq_getElem (show i < zs.length by rw [HZL.out]; exact hli)⟩
              obtain ⟨zb, zo, rfl, hzb, cz⟩ := (HY58.out.on hB).at_ hz
              have hzm : z.l ∈ L := by rw [← HZ.out]; exact List.mem_map_of_mem (List.mem_of_getElem? hz)
              have HI := Lib.hid (HING.out wr A6 c6 zs6 L2 z.A z.c z.l (HY68.out.on hB) HZ6.out hc6 (by omega) ((HY58.out.on hB).each z (List.mem_of_getElem? hz)).1 (HW8.out _ hzm) (HUP2.out _ hzm))
              clear hz hzm
              go_wp2_with (go_at_call 36; refine HI.out.mono ?_; rintro e w9 ⟨rfl, hb9⟩)
              go_roundw
              case rel => exact ⟨i + 1, by go_num, by omega, on hB hb9⟩
              case measure => simp [intOf]; omega
            · obtain rfl : i = L.length := by omega
              have HT9 := Lib.hid (HT8.out.on hB)
              obtain ⟨W9, rfl⟩ : ∃ W9, W9 = wr := ⟨_, rfl⟩
              have HB9 := Lib.hid hB
              clear hB
              go_wp2
              go_loopw [120] (fun v wr2 => ∃ i : Nat, v = .int .i64 (i : Nat) ∧ i ≤ F2.length ∧ Below w8.heap.size w8 wr2) (fun v _ => F2.length - (intOf v).toNat)
              case atStart => exact ⟨0, rfl, Nat.zero_le _, HB9.out⟩
              case round =>
                clear HT9 HB9
                obtain ⟨i, rfl, hi, hB⟩ := hrel
                have HTB := Lib.hid (HT8.out.on hB)
                by_cases hli : i < F2.length
                · obtain ⟨z, hz⟩ : ∃ z, zs7[i]? = some z := ⟨_, List.getElem?_eq_getElem (show i < zs7.length by rw [HZL7.out]; exact hli)⟩
                  obtain ⟨zb, zo, rfl, hzb, cz⟩ := (HY78.out.on hB).at_ hz
                  have hzm : z.l ∈ L2 := HF2.out _ (by rw [← HZ7.out]; exact List.mem_map_of_mem (List.mem_of_getElem? hz))
                  have hzr := ((HY78.out.on hB).each z (List.mem_of_getElem? hz)).1
                  have HI := Lib.hid (HING.out wr A6 c6 zs6 L2 z.A z.c z.l (HY68.out.on hB) HZ6.out hc6 (by omega) hzr (HG8.out _ hzm) hzm)
                  have HH : Hid (∀ W, Below wr.heap.size wr W → Calls Tryz.prog 32 #[.pointer (some ⟨t, 0, none⟩), .slice z.A z.l.length z.c] W fun e w' => e = .returned (.bool true) ∧ Below W.heap.size W w') := Lib.hid fun W hW => HHS.out W z.l z.A z.c (HTB.out.on hW) (hzr.on hW) hzm
                  clear hz hzm hzr
                  go_wp2_with (first
                    | (go_at_call 36; refine HI.out.mono ?_; rintro e w9 ⟨rfl, hb9⟩; have cz9 := (keep hb9 _ _ hzb).trans cz)
                    | (go_at_call 32; refine (HH.out _ hb9).mono ?_; rintro e w10 ⟨rfl, hb10⟩))
                  go_roundw
                  case rel => exact ⟨i + 1, by go_num, by omega, on hB (on hb9 hb10)⟩
                  case measure => simp [intOf]; omega
                · obtain rfl : i = F2.length := by omega
                  have HBB := Lib.hid hB
                  clear hB
                  go_wp2
                  go_loopw [143] (fun v wr2 => ∃ i : Nat, v = .int .i64 (i : Nat) ∧ i ≤ G2.length ∧ Below w8.heap.size w8 wr2) (fun v _ => G2.length - (intOf v).toNat)
                  case atStart => exact ⟨0, rfl, Nat.zero_le _, HBB.out⟩
                  case round =>
                    clear HBB HTB
                    obtain ⟨i, rfl, hi, hB⟩ := hrel
                    have HTB := Lib.hid (HT8.out.on hB)
                    by_cases hli : i < G2.length
                    · obtain ⟨z, hz⟩ : ∃ z, zs8[i]? = some z := ⟨_, List.getElem?_eq_getElem (show i < zs8.length by rw [HZL8.out]; exact hli)⟩
                      obtain ⟨zb, zo, rfl, hzb, cz⟩ := (HY8.out.on hB).at_ hz
                      obtain ⟨hzn, hzf⟩ := HN2.out z.l (by rw [← HZ8.out]; exact List.mem_map_of_mem (List.mem_of_getElem? hz))
                      have hz8 := HG8.out _ (HF2.out _ hzf)
                      have hzr := ((HY8.out.on hB).each z (List.mem_of_getElem? hz)).1
                      have HI7 : Hid (∀ W, Below wr.heap.size wr W → Calls Tryz.prog 36 #[.slice A7 F2.length c7, .slice z.A z.l.length z.c] W fun e w' => e = .returned (.bool true) ∧ Below W.heap.size W w') := Lib.hid fun W hW => HING.out W A7 c7 zs7 F2 z.A z.c z.l ((HY78.out.on hB).on hW) HZ7.out hc7 (by omega) (hzr.on hW) hz8 hzf
                      have h4 : Below wr.heap.size wr wr.drew := (Below.refl _ _).drew
                      have HZR := Lib.hid hzr; have HZN := Lib.hid hzn
                      clear hz hzr hzf hzn
                      first
                        | exact (List.not_mem_nil HZN.out).elim
                        | (go_wp2_with fail
                           go_region_held3 (fun u => Below wr.heap.size wr u ∧ u.cell? ⟨zb, zo + i, none⟩ = some (.slice z.A z.l.length z.c))
                             (first | exact ⟨Below.refl _ _, cz⟩ | exact ⟨h4, (keep h4 _ _ hzb).trans cz⟩)
                             ((first
                               | (go_at_call 36; first
                                 | ((with_reducible refine (HI7.out _ h4).mono ?_); rintro e w9 ⟨rfl, hb⟩; replace h4 := on h4 hb; clear hb)
                                 | (refine (HING.out _ B9 d9 ys9 N2 z.A z.c z.l HY9.out HS9.out hc9 (by omega) (HZR.out.on h4) hz8 HZN.out).mono ?_; rintro e w9 ⟨rfl, hb⟩; replace h4 := on h4 hb; clear hb))
                               | (go_at_call 33; refine (HNW0.out _ (HTB.out.on h4)).mono ?_; rintro e w10 ⟨B9, d9, ys9, rfl, hy9, hs9, hb, hc9⟩; have HY9 := Lib.hid hy9; have HS9 := Lib.hid hs9; replace h4 := on h4 hb; clear hy9 hs9 hb)))
                           all_goals
                             go_wp2
                             go_roundw
                             case rel => exact ⟨i + 1, by go_num, by omega, on hB h4⟩
                             case measure => simp [intOf]; omega)
                    · obtain rfl : i = G2.length := by omega
                      go_wp2
                      go_roundw
                      case rel => exact ⟨k + 1, left2, HA2, HL2, HP2, by go_num, by omega, j1, j2, by omega, j4, HS2.out, HTB.out⟩
                      case measure => simp [intOf]; omega
      · obtain rfl : k = os.length := by omega
        go_wp2
        go_ret
        exact ⟨rfl, HT.out.bw⟩
  · go_enter Tryz.func6, Tryz.ntmps6
    go_wp2_with (first
      | (go_at_call 23; refine (awakeT_any _).mono ?_; rintro e w1 ⟨rfl, h'⟩; replace hB := on hB h'; have cx := HC0.out _ hB; clear h')
      | (go_at_call 24; refine (HFW.out _ hB).mono ?_; rintro e w2 ⟨rfl, rfl⟩)
      | (go_at_call 25; refine (turNew_far (p := w1.heap.size) (by omega) _).mono ?_; rintro e w3 ⟨rfl, rfl⟩))
    go_ret
    exact ⟨rfl, hB.trans (((Below.refl w1.heap.size w1).alloc (Nat.le_refl _) _).mono hB.size)⟩
theorem walk (A0 : Option Addr) (c0 : Nat) (os : List OpV) (A1 : Option Addr) (c1 : Nat) (cols : List Int) (A2 : Option Addr) (c2 : Nat) (vals : List V) (w : World) (r0 : RdO w A0 os) (m0 : os.length ≤ maxLen) (r1 : RdI w A1 cols) (q1 : cols.length ≤ c1) (m1 : cols.length ≤ maxLen) (z1 : A1 = none → c1 = 0) (r2 : RdV w A2 vals) (k2 : OkL vals) (m2 : vals.length ≤ maxLen) :
    Calls Tryz.prog 6 #[.slice A0 os.length c0, .slice A1 cols.length c1, .slice A2 vals.length c2] w fun e w' => e = .returned (.bool true) ∧ Below w.heap.size w w' := by
  cases hf : fewR [] (os.map OpV.l) with
  | false => exact walk_no A0 A1 A2 c0 c1 c2 os cols vals w r0 m0 (.inl hf)
  | true =>
    cases hos : os with
    | nil => subst hos; exact walk_no A0 A1 A2 c0 c1 c2 [] cols vals w r0 m0 (.inr ⟨hf, .inl rfl⟩)
    | cons o os' =>
      rw [← hos]
      have hne : 0 < os.length := by rw [hos]; simp
      by_cases h12 : cols.length ≤ 12
      · by_cases h13 : vals.length ≤ 12
        · exact walk_yes A0 A1 A2 c0 c1 c2 os cols vals o w r0 m0 r1 r2 hf hne (by rw [hos]; rfl) h12 h13
        · exact walk_no A0 A1 A2 c0 c1 c2 os cols vals w r0 m0 (.inr ⟨hf, .inr ⟨hne, .inr ⟨h12, by omega⟩⟩⟩)
      · exact walk_no A0 A1 A2 c0 c1 c2 os cols vals w r0 m0 (.inr ⟨hf, .inr ⟨hne, .inl (by omega)⟩⟩)

theorem own : ownKnob Tryz.prog.godebug = none := by kernel_rfl

set_option maxRecDepth 100000 in
theorem lifted (os : Os) (started : os.Started) (H : Type) (enc : TypeId × Value → H) :
    ReturnsInHanded {} Tryz.checked os 6 .any (Rows.turnsFindSpec.pre6 enc Tryz.prog Tryz.f6 Rows.turnsFindRow.domain false) (Rows.turnsFindSpec.post enc Tryz.prog Tryz.f6 false true false false) := by
  refine returnsInHanded_of_change (C := Tryz.checked) own started (by kernel_rfl) Tryz.func6
    (ChangeSpec.witness6 (enc := enc) (C := Tryz.checked) false ⟨#[], #[.slice none 0 0, .slice none 0 0, .slice none 0 0], []⟩ 8 (by kernel_rfl) (by kernel_rfl) (by kernel_rfl) (by kernel_rfl)) ?_
  intro W base args ds gs before hval0 hW hcnd _
  have hval : ∀ (j : Nat) t v, Tryz.f6.params[j]? = some t → args[j]? = some v → Value.okWide Tryz.prog W .any base t v := hval0
  have hW' := hW
  obtain ⟨p, q, hA0, hV, rfl, hfz, hnd⟩ := hW
  have hA : DataW.TrodAll enc Tryz.prog W 0 (fun _ => true) true Tryz.f6.params.toList args.toList ds p := hA0
  have hAk := hA
  rw [Tryz.params6] at hA hval
  obtain ⟨v0, vs0, d0, ds0, p0, q0, hargs, rfl, rfl, h0, r0⟩ := trodAll_cons hA
  obtain ⟨v1, vs1, d1, ds1, p1, q1, rfl, rfl, rfl, h1, r1⟩ := trodAll_cons r0
  obtain ⟨v2, vs2, d2, ds2, p2, q2, rfl, rfl, rfl, h2, r2⟩ := trodAll_cons r1
  obtain ⟨rfl, rfl, rfl⟩ := trodAll_nil r2
  obtain rfl : args = #[v0, v1, v2] := by cases args; simp_all
  obtain ⟨rfl, rfl⟩ := trodVars_none hV
  obtain ⟨A0, c0, l0, rfl, r0', m0'⟩ := open_ops (okWide_slice Tryz.underlying50 (hval 0 50 v0 rfl rfl)) h0
  obtain ⟨A1, c1, l1, rfl, r1', q1', m1', z1'⟩ := open_nums (okWide_slice Tryz.underlying24 (hval 1 24 v1 rfl rfl)) h1
  obtain ⟨A2, c2, l2, rfl, r2', k2', m2'⟩ := open_vals (okWide_slice Tryz.underlying25 (hval 2 25 v2 rfl rfl)) h2
  clear hA0 hval0
  refine (walk A0 c0 l0 A1 c1 l1 A2 c2 l2 W r0' m0' r1' q1' m1' z1' r2' k2' m2').mono fun e W' ⟨he, hg⟩ => ?_
  subst he
  refine ⟨_, rfl, post_old hW' (by simpa using hAk) (by rw [Tryz.params6]; decide) (fun _ _ _ => (trodAll_cons_mk (shut_bool Tryz.underlying4 _) trodAll_mk0)) rfl (fun _ => rfl) hg⟩

theorem proved : Rows.TurnsFindSaid :=
  OpenClaim.holds_of_wide 6 Tryz.f6 rfl rfl rfl rfl rfl rfl rfl ⟨rfl, rfl, rfl, rfl, rfl⟩ rfl rfl rfl rfl rfl (by kernel_rfl) Tryz.func6 (by kernel_rfl)
    (of_decide_eq_true (by kernel_rfl)) (by unfold Func.isWrapper; first | (rw [if_pos (by decide +kernel)]; kernel_rfl) | (rw [if_neg (by decide +kernel)]; exact ⟨rfl, rfl⟩))
    (fun os started H enc _ => lifted os started H enc)
#print axioms proved
end Go.Proofs.YtigfpniajjkjoaaGreat.turnsFind

/-
  TurnsWait (layer 6, turns): for every l and x the call returns true: what waits is not there so far; a turn without anything that waits has nothing new, and changes nothing that is there; of a nil one there is nothing. No condition.
-/
import Derived.Test.YtigfpniajjkjoaaRows
import Derived.Test.YtigfpniajjkjoaaTurOne
import Derived.Test.YtigfpniajjkjoaaTurOne
import Derived.WalkKit
import Derived.ProofKit
import Derived.OpenShut
namespace Go.Proofs.Ytigfpniajjkjoaa.turnsWait
open Go.ChangeShapes Go.WideShapes Go.ChangeAt Go.RowKit FloM ValM
set_option linter.unusedVariables false
set_option linter.unusedSimpArgs false
theorem addL_ge {n : Nat} {x : List V} {HA HP : List (List V)} {left : Int} : left - 1 ≤ addL n x HA HP left ∧ addL n x HA HP left ≤ left := by
  unfold addL; split <;> omega
theorem addH_len {n : Nat} {x : List V} {HA HP : List (List V)} {left : Int} : (addH n x HA HP left).length ≤ HP.length + 1 := by
  unfold addH; split <;> simp
set_option maxRecDepth 20000 in
set_option maxHeartbeats 4000000 in
theorem walk_no (A0 A1 : Option Addr) (c0 c1 : Nat) (os : List OpV) (x : List V) (w : World) (r0 : RdO w A0 os) (m0 : os.length ≤ maxLen)
    (h : fewR [] (os.map OpV.l) = false ∨ fewR [] (os.map OpV.l) = true ∧ 8 < x.length) :
    Calls Try.prog 5 #[.slice A0 os.length c0, .slice A1 x.length c1] w fun e w' => e = .returned (.bool true) ∧ Below w.heap.size w w' := by
  have hB := Below.refl w.heap.size w
  have R0 := Lib.hid r0; clear r0
  have HFW : Hid (∀ W, Below w.heap.size w W → Calls Try.prog 19 #[.slice none 0 0, .slice A0 os.length c0] W fun e w' => e = .returned (.bool (fewR [] (os.map OpV.l))) ∧ W = w') := Lib.hid fun W hW => fewO_any none A0 0 c0 [] os W RdP.nil (R0.out.on hW) (by simp) m0
  rcases h with h | ⟨h, h8⟩
  · rw [h] at HFW
    clear h
    go_enter Try.func5, Try.ntmps5
    go_wp2_with (first
      | (go_at_call 18; refine (awakeT_any _).mono ?_; rintro e w1 ⟨rfl, h'⟩; replace hB := on hB h'; clear h')
      | (go_at_call 19; refine (HFW.out _ hB).mono ?_; rintro e w2 ⟨rfl, rfl⟩))
    go_ret
    exact ⟨rfl, hB⟩
  · rw [h] at HFW
    clear h
    have h8' : 8 < (x.length : Int) := by omega
    go_enter Try.func5, Try.ntmps5
    go_wp2_with (first
      | (go_at_call 18; refine (awakeT_any _).mono ?_; rintro e w1 ⟨rfl, h'⟩; replace hB := on hB h'; clear h')
      | (go_at_call 19; refine (HFW.out _ hB).mono ?_; rintro e w2 ⟨rfl, rfl⟩))
    go_ret
    exact ⟨rfl, hB⟩
set_option maxRecDepth 20000 in
set_option maxHeartbeats 16000000 in
theorem walk_yes (A0 A1 : Option Addr) (c0 c1 : Nat) (os : List OpV) (x : List V) (w : World) (r0 : RdO w A0 os) (m0 : os.length ≤ maxLen) (r1 : RdV w A1 x)
    (hf : fewR [] (os.map OpV.l) = true) (h8 : x.length ≤ 8) :
    Calls Try.prog 5 #[.slice A0 os.length c0, .slice A1 x.length c1] w fun e w' => e = .returned (.bool true) ∧ Below w.heap.size w w' := by
  have hB := Below.refl w.heap.size w
  have R0 := Lib.hid r0; have R1 := Lib.hid r1; clear r0 r1
  obtain ⟨_, f2, _, f4⟩ := fewR_yes hf
  rw [List.length_map] at f4
  have HFL : Hid (∀ o ∈ os, o.l.length ≤ 12) := Lib.hid fun o ho => f2 _ (List.mem_map_of_mem ho)
  have HFW : Hid (∀ W, Below w.heap.size w W → Calls Try.prog 19 #[.slice none 0 0, .slice A0 os.length c0] W fun e w' => e = .returned (.bool true) ∧ W = w') := Lib.hid fun W hW => by
    have := fewO_any none A0 0 c0 [] os W RdP.nil (R0.out.on hW) (by simp) m0
    rw [show (List.map IS.l []) = [] from rfl, hf] at this; exact this
  clear hf f2
  have h8' : ¬ 8 < (x.length : Int) := by omega
  go_enter Try.func5, Try.ntmps5
  go_wp2_with (first
    | (go_at_call 18; refine (awakeT_any _).mono ?_; rintro e w1 ⟨rfl, h'⟩; replace hB := on hB h'; clear h')
    | (go_at_call 19; refine (HFW.out _ hB).mono ?_; rintro e w2 ⟨rfl, rfl⟩)
    | (go_at_call 20; refine (turNew0_any (w := w) (left := 1000) h8 (hB.trans (((Below.refl w1.heap.size w1).alloc (Nat.le_refl _) _).mono hB.size)) hB.size (heap_alloc_new _ _)).mono ?_; rintro e w3 ⟨t, rfl, h⟩; have HT := Lib.hid h; clear h))
  generalize hpu : w1.heap.size = p at HT ⊢
  clear hpu
  go_loopw [44] (fun v wr => ∃ (k : Nat) (left : Int) (HA HL HP : List (List V)), v = .int .i64 (k : Nat) ∧ k ≤ os.length ∧ HA.length ≤ k ∧ HA.length + HP.length ≤ k ∧ 1000 - k ≤ left ∧ left ≤ 1000 ∧ TOne w t p x.length left HA HL HP wr) (fun v _ => os.length - (intOf v).toNat)
  case atStart => exact ⟨0, 1000, [], [], [], rfl, Nat.zero_le _, by simp, by simp, by simp, by simp, HT.out⟩
  case round =>
    clear HT hB
    obtain ⟨k, left, HA, HL, HP, rfl, hk, g1, g2, l0, l1, hT⟩ := hrel
    have HT := Lib.hid hT; clear hT
    by_cases hlt : k < os.length
    · have hy := List.getElem?_eq_getElem hlt
      generalize os[k] = o at hy
      obtain ⟨ab, ao, rfl, hab, q0, q1⟩ := R0.out.rd k o hy
      have hRo := Lib.hid (R0.out.each o (List.mem_of_getElem? hy)).1
      have hlo := HFL.out o (List.mem_of_getElem? hy)
      have d0 := (keep HT.out.bw _ _ hab).trans q0
      have d1 := (keep HT.out.bw _ _ hab).trans q1
      clear q0 q1 hy
      cases hot : o.t with
      | true =>
        rw [hot] at d1
        clear hot d0
        have hpl := puts_len (upto x.length) HP
        go_wp2_with (go_at_call 22; refine (HT.out.turn (by omega)).mono ?_; rintro e w4 ⟨rfl, h⟩; have HT2 := Lib.hid h; clear h)
        go_roundw
        case rel => exact ⟨k + 1, left, _, _, _, by go_num, by omega, by rw [List.length_append]; omega, by rw [List.length_append, List.length_nil]; omega, by omega, l1, HT2.out⟩
        case measure => simp [intOf]; omega
      | false =>
        rw [hot] at d1
        clear hot
        have HAD := Lib.hid (HT.out.add (ca := o.c) hRo.out (by omega) (by omega) (by omega) (by omega))
        go_wp2_with (go_at_call 21; refine HAD.out.mono ?_; rintro e w4 ⟨rfl, h⟩; have HT2 := Lib.hid h; clear h)
        go_roundw
        case rel =>
          have e1 := addL_ge (n := x.length) (x := o.l) (HA := HA) (HP := HP) (left := left)
          have e2 := addH_len (n := x.length) (x := o.l) (HA := HA) (HP := HP) (left := left)
          exact ⟨k + 1, _, _, _, _, by go_num, by omega, by omega, by omega, by omega, by omega, HT2.out⟩
        case measure => simp [intOf]; omega
    · obtain rfl : k = os.length := by omega
      have hpl := puts_len (upto x.length) HP
      obtain ⟨HA1, hA1⟩ : ∃ HA1, HA ++ puts (upto x.length) HP = HA1 := ⟨_, rfl⟩
      have hl1 : HA1.length ≤ 60 := by rw [← hA1, List.length_append]; omega
      have HE := Lib.hid hA1
      have HGS : Hid ((puts (upto x.length) HA1).length ≤ (puts (upto x.length) (HA1 ++ [x])).length) := Lib.hid (puts_ge [x] HA1)
      clear hA1 hpl
      cases hhb : hasB (upto x.length) x (puts (upto x.length) HA1) with
      | true =>
        have HHB := Lib.hid hhb
        have e1 : addB x.length x HA1 [] left = false := by unfold addB; rw [hhb]; simp
        have e2 : addE x.length x HA1 [] left = 0 := by unfold addE; rw [hhb]; simp
        have e3 : addH x.length x HA1 [] left = [] := by unfold addH; rw [e1]; simp
        have e4 : addL x.length x HA1 [] left = left := by unfold addL; rw [e1]; simp
        have HAD : Hid (∀ {W HL}, TOne w t p x.length left HA1 HL [] W → Calls Try.prog 21 #[.pointer (some ⟨t, 0, none⟩), .slice A1 x.length c1] W fun e w' => e = .returned (.tuple #[.bool false, .int .i64 0]) ∧ TOne w t p x.length left HA1 HL [] w') := Lib.hid fun h => by
          have := h.add (ca := c1) R1.out (by omega) (by omega) (by simp) (by omega)
          rwa [e1, e2, e3, e4] at this
        have HHS : Hid (∀ {W left HL HP}, TOne w t p x.length left HA1 HL HP W → Calls Try.prog 25 #[.pointer (some ⟨t, 0, none⟩), .slice A1 x.length c1] W fun e w' => e = .returned (.bool true) ∧ TOne w t p x.length left HA1 HL HP w') := Lib.hid fun h => by
          have := h.has (ca := c1) (R1.out.on h.bw)
          rw [HHB.out] at this
          exact this.mono (by rintro e w' ⟨rfl, hb⟩; exact ⟨rfl, h.on hb⟩)
        have HTN : Hid (∀ {W left HL}, TOne w t p x.length left HA1 HL [] W → Calls Try.prog 22 #[.pointer (some ⟨t, 0, none⟩)] W fun e w' => e = .returned (.bool false) ∧ TOne w t p x.length left HA1 [] [] w') := Lib.hid fun h => by
          have := h.turn (by simp; omega)
          rw [puts_nil, List.append_nil] at this
          exact this
        clear e1 e2 e3 e4 hhb HHB
        go_wp2_with (first
          | (go_at_call 22; first
            | (refine (HT.out.turn (by omega)).mono ?_; rw [HE.out]; rintro e w4 ⟨rfl, h⟩; have H1 := Lib.hid h; clear h HT)
            | (refine (HTN.out H5.out).mono ?_; rintro e w9 ⟨rfl, h⟩; have H6 := Lib.hid h; clear h H5)
            | (refine (HTN.out H7.out).mono ?_; rintro e w11 ⟨rfl, h⟩; have H8 := Lib.hid h; clear h H7)
            | (refine (turTurn_nil _).mono ?_; rintro e w14 ⟨rfl, rfl⟩))
          | (go_at_call 24; first
            | (refine (H1.out.all (by omega)).mono ?_; rintro e w5 ⟨B5, d5, ys5, rfl, _, _, hb⟩; have H2 := Lib.hid (H1.out.on hb); clear hb H1)
            | (refine (H9.out.all (by omega)).mono ?_; rintro e w13 ⟨B6, d6, ys6, rfl, _, _, hb⟩; have H10 := Lib.hid (H9.out.on hb); clear hb H9)
            | (refine (turAll_nil _).mono ?_; rintro e w14 ⟨rfl, rfl⟩))
          | (go_at_call 25; first
            | (refine (HHS.out H2.out).mono ?_; rintro e w6 ⟨rfl, h⟩; have H3 := Lib.hid h; clear h H2)
            | (refine (HHS.out H4.out).mono ?_; rintro e w8 ⟨rfl, h⟩; have H5 := Lib.hid h; clear h H4)
            | (refine (HHS.out H6.out).mono ?_; rintro e w10 ⟨rfl, h⟩; have H7 := Lib.hid h; clear h H6)
            | (refine (HHS.out H8.out).mono ?_; rintro e w12 ⟨rfl, h⟩; have H9 := Lib.hid h; clear h H8)
            | (refine (turHas_nil _ _).mono ?_; rintro e w14 ⟨rfl, rfl⟩))
          | (go_at_call 21; first
            | (refine (HAD.out H3.out).mono ?_; rintro e w7 ⟨rfl, h⟩; have H4 := Lib.hid h; clear h H3)
            | (refine (turAdd_nil _ _).mono ?_; rintro e w14 ⟨rfl, rfl⟩))
          | (go_at_call 23; first
            | (refine (H5.out.len).mono ?_; rintro e w14 ⟨rfl, rfl⟩)
            | (refine (turLen_nil _).mono ?_; rintro e w14 ⟨rfl, rfl⟩))
          | (go_at_call 20; refine (turNew_nil _ _ _).mono ?_; rintro e w14 ⟨rfl, rfl⟩)
          | (go_at_call 26; refine (turFind_nil _ _ _).mono ?_; rintro e w14 ⟨rfl, rfl⟩)
          | (go_at_call 27; refine (turLatest_nil _ _ _).mono ?_; rintro e w14 ⟨rfl, rfl⟩))
        go_ret
        exact ⟨rfl, H10.out.bw⟩
      | false =>
        have HHB := Lib.hid hhb
        have hl : (1 : Int) ≤ left := by omega
        have e1 : addB x.length x HA1 [] left = true := by unfold addB; rw [hhb]; simp [hasB, inS, puts_nil, hl]
        have e2 : addE x.length x HA1 [] left = 0 := by unfold addE; rw [hhb]; simp [hasB, inS, puts_nil]; omega
        have e3 : addH x.length x HA1 [] left = [x] := by unfold addH; rw [e1]; simp
        have HAD : Hid (∀ {W HL}, TOne w t p x.length left HA1 HL [] W → Calls Try.prog 21 #[.pointer (some ⟨t, 0, none⟩), .slice A1 x.length c1] W fun e w' => e = .returned (.tuple #[.bool true, .int .i64 0]) ∧ ∃ left, TOne w t p x.length left HA1 HL [x] w') := Lib.hid fun h => by
          have := h.add (ca := c1) R1.out (by omega) (by omega) (by simp) (by omega)
          rw [e1, e2, e3] at this
          exact this.mono (by rintro e w' ⟨rfl, h⟩; exact ⟨rfl, _, h⟩)
        have HHN : Hid (∀ {W left HL HP}, TOne w t p x.length left HA1 HL HP W → Calls Try.prog 25 #[.pointer (some ⟨t, 0, none⟩), .slice A1 x.length c1] W fun e w' => e = .returned (.bool false) ∧ TOne w t p x.length left HA1 HL HP w') := Lib.hid fun h => by
          have := h.has (ca := c1) (R1.out.on h.bw)
          rw [HHB.out] at this
          exact this.mono (by rintro e w' ⟨rfl, hb⟩; exact ⟨rfl, h.on hb⟩)
        have hx1 : puts (upto x.length) [x] = [x] := by
          show putM (upto x.length) x [] = [x]
          unfold putM; rw [if_pos (upto_len _).symm]; rfl
        have hh2 : hasB (upto x.length) x (puts (upto x.length) (HA1 ++ [x])) = true := has_mem.2 ⟨by simp, rfl⟩
        have HHS : Hid (∀ {W left HL HP}, TOne w t p x.length left (HA1 ++ [x]) HL HP W → Calls Try.prog 25 #[.pointer (some ⟨t, 0, none⟩), .slice A1 x.length c1] W fun e w' => e = .returned (.bool true) ∧ TOne w t p x.length left (HA1 ++ [x]) HL HP w') := Lib.hid fun h => by
          have := h.has (ca := c1) (R1.out.on h.bw)
          rw [hh2] at this
          exact this.mono (by rintro e w' ⟨rfl, hb⟩; exact ⟨rfl, h.on hb⟩)
        have HT1 : Hid (∀ {W left HL}, TOne w t p x.length left HA1 HL [x] W → Calls Try.prog 22 #[.pointer (some ⟨t, 0, none⟩)] W fun e w' => e = .returned (.bool true) ∧ TOne w t p x.length left (HA1 ++ [x]) [x] [] w') := Lib.hid fun h => by
          have := h.turn (by simp; omega)
          rw [hx1] at this
          exact this
        have HTN : Hid (∀ {W left HL}, TOne w t p x.length left (HA1 ++ [x]) HL [] W → Calls Try.prog 22 #[.pointer (some ⟨t, 0, none⟩)] W fun e w' => e = .returned (.bool false) ∧ TOne w t p x.length left (HA1 ++ [x]) [] [] w') := Lib.hid fun h => by
          have := h.turn (by simp; omega)
          rw [puts_nil, List.append_nil] at this
          exact this
        have hl2 : (HA1 ++ [x]).length ≤ 61 := by simp; omega
        have hgs : ((puts (upto x.length) HA1).length : Int) ≤ ((puts (upto x.length) (HA1 ++ [x])).length : Int) := by have := HGS.out; omega
        clear e1 e2 e3 hhb HHB hx1 hh2 HGS
        generalize HA1 ++ [x] = HA2 at *
        go_wp2_with (first
          | (go_at_call 22; first
            | (refine (HT.out.turn (by omega)).mono ?_; rw [HE.out]; rintro e w4 ⟨rfl, h⟩; have H1 := Lib.hid h; clear h HT)
            | (refine (HT1.out H5.out).mono ?_; rintro e w9 ⟨rfl, h⟩; have H6 := Lib.hid h; clear h H5)
            | (refine (HTN.out H7.out).mono ?_; rintro e w11 ⟨rfl, h⟩; have H8 := Lib.hid h; clear h H7)
            | (refine (turTurn_nil _).mono ?_; rintro e w14 ⟨rfl, rfl⟩))
          | (go_at_call 24; first
            | (refine (H1.out.all (by omega)).mono ?_; rintro e w5 ⟨B5, d5, ys5, rfl, _, _, hb⟩; have H2 := Lib.hid (H1.out.on hb); clear hb H1)
            | (refine (H9.out.all (by omega)).mono ?_; rintro e w13 ⟨B6, d6, ys6, rfl, _, _, hb⟩; have H10 := Lib.hid (H9.out.on hb); clear hb H9)
            | (refine (turAll_nil _).mono ?_; rintro e w14 ⟨rfl, rfl⟩))
          | (go_at_call 25; first
            | (refine (HHN.out H2.out).mono ?_; rintro e w6 ⟨rfl, h⟩; have H3 := Lib.hid h; clear h H2)
            | (refine (HHN.out H4.out).mono ?_; rintro e w8 ⟨rfl, h⟩; have H5 := Lib.hid h; clear h H4)
            | (refine (HHS.out H6.out).mono ?_; rintro e w10 ⟨rfl, h⟩; have H7 := Lib.hid h; clear h H6)
            | (refine (HHS.out H8.out).mono ?_; rintro e w12 ⟨rfl, h⟩; have H9 := Lib.hid h; clear h H8)
            | (refine (turHas_nil _ _).mono ?_; rintro e w14 ⟨rfl, rfl⟩))
          | (go_at_call 21; first
            | (refine (HAD.out H3.out).mono ?_; rintro e w7 ⟨rfl, left2, h⟩; have H4 := Lib.hid h; clear h H3)
            | (refine (turAdd_nil _ _).mono ?_; rintro e w14 ⟨rfl, rfl⟩))
          | (go_at_call 23; first
            | (refine (H5.out.len).mono ?_; rintro e w14 ⟨rfl, rfl⟩)
            | (refine (turLen_nil _).mono ?_; rintro e w14 ⟨rfl, rfl⟩))
          | (go_at_call 20; refine (turNew_nil _ _ _).mono ?_; rintro e w14 ⟨rfl, rfl⟩)
          | (go_at_call 26; refine (turFind_nil _ _ _).mono ?_; rintro e w14 ⟨rfl, rfl⟩)
          | (go_at_call 27; refine (turLatest_nil _ _ _).mono ?_; rintro e w14 ⟨rfl, rfl⟩))
        go_ret
        exact ⟨rfl, H10.out.bw⟩
theorem walk (A0 : Option Addr) (c0 : Nat) (os : List OpV) (A1 : Option Addr) (c1 : Nat) (x : List V) (w : World) (r0 : RdO w A0 os) (m0 : os.length ≤ maxLen) (r1 : RdV w A1 x) (k1 : OkL x) (m1 : x.length ≤ maxLen) :
    Calls Try.prog 5 #[.slice A0 os.length c0, .slice A1 x.length c1] w fun e w' => e = .returned (.bool true) ∧ Below w.heap.size w w' := by
  cases hf : fewR [] (os.map OpV.l) with
  | false => exact walk_no A0 A1 c0 c1 os x w r0 m0 (.inl hf)
  | true =>
    by_cases h8 : x.length ≤ 8
    · exact walk_yes A0 A1 c0 c1 os x w r0 m0 r1 hf h8
    · exact walk_no A0 A1 c0 c1 os x w r0 m0 (.inr ⟨hf, by omega⟩)

theorem own : ownKnob Try.prog.godebug = none := by kernel_rfl

set_option maxRecDepth 100000 in
theorem lifted (os : Os) (started : os.Started) (H : Type) (enc : TypeId × Value → H) :
    ReturnsInHanded {} Try.checked os 5 .any (Rows.turnsWaitSpec.pre6 enc Try.prog Try.f5 Rows.turnsWaitRow.domain false) (Rows.turnsWaitSpec.post enc Try.prog Try.f5 false true false false) := by
  refine returnsInHanded_of_change (C := Try.checked) own started (by kernel_rfl) Try.func5
    (ChangeSpec.witness6 (enc := enc) (C := Try.checked) false ⟨#[], #[.slice none 0 0, .slice none 0 0], []⟩ 8 (by kernel_rfl) (by kernel_rfl) (by kernel_rfl) (by kernel_rfl)) ?_
  intro W base args ds gs before hval0 hW hcnd _
  have hval : ∀ (j : Nat) t v, Try.f5.params[j]? = some t → args[j]? = some v → Value.okWide Try.prog W .any base t v := hval0
  have hW' := hW
  obtain ⟨p, q, hA0, hV, rfl, hfz, hnd⟩ := hW
  have hA : DataW.TrodAll enc Try.prog W 0 (fun _ => true) true Try.f5.params.toList args.toList ds p := hA0
  have hAk := hA
  rw [Try.params5] at hA hval
  obtain ⟨v0, vs0, d0, ds0, p0, q0, hargs, rfl, rfl, h0, r0⟩ := trodAll_cons hA
  obtain ⟨v1, vs1, d1, ds1, p1, q1, rfl, rfl, rfl, h1, r1⟩ := trodAll_cons r0
  obtain ⟨rfl, rfl, rfl⟩ := trodAll_nil r1
  obtain rfl : args = #[v0, v1] := by cases args; simp_all
  obtain ⟨rfl, rfl⟩ := trodVars_none hV
  obtain ⟨A0, c0, l0, rfl, r0', m0'⟩ := open_ops (okWide_slice Try.underlying43 (hval 0 43 v0 rfl rfl)) h0
  obtain ⟨A1, c1, l1, rfl, r1', k1', m1'⟩ := open_vals (okWide_slice Try.underlying32 (hval 1 32 v1 rfl rfl)) h1
  clear hA0 hval0
  refine (walk A0 c0 l0 A1 c1 l1 W r0' m0' r1' k1' m1').mono fun e W' ⟨he, hg⟩ => ?_
  subst he
  refine ⟨_, rfl, post_old hW' (by simpa using hAk) (by rw [Try.params5]; decide) (fun _ _ _ => (trodAll_cons_mk (shut_bool Try.underlying4 _) trodAll_mk0)) rfl (fun _ => rfl) hg⟩

theorem proved : Rows.TurnsWaitSaid :=
  OpenClaim.holds_of_wide 5 Try.f5 rfl rfl rfl rfl rfl rfl rfl ⟨rfl, rfl, rfl, rfl, rfl⟩ rfl rfl rfl rfl rfl (by kernel_rfl) Try.func5 (by kernel_rfl)
    (of_decide_eq_true (by kernel_rfl)) (by unfold Func.isWrapper; first | (rw [if_pos (by decide +kernel)]; kernel_rfl) | (rw [if_neg (by decide +kernel)]; exact ⟨rfl, rfl⟩))
    (fun os started H enc _ => lifted os started H enc)
#print axioms proved
end Go.Proofs.Ytigfpniajjkjoaa.turnsWait

/-
  TurnsBudget (layer 6, turns): for every left, l and m the call returns true: no more is added than was allowed, by however many that are paid from one purse; what is there, or waits, is paid by nobody again. No condition.
-/
import Derived.Test.YtigfpniajjkjoaaRows
import Derived.Test.YtigfpniajjkjoaaTurTwo
import Derived.Test.YtigfpniajjkjoaaTurOne
import Derived.Test.YtigfpniajjkjoaaTurOne
import Derived.WalkKit
import Derived.ProofKit
import Derived.OpenShut
namespace Go.Proofs.Ytigfpniajjkjoaa.turnsBudget
open Go.ChangeShapes Go.WideShapes Go.ChangeAt Go.RowKit FloM ValM
set_option linter.unusedVariables false
set_option linter.unusedSimpArgs false
theorem puts_add {n : Nat} {x : List V} {H : List (List V)} (hl : x.length = n) (hn : hasB (upto n) x (puts (upto n) H) = false) : (puts (upto n) (H ++ [x])).length = (puts (upto n) H).length + 1 := by
  have hu : x.length = (upto n).length := by rw [upto_len]; exact hl
  have hi : inS (upto n) x (puts (upto n) H) = false := by
    unfold hasB at hn
    rw [decide_eq_true hu] at hn
    simpa using hn
  rw [puts_snoc]
  unfold putM
  rw [if_pos hu, ins_new_len _ _ _ hi]
theorem twice_len {n : Nat} (H : List (List V)) : (puts (upto n) ([] ++ puts (upto n) H)).length = (puts (upto n) H).length := by
  have := puts_again (upto_perm n) H
  rw [List.nil_append]
  exact congrArg List.length (show puts (upto n) (puts (upto n) H) = puts (upto n) H from this)
/-- What one Add does to the counts. -/
structure AddC (n : Nat) (x : List V) (HP : List (List V)) (left : Int) (b : Bool) (e : Int) (HP' : List (List V)) (left' : Int) : Prop where
  b : addB n x [] HP left = b
  e : addE n x [] HP left = e
  h : addH n x [] HP left = HP'
  l : addL n x [] HP left = left'
theorem add_cases (n : Nat) (x : List V) (HP : List (List V)) (left : Int) (h0 : 0 ≤ left) (hf : (puts (upto n) HP).length = HP.length) :
    (AddC n x HP left true 0 (HP ++ [x]) (left - 1) ∧ AddC n x (HP ++ [x]) (left - 1) false 0 (HP ++ [x]) (left - 1) ∧ 1 ≤ left ∧ (puts (upto n) (HP ++ [x])).length = HP.length + 1) ∨
    (∃ e, AddC n x HP left false e HP left ∧ (e = 11 ∧ left = 0 ∨ (e = 0 ∨ e = 1))) := by
  have h1 : hasB (upto n) x (puts (upto n) []) = false := by simp [hasB, inS, puts_nil]
  by_cases hb : addB n x [] HP left = true
  · left
    have hb' := hb
    unfold addB at hb
    rw [h1, Bool.and_eq_true, Bool.and_eq_true, decide_eq_true_eq, decide_eq_true_eq, Bool.false_or, Bool.not_eq_true'] at hb
    obtain ⟨hl, hn, hp⟩ := hb
    have h2 : hasB (upto n) x (puts (upto n) (HP ++ [x])) = true := has_mem.2 ⟨by simp, hl⟩
    have hb2 : addB n x [] (HP ++ [x]) (left - 1) = false := by unfold addB; rw [h2]; simp
    refine ⟨⟨hb', ?_, ?_, ?_⟩, ⟨hb2, ?_, ?_, ?_⟩, hp, by rw [puts_add hl hn, hf]⟩
    · unfold addE; rw [if_pos hl, h1, hn]; simp; omega
    · unfold addH; rw [hb', if_pos rfl]
    · unfold addL; rw [hb', if_pos rfl]
    · unfold addE; rw [if_pos hl, h2]; simp
    · unfold addH; rw [hb2]; simp
    · unfold addL; rw [hb2]; simp
  · right
    rw [Bool.not_eq_true] at hb
    refine ⟨_, ⟨hb, rfl, ?_, ?_⟩, ?_⟩
    · unfold addH; rw [hb]; simp
    · unfold addL; rw [hb]; simp
    · unfold addE
      split
      · split
        · exact .inr (.inl rfl)
        · split
          · exact .inl ⟨rfl, by omega⟩
          · exact .inr (.inl rfl)
      · exact .inr (.inr rfl)
set_option maxRecDepth 20000 in
set_option maxHeartbeats 4000000 in
theorem walk_no (a0 : Int) (A1 A2 : Option Addr) (c1 c2 : Nat) (ls ms : List OpV) (w : World) (r1 : RdO w A1 ls) (m1 : ls.length ≤ maxLen) (r2 : RdO w A2 ms) (m2 : ms.length ≤ maxLen)
    (h : fewR [] (ls.map OpV.l) = false ∨ fewR [] (ls.map OpV.l) = true ∧ fewR [] (ms.map OpV.l) = false) :
    Calls Try.prog 4 #[.int .u8 a0, .slice A1 ls.length c1, .slice A2 ms.length c2] w fun e w' => e = .returned (.bool true) ∧ Below w.heap.size w w' := by
  have hB := Below.refl w.heap.size w
  have R1 := Lib.hid r1; have R2 := Lib.hid r2; clear r1 r2
  have HF1 : Hid (∀ W, Below w.heap.size w W → Calls Try.prog 19 #[.slice none 0 0, .slice A1 ls.length c1] W fun e w' => e = .returned (.bool (fewR [] (ls.map OpV.l))) ∧ W = w') := Lib.hid fun W hW => fewO_any none A1 0 c1 [] ls W RdP.nil (R1.out.on hW) (by simp) m1
  have HF2 : Hid (∀ W, Below w.heap.size w W → Calls Try.prog 19 #[.slice none 0 0, .slice A2 ms.length c2] W fun e w' => e = .returned (.bool (fewR [] (ms.map OpV.l))) ∧ W = w') := Lib.hid fun W hW => fewO_any none A2 0 c2 [] ms W RdP.nil (R2.out.on hW) (by simp) m2
  rcases h with h | ⟨h, h2⟩
  · rw [h] at HF1
    clear h
    go_enter Try.func4, Try.ntmps4
    go_wp2_with (first
      | (go_at_call 18; refine (awakeT_any _).mono ?_; rintro e w1 ⟨rfl, h'⟩; replace hB := on hB h'; clear h')
      | (go_at_call 19; refine (HF1.out _ hB).mono ?_; rintro e w2 ⟨rfl, rfl⟩))
    go_ret
    exact ⟨rfl, hB⟩
  · rw [h] at HF1
    rw [h2] at HF2
    clear h h2
    have HFF := HF1
    go_enter Try.func4, Try.ntmps4
    go_wp2_with (first
      | (go_at_call 18; refine (awakeT_any _).mono ?_; rintro e w1 ⟨rfl, h'⟩; replace hB := on hB h'; clear h')
      | (go_at_call 19; first
        | (refine (HFF.out _ hB).mono ?_; rintro e w2 ⟨rfl, rfl⟩; clear HFF)
        | (refine (HF2.out _ hB).mono ?_; rintro e w2 ⟨rfl, rfl⟩)))
    go_ret
    exact ⟨rfl, hB⟩
set_option maxRecDepth 20000 in
set_option maxHeartbeats 16000000 in
theorem walk_yes (L : Nat) (A1 A2 : Option Addr) (c1 c2 : Nat) (ls ms : List OpV) (w : World) (hL : L ≤ 255) (r1 : RdO w A1 ls) (m1 : ls.length ≤ maxLen) (r2 : RdO w A2 ms) (m2 : ms.length ≤ maxLen)
    (hf1 : fewR [] (ls.map OpV.l) = true) (hf2 : fewR [] (ms.map OpV.l) = true) :
    Calls Try.prog 4 #[.int .u8 (L : Int), .slice A1 ls.length c1, .slice A2 ms.length c2] w fun e w' => e = .returned (.bool true) ∧ Below w.heap.size w w' := by
  have hB := Below.refl w.heap.size w
  have R1 := Lib.hid r1; have R2 := Lib.hid r2; clear r1 r2
  obtain ⟨_, f1, _, g1⟩ := fewR_yes hf1
  obtain ⟨_, f2, _, g2⟩ := fewR_yes hf2
  rw [List.length_map] at g1 g2
  have HL1 : Hid (∀ o ∈ ls, o.l.length ≤ 12) := Lib.hid fun o ho => f1 _ (List.mem_map_of_mem ho)
  have HL2 : Hid (∀ o ∈ ms, o.l.length ≤ 12) := Lib.hid fun o ho => f2 _ (List.mem_map_of_mem ho)
  have HF1 : Hid (∀ W, Below w.heap.size w W → Calls Try.prog 19 #[.slice none 0 0, .slice A1 ls.length c1] W fun e w' => e = .returned (.bool true) ∧ W = w') := Lib.hid fun W hW => by
    have := fewO_any none A1 0 c1 [] ls W RdP.nil (R1.out.on hW) (by simp) m1
    rw [show (List.map IS.l []) = [] from rfl, hf1] at this; exact this
  have HF2 : Hid (∀ W, Below w.heap.size w W → Calls Try.prog 19 #[.slice none 0 0, .slice A2 ms.length c2] W fun e w' => e = .returned (.bool true) ∧ W = w') := Lib.hid fun W hW => by
    have := fewO_any none A2 0 c2 [] ms W RdP.nil (R2.out.on hW) (by simp) m2
    rw [show (List.map IS.l []) = [] from rfl, hf2] at this; exact this
  clear hf1 hf2 f1 f2
  have hwL : IntKind.i64.wrap (L : Int) = (L : Int) := by rw [IntKind.wrap_i64]; omega
  have HFF := HF1
  go_enter Try.func4, Try.ntmps4
  go_wp2_with (first
    | (go_at_call 18; refine (awakeT_any _).mono ?_; rintro e w1 ⟨rfl, h'⟩; replace hB := on hB h'; clear h')
    | (go_at_call 19; first
      | (refine (HFF.out _ hB).mono ?_; rintro e w2 ⟨rfl, rfl⟩; clear HFF)
      | (refine (HF2.out _ hB).mono ?_; rintro e w2 ⟨rfl, rfl⟩; have HNA : Hid (PurseAt (w1.alloc (.cells #[.int .i64 (L : Int)] 47)) w1.heap.size (L : Int)) := Lib.hid (heap_alloc_new _ _); have HBA : Hid (Below w.heap.size w (w1.alloc (.cells #[.int .i64 (L : Int)] 47))) := Lib.hid (hB.trans (((Below.refl w1.heap.size w1).alloc (Nat.le_refl _) _).mono hB.size))))
    | (go_at_call 20; first
      | (refine (turNew_any (Z := (· = w1.heap.size)) none 0 1 w1.heap.size [] _ (fun k hk => by subst hk; exact HNA.out.lt) rfl (by omega) RdP.nil (by simp) (fun x hx => by cases hx)).mono ?_; rintro e w3 ⟨ta, a, l, q, b, rfl, N⟩; have HN1 := Lib.hid N; clear N)
      | (refine (turNew2_any (by omega) HBA.out hB.size HNA.out HN1.out).mono ?_; rintro e w4 ⟨tb, rfl, h⟩; have HT := Lib.hid h; clear h HN1)))
  generalize hpu : w1.heap.size = p at HT ⊢
  clear hpu HNA HBA HF1 HF2 hB
  go_loopw [12, 50] (fun nv v wr => ∃ (k : Nat) (HP : List (List V)) (left : Int), v = .int .i64 (k : Nat) ∧ k ≤ ls.length ∧ nv = .int .i64 (HP.length : Nat) ∧ HP.length ≤ k ∧ (puts (upto 1) HP).length = HP.length ∧ left + HP.length = L ∧ 0 ≤ left ∧ TTwo w ta tb p 1 left [] [] HP [] [] [] wr) (fun _ v _ => ls.length - (intOf v).toNat)
  case atStart => exact ⟨0, [], L, rfl, Nat.zero_le _, rfl, Nat.le_refl _, rfl, by simp, by omega, HT.out⟩
  case round =>
    clear HT
    obtain ⟨k, HP, left, rfl, hk, rfl, hpk, hfull, hsum, hl0, hT⟩ := hrel
    have HT := Lib.hid hT; clear hT
    have HFU := Lib.hid hfull
    by_cases hlt : k < ls.length
    · have hy := List.getElem?_eq_getElem hlt
      generalize ls[k] = o at hy
      obtain ⟨ab, ao, rfl, hab, q0, q1⟩ := R1.out.rd k o hy
      have HRO := Lib.hid (R1.out.each o (List.mem_of_getElem? hy)).1
      have hlo := HL1.out o (List.mem_of_getElem? hy)
      have d0 := (keep HT.out.bw _ _ hab).trans q0
      have HQ0 := Lib.hid q0
      clear q1 hy q0
      have A1' := HT.out.add (ca := o.c) HRO.out (by omega) (by omega) (by omega) (by omega)
      rcases add_cases 1 o.l HP left hl0 hfull with ⟨⟨b1, e1, h1, l1⟩, ⟨b2, e2, h2, l2⟩, hp1, hful2⟩ | ⟨ee, ⟨b1, e1, h1, l1⟩, hee⟩
      · rw [b1, e1, h1, l1] at A1'
        have HA1 := Lib.hid A1'
        have HA2 : Hid (∀ W, TTwo w ta tb p 1 (left - 1) [] [] (HP ++ [o.l]) [] [] [] W → Calls Try.prog 21 #[.pointer (some ⟨ta, 0, none⟩), .slice o.A o.l.length o.c] W fun e w' => e = .returned (.tuple #[.bool false, .int .i64 0]) ∧ TTwo w ta tb p 1 (left - 1) [] [] (HP ++ [o.l]) [] [] [] w') := Lib.hid fun W hW => by
          have := hW.add (ca := o.c) HRO.out (by omega) (by omega) (by simp; omega) (by omega)
          rwa [b2, e2, h2, l2] at this
        have HF2 := Lib.hid hful2
        clear A1' b1 e1 h1 l1 b2 e2 h2 l2 hful2 hfull
        go_wp2_with (go_at_call 21; first
          | (refine HA1.out.mono ?_; rintro e w5 ⟨rfl, h⟩; have HT1 := Lib.hid h; have d1 := (keep HT1.out.bw _ _ hab).trans HQ0.out; clear h HA1)
          | (refine (HA2.out _ HT1.out).mono ?_; rintro e w6 ⟨rfl, h⟩; have HT2 := Lib.hid h; clear h HA2))
        go_roundw
        case rel => exact ⟨k + 1, HP ++ [o.l], left - 1, by go_num, by omega, by simp only [List.length_append, List.length_singleton]; go_num, by simp; omega, by rw [HF2.out]; simp, by simp; omega, by omega, HT2.out⟩
        case measure => simp [intOf]; omega
      · rw [b1, e1, h1, l1] at A1'
        have HA1 := Lib.hid A1'
        have HA2 : Hid (∀ W, TTwo w ta tb p 1 left [] [] HP [] [] [] W → Calls Try.prog 21 #[.pointer (some ⟨ta, 0, none⟩), .slice o.A o.l.length o.c] W fun e w' => e = .returned (.tuple #[.bool false, .int .i64 ee]) ∧ TTwo w ta tb p 1 left [] [] HP [] [] [] w') := Lib.hid fun W hW => by
          have := hW.add (ca := o.c) HRO.out (by omega) (by omega) (by omega) (by omega)
          rwa [b1, e1, h1, l1] at this
        clear A1' b1 e1 h1 l1 hfull
        rcases hee with ⟨rfl, rfl⟩ | rfl | rfl
        all_goals
          go_wp2_with (go_at_call 21; first
            | (refine HA1.out.mono ?_; rintro e w5 ⟨rfl, h⟩; have HT1 := Lib.hid h; have d1 := (keep HT1.out.bw _ _ hab).trans HQ0.out; clear h HA1)
            | (refine (HA2.out _ HT1.out).mono ?_; rintro e w6 ⟨rfl, h⟩; have HT2 := Lib.hid h; have cp := HT2.out.pu.cell.1; clear h HA2))
          go_roundw
          case rel => exact ⟨k + 1, HP, _, by go_num, by omega, rfl, by omega, HFU.out, by omega, by omega, HT2.out⟩
          case measure => simp [intOf]; omega
    · obtain rfl : k = ls.length := by omega
      go_wp2
      go_loopw [12, 96] (fun nv v wr => ∃ (k : Nat) (KP : List (List V)) (left : Int), v = .int .i64 (k : Nat) ∧ k ≤ ms.length ∧ nv = .int .i64 ((HP.length + KP.length : Nat) : Int) ∧ KP.length ≤ k ∧ (puts (upto 1) KP).length = KP.length ∧ left + HP.length + KP.length = L ∧ 0 ≤ left ∧ TTwo w tb ta p 1 left [] [] KP [] [] HP wr) (fun _ v _ => ms.length - (intOf v).toNat)
      case atStart => exact ⟨0, [], left, rfl, Nat.zero_le _, rfl, Nat.le_refl _, rfl, by simp; omega, hl0, HT.out.symm⟩
      case round =>
        clear HT hsum hl0 hlt
        obtain ⟨k, KP, left, rfl, hk, rfl, hpk2, hfull2, hsum, hl0, hT⟩ := hrel
        have HT := Lib.hid hT; clear hT
        have HFU2 := Lib.hid hfull2
        by_cases hlt : k < ms.length
        · have hy := List.getElem?_eq_getElem hlt
          generalize ms[k] = o at hy
          obtain ⟨ab, ao, rfl, hab, q0, q1⟩ := R2.out.rd k o hy
          have HRO := Lib.hid (R2.out.each o (List.mem_of_getElem? hy)).1
          have hlo := HL2.out o (List.mem_of_getElem? hy)
          have d0 := (keep HT.out.bw _ _ hab).trans q0
          clear q1 hy q0
          have A1' := HT.out.add (ca := o.c) HRO.out (by omega) (by omega) (by omega) (by omega)
          rcases add_cases 1 o.l KP left hl0 hfull2 with ⟨⟨b1, e1, h1, l1⟩, _, hp1, hful2⟩ | ⟨ee, ⟨b1, e1, h1, l1⟩, hee⟩
          · rw [b1, e1, h1, l1] at A1'
            have HA1 := Lib.hid A1'
            have HF2 := Lib.hid hful2
            clear A1' b1 e1 h1 l1 hful2 hfull2
            go_wp2_with (go_at_call 21; refine HA1.out.mono ?_; rintro e w5 ⟨rfl, h⟩; have HT1 := Lib.hid h; clear h HA1)
            go_roundw
            case rel => exact ⟨k + 1, KP ++ [o.l], left - 1, by go_num, by omega, by simp only [List.length_append, List.length_singleton]; go_num, by simp; omega, by rw [HF2.out]; simp, by simp; omega, by omega, HT1.out⟩
            case measure => simp [intOf]; omega
          · rw [b1, e1, h1, l1] at A1'
            have HA1 := Lib.hid A1'
            clear A1' b1 e1 h1 l1 hfull2
            go_wp2_with (go_at_call 21; refine HA1.out.mono ?_; rintro e w5 ⟨rfl, h⟩; have HT1 := Lib.hid h; clear h HA1)
            go_roundw
            case rel => exact ⟨k + 1, KP, left, by go_num, by omega, rfl, by omega, HFU2.out, by omega, by omega, HT1.out⟩
            case measure => simp [intOf]; omega
        · obtain rfl : k = ms.length := by omega
          have HTA : Hid (∀ W, TTwo w ta tb p 1 left [] [] HP [] [] KP W → Calls Try.prog 22 #[.pointer (some ⟨ta, 0, none⟩)] W fun e w' => (∃ b, e = .returned (.bool b)) ∧ TTwo w tb ta p 1 left [] [] KP ([] ++ puts (upto 1) HP) HP [] w') := Lib.hid fun W hW => (hW.turn (by simp; omega)).mono (by
            rintro e w' ⟨rfl, h⟩
            exact ⟨⟨_, rfl⟩, h.symm⟩)
          have HTB : Hid (∀ W, TTwo w tb ta p 1 left [] [] KP ([] ++ puts (upto 1) HP) HP [] W → Calls Try.prog 22 #[.pointer (some ⟨tb, 0, none⟩)] W fun e w' => (∃ b, e = .returned (.bool b)) ∧ TTwo w ta tb p 1 left ([] ++ puts (upto 1) HP) HP [] ([] ++ puts (upto 1) KP) KP [] w') := Lib.hid fun W hW => (hW.turn (by simp; omega)).mono (by
            rintro e w' ⟨rfl, h⟩
            exact ⟨⟨_, rfl⟩, h.symm⟩)
          have HLA : Hid (∀ W, TTwo w ta tb p 1 left ([] ++ puts (upto 1) HP) HP [] ([] ++ puts (upto 1) KP) KP [] W → Calls Try.prog 23 #[.pointer (some ⟨ta, 0, none⟩)] W fun e w' => e = .returned (.int .i64 (HP.length : Nat)) ∧ W = w') := Lib.hid fun W hW => by
            have := hW.len
            rwa [twice_len, HFU.out] at this
          have HLB : Hid (∀ W, TTwo w ta tb p 1 left ([] ++ puts (upto 1) HP) HP [] ([] ++ puts (upto 1) KP) KP [] W → Calls Try.prog 23 #[.pointer (some ⟨tb, 0, none⟩)] W fun e w' => e = .returned (.int .i64 (KP.length : Nat)) ∧ W = w') := Lib.hid fun W hW => by
            have := hW.symm.len
            rwa [twice_len, HFU2.out] at this
          have hn1 : ((HP.length : Int) + (KP.length : Int)) ≤ (L : Int) := by omega
          have hw1 : IntKind.i64.wrap ((L : Int) - ((HP.length : Int) + (KP.length : Int))) = left := by rw [IntKind.wrap_i64]; omega
          have hw2 : IntKind.i64.wrap ((HP.length : Int) + (KP.length : Int)) = (HP.length : Int) + (KP.length : Int) := by rw [IntKind.wrap_i64]; omega
          clear hfull hfull2
          go_wp2_with (first
            | (go_at_call 22; first
              | (refine (HTA.out _ HT.out.symm).mono ?_; rintro e w7 ⟨⟨bb, rfl⟩, h⟩; have H1 := Lib.hid h; clear h HT)
              | (refine (HTB.out _ H1.out).mono ?_; rintro e w8 ⟨⟨bb2, rfl⟩, h⟩; have H2 := Lib.hid h; have cp := H2.out.pu.cell.1; clear h H1))
            | (go_at_call 23; first
              | ((with_reducible refine (HLA.out _ H2.out).mono ?_); rintro e w9 ⟨rfl, rfl⟩)
              | (refine (HLB.out _ H2.out).mono ?_; rintro e w9 ⟨rfl, rfl⟩)))
          go_ret
          exact ⟨rfl, H2.out.bw⟩
theorem walk (a0 : Int) (A1 : Option Addr) (c1 : Nat) (ls : List OpV) (A2 : Option Addr) (c2 : Nat) (ms : List OpV) (w : World) (w0 : (Lit.int .u8 a0).wf = true) (r1 : RdO w A1 ls) (m1 : ls.length ≤ maxLen) (r2 : RdO w A2 ms) (m2 : ms.length ≤ maxLen) :
    Calls Try.prog 4 #[.int .u8 a0, .slice A1 ls.length c1, .slice A2 ms.length c2] w fun e w' => e = .returned (.bool true) ∧ Below w.heap.size w w' := by
  cases h1 : fewR [] (ls.map OpV.l) with
  | false => exact walk_no a0 A1 A2 c1 c2 ls ms w r1 m1 r2 m2 (.inl h1)
  | true =>
    cases h2 : fewR [] (ms.map OpV.l) with
    | false => exact walk_no a0 A1 A2 c1 c2 ls ms w r1 m1 r2 m2 (.inr ⟨h1, h2⟩)
    | true =>
      have h3 : 0 ≤ a0 ∧ a0 < 256 := by simp [Lit.wf, IntKind.min, IntKind.max, IntKind.bits, IntKind.signed] at w0; omega
      obtain ⟨k, rfl⟩ := Int.eq_ofNat_of_zero_le h3.1
      exact walk_yes k A1 A2 c1 c2 ls ms w (by omega) r1 m1 r2 m2 h1 h2

theorem own : ownKnob Try.prog.godebug = none := by kernel_rfl

set_option maxRecDepth 100000 in
theorem lifted (os : Os) (started : os.Started) (H : Type) (enc : TypeId × Value → H) :
    ReturnsInHanded {} Try.checked os 4 .any (Rows.turnsBudgetSpec.pre6 enc Try.prog Try.f4 Rows.turnsBudgetRow.domain false) (Rows.turnsBudgetSpec.post enc Try.prog Try.f4 false true false false) := by
  refine returnsInHanded_of_change (C := Try.checked) own started (by kernel_rfl) Try.func4
    (ChangeSpec.witness6 (enc := enc) (C := Try.checked) false ⟨#[], #[.int .u8 0, .slice none 0 0, .slice none 0 0], []⟩ 8 (by kernel_rfl) (by kernel_rfl) (by kernel_rfl) (by kernel_rfl)) ?_
  intro W base args ds gs before hval0 hW hcnd _
  have hval : ∀ (j : Nat) t v, Try.f4.params[j]? = some t → args[j]? = some v → Value.okWide Try.prog W .any base t v := hval0
  have hW' := hW
  obtain ⟨p, q, hA0, hV, rfl, hfz, hnd⟩ := hW
  have hA : DataW.TrodAll enc Try.prog W 0 (fun _ => true) true Try.f4.params.toList args.toList ds p := hA0
  have hAk := hA
  rw [Try.params4] at hA hval
  obtain ⟨v0, vs0, d0, ds0, p0, q0, hargs, rfl, rfl, h0, r0⟩ := trodAll_cons hA
  obtain ⟨v1, vs1, d1, ds1, p1, q1, rfl, rfl, rfl, h1, r1⟩ := trodAll_cons r0
  obtain ⟨v2, vs2, d2, ds2, p2, q2, rfl, rfl, rfl, h2, r2⟩ := trodAll_cons r1
  obtain ⟨rfl, rfl, rfl⟩ := trodAll_nil r2
  obtain rfl : args = #[v0, v1, v2] := by cases args; simp_all
  obtain ⟨rfl, rfl⟩ := trodVars_none hV
  obtain ⟨a0, rfl, rfl, rfl, w0⟩ := open_int Try.underlying5 (hval 0 5 v0 rfl rfl) h0
  obtain ⟨A1, c1, l1, rfl, r1', m1'⟩ := open_ops (okWide_slice Try.underlying43 (hval 1 43 v1 rfl rfl)) h1
  obtain ⟨A2, c2, l2, rfl, r2', m2'⟩ := open_ops (okWide_slice Try.underlying43 (hval 2 43 v2 rfl rfl)) h2
  clear hA0 hval0
  refine (walk a0 A1 c1 l1 A2 c2 l2 W w0 r1' m1' r2' m2').mono fun e W' ⟨he, hg⟩ => ?_
  subst he
  refine ⟨_, rfl, post_old hW' (by simpa using hAk) (by rw [Try.params4]; decide) (fun _ _ _ => (trodAll_cons_mk (shut_bool Try.underlying4 _) trodAll_mk0)) rfl (fun _ => rfl) hg⟩

theorem proved : Rows.TurnsBudgetSaid :=
  OpenClaim.holds_of_wide 4 Try.f4 rfl rfl rfl rfl rfl rfl rfl ⟨rfl, rfl, rfl, rfl, rfl⟩ rfl rfl rfl rfl rfl (by kernel_rfl) Try.func4 (by kernel_rfl)
    (of_decide_eq_true (by kernel_rfl)) (by unfold Func.isWrapper; first | (rw [if_pos (by decide +kernel)]; kernel_rfl) | (rw [if_neg (by decide +kernel)]; exact ⟨rfl, rfl⟩))
    (fun os started H enc _ => lifted os started H enc)
#print axioms proved
end Go.Proofs.Ytigfpniajjkjoaa.turnsBudget

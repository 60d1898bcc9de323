/-
  Package parse: the text of antecedentlaw08.awake, read: plain mathematics.
-/
import Derived.Test.YtahljmddnfldlaaGreatDoorPrsM
import Derived.Test.YtahljmddnfldlaaGreatDoorPrsN
import Derived.Test.YtahljmddnfldlaaGreatDoorLexAwake
import Derived.Test.YtahljmddnfldlaaGreatDoorPrsB
import Derived.Test.YtahljmddnfldlaaGreatDoorLexAll
import Derived.Test.YtahljmddnfldlaaGreatDoorPrsF
import Derived.Test.YtahljmddnfldlaaGreatDoorPrsR
import Derived.Deep.RegionLaw
import Derived.Deep.AppendLies
import Derived.Recover
import Derived.Test.YtahljmddnfldlaaGreatDoorPrsZa
import Derived.Test.YtahljmddnfldlaaGreatDoorPrsZb
import Derived.Test.YtahljmddnfldlaaGreatDoorPrsZc
import Derived.Test.YtahljmddnfldlaaGreatDoorPrsZd
import Derived.Test.YtahljmddnfldlaaGreatDoorPrsA
import Derived.Test.YtahljmddnfldlaaGreatDoorPrsS
import Derived.RegionTactic
import Derived.BigQuiet
import Derived.Lib.QuietBelow
namespace Go.Proofs.YtahljmddnfldlaaGreatDoor
open FloM ValM
set_option linter.unusedVariables false
set_option linter.unusedSimpArgs false
end Go.Proofs.YtahljmddnfldlaaGreatDoor
namespace Go.Proofs.YtahljmddnfldlaaGreatDoor
open Go.RowKit FloM ValM Go.Shelf
set_option linter.unusedVariables false
set_option linter.unusedSimpArgs false
section
variable {W W' : World} {rb tb z o : Nat} {ts : List Tk}
/-- Behind a text's whole there is no token. -/
def EndQ (ts : List Tk) (rb : Nat) (W : World) (e : Ending) (w' : World) : Prop := match ts with
  | [] => (∃ v, e = .returned v) ∧ Fr (· = rb) W.heap.size W w'
  | t :: _ => e = .panicked [{ v := faultP t.a 2, recovered := false }] ∧ Fr (· = rb) W.heap.size W w'
theorem slice_end (b off c : Nat) (V : World) (hc : 2 ≤ c) : (Instr.slice 88 (.slice (some ⟨b, off, none⟩) 2 c) (some (.int .i64 1)) none none).run Tryz.prog V = .ok (.slice (some (if c = 1 then ⟨b, off, none⟩ else ⟨b, off + 3, none⟩)) 1 (c - 1)) V := by
  obtain ⟨i0, hi0, hz0, hz1, hz2⟩ := info_parts info_tokv
  have hel : Tryz.prog.elem 88 = 92 := by kernel_rfl
  have h := run_slice_l (P := Tryz.prog) (w := V) 88 (some ⟨b, off, none⟩) 2 c (by rw [hel]; exact Tryz.underlying88) .i64 1 (by omega) (by omega)
  rw [h, hel]
  have hc1 : ¬ c = 1 := by omega
  simp [sizeOf, typeInfo, hi0, hz1, sliced, hc1, Addr.add]
set_option maxRecDepth 20000 in
set_option maxHeartbeats 4000000 in
theorem need_end (W : World) (h : RdrAt W rb tb z ts o) (hk : ∀ t ∈ ts, t.k ≠ 0) : Calls Tryz.prog 53 #[.pointer (some ⟨rb, 0, none⟩), .func (.func 54) #[] #[]] W (EndQ ts rb W) := by
  obtain ⟨off, c, H⟩ := h.hd
  have HH := Lib.hid H
  have r0 := H.r0; have c0 := H.c0; have c1 := H.c1; have c2 := H.c2; have hl := H.lt; have hb := H.bl
  have HP : Hid (∀ V, Calls Tryz.prog 54 #[.agg #[.int .i64 ((hdT z ts).k : Int), .string (bs (hdT z ts).t), .int .i64 ((hdT z ts).a : Int)]] V fun e w' => e = .returned (.bool ((hdT z ts).k == 0)) ∧ Below V.heap.size V w') := Lib.hid fun V => isEnd_any (hdT z ts) V
  have h0 : (0 : Int) < ((ts.length + 2 : Nat) : Int) := by omega
  have hB0 : Below W.heap.size W ((W.alloc (.cells #[.int .i64 0, .string ByteArray.empty, .int .i64 0] 92)).alloc (.cells #[.int .i64 ((hdT z ts).k : Int), .string (bs (hdT z ts).t), .int .i64 ((hdT z ts).a : Int)] 92)) := ((Below.refl _ _).alloc (Nat.le_refl _) _).alloc (by simp) _
  have HB0 := Lib.hid hB0
  clear H h hB0
  cases ts with
  | cons t r =>
    have ht : ((hdT z (t :: r)).k == 0) = false := beq_eq_false_iff_ne.2 (hk t (by simp))
    rw [ht] at HP
    have HF : Hid (∀ V, Below W.heap.size W V → Calls Tryz.prog 56 #[.pointer (some ⟨rb, 0, none⟩), .int .i64 2] V fun e w' => e = .panicked [{ v := faultP (hdT z (t :: r)).a 2, recovered := false }] ∧ V = w') := Lib.hid fun V hV => fail_any 2 V (HH.out.on hV).at_
    have hR : EndQ (t :: r) rb W = fun e w' => e = .panicked [{ v := faultP (hdT z (t :: r)).a 2, recovered := false }] ∧ Fr (· = rb) W.heap.size W w' := rfl
    rw [hR]
    clear ht hk hR
    generalize hdT z (t :: r) = t at c0 c1 c2 HP HF HB0
    go_enter Tryz.func53, Tryz.ntmps53
    go_wp2_with (first
      | (go_at_call 54; refine (HP.out _).mono ?_; rintro e w2 ⟨rfl, hb2⟩; have hB2 := on HB0.out hb2; clear hb2)
      | (go_at_call 56; refine (HF.out _ hB2).mono ?_; rintro e w3 ⟨rfl, rfl⟩))
    exact ⟨rfl, rfl, Fr.of hB2⟩
  | nil =>
    rw [show ((hdT z []).k == 0) = true from rfl] at HP
    have hcap := HH.out.cap
    simp only [List.length_nil, Nat.zero_add] at r0 h0 hcap
    have hc1 : ¬ c = 1 := by omega
    have hsl : ∀ V : World, (Instr.slice 88 (.slice (some ⟨tb, off, none⟩) 2 c) (some (.int .i64 1)) none none).run Tryz.prog V = .ok (.slice (some ⟨tb, off + 3, none⟩) 1 (c - 1)) V := fun V => by
      have := slice_end tb off c V (by omega)
      rwa [if_neg hc1] at this
    simp only [hdT] at c0 c1 c2 HP HB0
    go_enter Tryz.func53, Tryz.ntmps53
    go_wp2_with (go_at_call 54; refine (HP.out _).mono ?_; rintro e w2 ⟨rfl, hb2⟩; have HB2 := Lib.hid hb2; have HH2 := Lib.hid (HH.out.on (on HB0.out hb2)); have r0' := HH2.out.r0; have f0' := HH2.out.f0; have hl' := HH2.out.lt; simp only [List.length_nil, Nat.zero_add] at r0'; have HR0 := Lib.hid (rowOn (Row.alloc (row_new (t := 92) W [.int .i64 0, .string ByteArray.empty, .int .i64 0]) _) hb2); have hR1 := row_new (t := 92) (W.alloc (.cells #[.int .i64 0, .string ByteArray.empty, .int .i64 0] 92)) [.int .i64 0, .string (bs []), .int .i64 (z : Int)]; rw [World.size_alloc] at hR1; have HR1 := Lib.hid (rowOn hR1 hb2); clear hb2 hR1; have d0 := HR1.out.cell 0; have d1 := HR1.out.cell 1; have d2 := HR1.out.cell 2; have e0 := HR0.out.cell 0; have e1 := HR0.out.cell 1; have e2 := HR0.out.cell 2; have g0 := HR0.out.frozen 0; have g1 := HR0.out.frozen 1; have g2 := HR0.out.frozen 2; simp only [List.getElem?_cons_zero, List.getElem?_cons_succ] at d0 d1 d2 e0 e1 e2; have hn0 := HR0.out.lt; have hn1 := HR1.out.lt)
    have hR := Row.set (pre := [.int .i64 0, .string (bs [])]) (post := []) (Row.set (pre := [.int .i64 0]) (post := [.int .i64 0]) (Row.set (pre := []) (post := [.string ByteArray.empty, .int .i64 0]) (Row.far HR0.out (p := ⟨rb, 0, none⟩) (by simp; omega) (.slice (some ⟨tb, off + 3, none⟩) 1 (c - 1))) (.int .i64 0)) (.string (bs []))) (.int .i64 (z : Int))
    refine bodyPost_ret (results_cell_row rfl _ _ W.heap.size _ _ _ _ rfl hR Tryz.underlying92 rfl (by kernel_rfl)) rfl ?_
    have hb2 := on HB0.out HB2.out
    have hF := Fr.trans (Fr.of hb2) (fr_set w2 rb 0 (.slice (some ⟨tb, off + 3, none⟩) 1 (c - 1)) W.heap.size)
    obtain ⟨V, hV⟩ : ∃ V, w2.setCell ⟨rb, 0, none⟩ (.slice (some ⟨tb, off + 3, none⟩) 1 (c - 1)) = V := ⟨_, rfl⟩
    rw [hV] at hF
    have hK := Fr.trans (Fr.trans (fr_set V W.heap.size 0 (.int .i64 0) (W.heap.size + 1)) (fr_set _ W.heap.size 1 (.string (bs [])) (W.heap.size + 1))) (fr_set _ W.heap.size 2 (.int .i64 (z : Int)) (W.heap.size + 1))
    rw [hV]
    exact ⟨⟨_, rfl⟩, hF.trans (Fr.of (hK.below (Nat.le_succ _) fun k hk e => by omega))⟩
end
end Go.Proofs.YtahljmddnfldlaaGreatDoor
namespace Go.Proofs.YtahljmddnfldlaaGreatDoor
open Go.RowKit FloM ValM Go.Shelf
set_option linter.unusedVariables false
set_option linter.unusedSimpArgs false
def SaysO (R : Rs) (w : World) (e : Ending) (w' : World) : Prop := match R with
  | .good l => ∃ (A : Option Addr) (c : Nat), e = .returned (.tuple #[.slice A l.length c, .int .i64 0, .int .i64 0]) ∧ w'.ownsRow (w.heap.size + 3) 92 3 (.slice A l.length c) l.length (tcells l) ∧ Below w.heap.size w w'
  | .bad n => e = .returned (.tuple #[.slice none 0 0, .int .i64 (n : Int), .int .i64 2]) ∧ Below w.heap.size w w'
set_option maxRecDepth 20000 in
set_option maxHeartbeats 8000000 in
theorem tokens_own (s : ByteArray) (w : World) (hs : ¬ 20000 < (s.size : Int)) :
    Calls Tryz.prog 52 #[.string s] w (SaysO (toksL 0 (ls s)) w) := by
  have hmf : ∀ (fn : Fn) (first cap : Array Value) (w : World), (Instr.makeFunc fn first cap).run Tryz.prog w = .ok (.func fn first cap) w := fun _ _ _ _ => rfl
  have hsm : s.size ≤ maxLen := by unfold maxLen; omega
  have HSP : Hid (∀ (u : ByteArray) (W : World), u.size ≤ maxLen → Calls Tryz.prog 79 #[.string u, .string ⟨List.toArray (32 :: 9 :: 10 :: [])⟩] W fun e w' => e = .returned (.int .i64 (spanL sepC (ls u) : Nat)) ∧ Below W.heap.size W w') := Lib.hid fun u W h => spSep u W h
  have HSM := Lib.hid hsm
  have hle := span_le sepC (ls s)
  rw [ls_len] at hle
  go_enter_defers Tryz.func52, Tryz.ntmps52
  go_wp2_with (go_at_call 79; refine (HSP.out s _ HSM.out).mono ?_; rintro e w1 ⟨rfl, hb⟩; have HB1 := Lib.hid hb; clear hb)
  clear hmf
  go_loopw [5] (fun v wr => ∃ k : Nat, v = .int .i64 (k : Nat) ∧ TokRel s w k wr) (fun v _ => s.size - (intOf v).toNat)
  case atStart =>
    refine ⟨_, rfl, hle, [], none, 0, Nat.zero_le _, ?_, ?_, ?_, ?_, ?_, ?_, ?_, ?_, own_nil _ _ _ _, ?_, ?_⟩
    · rw [lay_nil, toks_skip 0 (ls s), Nat.zero_add]
    · cases h : (ls s).drop (spanL sepC (ls s)) with
      | nil => rfl
      | cons c r => exact span_no (span_next _ _ c r h)
    · exact (keep HB1.out _ 0 (by simp; try omega)).trans (by simp [go_sem])
    · exact (keep HB1.out _ 0 (by simp)).trans (by simp [go_sem])
    · exact (keep HB1.out _ 0 (by simp)).trans (by simp [go_sem])
    · exact (HB1.out.frozen (p := ⟨_, 0, none⟩) (by simp; try omega)).trans (by simp [go_sem])
    · exact (HB1.out.frozen (p := ⟨_, 0, none⟩) (by simp)).trans (by simp [go_sem])
    · exact (HB1.out.frozen (p := ⟨_, 0, none⟩) (by simp)).trans (by simp [go_sem])
    · exact on (w := ((w.alloc (.cells #[.slice none 0 0] 88)).alloc (.cells #[.int .i64 0] 3)).alloc (.cells #[.int .i64 0] 37)) (by repeat (first | exact Below.refl _ _ | refine Below.alloc ?_ (by simp; try omega) _)) HB1.out
    · have := HB1.out.size; simp at this; omega
  case round =>
    obtain ⟨k, rfl, hk, ts, A, cp, htk, hR, h0, c0, c1, c2, f0, f1, f2, hown, hB, hsz⟩ := hrel
    have HR := Lib.hid hR; have H0 := Lib.hid h0; have HO := Lib.hid hown; have HB := Lib.hid hB
    clear hR h0 hown hB
    by_cases hlt : k < s.size
    · obtain ⟨i0, hi0, hz0, hz1, hz2⟩ := info_parts info_tokv
      have HI := Lib.hid (And.intro hi0 (And.intro hz0 (And.intro hz1 hz2)))
      cases hf : firstL ((ls s).drop k) with
      | none =>
        have HF : Hid (∀ W, Calls Tryz.prog 80 #[.string s, .int .i64 (k : Int)] W fun e w' => e = .panicked [{ v := faultV (k : Int) 2, recovered := false }] ∧ Below W.heap.size W w') := Lib.hid fun W => by
          have := first_any s k W HSM.out hlt
          rw [hf] at this; exact this
        have hbad : toksL 0 (ls s) = .bad k := by
          rw [HR.out, toks_bad (by rw [H0.out, List.drop_zero]; intro e; have := congrArg List.length e; rw [List.length_drop, ls_len] at this; simp at this; omega) (by rw [H0.out]; simpa using hf), H0.out]; rfl
        have HBD := Lib.hid hbad
        clear hf hbad hi0 hz0 hz1 hz2
        go_wp2_with (go_at_call 80; refine (HF.out _).mono ?_; rintro e w2 ⟨rfl, hb⟩; have HB2 := Lib.hid hb; clear hb)
        have c0' := (keep HB2.out _ 0 (by omega)).trans c0
        have c1' := (keep HB2.out _ 0 (by omega)).trans c1
        have c2' := (keep HB2.out _ 0 (by omega)).trans c2
        have f0' := (HB2.out.frozen (p := ⟨w.heap.size, 0, none⟩) (by simp; try omega)).trans f0
        have f1' := (HB2.out.frozen (p := ⟨w.heap.size + 1, 0, none⟩) (by simp; try omega)).trans f1
        have f2' := (HB2.out.frozen (p := ⟨w.heap.size + 1 + 1, 0, none⟩) (by simp; try omega)).trans f2
        refine leaves_cons (f := 78) (args := #[.pointer (some ⟨w.heap.size, 0, none⟩), .pointer (some ⟨w.heap.size + 1, 0, none⟩), .pointer (some ⟨w.heap.size + 1 + 1, 0, none⟩)]) (by simp) (by simp [go_sem]) ?_
        refine (catch_fault w.heap.size (w.heap.size + 1) (w.heap.size + 1 + 1) (k : Int) 2 _ _ _ [] w2 (by omega) (by omega) (by omega) c0' c1' c2' f0' f1' f2').mono ?_
        rintro e u' w' ⟨rfl, rfl, d0, d1, d2, hb⟩
        have hB := hb w (on HB.out HB2.out) (by omega) (by omega) (by omega)
        rw [HBD.out]
        simp [Leaves, settle, results, Tryz.results52, go_sem, d0, d1, d2]
        exact ⟨rfl, hB⟩
      | some o =>
        obtain ⟨kd, n⟩ := o
        have hp := first_pos hf
        rw [List.length_drop, ls_len] at hp
        obtain ⟨v, hv⟩ : ∃ v : ByteArray, ls v = ((ls s).drop k).take n := ⟨bs _, ls_bs _⟩
        have hvs : v.size = n := by rw [← ls_len, hv, List.length_take, List.length_drop, ls_len]; omega
        have HF : Hid (∀ W, Calls Tryz.prog 80 #[.string s, .int .i64 (k : Int)] W fun e w' => e = .returned (.agg #[.int .i64 (kd : Int), .string v, .int .i64 (k : Int)]) ∧ Below W.heap.size W w') := Lib.hid fun W => by
          have := first_any s k W HSM.out hlt
          rw [hf] at this
          unfold FirstQ at this
          simp only [← hv, bs_ls] at this
          exact this
        have hmore : toksL 0 (ls s) = (toksL (k + n) ((ls s).drop (k + n))).lay (ts ++ [⟨kd, ls v, k⟩]) := by
          rw [HR.out, toks_more (k := kd) (n := n) (by rw [H0.out]; simpa using hf), H0.out, lay_pre, hv]
          simp [List.drop_drop]
        rw [toks_skip (k + n)] at hmore
        obtain ⟨u, hu⟩ : ∃ u, s.extract (k + n) s.size = u := ⟨_, rfl⟩
        have hlu : (ls s).drop (k + n) = ls u := by rw [← hu, extract_tail]
        have hus : k + n + u.size = s.size := by rw [← ls_len u, ← hlu, List.length_drop, ls_len]; omega
        have hsu := span_le sepC (ls u)
        rw [ls_len] at hsu
        rw [hlu] at hmore
        have HM := Lib.hid hmore; have HV := Lib.hid hv; have HLU := Lib.hid hlu
        have HSU := Lib.hid (HSP.out u · (by unfold maxLen; omega))
        have hsl : ∀ W : World, (Instr.slice 9 (.string s) (some (.int .i64 ((k : Int) + (n : Int)))) none none).run Tryz.prog W = .ok (.string u) W := fun W => by
          have := run_slice_string_l (P := Tryz.prog) W 9 s Tryz.underlying9 .i64 ((k : Int) + (n : Int)) (by omega) (by omega)
          rw [this, show ((k : Int) + (n : Int)).toNat = k + n by omega, hu]
        have HC := Lib.hid (And.intro (And.intro c1 f1) (And.intro c2 f2))
        clear hf hmore hv hlu hi0 hz0 hz1 hz2 c1 c2 f1 f2
        go_wp2_with (first | (go_at_call 80; refine (HF.out _).mono ?_; rintro e w2 ⟨rfl, hb⟩; have HB2 := Lib.hid hb; have hw2 : w.heap.size < w2.heap.size := (by have := hb.size; omega); have hw3 : ¬ w.heap.size = w2.heap.size := (by omega); have c0' := (keep hb _ 0 (by omega)).trans c0; have f0' := (hb.frozen (p := ⟨w.heap.size, 0, none⟩) (by simp; try omega)).trans f0; clear hb) | (at_builtin; refine wpList_append_own _ rfl (.tmp 28) (.tmp 30) _ rfl (w.heap.size + 3) 92 i0 _ 3 32 Tryz.underlying88 HI.out.1 HI.out.2.1 HI.out.2.2.1 HI.out.2.2.2 rfl (by omega) (.slice A ts.length cp) ts.length _ rfl (own_on (own_on HO.out HB2.out) (((Below.refl _ _).alloc (Nat.le_refl _) _).alloc (by simp) _)) ⟨w2.heap.size + 1, 0, none⟩ 1 1 [.int .i64 (kd : Int), .string v, .int .i64 (k : Int)] rfl (by simp) (news_two w2 _ #[.int .i64 (kd : Int), .string v, .int .i64 (k : Int)] _) (by simp [Value.oneCell']) (by unfold maxLen; omega) (by omega) (by have := HB2.out.size; simp; omega) ?_; intro v' w' ho' hg' _; obtain ⟨A2, cp2, rfl⟩ := own_form ho'; have HO2 := Lib.hid ho'; have HG := Lib.hid hg'; obtain ⟨c3, f3⟩ := app_keeps hg' (by omega) (fun e => by have := own_base HO.out _ e.symm; omega) c0' f0'; have e3 := app_new hg' (fun e => by have := own_lt (own_on HO.out HB2.out) _ e.symm; omega) 1; simp only [List.getElem?_toArray, List.getElem?_cons_zero, List.getElem?_cons_succ] at e3; have hn3 : w2.heap.size + 2 ≤ w'.heap.size := (by have := hg'.size; simp at this; omega); clear ho' hg') | (go_at_call 79; refine (HSU.out _).mono ?_; rintro e w3 ⟨rfl, hb⟩; have HB3 := Lib.hid hb; clear hb))
        go_roundw
        case rel =>
          have hb2 := HB2.out.size
          have hrow : ∀ q, q < wr.heap.size → q < w.heap.size + 3 → some q ≠ (Value.slice A ts.length cp).ownBlock := fun q _ h e => by have := own_base HO.out _ e.symm; omega
          have e1 := app_keeps HG.out (p := w.heap.size + 1) (by omega) (hrow _ (by omega) (by omega)) ((keep HB2.out _ 0 (by omega)).trans HC.out.1.1) ((HB2.out.frozen (p := ⟨w.heap.size + 1, 0, none⟩) (by simp; try omega)).trans HC.out.1.2)
          have e2 := app_keeps HG.out (p := w.heap.size + 1 + 1) (by omega) (hrow _ (by omega) (by omega)) ((keep HB2.out _ 0 (by omega)).trans HC.out.2.1) ((HB2.out.frozen (p := ⟨w.heap.size + 1 + 1, 0, none⟩) (by simp; try omega)).trans HC.out.2.2)
          have hbw : Below w.heap.size w w' := by
            have h1 := on (on HB.out HB2.out) (((Below.refl _ w2).alloc (Nat.le_refl _) (.cells #[.int .i64 (kd : Int), .string v, .int .i64 (k : Int)] 92)).alloc (by simp) (.cells #[.int .i64 (kd : Int), .string v, .int .i64 (k : Int)] 92))
            exact h1.grown HG.out h1.size (fun q hq => by have := own_base HO.out q hq; omega)
          have hd : (ls s).drop (k + n + spanL sepC (ls u)) = (ls u).drop (spanL sepC (ls u)) := by rw [← HLU.out, List.drop_drop]
          have hlen : (ts ++ [(⟨kd, ls v, k⟩ : Tk)]).length = ts.length + 1 := by simp
          refine ⟨k + n + spanL sepC (ls u), by go_num, by omega, ts ++ [⟨kd, ls v, k⟩], A2, cp2, by rw [hlen]; omega, ?_, ?_, ?_, ?_, ?_, ?_, ?_, ?_, ?_, ?_, ?_⟩
          · rw [HM.out, hd]
          · rw [hd]
            cases h : (ls u).drop (spanL sepC (ls u)) with
            | nil => rfl
            | cons c r => exact span_no (span_next _ _ c r h)
          · rw [hlen]; exact (keep HB3.out _ 0 (by simp; try omega)).trans (World.cell?_setCell_same' _ _ _ (by rw [c3]; rfl))
          · exact (keep HB3.out _ 0 (by simp; try omega)).trans ((World.cell?_setCell_far _ _ _ _ (by simp)).trans e1.1)
          · exact (keep HB3.out _ 0 (by simp; try omega)).trans ((World.cell?_setCell_far _ _ _ _ (by simp; try omega)).trans e2.1)
          · exact (HB3.out.frozen (p := ⟨w.heap.size, 0, none⟩) (by simp; try omega)).trans (by simp [f3])
          · exact (HB3.out.frozen (p := ⟨w.heap.size + 1, 0, none⟩) (by simp; try omega)).trans (by simp [e1.2])
          · exact (HB3.out.frozen (p := ⟨w.heap.size + 1 + 1, 0, none⟩) (by simp; try omega)).trans (by simp [e2.2])
          · rw [hlen, tcells_app, tcells_one, bs_ls]
            exact own_on (own_far HO2.out (by simp; try omega) _) HB3.out
          · exact on (hbw.setCell (by simp) _) HB3.out
          · have := HB3.out.size; simp at this; omega
        case measure => simp [intOf]; omega
    · obtain rfl : k = s.size := by omega
      have hfin : toksL 0 (ls s) = .good ts := by
        rw [HR.out, List.drop_of_length_le (by rw [ls_len]; exact Nat.le_refl _), toks_end rfl]; simp [Rs.lay]
      have HF := Lib.hid hfin
      have HC := Lib.hid (And.intro c0 (And.intro c1 c2))
      go_wp2
      refine leaves_cons (f := 78) (args := #[.pointer (some ⟨w.heap.size, 0, none⟩), .pointer (some ⟨w.heap.size + 1, 0, none⟩), .pointer (some ⟨w.heap.size + 1 + 1, 0, none⟩)]) (by simp) (by simp [go_sem]) ?_
      refine (catch_idle w.heap.size (w.heap.size + 1) (w.heap.size + 1 + 1) _).mono ?_
      rintro e u' w'' ⟨rfl, rfl, hb⟩
      have d0 := (keep hb w.heap.size 0 (by simp; try omega)).trans ((World.cell?_setCell_far _ _ _ _ (by simp; try omega)).trans ((World.cell?_setCell_far _ _ _ _ (by simp)).trans (World.cell?_setCell_same' _ _ _ (by rw [HC.out.1]; rfl))))
      have d1 := (keep hb (w.heap.size + 1) 0 (by simp; try omega)).trans ((World.cell?_setCell_far _ _ _ _ (by simp)).trans (World.cell?_setCell_same' _ _ _ (by rw [World.cell?_setCell_far _ _ _ _ (by simp), HC.out.2.1]; rfl)))
      have d2 := (keep hb (w.heap.size + 1 + 1) 0 (by simp; try omega)).trans (World.cell?_setCell_same' _ _ _ (by rw [World.cell?_setCell_far _ _ _ _ (by simp), World.cell?_setCell_far _ _ _ _ (by simp; try omega), HC.out.2.2]; rfl))
      have hrd := own_on (own_far (own_far (own_far HO.out (by simp; try omega) _) (by simp; try omega) _) (by simp; try omega) _) hb
      have hBB := on (((HB.out.setCell (by simp) _).setCell (by simp; try omega) _).setCell (by simp; try omega) _) hb
      rw [HF.out]
      simp [Leaves, settle, results, Tryz.results52, go_sem, d0, d1, d2]
      exact ⟨A, cp, rfl, hrd, hBB⟩
end Go.Proofs.YtahljmddnfldlaaGreatDoor
namespace Go.Proofs.YtahljmddnfldlaaGreatDoor
open Go.RowKit FloM ValM Go.Shelf
set_option linter.unusedVariables false
set_option linter.unusedSimpArgs false
theorem toks_few {a : Nat} {l : List UInt8} {ts : List Tk} (h : toksL a l = .good ts) : ts.length ≤ l.length := by
  have h1 := toks_sum _ a l (Nat.le_refl _) ts h
  have h2 := tok_ok h
  have h3 : ∀ us : List Tk, (∀ t ∈ us, TokOk t) → 2 * us.length ≤ sumT us := by
    intro us
    induction us with
    | nil => intro _; simp [sumT]
    | cons t us ih =>
      intro hu
      have := ih fun x hx => hu x (List.mem_cons_of_mem _ hx)
      have hl := List.length_pos_iff.2 (hu t (by simp)).1
      simp only [sumT, List.map_cons, List.sum_cons, List.length_cons] at this ⊢
      omega
  have := h3 ts h2
  omega
theorem toks_kind {a : Nat} {l : List UInt8} {ts : List Tk} (h : toksL a l = .good ts) : ∀ t ∈ ts, t.k ≠ 0 := fun t ht => by
  have h1 := (first_iff (toks_each _ a l (Nat.le_refl _) ts h t ht)).1
  have h2 := meas_kind t.t
  rw [h1] at h2
  simp only at h2
  omega
theorem row_six (w : World) (o : Obj) (x y z u v r : Value) (t : TypeId) : ∀ j q, [x, y, z, u, v, r][j]? = some q → ((w.alloc o).alloc (.cells #[x, y, z, u, v, r] t)).cell? ((⟨w.heap.size + 1, 0, none⟩ : Addr).add j) = some q := news_two w o #[x, y, z, u, v, r] t
/-- A reader over the tokens of a text, made. -/
theorem rdr_made {W5 : World} {base n c2 z : Nat} {A2 : Option Addr} {ts : List Tk} (hn : n = ts.length + 2) (ho : W5.ownsRow base 92 3 (.slice A2 n c2) n (tcells ts ++ [.int .i64 0, .string ByteArray.empty, .int .i64 (z : Int), .int .i64 0, .string ByteArray.empty, .int .i64 (z : Int)])) :
    ∃ tb, RdrAt (W5.alloc (.cells #[.slice A2 n c2, .int .i64 0] 94)) W5.heap.size tb z ts 0 := by
  subst hn
  have he : tcells ts ++ [.int .i64 0, .string ByteArray.empty, .int .i64 (z : Int), .int .i64 0, .string ByteArray.empty, .int .i64 (z : Int)] = tcells (ts ++ [endT z, endT z]) := by rw [tcells_app]; rfl
  rw [he] at ho
  obtain ⟨g, hA, hb, hg⟩ := own_addr ho (by omega)
  subst hA
  have hcap : ts.length + 2 ≤ c2 := by
    rcases ho.2 with ⟨h0, _⟩ | ⟨g', cap, cur, hv, _, _, hc, _⟩
    · cases h0
    · injection hv with _ _ e3; rw [e3]; exact hc
  have hal := (Below.refl W5.heap.size W5).alloc (Nat.le_refl _) (.cells #[.slice (some ⟨g, 0, none⟩) (ts.length + 2) c2, .int .i64 0] 94)
  exact ⟨g, 0, c2, row_new W5 [.slice (some ⟨g, 0, none⟩) (ts.length + 2) c2, .int .i64 0], (own_rdK ho).on hal, by omega, hcap⟩
theorem own_less {w : World} {base b' size n : Nat} {e : TypeId} {v : Value} {xs : List Value} (h : w.ownsRow base e size v n xs) (hb : b' ≤ base) : w.ownsRow b' e size v n xs := by
  refine ⟨h.1, ?_⟩
  rcases h.2 with h0 | ⟨g, cap, cur, hv, hbg, r⟩
  · exact .inl h0
  · exact .inr ⟨g, cap, cur, hv, Nat.le_trans hb hbg, r⟩
theorem grown_below {W w1 w5 : World} {o1 o2 : Obj} {q : Option Nat} (hb : Below W.heap.size W w1) (hg : ((w1.alloc o1).alloc o2).grownBy w5 q) (hq : ∀ k, q = some k → W.heap.size ≤ k) : Below W.heap.size W w5 :=
  ((hb.alloc hb.size o1).alloc (by have := hb.size; simp; omega) o2).grown hg (by have := hb.size; simp; omega) (fun k hk => by have := hq k hk; omega)
end Go.Proofs.YtahljmddnfldlaaGreatDoor
namespace Go.Proofs.YtahljmddnfldlaaGreatDoor
open Go.RowKit FloM ValM Go.Shelf
set_option linter.unusedVariables false
set_option linter.unusedSimpArgs false
theorem rule_strict : StrictP ruleP := fun z ts x r hg e => by
  have h : Sk ts (ruleP z ts) := by
    unfold ruleP
    refine Sk.bind (fun x r e => atom_strict head_strict z ts x r hg e) fun h r hr => ?_
    split
    · exact Wk.tail (Wk.bind (fun x q e => (list_strict lit_strict z _ x q ((hg.suf hr).suf (tail_suf r)) e).1) fun l r2 _ => (want_sk _ z r2).wk.bind fun _ r3 _ => Wk.ok _)
    · exact (want_sk _ z r).wk.bind fun _ r3 _ => Wk.ok _
  exact h x r e
theorem rulesL_wk {z : Nat} : ∀ (n : Nat) (acc : List Rl) (ts : List Tk), GoodT ts → Wk ts (rulesL z n acc ts)
  | 0, acc, ts, hg => Wk.ok _
  | n + 1, acc, ts, hg => by
    unfold rulesL
    split
    · split
      · exact Wk.no _ _
      · exact Wk.bind (fun x r e => (rule_strict z _ x r hg e).1) fun x r hr => rulesL_wk n _ r (hg.suf hr)
    · exact Wk.ok _
theorem prog_wk {z : Nat} {ts : List Tk} (hg : GoodT ts) : Wk ts (progP z ts) :=
  (rulesL_wk many [] ts hg).bind fun l r hr => (want_sk _ z r).wk.bind fun _ r1 h1 => (atom_sk ((hg.suf hr).suf h1)).wk.bind fun q r2 _ => (want_sk _ z r2).wk.bind fun _ r3 _ => Wk.ok _
/-- The tokens of a text together are no longer than it. -/
theorem toks_sumL : ∀ (m a : Nat) (l : List UInt8), l.length ≤ m → ∀ ts, toksL a l = .good ts → (ts.map fun t => t.t.length).sum ≤ l.length := by
  intro m
  induction m with
  | zero =>
    intro a l hl ts h
    have : l = [] := List.eq_nil_of_length_eq_zero (by omega)
    subst this
    rw [toks_end rfl] at h
    injection h with h; subst h; simp
  | succ m ih =>
    intro a l hl ts h
    by_cases he : l.drop (spanL sepC l) = []
    · rw [toks_end he] at h; injection h with h; subst h; simp
    · cases hf : firstL (l.drop (spanL sepC l)) with
      | none => rw [toks_bad he hf] at h; cases h
      | some o =>
        obtain ⟨k, n⟩ := o
        have hp := first_pos hf
        rw [toks_more hf] at h
        cases hr : toksL (a + spanL sepC l + n) (l.drop (spanL sepC l + n)) with
        | bad m => rw [hr] at h; cases h
        | good r =>
          rw [hr] at h
          simp only [Rs.pre, Rs.good.injEq] at h
          subst h
          have := ih _ _ (by rw [List.length_drop] at hp ⊢; omega) r hr
          simp only [List.map_cons, List.sum_cons] at this ⊢
          rw [List.length_take, List.length_drop]
          rw [List.length_drop] at this hp
          omega
theorem toks_good {a : Nat} {l : List UInt8} {ts : List Tk} (h : toksL a l = .good ts) (hl : l.length ≤ 20000) : GoodT ts := fun t ht => by
  refine ⟨tok_ok h t ht, ?_⟩
  have h1 := toks_sumL _ a l (Nat.le_refl _) ts h
  have h2 : ∀ us : List Tk, t ∈ us → t.t.length ≤ (us.map fun t => t.t.length).sum := by
    intro us
    induction us with
    | nil => intro h; cases h
    | cons u us ih =>
      intro hu
      simp only [List.map_cons, List.sum_cons]
      rcases List.mem_cons.1 hu with rfl | hu
      · omega
      · have := ih hu; omega
  have := h2 ts ht
  omega
/-! ### The rules of a program, one by one -/
theorem rules_stop {z n : Nat} {acc : List Rl} {ts : List Tk} (h : predT (hdT z ts) = false) : rulesL z (n + 1) acc ts = .ok acc ts := by
  unfold rulesL; rw [if_neg (by rw [h]; simp)]
theorem rules_full {z n : Nat} {acc : List Rl} {ts : List Tk} (h : predT (hdT z ts) = true) (hl : acc.length = 200) : rulesL z (n + 1) acc ts = .no (hdT z ts).a 4 := by
  unfold rulesL; rw [if_pos h, if_pos hl]
theorem rules_step {z n : Nat} {acc : List Rl} {ts : List Tk} (h : predT (hdT z ts) = true) (hl : acc.length ≠ 200) : rulesL z (n + 1) acc ts = (ruleP z ts).bind fun x r => rulesL z n (acc ++ [x]) r := by
  rw [rulesL, if_pos h, if_neg hl]
end Go.Proofs.YtahljmddnfldlaaGreatDoor
namespace Go.Proofs.YtahljmddnfldlaaGreatDoor
open Go.RowKit FloM ValM Go.Shelf
set_option linter.unusedVariables false
set_option linter.unusedSimpArgs false
section
variable {W W' : World} {rb tb z o : Nat} {ts : List Tk}
set_option maxRecDepth 20000 in
set_option maxHeartbeats 16000000 in
theorem rule_any (W : World) (h : RdrAt W rb tb z ts o) (hg : GoodT ts) (hts : ts.length ≤ 20009)
    (hlit : ∀ V r, r <:+ ts → RdrAt V rb tb z r o → Calls Tryz.prog 85 #[.pointer (some ⟨rb, 0, none⟩)] V (LitQ (litP z r) rb tb z o V)) :
    Calls Tryz.prog 57 #[.pointer (some ⟨rb, 0, none⟩)] W (RuleQ (ruleP z ts) rb tb z o W) := by
  have hmf : ∀ (fn : Fn) (first cap : Array Value) (w : World), (Instr.makeFunc fn first cap).run Tryz.prog w = .ok (.func fn first cap) w := fun _ _ _ _ => rfl
  have hrl := h.lt; have htl := h.tlt
  have hst := ((LSt.start h).new 33 [.string ByteArray.empty, .slice none 0 0, .int .i64 0, .slice none 0 0]).new 33 [.string ByteArray.empty, .slice none 0 0, .int .i64 0, .slice none 0 0]
  rw [World.size_alloc] at hst
  have hst' : LSt rb tb z o W [(W.heap.size, 33, [.string ByteArray.empty, .slice none 0 0, .int .i64 0, .slice none 0 0]), (W.heap.size + 1, 33, [.string ByteArray.empty, .slice none 0 0, .int .i64 0, .slice none 0 0])] ts _ := hst
  have S0 := Lib.hid hst'
  have HA := headA_any (xb := W.heap.size + 1) _ hst'.rdr hg hts (hst'.row (x := (W.heap.size + 1, 33, [.string ByteArray.empty, .slice none 0 0, .int .i64 0, .slice none 0 0])) (.tail _ (.head _))) (by omega) (by omega)
  have HA := Lib.hid HA
  have HG := Lib.hid hg; have HLN := Lib.hid hts; have HLT := Lib.hid hlit
  unfold ruleP
  clear h hg hts hst hst' hlit
  cases ha : atomB headP z ts with
  | no a k =>
    rw [ha] at HA
    simp only [Ans.bind]
    clear ha
    go_enter Tryz.func57, Tryz.ntmps57
    go_wp2_with (first
      | (go_at_call 59; refine HA.out.mono ?_; rintro e w1 ⟨rfl, f⟩))
    exact ⟨rfl, rfl, S0.out.fr.trans ⟨f.os, f.tape, f.output, f.size, fun k hk hne => f.block k (Nat.lt_of_lt_of_le hk S0.out.fr.size) fun e => e.elim hne fun e => by omega⟩⟩
  | ok hx r =>
    rw [ha] at HA
    simp only [Ans.bind]
    have hs1 := (atom_strict head_strict z ts hx r HG.out ha).1
    have HG1 := Lib.hid (HG.out.suf hs1); have HLN1 := Lib.hid (Nat.le_trans hs1.length_le HLN.out)
    have HS1 := Lib.hid hs1
    clear ha hs1
    by_cases hc : (hdT z r).t = [58, 45]
    · rw [if_pos hc]
      obtain ⟨u, q, rfl⟩ : ∃ u q, r = u :: q := ⟨_, _, hd_tail hc (by simp)⟩
      have HSK : Hid (∀ V, RdrAt V rb tb z (u :: q) o → Calls Tryz.prog 83 #[.pointer (some ⟨rb, 0, none⟩), .string ⟨#[58, 45]⟩] V fun e w' => e = .returned (.bool true) ∧ RdrAt w' rb tb z q o ∧ Fr (· = rb) V.heap.size V w') := Lib.hid fun V hV => skip_yes ⟨#[58, 45]⟩ V hV hc (by decide)
      have hq : q <:+ ts := (List.suffix_cons u q).trans HS1.out
      have HB : Hid (∀ V, RdrAt V rb tb z q o → Calls Tryz.prog 84 #[.pointer (some ⟨rb, 0, none⟩), .int .i64 12, .func (.func 85) #[] #[]] V (BodyQ (listP 12 litP z q) rb tb z o V)) := Lib.hid fun V hV => body_any V hV (HG.out.suf hq) (Nat.le_trans hq.length_le HLN.out) fun U r2 hr2 hU => HLT.out U r2 (hr2.trans hq) hU
      simp only [List.tail_cons]
      clear hc hq
      cases hb : listP 12 litP z q with
      | no a k =>
        rw [hb] at HB
        simp only [Ans.bind]
        clear hb
        go_enter Tryz.func57, Tryz.ntmps57
        go_wp2_with (first
          | (go_at_call 59; refine HA.out.mono ?_; rintro e w1 ⟨M, hM, rfl, hok, h, hR, f⟩; have hz1 := f.size; simp only [World.size_alloc] at hz1; have HM := Lib.hid hM; have O1 := Lib.hid hok; have S1 := Lib.hid (S0.out.callX2 (cs' := [.string ByteArray.empty, .slice none 0 0, .int .i64 (lastF hx.2 : Int), .slice none 0 0]) h f hR); clear hM hok h hR f)
          | (refine wpList_storeR rfl 25 (.tmp 7) _ rfl (W.heap.size + 1) 0 rfl (.agg #[.string (bs M.p), .slice M.A M.a.length M.c]) rfl [.string (bs M.p), .slice M.A M.a.length M.c] rfl (pre := []) (old := [.string ByteArray.empty, .slice none 0 0]) (post := [.int .i64 (lastF hx.2 : Int), .slice none 0 0]) (S1.out.row (x := (W.heap.size + 1, 33, [.string ByteArray.empty, .slice none 0 0, .int .i64 (lastF hx.2 : Int), .slice none 0 0])) (.tail _ (.head _))) rfl rfl (by kernel_rfl) rfl ?_; intro w2 hR hF hs; have hz2 := Nat.le_of_eq hs.symm; clear hs; replace hR : Row 33 w2 (W.heap.size + 1) [.string (bs M.p), .slice M.A M.a.length M.c, .int .i64 (lastF hx.2 : Int), .slice none 0 0] := hR; have S2 := Lib.hid (S1.out.store (pre := [(W.heap.size, 33, [.string ByteArray.empty, .slice none 0 0, .int .i64 0, .slice none 0 0])]) hR hF); have O2 := Lib.hid (O1.out.frx (fun k (hk : k = W.heap.size + 1) => by simp; omega) (hF _)); clear hR hF)
          | (go_at_call 83; refine (HSK.out _ S2.out.rdr).mono ?_; rintro e w3 ⟨rfl, h, f⟩; have S3 := Lib.hid (S2.out.call h f); have O3 := Lib.hid (O2.out.frx (fun k (hk : k = rb) => by simp; omega) f); have hz3 := f.size; clear h f)
          | (go_at_call 84; refine (HB.out _ S3.out.rdr).mono ?_; rintro e w4 ⟨rfl, f⟩))
        exact ⟨rfl, rfl, S3.out.fr.trans (f.mono S3.out.fr.size)⟩
      | ok xs r2 =>
        rw [hb] at HB
        simp only [Ans.bind]
        clear hb
        have HW : Hid (∀ V, RdrAt V rb tb z r2 o → _) := Lib.hid fun V hV => want_new ⟨#[46]⟩ V hV (by decide)
        rw [show ls ⟨#[46]⟩ = [46] from rfl] at HW
        cases hw : wantP [46] z r2 with
        | no a k =>
          rw [hw] at HW
          clear hw
          go_enter Tryz.func57, Tryz.ntmps57
          go_wp2_with (first
            | (go_at_call 59; refine HA.out.mono ?_; rintro e w1 ⟨M, hM, rfl, hok, h, hR, f⟩; have hz1 := f.size; simp only [World.size_alloc] at hz1; have HM := Lib.hid hM; have O1 := Lib.hid hok; have S1 := Lib.hid (S0.out.callX2 (cs' := [.string ByteArray.empty, .slice none 0 0, .int .i64 (lastF hx.2 : Int), .slice none 0 0]) h f hR); clear hM hok h hR f)
            | (refine wpList_storeR rfl 25 (.tmp 7) _ rfl (W.heap.size + 1) 0 rfl (.agg #[.string (bs M.p), .slice M.A M.a.length M.c]) rfl [.string (bs M.p), .slice M.A M.a.length M.c] rfl (pre := []) (old := [.string ByteArray.empty, .slice none 0 0]) (post := [.int .i64 (lastF hx.2 : Int), .slice none 0 0]) (S1.out.row (x := (W.heap.size + 1, 33, [.string ByteArray.empty, .slice none 0 0, .int .i64 (lastF hx.2 : Int), .slice none 0 0])) (.tail _ (.head _))) rfl rfl (by kernel_rfl) rfl ?_; intro w2 hR hF hs; have hz2 := Nat.le_of_eq hs.symm; clear hs; replace hR : Row 33 w2 (W.heap.size + 1) [.string (bs M.p), .slice M.A M.a.length M.c, .int .i64 (lastF hx.2 : Int), .slice none 0 0] := hR; have S2 := Lib.hid (S1.out.store (pre := [(W.heap.size, 33, [.string ByteArray.empty, .slice none 0 0, .int .i64 0, .slice none 0 0])]) hR hF); have O2 := Lib.hid (O1.out.frx (fun k (hk : k = W.heap.size + 1) => by simp; omega) (hF _)); clear hR hF)
            | (go_at_call 83; refine (HSK.out _ S2.out.rdr).mono ?_; rintro e w3 ⟨rfl, h, f⟩; have S3 := Lib.hid (S2.out.call h f); have O3 := Lib.hid (O2.out.frx (fun k (hk : k = rb) => by simp; omega) f); have hz3 := f.size; clear h f)
            | (go_at_call 84; refine (HB.out _ S3.out.rdr).mono ?_; rintro e w4 ⟨l, A, c, hl, rfl, hb, h, f⟩; have HL := Lib.hid hl; have B4 := Lib.hid hb; have S4 := Lib.hid (S3.out.call h f); have O4 := Lib.hid (O3.out.frx (fun k (hk : k = rb) => by simp; omega) f); have hz4 := f.size; clear hl hb h f)
            | (refine wpList_storeR rfl 31 (.tmp 12) _ rfl (W.heap.size + 1) 3 rfl (.slice A l.length c) rfl [.slice A l.length c] rfl (pre := [.string (bs M.p), .slice M.A M.a.length M.c, .int .i64 (lastF hx.2 : Int)]) (old := [.slice none 0 0]) (post := []) (S4.out.row (x := (W.heap.size + 1, 33, [.string (bs M.p), .slice M.A M.a.length M.c, .int .i64 (lastF hx.2 : Int), .slice none 0 0])) (.tail _ (.head _))) rfl rfl (by kernel_rfl) rfl ?_; intro w5 hR hF hs; have hz5 := Nat.le_of_eq hs.symm; clear hs; replace hR : Row 33 w5 (W.heap.size + 1) [.string (bs M.p), .slice M.A M.a.length M.c, .int .i64 (lastF hx.2 : Int), .slice A l.length c] := hR; have S5 := Lib.hid (S4.out.store (pre := [(W.heap.size, 33, [.string ByteArray.empty, .slice none 0 0, .int .i64 0, .slice none 0 0])]) hR hF); have O5 := Lib.hid (O4.out.frx (fun k (hk : k = W.heap.size + 1) => by simp; omega) (hF _)); have B5 := Lib.hid (B4.out.frx (fun k (hk : k = W.heap.size + 1) => by omega) (hF _)); clear hR hF)
            | (go_at_call 58; refine (HW.out _ S5.out.rdr).mono ?_; rintro e w6 ⟨rfl, f⟩))
          exact ⟨rfl, rfl, S5.out.fr.trans (f.mono S5.out.fr.size)⟩
        | ok _t r3 =>
          rw [hw] at HW
          clear hw
          go_enter Tryz.func57, Tryz.ntmps57
          go_wp2_with (first
            | (go_at_call 59; refine HA.out.mono ?_; rintro e w1 ⟨M, hM, rfl, hok, h, hR, f⟩; have hz1 := f.size; simp only [World.size_alloc] at hz1; have HM := Lib.hid hM; have O1 := Lib.hid hok; have S1 := Lib.hid (S0.out.callX2 (cs' := [.string ByteArray.empty, .slice none 0 0, .int .i64 (lastF hx.2 : Int), .slice none 0 0]) h f hR); clear hM hok h hR f)
            | (refine wpList_storeR rfl 25 (.tmp 7) _ rfl (W.heap.size + 1) 0 rfl (.agg #[.string (bs M.p), .slice M.A M.a.length M.c]) rfl [.string (bs M.p), .slice M.A M.a.length M.c] rfl (pre := []) (old := [.string ByteArray.empty, .slice none 0 0]) (post := [.int .i64 (lastF hx.2 : Int), .slice none 0 0]) (S1.out.row (x := (W.heap.size + 1, 33, [.string ByteArray.empty, .slice none 0 0, .int .i64 (lastF hx.2 : Int), .slice none 0 0])) (.tail _ (.head _))) rfl rfl (by kernel_rfl) rfl ?_; intro w2 hR hF hs; have hz2 := Nat.le_of_eq hs.symm; clear hs; replace hR : Row 33 w2 (W.heap.size + 1) [.string (bs M.p), .slice M.A M.a.length M.c, .int .i64 (lastF hx.2 : Int), .slice none 0 0] := hR; have S2 := Lib.hid (S1.out.store (pre := [(W.heap.size, 33, [.string ByteArray.empty, .slice none 0 0, .int .i64 0, .slice none 0 0])]) hR hF); have O2 := Lib.hid (O1.out.frx (fun k (hk : k = W.heap.size + 1) => by simp; omega) (hF _)); clear hR hF)
            | (go_at_call 83; refine (HSK.out _ S2.out.rdr).mono ?_; rintro e w3 ⟨rfl, h, f⟩; have S3 := Lib.hid (S2.out.call h f); have O3 := Lib.hid (O2.out.frx (fun k (hk : k = rb) => by simp; omega) f); have hz3 := f.size; clear h f)
            | (go_at_call 84; refine (HB.out _ S3.out.rdr).mono ?_; rintro e w4 ⟨l, A, c, hl, rfl, hb, h, f⟩; have HL := Lib.hid hl; have B4 := Lib.hid hb; have S4 := Lib.hid (S3.out.call h f); have O4 := Lib.hid (O3.out.frx (fun k (hk : k = rb) => by simp; omega) f); have hz4 := f.size; clear hl hb h f)
            | (refine wpList_storeR rfl 31 (.tmp 12) _ rfl (W.heap.size + 1) 3 rfl (.slice A l.length c) rfl [.slice A l.length c] rfl (pre := [.string (bs M.p), .slice M.A M.a.length M.c, .int .i64 (lastF hx.2 : Int)]) (old := [.slice none 0 0]) (post := []) (S4.out.row (x := (W.heap.size + 1, 33, [.string (bs M.p), .slice M.A M.a.length M.c, .int .i64 (lastF hx.2 : Int), .slice none 0 0])) (.tail _ (.head _))) rfl rfl (by kernel_rfl) rfl ?_; intro w5 hR hF hs; have hz5 := Nat.le_of_eq hs.symm; clear hs; replace hR : Row 33 w5 (W.heap.size + 1) [.string (bs M.p), .slice M.A M.a.length M.c, .int .i64 (lastF hx.2 : Int), .slice A l.length c] := hR; have S5 := Lib.hid (S4.out.store (pre := [(W.heap.size, 33, [.string ByteArray.empty, .slice none 0 0, .int .i64 0, .slice none 0 0])]) hR hF); have O5 := Lib.hid (O4.out.frx (fun k (hk : k = W.heap.size + 1) => by simp; omega) (hF _)); have B5 := Lib.hid (B4.out.frx (fun k (hk : k = W.heap.size + 1) => by omega) (hF _)); clear hR hF)
            | (go_at_call 58; refine (HW.out _ S5.out.rdr).mono ?_; rintro e w6 ⟨rfl, h, f⟩; have S6 := Lib.hid (S5.out.call h f); have O6 := Lib.hid (O5.out.frx (fun k (hk : k = rb) => by simp; omega) f); have B6 := Lib.hid (B5.out.frx (fun k (hk : k = rb) => by omega) f); have hz6 := f.size; clear h f)
            | (refine wpList_loadR rfl 33 (.tmp 3) rfl (W.heap.size + 1) 0 rfl (pre := []) (mid := [.string (bs M.p), .slice M.A M.a.length M.c, .int .i64 (lastF hx.2 : Int), .slice A l.length c]) (post := []) (S6.out.row (x := (W.heap.size + 1, 33, [.string (bs M.p), .slice M.A M.a.length M.c, .int .i64 (lastF hx.2 : Int), .slice A l.length c])) (.tail _ (.head _))) rfl Tryz.underlying33 rfl (by kernel_rfl) ?_)
            | (refine wpList_storeR rfl 33 (.tmp 2) _ rfl W.heap.size 0 rfl (.agg #[.string (bs M.p), .slice M.A M.a.length M.c, .int .i64 (lastF hx.2 : Int), .slice A l.length c]) rfl _ rfl (pre := []) (old := [.string ByteArray.empty, .slice none 0 0, .int .i64 0, .slice none 0 0]) (post := []) (S6.out.row (x := (W.heap.size, 33, [.string ByteArray.empty, .slice none 0 0, .int .i64 0, .slice none 0 0])) (.head _)) rfl rfl (by kernel_rfl) rfl ?_; intro w100 hR100 hF100 hs100; have S100 := Lib.hid (S6.out.store (pre := []) hR100 hF100)))
          refine bodyPost_ret (results_cell_row rfl _ _ W.heap.size _ _ _ _ rfl hR100 Tryz.underlying33 rfl (by kernel_rfl)) rfl ?_
          refine ⟨⟨M, lastF hx.2, A, c, l⟩, ?_, rfl, ⟨AmA.ok.less (O6.out.frx (fun k (hk : k = W.heap.size) => by simp; omega) (hF100 _)) (by simp; omega), BodyOk.less (B6.out.frx (fun k (hk : k = W.heap.size) => by omega) (hF100 _)) (by omega)⟩, S100.out.rdr, S100.out.fr⟩
          unfold RlA.rl; simp only; rw [HM.out, HL.out]; rfl
    · rw [if_neg hc]
      have HSK : Hid (∀ V, RdrAt V rb tb z r o → Calls Tryz.prog 83 #[.pointer (some ⟨rb, 0, none⟩), .string ⟨#[58, 45]⟩] V fun e w' => e = .returned (.bool false) ∧ V = w') := Lib.hid fun V hV => skip_no ⟨#[58, 45]⟩ V hV hc
      have HW : Hid (∀ V, RdrAt V rb tb z r o → _) := Lib.hid fun V hV => want_new ⟨#[46]⟩ V hV (by decide)
      rw [show ls ⟨#[46]⟩ = [46] from rfl] at HW
      clear hc
      cases hw : wantP [46] z r with
      | no a k =>
        rw [hw] at HW
        clear hw
        go_enter Tryz.func57, Tryz.ntmps57
        go_wp2_with (first
          | (go_at_call 59; refine HA.out.mono ?_; rintro e w1 ⟨M, hM, rfl, hok, h, hR, f⟩; have hz1 := f.size; simp only [World.size_alloc] at hz1; have HM := Lib.hid hM; have O1 := Lib.hid hok; have S1 := Lib.hid (S0.out.callX2 (cs' := [.string ByteArray.empty, .slice none 0 0, .int .i64 (lastF hx.2 : Int), .slice none 0 0]) h f hR); clear hM hok h hR f)
          | (refine wpList_storeR rfl 25 (.tmp 7) _ rfl (W.heap.size + 1) 0 rfl (.agg #[.string (bs M.p), .slice M.A M.a.length M.c]) rfl [.string (bs M.p), .slice M.A M.a.length M.c] rfl (pre := []) (old := [.string ByteArray.empty, .slice none 0 0]) (post := [.int .i64 (lastF hx.2 : Int), .slice none 0 0]) (S1.out.row (x := (W.heap.size + 1, 33, [.string ByteArray.empty, .slice none 0 0, .int .i64 (lastF hx.2 : Int), .slice none 0 0])) (.tail _ (.head _))) rfl rfl (by kernel_rfl) rfl ?_; intro w2 hR hF hs; have hz2 := Nat.le_of_eq hs.symm; clear hs; replace hR : Row 33 w2 (W.heap.size + 1) [.string (bs M.p), .slice M.A M.a.length M.c, .int .i64 (lastF hx.2 : Int), .slice none 0 0] := hR; have S2 := Lib.hid (S1.out.store (pre := [(W.heap.size, 33, [.string ByteArray.empty, .slice none 0 0, .int .i64 0, .slice none 0 0])]) hR hF); have O2 := Lib.hid (O1.out.frx (fun k (hk : k = W.heap.size + 1) => by simp; omega) (hF _)); clear hR hF)
          | (go_at_call 83; refine (HSK.out _ S2.out.rdr).mono ?_; rintro e w3 ⟨rfl, rfl⟩; have S3 := S2; have O3 := O2; have hz3 := hz2)
          | (go_at_call 58; refine (HW.out _ S3.out.rdr).mono ?_; rintro e w6 ⟨rfl, f⟩))
        exact ⟨rfl, rfl, S3.out.fr.trans (f.mono S3.out.fr.size)⟩
      | ok _t r3 =>
        rw [hw] at HW
        clear hw
        go_enter Tryz.func57, Tryz.ntmps57
        go_wp2_with (first
          | (go_at_call 59; refine HA.out.mono ?_; rintro e w1 ⟨M, hM, rfl, hok, h, hR, f⟩; have hz1 := f.size; simp only [World.size_alloc] at hz1; have HM := Lib.hid hM; have O1 := Lib.hid hok; have S1 := Lib.hid (S0.out.callX2 (cs' := [.string ByteArray.empty, .slice none 0 0, .int .i64 (lastF hx.2 : Int), .slice none 0 0]) h f hR); clear hM hok h hR f)
          | (refine wpList_storeR rfl 25 (.tmp 7) _ rfl (W.heap.size + 1) 0 rfl (.agg #[.string (bs M.p), .slice M.A M.a.length M.c]) rfl [.string (bs M.p), .slice M.A M.a.length M.c] rfl (pre := []) (old := [.string ByteArray.empty, .slice none 0 0]) (post := [.int .i64 (lastF hx.2 : Int), .slice none 0 0]) (S1.out.row (x := (W.heap.size + 1, 33, [.string ByteArray.empty, .slice none 0 0, .int .i64 (lastF hx.2 : Int), .slice none 0 0])) (.tail _ (.head _))) rfl rfl (by kernel_rfl) rfl ?_; intro w2 hR hF hs; have hz2 := Nat.le_of_eq hs.symm; clear hs; replace hR : Row 33 w2 (W.heap.size + 1) [.string (bs M.p), .slice M.A M.a.length M.c, .int .i64 (lastF hx.2 : Int), .slice none 0 0] := hR; have S2 := Lib.hid (S1.out.store (pre := [(W.heap.size, 33, [.string ByteArray.empty, .slice none 0 0, .int .i64 0, .slice none 0 0])]) hR hF); have O2 := Lib.hid (O1.out.frx (fun k (hk : k = W.heap.size + 1) => by simp; omega) (hF _)); clear hR hF)
          | (go_at_call 83; refine (HSK.out _ S2.out.rdr).mono ?_; rintro e w3 ⟨rfl, rfl⟩; have S3 := S2; have O3 := O2; have hz3 := hz2)
          | (go_at_call 58; refine (HW.out _ S3.out.rdr).mono ?_; rintro e w6 ⟨rfl, h, f⟩; have S6 := Lib.hid (S3.out.call h f); have O6 := Lib.hid (O3.out.frx (fun k (hk : k = rb) => by simp; omega) f); have hz6 := f.size; clear h f)
          | (refine wpList_loadR rfl 33 (.tmp 3) rfl (W.heap.size + 1) 0 rfl (pre := []) (mid := [.string (bs M.p), .slice M.A M.a.length M.c, .int .i64 (lastF hx.2 : Int), .slice none 0 0]) (post := []) (S6.out.row (x := (W.heap.size + 1, 33, [.string (bs M.p), .slice M.A M.a.length M.c, .int .i64 (lastF hx.2 : Int), .slice none 0 0])) (.tail _ (.head _))) rfl Tryz.underlying33 rfl (by kernel_rfl) ?_)
          | (refine wpList_storeR rfl 33 (.tmp 2) _ rfl W.heap.size 0 rfl (.agg #[.string (bs M.p), .slice M.A M.a.length M.c, .int .i64 (lastF hx.2 : Int), .slice none 0 0]) rfl _ rfl (pre := []) (old := [.string ByteArray.empty, .slice none 0 0, .int .i64 0, .slice none 0 0]) (post := []) (S6.out.row (x := (W.heap.size, 33, [.string ByteArray.empty, .slice none 0 0, .int .i64 0, .slice none 0 0])) (.head _)) rfl rfl (by kernel_rfl) rfl ?_; intro w100 hR100 hF100 hs100; have S100 := Lib.hid (S6.out.store (pre := []) hR100 hF100)))
        refine bodyPost_ret (results_cell_row rfl _ _ W.heap.size _ _ _ _ rfl hR100 Tryz.underlying33 rfl (by kernel_rfl)) rfl ?_
        refine ⟨⟨M, lastF hx.2, none, 0, []⟩, ?_, rfl, ⟨AmA.ok.less (O6.out.frx (fun k (hk : k = W.heap.size) => by simp; omega) (hF100 _)) (by simp; omega), own_nil _ _ _ _, fun x hx => by cases hx⟩, S100.out.rdr, S100.out.fr⟩
        unfold RlA.rl; simp only; rw [HM.out]; rfl
end
end Go.Proofs.YtahljmddnfldlaaGreatDoor
namespace Go.Proofs.YtahljmddnfldlaaGreatDoor
open Go.RowKit FloM ValM Go.Shelf
set_option linter.unusedVariables false
set_option linter.unusedSimpArgs false
structure PgA where
  A : Option Addr
  c : Nat
  r : List RlA
  q : AmA
def PgA.pg (x : PgA) : Pg := ⟨x.r.map RlA.rl, x.q.am⟩
def pgC (x : PgA) : List Value := [.slice x.A x.r.length x.c, .string (bs x.q.p), .slice x.q.A x.q.a.length x.q.c]
theorem RlA.ok.frx {W W' : World} {base : Nat} {x : RlA} {X : Nat → Prop} (h : x.ok W base) (hX : ∀ k, X k → k < base) (hF : Fr X W.heap.size W W') : x.ok W' base := ⟨AmA.ok.frx h.1 hX hF, BodyOk.frx h.2 hX hF⟩
theorem RlA.ok.less {W : World} {base b' : Nat} {x : RlA} (h : x.ok W base) (hb : b' ≤ base) : x.ok W b' := ⟨AmA.ok.less h.1 hb, BodyOk.less h.2 hb⟩
def PgA.ok (W : World) (base : Nat) (x : PgA) : Prop := OwnX 33 4 rlC W base x.A x.c x.r ∧ (∀ y ∈ x.r, y.ok W base) ∧ x.q.ok W base
theorem PgA.ok.frx {W W' : World} {base : Nat} {x : PgA} {X : Nat → Prop} (h : x.ok W base) (hX : ∀ k, X k → k < base) (hF : Fr X W.heap.size W W') : x.ok W' base := ⟨own_frx h.1 hX hF, fun y hy => (h.2.1 y hy).frx hX hF, AmA.ok.frx h.2.2 hX hF⟩
theorem PgA.ok.less {W : World} {base b' : Nat} {x : PgA} (h : x.ok W base) (hb : b' ≤ base) : x.ok W b' := ⟨OwnX.less h.1 hb, fun y hy => (h.2.1 y hy).less hb, AmA.ok.less h.2.2 hb⟩
def ProgQ (R : Ans Pg) (rb tb z o : Nat) (W : World) (e : Ending) (w' : World) : Prop := match R with
  | .ok x r => ∃ X : PgA, X.pg = x ∧ e = .returned (.agg (pgC X).toArray) ∧ X.ok w' W.heap.size ∧ RdrAt w' rb tb z r o ∧ Fr (· = rb) W.heap.size W w'
  | .no a k => e = .panicked [{ v := faultP a k, recovered := false }] ∧ Fr (· = rb) W.heap.size W w'
def ReadQ (R : Ans Pg) (W : World) (e : Ending) (w' : World) : Prop := match R with
  | .ok x _ => ∃ X : PgA, X.pg = x ∧ e = .returned (.agg (pgC X).toArray) ∧ X.ok w' W.heap.size ∧ Below W.heap.size W w'
  | .no a k => e = .panicked [{ v := faultP a k, recovered := false }] ∧ Below W.heap.size W w'
/-- A text's program; or where it is wrong, and the error. -/
def progS (z : Nat) (R : Rs) : Ans Pg := match R with
  | .bad n => .no n 2
  | .good ts => wholeP progP z ts
set_option maxRecDepth 20000 in
set_option maxHeartbeats 8000000 in
theorem readP_any (s : ByteArray) (W : World) (hs : s.size ≤ 20000)
    (hsuf : ∀ ts x r, toksL 0 (ls s) = .good ts → progP s.size ts = .ok x r → r <:+ ts)
    (hprog : ∀ ts, toksL 0 (ls s) = .good ts → ∀ (V : World) (rb tb : Nat), RdrAt V rb tb s.size ts 0 → Calls Tryz.prog 30 #[.pointer (some ⟨rb, 0, none⟩)] V (ProgQ (progP s.size ts) rb tb s.size 0 V)) :
    Calls Tryz.prog 29 #[.string s, .func (.func 30) #[] #[]] W (ReadQ (progS s.size (toksL 0 (ls s))) W) := by
  have HT := Lib.hid (tokens_own s (W.alloc (.cells #[.slice none 0 0, .string ⟨#[]⟩, .slice none 0 0] 27)) (by omega))
  have hb0 : Below W.heap.size W (W.alloc (.cells #[.slice none 0 0, .string ⟨#[]⟩, .slice none 0 0] 27)) := (Below.refl _ _).alloc (Nat.le_refl _) _
  have hv0 : (W.alloc (.cells #[.slice none 0 0, .string ⟨#[]⟩, .slice none 0 0] 27)).heap.size = W.heap.size + 1 := World.size_alloc _ _
  have HR0 := Lib.hid (row_new (t := 27) W [.slice none 0 0, .string ⟨#[]⟩, .slice none 0 0])
  have HB0 := Lib.hid hb0
  cases hR : toksL 0 (ls s) with
  | bad n =>
    rw [hR] at HT
    clear hR
    unfold progS
    go_enter Tryz.func29, Tryz.ntmps29
    go_wp2_with (go_at_call 52; refine HT.out.mono ?_; rintro e w1 ⟨rfl, hb⟩)
    exact ⟨rfl, rfl, on HB0.out hb⟩
  | good ts =>
    rw [hR] at HT
    have hlen := toks_few hR
    rw [ls_len] at hlen
    have HKD := Lib.hid (toks_kind hR)
    have HPG := Lib.hid (hprog ts hR)
    have HSF := Lib.hid fun x r => hsuf ts x r hR
    obtain ⟨i0, hi0, hz0, hz1, hz2⟩ := info_parts info_tokv
    have HI := Lib.hid (And.intro hi0 (And.intro hz0 (And.intro hz1 hz2)))
    clear hR hi0 hz0 hz1 hz2 hprog hsuf hb0
    rw [show progS s.size (.good ts) = (progP s.size ts).bind fun x r => match r with
      | [] => .ok x []
      | t :: _ => .no t.a 2 from rfl]
    obtain ⟨V, hV⟩ : ∃ V, (W.alloc (.cells #[.slice none 0 0, .string ⟨#[]⟩, .slice none 0 0] 27)) = V := ⟨_, rfl⟩
    cases hp : progP s.size ts with
    | no a k =>
      simp only [Ans.bind]
      go_enter Tryz.func29, Tryz.ntmps29
      go_wp2_with fail
      rw [hV] at HT HR0 HB0 hv0
      have hv1 := Nat.le_of_eq hv0.symm; have hv2 := Nat.le_of_eq hv0; clear hv0
      clear hV
      go_wp2_with (first
        | (go_at_call 52; refine HT.out.mono ?_; rintro e w1 ⟨A, c, rfl, hown, hb⟩; have O1 := Lib.hid (own_less hown (Nat.le_add_right V.heap.size 3)); have HB1 := Lib.hid hb; have hz1 := hb.size; clear hown hb)
        | (at_builtin; refine wpList_append_own_at _ rfl (.tmp 26) (.tmp 29) _ rfl V.heap.size 92 i0 (.agg #[.int .i64 0, .string ByteArray.empty, .int .i64 0]) 3 32 Tryz.underlying88 HI.out.1 HI.out.2.1 HI.out.2.2.1 HI.out.2.2.2 rfl (by omega) (.slice A ts.length c) ts.length (tcells ts) rfl (own_on O1.out (((Below.refl _ _).alloc (Nat.le_refl _) _).alloc (by simp) _)) ⟨w1.heap.size + 1, 0, none⟩ 2 2 [.int .i64 0, .string ByteArray.empty, .int .i64 (s.size : Int), .int .i64 0, .string ByteArray.empty, .int .i64 (s.size : Int)] rfl (by simp) (row_six w1 _ _ _ _ _ _ _ _) (by simp [Value.oneCell']) (by unfold maxLen; omega) (by omega) (by simp; omega) ?_; intro v' w5 ho hg _ _; obtain ⟨A2, c2, rfl⟩ := own_form ho; obtain ⟨tb, hr⟩ := rdr_made (z := s.size) rfl ho; have HP := HPG.out _ _ _ hr; rw [hp] at HP; have HPP := Lib.hid HP; have hgb := grown_below HB1.out hg (own_base O1.out); have hz5 := hgb.size; have HB5 := Lib.hid (hgb.alloc hz5 (.cells #[.slice A2 (ts.length + 2) c2, .int .i64 0] 94)); clear hgb; clear ho hg hr HP)
        | (go_at_call 30; refine HPP.out.mono ?_; rintro e w6 ⟨rfl, f⟩))
      exact ⟨rfl, rfl, on HB0.out (HB5.out.trans (f.below HB5.out.size fun k hk e => by omega))⟩
    | ok x r =>
      have HKR : Hid (∀ t ∈ r, t.k ≠ 0) := Lib.hid fun t ht => HKD.out t ((HSF.out x r hp).subset ht)
      simp only [Ans.bind]
      cases r with
      | cons t r =>
        go_enter Tryz.func29, Tryz.ntmps29
        go_wp2_with fail
        rw [hV] at HT HR0 HB0 hv0
        have hv1 := Nat.le_of_eq hv0.symm; have hv2 := Nat.le_of_eq hv0; clear hv0
        clear hV
        go_wp2_with (first
          | (go_at_call 52; refine HT.out.mono ?_; rintro e w1 ⟨A, c, rfl, hown, hb⟩; have O1 := Lib.hid (own_less hown (Nat.le_add_right V.heap.size 3)); have HB1 := Lib.hid hb; have hz1 := hb.size; clear hown hb)
          | (at_builtin; refine wpList_append_own_at _ rfl (.tmp 26) (.tmp 29) _ rfl V.heap.size 92 i0 (.agg #[.int .i64 0, .string ByteArray.empty, .int .i64 0]) 3 32 Tryz.underlying88 HI.out.1 HI.out.2.1 HI.out.2.2.1 HI.out.2.2.2 rfl (by omega) (.slice A ts.length c) ts.length (tcells ts) rfl (own_on O1.out (((Below.refl _ _).alloc (Nat.le_refl _) _).alloc (by simp) _)) ⟨w1.heap.size + 1, 0, none⟩ 2 2 [.int .i64 0, .string ByteArray.empty, .int .i64 (s.size : Int), .int .i64 0, .string ByteArray.empty, .int .i64 (s.size : Int)] rfl (by simp) (row_six w1 _ _ _ _ _ _ _ _) (by simp [Value.oneCell']) (by unfold maxLen; omega) (by omega) (by simp; omega) ?_; intro v' w5 ho hg _ _; obtain ⟨A2, c2, rfl⟩ := own_form ho; obtain ⟨tb, hr⟩ := rdr_made (z := s.size) rfl ho; have HP := HPG.out _ _ _ hr; rw [hp] at HP; have HPP := Lib.hid HP; have hgb := grown_below HB1.out hg (own_base O1.out); have hz5 := hgb.size; have HB5 := Lib.hid (hgb.alloc hz5 (.cells #[.slice A2 (ts.length + 2) c2, .int .i64 0] 94)); clear hgb; clear ho hg hr HP)
          | (go_at_call 30; refine HPP.out.mono ?_; rintro e w6 ⟨X, hX, rfl, hok, h6, f⟩; have HX := Lib.hid hX; have HB6 := Lib.hid (HB5.out.trans (f.below HB5.out.size fun k hk e => by omega)); have hz6 := HB6.out.size; have hf6 := f.size; (try simp only [World.size_alloc] at hf6); have hr6 := h6.lt; have ht6 := h6.tlt; have H6 := Lib.hid h6; have OK6 := Lib.hid hok; clear hX hok h6 f)
          | (refine wpList_storeR rfl 27 (.tmp 10) _ rfl w6.heap.size 0 rfl (.agg (pgC X).toArray) rfl (pgC X) rfl (pre := []) (old := [.slice none 0 0, .string ⟨#[]⟩, .slice none 0 0]) (post := []) (row_new (t := 27) w6 [.slice none 0 0, .string ⟨#[]⟩, .slice none 0 0]) rfl rfl (by kernel_rfl) rfl ?_; intro w7 hR hF hs; have hz7 : w6.heap.size + 1 ≤ w7.heap.size := (by rw [hs, World.size_alloc]; exact Nat.le_refl _); clear hs; have HR7 : Hid (Row 27 w7 w6.heap.size (pgC X)) := Lib.hid (by have h := hR; rw [List.nil_append, List.append_nil] at h; exact h); have hb7 : Below w6.heap.size w6 w7 := (((Below.refl _ _).alloc (Nat.le_refl _) _).trans ((hF _).below (Nat.le_refl _) fun k hk e => by omega)); have HB7 := Lib.hid hb7; have HE := Lib.hid (need_end w7 (H6.out.on hb7) HKR.out); clear hR hF hb7)
          | (go_at_call 53; refine HE.out.mono ?_; rintro e w8 ⟨rfl, f⟩))
        exact ⟨rfl, rfl, on HB0.out (HB6.out.trans ((HB7.out.mono hz6).trans (f.below (by omega) fun k hk e => by omega)))⟩
      | nil =>
        go_enter Tryz.func29, Tryz.ntmps29
        go_wp2_with fail
        rw [hV] at HT HR0 HB0 hv0
        have hv1 := Nat.le_of_eq hv0.symm; have hv2 := Nat.le_of_eq hv0; clear hv0
        clear hV
        go_wp2_with (first
          | (go_at_call 52; refine HT.out.mono ?_; rintro e w1 ⟨A, c, rfl, hown, hb⟩; have O1 := Lib.hid (own_less hown (Nat.le_add_right V.heap.size 3)); have HB1 := Lib.hid hb; have hz1 := hb.size; clear hown hb)
          | (at_builtin; refine wpList_append_own_at _ rfl (.tmp 26) (.tmp 29) _ rfl V.heap.size 92 i0 (.agg #[.int .i64 0, .string ByteArray.empty, .int .i64 0]) 3 32 Tryz.underlying88 HI.out.1 HI.out.2.1 HI.out.2.2.1 HI.out.2.2.2 rfl (by omega) (.slice A ts.length c) ts.length (tcells ts) rfl (own_on O1.out (((Below.refl _ _).alloc (Nat.le_refl _) _).alloc (by simp) _)) ⟨w1.heap.size + 1, 0, none⟩ 2 2 [.int .i64 0, .string ByteArray.empty, .int .i64 (s.size : Int), .int .i64 0, .string ByteArray.empty, .int .i64 (s.size : Int)] rfl (by simp) (row_six w1 _ _ _ _ _ _ _ _) (by simp [Value.oneCell']) (by unfold maxLen; omega) (by omega) (by simp; omega) ?_; intro v' w5 ho hg _ _; obtain ⟨A2, c2, rfl⟩ := own_form ho; obtain ⟨tb, hr⟩ := rdr_made (z := s.size) rfl ho; have HP := HPG.out _ _ _ hr; rw [hp] at HP; have HPP := Lib.hid HP; have hgb := grown_below HB1.out hg (own_base O1.out); have hz5 := hgb.size; have HB5 := Lib.hid (hgb.alloc hz5 (.cells #[.slice A2 (ts.length + 2) c2, .int .i64 0] 94)); clear hgb; clear ho hg hr HP)
          | (go_at_call 30; refine HPP.out.mono ?_; rintro e w6 ⟨X, hX, rfl, hok, h6, f⟩; have HX := Lib.hid hX; have HB6 := Lib.hid (HB5.out.trans (f.below HB5.out.size fun k hk e => by omega)); have hz6 := HB6.out.size; have hf6 := f.size; (try simp only [World.size_alloc] at hf6); have hr6 := h6.lt; have ht6 := h6.tlt; have H6 := Lib.hid h6; have OK6 := Lib.hid hok; clear hX hok h6 f)
          | (refine wpList_storeR rfl 27 (.tmp 10) _ rfl w6.heap.size 0 rfl (.agg (pgC X).toArray) rfl (pgC X) rfl (pre := []) (old := [.slice none 0 0, .string ⟨#[]⟩, .slice none 0 0]) (post := []) (row_new (t := 27) w6 [.slice none 0 0, .string ⟨#[]⟩, .slice none 0 0]) rfl rfl (by kernel_rfl) rfl ?_; intro w7 hR hF hs; have hz7 : w6.heap.size + 1 ≤ w7.heap.size := (by rw [hs, World.size_alloc]; exact Nat.le_refl _); clear hs; have HR7 : Hid (Row 27 w7 w6.heap.size (pgC X)) := Lib.hid (by have h := hR; rw [List.nil_append, List.append_nil] at h; exact h); have hb7 : Below w6.heap.size w6 w7 := (((Below.refl _ _).alloc (Nat.le_refl _) _).trans ((hF _).below (Nat.le_refl _) fun k hk e => by omega)); have HB7 := Lib.hid hb7; have HE := Lib.hid (need_end w7 (H6.out.on hb7) HKR.out); clear hR hF hb7)
          | (go_at_call 53; refine HE.out.mono ?_; rintro e w8 ⟨⟨v, rfl⟩, f⟩; have F8 := Lib.hid f; have hz8 := f.size; have HR8 := Lib.hid (Row.fr HR7.out f (by omega) (by omega)); clear f)
          | (refine wpList_loadR rfl 27 (.tmp 10) rfl w6.heap.size 0 rfl (pre := []) (mid := pgC X) (post := []) (by rw [List.nil_append, List.append_nil]; exact HR8.out) rfl Tryz.underlying27 rfl (by kernel_rfl) ?_)
          | (refine wpList_storeR rfl 27 (.tmp 4) _ rfl W.heap.size 0 rfl (.agg (pgC X).toArray) rfl (pgC X) rfl (pre := []) (old := [.slice none 0 0, .string ⟨#[]⟩, .slice none 0 0]) (post := []) (rowOn HR0.out (HB6.out.trans ((HB7.out.mono hz6).trans (F8.out.below (by omega) fun k hk e => by omega)))) rfl rfl (by kernel_rfl) rfl ?_; intro w9 hR9 hF9 hs9))
        refine bodyPost_ret (results_cell_row rfl _ _ W.heap.size _ _ _ _ rfl hR9 Tryz.underlying27 rfl (by kernel_rfl)) rfl ?_
        have hb9 : Below V.heap.size V w8 := HB6.out.trans ((HB7.out.mono hz6).trans (F8.out.below (by omega) fun k hk e => by omega))
        refine ⟨X, HX.out, rfl, ?_, (on HB0.out hb9).trans ((hF9 _).below (Nat.le_refl _) fun k hk e => by omega)⟩
        have k7 := OK6.out.frx (X := fun _ => False) (fun k hk => hk.elim) (Fr.of HB7.out)
        have k8 := k7.frx (fun k (hk : k = w5.heap.size) => by simp; omega) F8.out
        exact (k8.frx (fun k (hk : k = W.heap.size) => by simp; omega) (hF9 _)).less (by simp; omega)
end Go.Proofs.YtahljmddnfldlaaGreatDoor
namespace Go.Proofs.YtahljmddnfldlaaGreatDoor
open Go.RowKit FloM ValM Go.Shelf
set_option linter.unusedVariables false
set_option linter.unusedSimpArgs false
theorem info_rule : (Tryz.prog.info? 33).map (fun i => (i.zero, i.size, i.bytes)) = some (some (.agg #[.string ByteArray.empty, .slice none 0 0, .int .i64 0, .slice none 0 0]), 4, 72) := by kernel_rfl
theorem RlA.ok.other {w w' : World} {base : Nat} {x : RlA} {q : Option Nat} (h : x.ok w base) (hg : w.grownBy w' q) (hq : ∀ k, q = some k → ∃ cs z, w.heap[k]? = some (.cells cs 33 z)) : x.ok w' base :=
  ⟨own_other h.1 hg hq (by decide), BodyOk.other h.2 hg hq (by decide) (by decide) (by decide)⟩
abbrev prRow (g : Nat) (A : Option Addr) (n c : Nat) : Lrow := (g, 27, [.slice A n c, .string ByteArray.empty, .slice none 0 0])
structure PgL (W : World) (rb tb z : Nat) (l : List RlA) (r : List Tk) (A : Option Addr) (c : Nat) (w : World) : Prop where
  st : LSt rb tb z 0 W [prRow W.heap.size none 0 0, prRow (W.heap.size + 1) A l.length c] r w
  own : OwnX 33 4 rlC w (W.heap.size + 2) A c l
  ok : ∀ y ∈ l, y.ok w (W.heap.size + 2)
section
variable {W w w' : World} {rb tb z c : Nat} {l : List RlA} {r r2 : List Tk} {A : Option Addr}
theorem PgL.size (h : PgL W rb tb z l r A c w) : W.heap.size + 2 ≤ w.heap.size := by
  have := (h.st.each (prRow (W.heap.size + 1) A l.length c) (by simp)).1.lt
  simp only [prRow] at this; omega
theorem PgL.call (h : PgL W rb tb z l r A c w) (hr : RdrAt w' rb tb z r2 0) (hF : Fr (· = rb) w.heap.size w w') : PgL W rb tb z l r2 A c w' := by
  have hl := h.st.rl
  exact ⟨h.st.call hr hF, own_frx h.own (fun k (hk : k = rb) => by omega) hF, fun y hy => (h.ok y hy).frx (fun k (hk : k = rb) => by omega) hF⟩
theorem PgL.on (h : PgL W rb tb z l r A c w) (hb : Below w.heap.size w w') : PgL W rb tb z l r A c w' := h.call (h.st.rdr.on hb) (Fr.of hb)
theorem PgL.row (h : PgL W rb tb z l r A c w) : Row 27 w (W.heap.size + 1) [.slice A l.length c, .string ByteArray.empty, .slice none 0 0] :=
  h.st.row (x := prRow (W.heap.size + 1) A l.length c) (.tail _ (.head _))
theorem PgL.cell (h : PgL W rb tb z l r A c w) : w.cell? ⟨W.heap.size + 1, 0, none⟩ = some (.slice A l.length c) := h.row.cell 0
theorem PgL.frz (h : PgL W rb tb z l r A c w) : w.frozen? ⟨W.heap.size + 1, 0, none⟩ = false := h.row.frozen 0
theorem PgL.start (h : RdrAt W rb tb z r 0) : PgL W rb tb z [] r none 0 ((W.alloc (.cells #[.slice none 0 0, .string ByteArray.empty, .slice none 0 0] 27)).alloc (.cells #[.slice none 0 0, .string ByteArray.empty, .slice none 0 0] 27)) := by
  have hst := ((LSt.start h).new 27 [.slice none 0 0, .string ByteArray.empty, .slice none 0 0]).new 27 [.slice none 0 0, .string ByteArray.empty, .slice none 0 0]
  rw [World.size_alloc] at hst
  exact ⟨hst, own_nil _ _ _ _, fun y hy => by cases hy⟩
/-- One rule more. -/
theorem PgL.next {c2 : Nat} {A2 : Option Addr} {M : RlA} {w5 : World} {o1 : Obj} (h : PgL W rb tb z l r A c w) (hM : M.ok w (W.heap.size + 2))
    (ho : w5.ownsRow (W.heap.size + 2) 33 4 (.slice A2 (l.length + 1) c2) (l.length + 1) (cellsOf rlC l ++ rlC M)) (hg : (w.alloc o1).grownBy w5 (Value.slice A l.length c).ownBlock) :
    w5.cell? ⟨W.heap.size + 1, 0, none⟩ = some (.slice A l.length c) ∧ w5.frozen? ⟨W.heap.size + 1, 0, none⟩ = false ∧ PgL W rb tb z (l ++ [M]) r A2 c2 (w5.setCell ⟨W.heap.size + 1, 0, none⟩ (.slice A2 (l.length + 1) c2)) := by
  have hbl : Below w.heap.size w (w.alloc o1) := (Below.refl _ _).alloc (Nat.le_refl _) _
  have h1 := h.on hbl
  have hty := own_typ h1.own
  have hsz := h1.size
  have hrl := h.st.rl; have htl := h.st.tl
  have hR5 : RdrAt w5 rb tb z r 0 := h1.st.rdr.grown hg (B := W.heap.size + 2) (by omega) (by omega) fun k hk => (hty k hk).1
  have hF5 : Fr (fun k => (Value.slice A l.length c).ownBlock = some k) (w.alloc o1).heap.size (w.alloc o1) w5 := fr_of_grown hg
  have hr0 := (h1.st.row (x := prRow W.heap.size none 0 0) (.head _)).fr hF5 (by simp only [prRow]; omega) (fun e => by have := (hty _ e).1; simp only [prRow] at this; omega)
  have hr1 := h1.row.fr hF5 (by omega) (fun e => by have := (hty _ e).1; omega)
  have hst5 : LSt rb tb z 0 W [prRow W.heap.size none 0 0, prRow (W.heap.size + 1) A l.length c] r w5 :=
    ⟨hR5, fr_grown h1.st.fr (by omega) hg fun k hk => by have := (hty k hk).1; omega, fun x hx => by
      rcases List.mem_cons.1 hx with rfl | hx
      · exact ⟨hr0, Nat.le_refl _⟩
      · rw [List.mem_singleton] at hx; subst hx; exact ⟨hr1, by simp only [prRow]; omega⟩, h.st.nd, h.st.rl, h.st.tl⟩
  have hset := Row.set (pre := []) (post := [.string ByteArray.empty, .slice none 0 0]) hr1 (.slice A2 (l.length + 1) c2)
  refine ⟨hr1.cell 0, hr1.frozen 0, ?_, ?_, ?_⟩
  · have := hst5.store (pre := [prRow W.heap.size none 0 0]) (post := []) (cs' := [.slice A2 (l.length + 1) c2, .string ByteArray.empty, .slice none 0 0]) hset (fun B => fr_set w5 _ 0 _ B)
    simpa [prRow] using this
  · exact own_frx (OwnX.app ho) (fun k (hk : k = W.heap.size + 1) => by omega) (fr_set w5 _ 0 _ _)
  · intro y hy
    have hy5 : y.ok w5 (W.heap.size + 2) := by
      have : y.ok (w.alloc o1) (W.heap.size + 2) := by
        rcases List.mem_append.1 hy with hy | hy
        · exact h1.ok y hy
        · rw [List.mem_singleton] at hy; subst hy
          exact hM.frx (X := fun _ => False) (fun k hk => hk.elim) (Fr.of hbl)
      exact this.other hg fun k hk => (hty k hk).2
    exact hy5.frx (fun k (hk : k = W.heap.size + 1) => by omega) (fr_set w5 _ 0 _ _)
end
end Go.Proofs.YtahljmddnfldlaaGreatDoor
namespace Go.Proofs.YtahljmddnfldlaaGreatDoor
open Go.RowKit FloM ValM Go.Shelf
set_option linter.unusedVariables false
set_option linter.unusedSimpArgs false
section
variable {W W' : World} {rb tb z : Nat} {ts : List Tk}
set_option maxRecDepth 20000 in
set_option maxHeartbeats 16000000 in
theorem program_any (W : World) (h : RdrAt W rb tb z ts 0) (hg : GoodT ts) (hts : ts.length ≤ 20009)
    (hrule : ∀ V r, r <:+ ts → RdrAt V rb tb z r 0 → Calls Tryz.prog 57 #[.pointer (some ⟨rb, 0, none⟩)] V (RuleQ (ruleP z r) rb tb z 0 V)) :
    Calls Tryz.prog 30 #[.pointer (some ⟨rb, 0, none⟩)] W (ProgQ (progP z ts) rb tb z 0 W) := by
  have hrl := h.lt; have htl := h.tlt
  obtain ⟨i0, hi0, hz0, hz1, hz2⟩ := info_parts info_rule
  have HI := Lib.hid (And.intro hi0 (And.intro hz0 (And.intro hz1 hz2)))
  have P0 := Lib.hid (PgL.start h)
  have HG := Lib.hid hg; have HLN := Lib.hid hts; have HRU := Lib.hid hrule
  clear h hg hts hrule hi0 hz0 hz1 hz2
  unfold progP
  go_enter Tryz.func30, Tryz.ntmps30
  go_wp2
  go_loopw [] (fun wr => ∃ (n : Nat) (l : List RlA) (r : List Tk) (A : Option Addr) (c : Nat), rulesL z many [] ts = rulesL z n (l.map RlA.rl) r ∧ r.length < n ∧ r <:+ ts ∧ l.length ≤ 200 ∧ PgL W rb tb z l r A c wr) (fun wr => leftAt rb wr)
  case atStart => exact ⟨many, [], ts, none, 0, rfl, by have := HLN.out; unfold many; omega, List.suffix_refl _, Nat.zero_le _, P0.out⟩
  case round =>
    clear P0
    obtain ⟨n, l, r, A, c, hl, hn, hsf, hlm, hS⟩ := hrel
    have HL := Lib.hid hl; have S := Lib.hid hS; have HSF := Lib.hid hsf
    have HLF := Lib.hid (left_of hS.st.rdr)
    obtain ⟨m, rfl⟩ : ∃ m, n = m + 1 := ⟨n - 1, by omega⟩
    obtain ⟨off, cc, H⟩ := hS.st.rdr.hd
    have r0 := H.r0; have k0 := H.c0; have k1 := H.c1; have k2 := H.c2; have hlt := H.lt; have hbl := H.bl
    have h0 : (0 : Int) < ((r.length + 2 : Nat) : Int) := by omega
    have hsz := hS.size
    clear hl hS hsf H
    have HPR : Hid (∀ V, Calls Tryz.prog 55 #[.agg #[.int .i64 ((hdT z r).k : Int), .string (bs (hdT z r).t), .int .i64 ((hdT z r).a : Int)]] V fun e w' => e = .returned (.bool (predT (hdT z r))) ∧ Below V.heap.size V w') := Lib.hid fun V => isPred_any (hdT z r) V
    have HP1 : Hid (∀ b, predT (hdT z r) = b → predT (hdT z r) = b) := Lib.hid fun _ h => h
    cases hp : predT (hdT z r) with
    | true =>
      have HPP := Lib.hid hp
      rw [hp] at HPR
      clear hp HP1
      by_cases h2 : l.length = 200
      · have hb2 : ((l.length : Int) == 200) = true := by rw [h2]; rfl
        have HE := Lib.hid (HL.out.trans (rules_full HPP.out (by rw [List.length_map]; exact h2)))
        clear h2
        go_wp2_with (first
          | (go_at_call 55; refine (HPR.out _).mono ?_; rintro e w2 ⟨rfl, hb2⟩; have S2 := Lib.hid (S.out.on hb2); have c2 := S2.out.cell; have f2 := S2.out.frz; have hz2 := hb2.size; clear hb2)
          | (go_at_call 56; refine (fail_any 4 _ S2.out.st.rdr).mono ?_; rintro e w3 ⟨rfl, rfl⟩))
        rw [HE.out]
        simp only [Ans.bind]
        exact ⟨rfl, rfl, S2.out.st.fr⟩
      · have hb2 : ((l.length : Int) == 200) = false := by rw [beq_eq_false_iff_ne]; omega
        have HSTEP := Lib.hid (HL.out.trans (rules_step (n := m) HPP.out (by rw [List.length_map]; exact h2)))
        have HC : Hid (∀ V, RdrAt V rb tb z r 0 → Calls Tryz.prog 57 #[.pointer (some ⟨rb, 0, none⟩)] V (RuleQ (ruleP z r) rb tb z 0 V)) := Lib.hid fun V hV => HRU.out V r HSF.out hV
        cases hi : ruleP z r with
        | no a k =>
          rw [hi] at HC HSTEP
          clear hi
          go_wp2_with (go_at_call 55; refine (HPR.out _).mono ?_; rintro e w2 ⟨rfl, hb2⟩; have S2 := Lib.hid (S.out.on hb2); have c2 := S2.out.cell; have f2 := S2.out.frz; have hz2 := hb2.size; clear hb2)
          have hal := Lib.hid (fun (V : World) (hb : Below w2.heap.size w2 V) => S2.out.on hb)
          refine wp_region_any (by kernel_rfl) ?_
          change wpAny _ _ _ _ _ _ _ (World.drew _)
          refine wpAny_take (i := 0) (v := ?v0) rfl (by kernel_rfl) (by kernel_rfl) (by kernel_rfl) (fun _ _ _ h => h) (Or.inl ⟨by rfl, ?hy0⟩) ?rest0
          case hy0 => (intro w; go_simp; try with_reducible rfl)
          refine wpAny_take (i := 2) (v := ?v2) rfl (by kernel_rfl) (by kernel_rfl) (by kernel_rfl) (fun _ _ _ h => h) (Or.inl ⟨by rfl, ?hy2⟩) ?rest2
          case hy2 => (intro w; go_simp; try with_reducible rfl)
          refine wpAny_ready (rs := [1, 3]) (by kernel_rfl) (by simp) ?_
          refine AllReady.cons rfl (fun K hK => ?_) (AllReady.cons rfl (fun K hK => ?_) AllReady.nil)
          · go_simp
            refine hK _ _ ?_
            clear hK K
            refine wpAny_ready (rs := [3]) (by kernel_rfl) (by simp) ?_
            refine AllReady.cons rfl (fun K hK => ?_) AllReady.nil
            (go_simp; go_at_call 57; refine (HC.out _ (hal.out _ (by first | exact (Below.refl _ _).drew | exact Below.refl _ _)).st.rdr).mono ?_; rintro e w3 ⟨rfl, f⟩; have hQ : ProgQ (progP z ts) rb tb z 0 W (.panicked [{ v := faultP a k, recovered := false }]) w3 := (by unfold progP; rw [HSTEP.out]; exact And.intro rfl ((hal.out w2.drew (Below.refl _ _).drew).st.fr.trans (f.mono (hal.out w2.drew (Below.refl _ _).drew).st.fr.size))); exact And.intro rfl hQ)
          · (go_simp; go_at_call 57; refine (HC.out _ (hal.out _ (by first | exact (Below.refl _ _).drew | exact Below.refl _ _)).st.rdr).mono ?_; rintro e w3 ⟨rfl, f⟩; have hQ : ProgQ (progP z ts) rb tb z 0 W (.panicked [{ v := faultP a k, recovered := false }]) w3 := (by unfold progP; rw [HSTEP.out]; exact And.intro rfl ((hal.out w2.drew (Below.refl _ _).drew).st.fr.trans (f.mono (hal.out w2.drew (Below.refl _ _).drew).st.fr.size))); exact And.intro rfl hQ)
        | ok x r1 =>
          rw [hi] at HC HSTEP
          have hss := rule_strict z r x r1 (HG.out.suf HSF.out) hi
          have HSF1 := Lib.hid (hss.1.trans HSF.out)
          have hll := hss.2
          clear hi hss
          go_wp2_with (go_at_call 55; refine (HPR.out _).mono ?_; rintro e w2 ⟨rfl, hb2⟩; have S2 := Lib.hid (S.out.on hb2); have c2 := S2.out.cell; have f2 := S2.out.frz; have hz2 := hb2.size; clear hb2)
          have hal := Lib.hid (fun (V : World) (hb : Below w2.heap.size w2 V) => S2.out.on hb)
          go_region_law (first
            | (go_simp; go_at_call 57; refine (HC.out _ (hal.out _ (by first | exact (Below.refl _ _).drew | exact Below.refl _ _)).st.rdr).mono ?_; rintro e w3 ⟨M, hM, he, hok, h3, f⟩; replace he : e = .returned (.agg #[.string (bs M.h.p), .slice M.h.A M.h.a.length M.h.c, .int .i64 (M.f : Int), .slice M.A M.b.length M.c]) := he; subst he; have S3 := Lib.hid ((hal.out _ (by first | exact (Below.refl _ _).drew | exact Below.refl _ _)).call h3 f); have HM := Lib.hid hM; have OK3 := Lib.hid (hok.less (b' := W.heap.size + 2) (by simp; omega)); have c3 := S3.out.cell; have c3a : ∀ o : Obj, (w3.alloc o).cell? ⟨W.heap.size + 1, 0, none⟩ = some (.slice A l.length c) := fun o => (S3.out.on ((Below.refl _ _).alloc (Nat.le_refl _) o)).cell; have f3 := S3.out.frz; have hz3 := f.size; clear hM hok h3 f)
            | (refine step_append_lies _ rfl (.tmp 18) (.tmp 21) 22 rfl (W.heap.size + 2) 33 i0 _ 4 72 Tryz.underlying22 HI.out.1 HI.out.2.1 HI.out.2.2.1 HI.out.2.2.2 rfl (by decide) (.slice A l.length c) l.length (cellsOf rlC l) (by simp [Act.eval, Act.put]) ?_ ⟨w3.heap.size, 0, none⟩ 1 1 [.string (bs M.h.p), .slice M.h.A M.h.a.length M.h.c, .int .i64 (M.f : Int), .slice M.A M.b.length M.c] (by simp [Act.eval, Act.put]) rfl ?_ ?_ (by decide) ?_ ?_ ?_ (w3.heap.size + 1) (by simp) ?_; (exact (S3.out.on ((Below.refl _ _).alloc (Nat.le_refl _) _)).own); (exact news_one w3 #[.string (bs M.h.p), .slice M.h.A M.h.a.length M.h.c, .int .i64 (M.f : Int), .slice M.A M.b.length M.c] 33); (intro u hu; simp only [List.mem_cons, List.not_mem_nil, or_false] at hu; rcases hu with rfl | rfl | rfl | rfl <;> rfl); (unfold maxLen; omega); omega; (have := S3.out.size; simp; omega); intro g4 cp4 w4 ho4 hg4 hor4 hlt4; have HN := Lib.hid (S3.out.next OK3.out ho4 hg4); have c4 := HN.out.1; have f4 := HN.out.2.1; clear ho4 hg4 hor4 hlt4))
          all_goals
            go_wp2
            have HL5 := Lib.hid (left_of HN.out.2.2.st.rdr)
            go_roundw
            case rel => exact ⟨m, l ++ [M], r1, _, _, by rw [HSTEP.out, List.map_append, List.map_singleton, HM.out]; rfl, by omega, HSF1.out, by rw [List.length_append, List.length_singleton]; omega, HN.out.2.2⟩
            case measure => rw [HL5.out, HLF.out]; omega
    | false =>
      have HE := Lib.hid (HL.out.trans (rules_stop (n := m) hp))
      rw [hp] at HPR
      clear hp HP1 HL
      have HW1 : Hid (∀ V, RdrAt V rb tb z r 0 → _) := Lib.hid fun V hV => want_new ⟨#[63, 45]⟩ V hV (by decide)
      rw [show ls ⟨#[63, 45]⟩ = [63, 45] from rfl] at HW1
      cases hw1 : wantP [63, 45] z r with
      | no a k =>
        rw [hw1] at HW1
        have E1 := Lib.hid hw1
        clear hw1
        go_wp2_with (first
          | (go_at_call 55; refine (HPR.out _).mono ?_; rintro e w2 ⟨rfl, hb2⟩; have S2 := Lib.hid (S.out.on hb2); have c2 := S2.out.cell; have f2 := S2.out.frz; have hz2 := hb2.size; clear hb2)
          | (go_at_call 58; refine (HW1.out _ S2.out.st.rdr).mono ?_; rintro e w3 ⟨rfl, f⟩))
        rw [HE.out]
        simp only [Ans.bind, E1.out]
        exact ⟨rfl, rfl, S2.out.st.fr.trans (f.mono S2.out.st.fr.size)⟩
      | ok _t1 r1 =>
        rw [hw1] at HW1
        have HSF1 := Lib.hid (((want_sk _ z r) _t1 r1 hw1).1.trans HSF.out)
        have E1 := Lib.hid hw1
        clear hw1
        have HA : Hid (∀ V, RdrAt V rb tb z r1 0 → _) := Lib.hid fun V hV => atm_any V hV (HG.out.suf HSF1.out) (Nat.le_trans HSF1.out.length_le HLN.out)
        cases ha : atomP z r1 with
        | no a k =>
          rw [ha] at HA
          have E2 := Lib.hid ha
          clear ha
          go_wp2_with (first
            | (go_at_call 55; refine (HPR.out _).mono ?_; rintro e w2 ⟨rfl, hb2⟩; have S2 := Lib.hid (S.out.on hb2); have c2 := S2.out.cell; have f2 := S2.out.frz; have hz2 := hb2.size; clear hb2)
            | (go_at_call 58; refine (HW1.out _ S2.out.st.rdr).mono ?_; rintro e w3 ⟨rfl, h3, f⟩; have S3 := Lib.hid (S2.out.call h3 f); have hz3 := f.size; clear h3 f)
            | (go_at_call 59; refine (HA.out _ S3.out.st.rdr).mono ?_; rintro e w4 ⟨rfl, f⟩))
          rw [HE.out]
          simp only [Ans.bind, E1.out, E2.out]
          exact ⟨rfl, rfl, S3.out.st.fr.trans (f.mono S3.out.st.fr.size)⟩
        | ok q r2 =>
          rw [ha] at HA
          have E2 := Lib.hid ha
          clear ha
          have HW2 : Hid (∀ V, RdrAt V rb tb z r2 0 → _) := Lib.hid fun V hV => want_new ⟨#[46]⟩ V hV (by decide)
          rw [show ls ⟨#[46]⟩ = [46] from rfl] at HW2
          cases hw2 : wantP [46] z r2 with
          | no a k =>
            rw [hw2] at HW2
            have E3 := Lib.hid hw2
            clear hw2
            go_wp2_with (first
              | (go_at_call 55; refine (HPR.out _).mono ?_; rintro e w2 ⟨rfl, hb2⟩; have S2 := Lib.hid (S.out.on hb2); have c2 := S2.out.cell; have f2 := S2.out.frz; have hz2 := hb2.size; clear hb2)
              | (go_at_call 58; refine (HW2.out _ S5.out.rdr).mono ?_; rintro e w6 ⟨rfl, f⟩)
              | (go_at_call 58; refine (HW1.out _ S2.out.st.rdr).mono ?_; rintro e w3 ⟨rfl, h3, f⟩; have S3 := Lib.hid (S2.out.call h3 f); have hz3 := f.size; clear h3 f)
              | (go_at_call 59; refine (HA.out _ S3.out.st.rdr).mono ?_; rintro e w4 ⟨M, hM, rfl, hok, h4, f⟩; have S4 := Lib.hid (S3.out.call h4 f); have HM := Lib.hid hM; have O4 := Lib.hid (hok.less (b' := W.heap.size + 2) (by have := S3.out.size; omega)); have hz4 := f.size; clear hM hok h4 f)
              | (refine wpList_storeR rfl 25 (.tmp 29) _ rfl (W.heap.size + 1) 1 rfl (.agg #[.string (bs M.p), .slice M.A M.a.length M.c]) rfl [.string (bs M.p), .slice M.A M.a.length M.c] rfl (pre := [.slice A l.length c]) (old := [.string ByteArray.empty, .slice none 0 0]) (post := []) S4.out.row rfl rfl (by kernel_rfl) rfl ?_; intro w5 hR hF hs; have hz5 := Nat.le_of_eq hs.symm; clear hs; replace hR : Row 27 w5 (W.heap.size + 1) [.slice A l.length c, .string (bs M.p), .slice M.A M.a.length M.c] := hR; have S5 := Lib.hid (S4.out.st.store (pre := [prRow W.heap.size none 0 0]) hR hF); have OW5 := Lib.hid (own_frx S4.out.own (fun k (hk : k = W.heap.size + 1) => by omega) (hF _)); have OR5 : Hid (∀ y ∈ l, y.ok w5 (W.heap.size + 2)) := Lib.hid fun y hy => (S4.out.ok y hy).frx (fun k (hk : k = W.heap.size + 1) => by omega) (hF _); have O5 := Lib.hid (O4.out.frx (fun k (hk : k = W.heap.size + 1) => by omega) (hF _)); clear hR hF))
            rw [HE.out]
            simp only [Ans.bind, E1.out, E2.out, E3.out]
            exact ⟨rfl, rfl, S5.out.fr.trans (f.mono S5.out.fr.size)⟩
          | ok _t2 r3 =>
            rw [hw2] at HW2
            have E3 := Lib.hid hw2
            clear hw2
            go_wp2_with (first
              | (go_at_call 55; refine (HPR.out _).mono ?_; rintro e w2 ⟨rfl, hb2⟩; have S2 := Lib.hid (S.out.on hb2); have c2 := S2.out.cell; have f2 := S2.out.frz; have hz2 := hb2.size; clear hb2)
              | (go_at_call 58; refine (HW2.out _ S5.out.rdr).mono ?_; rintro e w6 ⟨rfl, h6, f⟩; have S6 := Lib.hid (S5.out.call h6 f); have OW6 := Lib.hid (own_frx OW5.out (fun k (hk : k = rb) => by omega) f); have OR6 : Hid (∀ y ∈ l, y.ok w6 (W.heap.size + 2)) := Lib.hid fun y hy => (OR5.out y hy).frx (fun k (hk : k = rb) => by omega) f; have O6 := Lib.hid (O5.out.frx (fun k (hk : k = rb) => by omega) f); have hz6 := f.size; clear h6 f)
              | (go_at_call 58; refine (HW1.out _ S2.out.st.rdr).mono ?_; rintro e w3 ⟨rfl, h3, f⟩; have S3 := Lib.hid (S2.out.call h3 f); have hz3 := f.size; clear h3 f)
              | (go_at_call 59; refine (HA.out _ S3.out.st.rdr).mono ?_; rintro e w4 ⟨M, hM, rfl, hok, h4, f⟩; have S4 := Lib.hid (S3.out.call h4 f); have HM := Lib.hid hM; have O4 := Lib.hid (hok.less (b' := W.heap.size + 2) (by have := S3.out.size; omega)); have hz4 := f.size; clear hM hok h4 f)
              | (refine wpList_storeR rfl 25 (.tmp 29) _ rfl (W.heap.size + 1) 1 rfl (.agg #[.string (bs M.p), .slice M.A M.a.length M.c]) rfl [.string (bs M.p), .slice M.A M.a.length M.c] rfl (pre := [.slice A l.length c]) (old := [.string ByteArray.empty, .slice none 0 0]) (post := []) S4.out.row rfl rfl (by kernel_rfl) rfl ?_; intro w5 hR hF hs; have hz5 := Nat.le_of_eq hs.symm; clear hs; replace hR : Row 27 w5 (W.heap.size + 1) [.slice A l.length c, .string (bs M.p), .slice M.A M.a.length M.c] := hR; have S5 := Lib.hid (S4.out.st.store (pre := [prRow W.heap.size none 0 0]) hR hF); have OW5 := Lib.hid (own_frx S4.out.own (fun k (hk : k = W.heap.size + 1) => by omega) (hF _)); have OR5 : Hid (∀ y ∈ l, y.ok w5 (W.heap.size + 2)) := Lib.hid fun y hy => (S4.out.ok y hy).frx (fun k (hk : k = W.heap.size + 1) => by omega) (hF _); have O5 := Lib.hid (O4.out.frx (fun k (hk : k = W.heap.size + 1) => by omega) (hF _)); clear hR hF)
              | (refine wpList_loadR rfl 27 (.tmp 3) rfl (W.heap.size + 1) 0 rfl (pre := []) (mid := [.slice A l.length c, .string (bs M.p), .slice M.A M.a.length M.c]) (post := []) (S6.out.row (x := (W.heap.size + 1, 27, [.slice A l.length c, .string (bs M.p), .slice M.A M.a.length M.c])) (.tail _ (.head _))) rfl Tryz.underlying27 rfl (by kernel_rfl) ?_)
              | (refine wpList_storeR rfl 27 (.tmp 2) _ rfl W.heap.size 0 rfl (.agg #[.slice A l.length c, .string (bs M.p), .slice M.A M.a.length M.c]) rfl _ rfl (pre := []) (old := [.slice none 0 0, .string ByteArray.empty, .slice none 0 0]) (post := []) (S6.out.row (x := prRow W.heap.size none 0 0) (.head _)) rfl rfl (by kernel_rfl) rfl ?_; intro w100 hR100 hF100 hs100; have S100 := Lib.hid (S6.out.store (pre := []) hR100 hF100)))
            refine bodyPost_ret (results_cell_row rfl _ _ W.heap.size _ _ _ _ rfl hR100 Tryz.underlying27 rfl (by kernel_rfl)) rfl ?_
            rw [HE.out]
            simp only [Ans.bind, E1.out, E2.out, E3.out]
            refine ⟨⟨A, c, l, M⟩, ?_, rfl, ⟨OwnX.less (own_frx OW6.out (fun k (hk : k = W.heap.size) => by omega) (hF100 _)) (by omega), fun y hy => RlA.ok.less ((OR6.out y hy).frx (fun k (hk : k = W.heap.size) => by omega) (hF100 _)) (by omega), AmA.ok.less (O6.out.frx (fun k (hk : k = W.heap.size) => by omega) (hF100 _)) (by omega)⟩, S100.out.rdr, S100.out.fr⟩
            unfold PgA.pg; simp only; rw [HM.out]
end
end Go.Proofs.YtahljmddnfldlaaGreatDoor
namespace Go.Proofs.YtahljmddnfldlaaGreatDoor
open Go.RowKit FloM ValM Go.Shelf
set_option linter.unusedVariables false
set_option linter.unusedSimpArgs false
theorem assertP_fault (v : Value) (w : World) : (Instr.typeAssert (.iface 86 v) 20 86 true).run Tryz.prog w = .ok (.tuple #[v, .bool true]) w := by kernel_rfl
theorem assertP_nil (w : World) : (Instr.typeAssert .nilIface 20 86 true).run Tryz.prog w = .ok (.tuple #[.agg #[.int .i64 0, .int .i64 0], .bool false]) w := by kernel_rfl
set_option maxRecDepth 20000 in
set_option maxHeartbeats 4000000 in
theorem reported_fault (a k : Nat) (W : World) : Calls Tryz.prog 28 #[faultP a k] W fun e w' => e = .returned (.tuple #[.int .i64 (a : Int), .int .i64 (k : Int)]) ∧ Below W.heap.size W w' := by
  unfold faultP
  have hta := fun W => assertP_fault (Value.agg #[Value.int IntKind.i64 (a : Int), Value.int IntKind.i64 (k : Int)]) W
  go_enter Tryz.func28, Tryz.ntmps28
  go_wp2
  go_region
  all_goals
    go_wp2
    go_ret2
    exact ⟨rfl, ((Below.refl _ _).alloc (Nat.le_refl _) _).drew⟩
set_option maxRecDepth 20000 in
set_option maxHeartbeats 4000000 in
theorem reported_nil (W : World) : Calls Tryz.prog 28 #[.nilIface] W fun e w' => e = .returned (.tuple #[.int .i64 0, .int .i64 0]) ∧ Below W.heap.size W w' := by
  have hta := fun W => assertP_nil W
  go_enter Tryz.func28, Tryz.ntmps28
  go_wp2
  go_region
  all_goals
    go_wp2
    go_ret2
    exact ⟨rfl, ((Below.refl _ _).alloc (Nat.le_refl _) _).drew⟩
set_option maxRecDepth 20000 in
set_option maxHeartbeats 4000000 in
theorem catch_Parse (p1 p2 : Nat) (a k : Nat) (x1 x2 : Value) (older : List PanicEntry) (w : World) (d12 : ¬ p1 = p2) (h1 : w.cell? ⟨p1, 0, none⟩ = some x1) (h2 : w.cell? ⟨p2, 0, none⟩ = some x2) (z1 : w.frozen? ⟨p1, 0, none⟩ = false) (z2 : w.frozen? ⟨p2, 0, none⟩ = false) :
    CallsD Tryz.prog 27 #[.pointer (some ⟨p1, 0, none⟩), .pointer (some ⟨p2, 0, none⟩)] (.panicking ({ v := faultP a k, recovered := false } :: older)) w fun e u' w' =>
      e = .returned (.tuple #[]) ∧ u' = .panicking ({ v := faultP a k, recovered := true } :: older) ∧ w'.cell? ⟨p1, 0, none⟩ = some (.int .i64 a) ∧ w'.cell? ⟨p2, 0, none⟩ = some (.int .i64 k) ∧
        ∀ w0 : World, Below w0.heap.size w0 w → w0.heap.size ≤ p1 → w0.heap.size ≤ p2 → Below w0.heap.size w0 w' := by
  unfold faultP
  refine callsD_of_wpS Tryz.func27 rfl fun c₀ cs hu => ?_

  apply wpS_region
  simp [wpOpsS, go_sem, recoverD, hu, Tryz.ntmps27, Exit.thenS]
  have b1 : p1 < w.heap.size := lt_of_cell h1
  have b2 : p2 < w.heap.size := lt_of_cell h2
  refine (reported_fault a k w).mono ?_
  rintro e w1 ⟨rfl, hb⟩
  have g1 := (keep hb _ 0 b1).trans h1
  have g2 := (keep hb _ 0 b2).trans h2
  have y1 := (hb.frozen (p := ⟨p1, 0, none⟩) b1).trans z1
  have y2 := (hb.frozen (p := ⟨p2, 0, none⟩) b2).trans z2
  have g2' : (w1.setCell ⟨p1, 0, none⟩ (.int .i64 (a : Int))).cell? ⟨p2, 0, none⟩ = some x2 := (World.cell?_setCell_far _ _ _ _ (by simp; omega)).trans g2
  simp [go_sem, g1, g2, y1, y2, g2']
  refine ⟨rfl, _, rfl, _, results_none rfl _ _ _, rfl, rfl, ?_, ?_, fun w0 hb0 q1 q2 => ?_⟩
  · exact (World.cell?_setCell_far _ _ _ _ (by simp; omega)).trans (World.cell?_setCell_same' _ _ _ (by rw [g1]; rfl))
  · exact World.cell?_setCell_same' _ _ _ (by rw [g2']; rfl)
  · exact ((on hb0 hb).setCell q1 _).setCell q2 _
set_option maxRecDepth 20000 in
set_option maxHeartbeats 4000000 in
theorem idle_Parse (p1 p2 : Nat) (x1 x2 : Value) (w : World) (d12 : ¬ p1 = p2) (h1 : w.cell? ⟨p1, 0, none⟩ = some x1) (h2 : w.cell? ⟨p2, 0, none⟩ = some x2) (z1 : w.frozen? ⟨p1, 0, none⟩ = false) (z2 : w.frozen? ⟨p2, 0, none⟩ = false) :
    CallsD Tryz.prog 27 #[.pointer (some ⟨p1, 0, none⟩), .pointer (some ⟨p2, 0, none⟩)] .returning w fun e u' w' =>
      e = .returned (.tuple #[]) ∧ u' = .returning ∧ w'.cell? ⟨p1, 0, none⟩ = some (.int .i64 0) ∧ w'.cell? ⟨p2, 0, none⟩ = some (.int .i64 0) ∧ Fr (fun k => k = p1 ∨ k = p2) w.heap.size w w' := by
  refine callsD_of_wpS Tryz.func27 rfl fun c₀ cs hu => ?_
  apply wpS_region
  simp [wpOpsS, go_sem, recoverD, hu, Tryz.ntmps27, Exit.thenS]
  have b1 : p1 < w.heap.size := lt_of_cell h1
  have b2 : p2 < w.heap.size := lt_of_cell h2
  refine (reported_nil w).mono ?_
  rintro e w1 ⟨rfl, hb⟩
  have g1 := (keep hb _ 0 b1).trans h1
  have g2 := (keep hb _ 0 b2).trans h2
  have y1 := (hb.frozen (p := ⟨p1, 0, none⟩) b1).trans z1
  have y2 := (hb.frozen (p := ⟨p2, 0, none⟩) b2).trans z2
  have g2' : (w1.setCell ⟨p1, 0, none⟩ (.int .i64 0)).cell? ⟨p2, 0, none⟩ = some x2 := (World.cell?_setCell_far _ _ _ _ (by simp; omega)).trans g2
  simp [go_sem, g1, g2, y1, y2, g2']
  refine ⟨rfl, .returning, by cases c₀; simp_all, _, results_none rfl _ _ _, rfl, rfl, ?_, ?_, ?_⟩
  · exact (World.cell?_setCell_far _ _ _ _ (by simp; omega)).trans (World.cell?_setCell_same' _ _ _ (by rw [g1]; rfl))
  · exact World.cell?_setCell_same' _ _ _ (by rw [g2']; rfl)
  · refine (Fr.of hb).trans (Fr.trans (w' := w1.setCell ⟨p1, 0, none⟩ (.int .i64 0)) ?_ ?_)
    · have := fr_set w1 p1 0 (.int .i64 0) w.heap.size
      exact ⟨this.os, this.tape, this.output, this.size, fun k hk hn => this.block k hk fun e => hn (.inl e)⟩
    · have := fr_set (w1.setCell ⟨p1, 0, none⟩ (.int .i64 0)) p2 0 (.int .i64 0) w.heap.size
      exact ⟨this.os, this.tape, this.output, this.size, fun k hk hn => this.block k hk fun e => hn (.inr e)⟩
end Go.Proofs.YtahljmddnfldlaaGreatDoor
namespace Go.Proofs.YtahljmddnfldlaaGreatDoor
open Go.RowKit FloM ValM Go.Shelf
set_option linter.unusedVariables false
set_option linter.unusedSimpArgs false
def ParseR (R : Ans Pg) (W : World) (e : Ending) (w' : World) : Prop := match R with
  | .ok x _ => ∃ X : PgA, X.pg = x ∧ e = .returned (.tuple #[.agg (pgC X).toArray, .int .i64 0, .int .i64 0]) ∧ X.ok w' W.heap.size ∧ Below W.heap.size W w'
  | .no a k => e = .returned (.tuple #[.agg #[.slice none 0 0, .string ⟨#[]⟩, .slice none 0 0], .int .i64 (a : Int), .int .i64 (k : Int)]) ∧ Below W.heap.size W w'
set_option maxRecDepth 20000 in
set_option maxHeartbeats 8000000 in
theorem parse_any (s : ByteArray) (W : World)
    (hread : ∀ V : World, Calls Tryz.prog 29 #[.string s, .func (.func 30) #[] #[]] V (ReadQ (progS s.size (toksL 0 (ls s))) V)) :
    Calls Tryz.prog 14 #[.string s] W (ParseR (progS s.size (toksL 0 (ls s))) W) := by
  have hmf : ∀ (fn : Fn) (first cap : Array Value) (w : World), (Instr.makeFunc fn first cap).run Tryz.prog w = .ok (.func fn first cap) w := fun _ _ _ _ => rfl
  have HR := Lib.hid (hread (((W.alloc (.cells #[.slice none 0 0, .string ⟨#[]⟩, .slice none 0 0] 27)).alloc (.cells #[.int .i64 0] 3)).alloc (.cells #[.int .i64 0] 37)))
  have h2 : Below W.heap.size W (((W.alloc (.cells #[.slice none 0 0, .string ⟨#[]⟩, .slice none 0 0] 27)).alloc (.cells #[.int .i64 0] 3)).alloc (.cells #[.int .i64 0] 37)) := (((Below.refl _ _).alloc (Nat.le_refl _) _).alloc (by simp) _).alloc (by simp; try omega) _
  have c1 : (((W.alloc (.cells #[.slice none 0 0, .string ⟨#[]⟩, .slice none 0 0] 27)).alloc (.cells #[.int .i64 0] 3)).alloc (.cells #[.int .i64 0] 37)).cell? ⟨W.heap.size + 1, 0, none⟩ = some (.int .i64 0) := by simp [go_sem]
  have c2 : (((W.alloc (.cells #[.slice none 0 0, .string ⟨#[]⟩, .slice none 0 0] 27)).alloc (.cells #[.int .i64 0] 3)).alloc (.cells #[.int .i64 0] 37)).cell? ⟨W.heap.size + 1 + 1, 0, none⟩ = some (.int .i64 0) := by simp [go_sem]
  have f1 : (((W.alloc (.cells #[.slice none 0 0, .string ⟨#[]⟩, .slice none 0 0] 27)).alloc (.cells #[.int .i64 0] 3)).alloc (.cells #[.int .i64 0] 37)).frozen? ⟨W.heap.size + 1, 0, none⟩ = false := by simp [go_sem]
  have f2 : (((W.alloc (.cells #[.slice none 0 0, .string ⟨#[]⟩, .slice none 0 0] 27)).alloc (.cells #[.int .i64 0] 3)).alloc (.cells #[.int .i64 0] 37)).frozen? ⟨W.heap.size + 1 + 1, 0, none⟩ = false := by simp [go_sem]
  have HR0 : Hid (Row 27 (((W.alloc (.cells #[.slice none 0 0, .string ⟨#[]⟩, .slice none 0 0] 27)).alloc (.cells #[.int .i64 0] 3)).alloc (.cells #[.int .i64 0] 37)) W.heap.size [.slice none 0 0, .string ⟨#[]⟩, .slice none 0 0]) := Lib.hid (Row.alloc (Row.alloc (row_new W [.slice none 0 0, .string ⟨#[]⟩, .slice none 0 0]) _) _)
  have HC := Lib.hid (And.intro (And.intro c1 f1) (And.intro c2 f2))
  have H2 := Lib.hid h2
  clear c1 c2 f1 f2 h2 hread
  cases hp : progS s.size (toksL 0 (ls s)) with
  | no a k =>
    rw [hp] at HR
    clear hp
    go_enter_defers Tryz.func14, Tryz.ntmps14
    go_wp2_with (go_at_call 29; refine HR.out.mono ?_; rintro e w2 ⟨rfl, hb⟩; have HB2 := Lib.hid hb; clear hb)
    have d1 := (keep HB2.out (W.heap.size + 1) 0 (by simp; try omega)).trans HC.out.1.1
    have d2 := (keep HB2.out (W.heap.size + 1 + 1) 0 (by simp)).trans HC.out.2.1
    have g1 := (HB2.out.frozen (p := ⟨W.heap.size + 1, 0, none⟩) (by simp; try omega)).trans HC.out.1.2
    have g2 := (HB2.out.frozen (p := ⟨W.heap.size + 1 + 1, 0, none⟩) (by simp)).trans HC.out.2.2
    have hR2 := rowOn HR0.out HB2.out
    have hsz2 := HB2.out.size
    simp only [World.size_alloc] at hsz2
    refine leaves_cons (f := 27) (args := #[.pointer (some ⟨W.heap.size + 1, 0, none⟩), .pointer (some ⟨W.heap.size + 1 + 1, 0, none⟩)]) (by simp) (by simp [go_sem]) ?_
    refine (catch_Parse (W.heap.size + 1) (W.heap.size + 1 + 1) a k _ _ [] w2 (by omega) d1 d2 g1 g2).mono ?_
    rintro e u' w' ⟨rfl, rfl, e1, e2, hb⟩
    have hB := hb W (on H2.out HB2.out) (by omega) (by omega)
    have hW1 : Below (W.alloc (.cells #[.slice none 0 0, .string ⟨#[]⟩, .slice none 0 0] 27)).heap.size (W.alloc (.cells #[.slice none 0 0, .string ⟨#[]⟩, .slice none 0 0] 27)) w2 := (((Below.refl _ _).alloc (Nat.le_refl _) _).alloc (by simp) _).trans (HB2.out.mono (by simp; try omega))
    have hB1 := hb (W.alloc (.cells #[.slice none 0 0, .string ⟨#[]⟩, .slice none 0 0] 27)) hW1 (by simp) (by simp)
    have hR4 := rowOn (row_new (t := 27) W [.slice none 0 0, .string ⟨#[]⟩, .slice none 0 0]) hB1
    have x0 := hR4.cell 0; have x1 := hR4.cell 1; have x2 := hR4.cell 2
    simp only [List.getElem?_cons_zero, List.getElem?_cons_succ] at x0 x1 x2
    simp [Leaves, settle, results, Tryz.results14, go_sem, e1, e2, x0, x1, x2]
    exact ⟨rfl, hB⟩
  | ok x r =>
    rw [hp] at HR
    clear hp
    go_enter_defers Tryz.func14, Tryz.ntmps14
    go_wp2_with (first
      | (go_at_call 29; refine HR.out.mono ?_; rintro e w2 ⟨X, hX, rfl, hok, hb⟩; have HB2 := Lib.hid hb; have HX := Lib.hid hX; have HO2 := Lib.hid hok; have hR2 := Lib.hid (rowOn HR0.out hb); have hsz2 := hb.size; simp only [World.size_alloc] at hsz2; clear hb hX hok)
      | (refine wpList_storeR rfl 27 (.tmp 2) _ rfl W.heap.size 0 rfl (.agg (pgC X).toArray) rfl (pgC X) rfl (pre := []) (old := [.slice none 0 0, .string ⟨#[]⟩, .slice none 0 0]) (post := []) hR2.out rfl rfl (by kernel_rfl) rfl ?_; intro w3 hR hF hs; have hz3 := Nat.le_of_eq hs.symm; clear hs; have HR3 : Hid (Row 27 w3 W.heap.size (pgC X)) := Lib.hid (by have h := hR; rw [List.nil_append, List.append_nil] at h; exact h); have HF3 := Lib.hid (hF w2.heap.size); have d1 := ((hF (W.heap.size + 1 + 1)).cell (b := W.heap.size + 1) (o := 0) (by omega) (by omega)).trans ((keep HB2.out (W.heap.size + 1) 0 (by simp; try omega)).trans HC.out.1.1); have d2 := ((hF (W.heap.size + 1 + 1 + 1)).cell (b := W.heap.size + 1 + 1) (o := 0) (by omega) (by omega)).trans ((keep HB2.out (W.heap.size + 1 + 1) 0 (by simp)).trans HC.out.2.1); have g1 := (World.frozen?_of_block ((hF (W.heap.size + 1 + 1)).block (W.heap.size + 1) (by omega) (by omega))).trans ((HB2.out.frozen (p := ⟨W.heap.size + 1, 0, none⟩) (by simp; try omega)).trans HC.out.1.2); have g2 := (World.frozen?_of_block ((hF (W.heap.size + 1 + 1 + 1)).block (W.heap.size + 1 + 1) (by omega) (by omega))).trans ((HB2.out.frozen (p := ⟨W.heap.size + 1 + 1, 0, none⟩) (by simp)).trans HC.out.2.2); clear hR hF))
    have t1 : ((w3.setCell ⟨W.heap.size + 1, 0, none⟩ (.int .i64 0)).setCell ⟨W.heap.size + 1 + 1, 0, none⟩ (.int .i64 0)).cell? ⟨W.heap.size + 1, 0, none⟩ = some (.int .i64 0) := (World.cell?_setCell_far _ _ _ _ (by simp)).trans (World.cell?_setCell_same' _ _ _ (by rw [d1]; rfl))
    have t2 : ((w3.setCell ⟨W.heap.size + 1, 0, none⟩ (.int .i64 0)).setCell ⟨W.heap.size + 1 + 1, 0, none⟩ (.int .i64 0)).cell? ⟨W.heap.size + 1 + 1, 0, none⟩ = some (.int .i64 0) := World.cell?_setCell_same' _ _ _ (by rw [World.cell?_setCell_far _ _ _ _ (by simp), d2]; rfl)
    have y1 : ((w3.setCell ⟨W.heap.size + 1, 0, none⟩ (.int .i64 0)).setCell ⟨W.heap.size + 1 + 1, 0, none⟩ (.int .i64 0)).frozen? ⟨W.heap.size + 1, 0, none⟩ = false := by simp [g1]
    have y2 : ((w3.setCell ⟨W.heap.size + 1, 0, none⟩ (.int .i64 0)).setCell ⟨W.heap.size + 1 + 1, 0, none⟩ (.int .i64 0)).frozen? ⟨W.heap.size + 1 + 1, 0, none⟩ = false := by simp [g2]
    have hF4 : Fr (fun k => k = W.heap.size + 1 ∨ k = W.heap.size + 1 + 1) w3.heap.size w3 ((w3.setCell ⟨W.heap.size + 1, 0, none⟩ (.int .i64 0)).setCell ⟨W.heap.size + 1 + 1, 0, none⟩ (.int .i64 0)) := by
      have a1 := fr_set w3 (W.heap.size + 1) 0 (.int .i64 0) w3.heap.size
      have a2 := fr_set (w3.setCell ⟨W.heap.size + 1, 0, none⟩ (.int .i64 0)) (W.heap.size + 1 + 1) 0 (.int .i64 0) w3.heap.size
      exact Fr.trans ⟨a1.os, a1.tape, a1.output, a1.size, fun k hk hn => a1.block k hk fun e => hn (.inl e)⟩ ⟨a2.os, a2.tape, a2.output, a2.size, fun k hk hn => a2.block k hk fun e => hn (.inr e)⟩
    refine leaves_cons (f := 27) (args := #[.pointer (some ⟨W.heap.size + 1, 0, none⟩), .pointer (some ⟨W.heap.size + 1 + 1, 0, none⟩)]) (by simp) (by simp [go_sem]) ?_
    refine (idle_Parse (W.heap.size + 1) (W.heap.size + 1 + 1) _ _ _ (by omega) t1 t2 y1 y2).mono ?_
    rintro e u' w' ⟨rfl, rfl, e1, e2, hF⟩
    have hFF := hF4.trans (hF.mono hF4.size)
    have hR5 := Row.fr HR3.out hFF (by omega) (by omega)
    have x0 := hR5.cell 0; have x1 := hR5.cell 1; have x2 := hR5.cell 2
    simp only [pgC, List.getElem?_cons_zero, List.getElem?_cons_succ] at x0 x1 x2
    have k3 := HO2.out.frx (X := fun k => k = W.heap.size) (fun k hk => by simp; omega) HF3.out
    have k4 := k3.frx (X := fun k => k = W.heap.size + 1 ∨ k = W.heap.size + 1 + 1) (fun k hk => by simp; omega) hFF
    simp [Leaves, settle, results, Tryz.results14, go_sem, e1, e2, x0, x1, x2]
    exact ⟨X, HX.out, rfl, k4.less (by simp; omega), (on H2.out HB2.out).trans ((HF3.out.below (by omega) fun k hk e => by omega).trans (hFF.below (by omega) fun k hk e => by omega))⟩
end Go.Proofs.YtahljmddnfldlaaGreatDoor
namespace Go.Proofs.YtahljmddnfldlaaGreatDoor
open Go.RowKit FloM ValM Go.Shelf
set_option linter.unusedVariables false
set_option linter.unusedSimpArgs false
theorem literal_any {W : World} {rb tb z o : Nat} {ts : List Tk} (h : RdrAt W rb tb z ts o) (hg : GoodT ts) (hts : ts.length ≤ 20009) (ho : o = 0) : Calls Tryz.prog 85 #[.pointer (some ⟨rb, 0, none⟩)] W (LitQ (litP z ts) rb tb z o W) := by
  cases hC : cmpT (hdT z ts.tail) with
  | true => exact lit_cmp W h hg hts ho hC
  | false =>
    cases hV : varT (hdT z ts) with
    | false =>
      by_cases hN : (hdT z ts).t = [110, 111, 116]
      · exact lit_not0 W h hg hts ho hC hV hN
      by_cases hW : (hdT z ts).t = [119, 97, 108, 107]
      · exact lit_walk0 W h hg hts ho hC hV hN hW
      cases hP : predT (hdT z ts) with
      | true => exact lit_pred0 W h hg hts ho hC hV hN hW hP
      | false => exact lit_comp0 W h hg hts ho hC hV hN hW hP
    | true =>
      by_cases hI : (hdT z ts.tail).t = [105, 115]
      · exact lit_let W h hg hts ho hC ⟨hV, hI⟩
      by_cases hN : (hdT z ts).t = [110, 111, 116]
      · exact lit_not1 W h hg hts ho hC hV hI hN
      by_cases hW : (hdT z ts).t = [119, 97, 108, 107]
      · exact lit_walk1 W h hg hts ho hC hV hI hN hW
      cases hP : predT (hdT z ts) with
      | true => exact lit_pred1 W h hg hts ho hC hV hI hN hW hP
      | false => exact lit_comp1 W h hg hts ho hC hV hI hN hW hP
end Go.Proofs.YtahljmddnfldlaaGreatDoor
namespace Go.Proofs.YtahljmddnfldlaaGreatDoor
open Go.RowKit FloM ValM Go.Shelf
set_option linter.unusedVariables false
set_option linter.unusedSimpArgs false
theorem parse_full (s : ByteArray) (W : World) (hs : s.size ≤ 20000) : Calls Tryz.prog 14 #[.string s] W (ParseR (progS s.size (toksL 0 (ls s))) W) :=
  parse_any s W fun V => readP_any s V hs (fun ts x r h e => prog_wk (toks_good h (by rw [ls_len]; exact hs)) x r e) fun ts h U rb tb hU => by
    have hg := toks_good h (by rw [ls_len]; exact hs)
    have hl := toks_few h
    rw [ls_len] at hl
    exact program_any U hU hg (by omega) fun V1 r hr hV1 => rule_any V1 hV1 (hg.suf hr) (by have := hr.length_le; omega) fun V2 r2 hr2 hV2 => literal_any hV2 ((hg.suf hr).suf hr2) (by have := hr.length_le; have := hr2.length_le; omega) rfl
end Go.Proofs.YtahljmddnfldlaaGreatDoor
namespace Go.Proofs.YtahljmddnfldlaaGreatDoor
open Go.RowKit FloM ValM Go.Shelf
set_option linter.unusedVariables false
set_option linter.unusedSimpArgs false
def DeepRel (W : World) (ts : List Tk) (a b v : Value) (wr : World) : Prop := ∃ k o m : Nat, a = .int .i64 (o : Nat) ∧ b = .int .i64 (m : Nat) ∧ v = .int .i64 (k : Nat) ∧ k ≤ ts.length ∧ (ts.take k).foldl dst (0, 0) = (o, m) ∧ o ≤ k ∧ m ≤ k ∧ Below W.heap.size W wr
set_option maxRecDepth 20000 in
set_option maxHeartbeats 8000000 in
theorem deep_any (s : ByteArray) (W : World) (hs : s.size ≤ 20000) : Calls Tryz.prog 35 #[.string s] W fun e w' => e = .returned (.int .i64 (deepL (toksL 0 (ls s)).ts : Nat)) ∧ Below W.heap.size W w' := by
  have HT := Lib.hid (tok_q s W hs)
  have hlen : (toksL 0 (ls s)).ts.length ≤ 40000 := by
    cases h : toksL 0 (ls s) with
    | bad n => simp [Rs.ts]
    | good l => have := toks_len h; rw [ls_len] at this; simp only [Rs.ts]; omega
  generalize (toksL 0 (ls s)).ts = ts at HT hlen ⊢
  generalize (toksL 0 (ls s)).pos = ps at HT
  generalize (toksL 0 (ls s)).no = no at HT
  go_enter Tryz.func35, Tryz.ntmps35
  go_wp2_with (go_at_call 52; refine HT.out.mono ?_; rintro e w1 ⟨A, c, rfl, hK, hb⟩; have HK := Lib.hid hK; have HB1 := Lib.hid hb; clear hK hb)
  clear HT
  go_loopw [6, 7, 18] (DeepRel w1 ts) (fun _ _ v _ => ts.length - (intOf v).toNat)
  case atStart => exact ⟨0, 0, 0, rfl, rfl, rfl, Nat.zero_le _, rfl, Nat.le_refl _, Nat.le_refl _, Below.refl _ _⟩
  case round =>
    obtain ⟨k, o, m, rfl, rfl, rfl, hk, hf, ho, hm, hB⟩ := hrel
    have HF := Lib.hid hf; have HB := Lib.hid hB
    clear hf hB
    by_cases hlt : k < ts.length
    · obtain ⟨t, ht⟩ : ∃ t, ts[k]? = some t := ⟨_, List.getElem?_eq_getElem hlt⟩
      obtain ⟨b, off, rfl, hb, c0, c1, c2⟩ := HK.out k t ht
      have d0 := (keep HB.out _ _ hb).trans c0
      have d1 := (keep HB.out _ _ hb).trans c1
      have d2 := (keep HB.out _ _ hb).trans c2
      have HD : Hid ((ts.take (k + 1)).foldl dst (0, 0) = dst (o, m) t) := Lib.hid (by rw [take_snoc' ht, List.foldl_append, HF.out]; rfl)
      have HBN := Lib.hid (HB.out.alloc HB.out.size (.cells #[.int .i64 (t.k : Int), .string (bs t.t), .int .i64 (t.a : Int)] 92))
      clear c0 c1 c2 ht
      by_cases h40 : t.t = [40]
      · have g1 : ((bs t.t).toList == [40]) = true := by rw [bsl, h40]; rfl
        have HE : Hid (dst (o, m) t = (o + 1, max m (o + 1))) := Lib.hid (by unfold dst; rw [if_pos h40])
        clear h40
        go_wp2
        all_goals
          go_roundw
          case rel => exact ⟨k + 1, o + 1, max m (o + 1), by go_num, by go_num, by go_num, by omega, HD.out.trans HE.out, by omega, by omega, HBN.out⟩
          case measure => simp [intOf]; omega
      · have g1 : ((bs t.t).toList == [40]) = false := by rw [bsl, beq_eq_false_iff_ne]; exact h40
        by_cases h41 : t.t = [41]
        · have g2 : ((bs t.t).toList == [41]) = true := by rw [bsl, h41]; rfl
          have HE : Hid (dst (o, m) t = (o - 1, m)) := Lib.hid (by unfold dst; rw [if_neg h40, if_pos h41])
          clear h40 h41
          go_wp2
          all_goals
            go_roundw
            case rel => exact ⟨k + 1, o - 1, m, by go_num, rfl, by go_num, by omega, HD.out.trans HE.out, by omega, by omega, HBN.out⟩
            case measure => simp [intOf]; omega
        · have g2 : ((bs t.t).toList == [41]) = false := by rw [bsl, beq_eq_false_iff_ne]; exact h41
          have HE : Hid (dst (o, m) t = (o, m)) := Lib.hid (by unfold dst; rw [if_neg h40, if_neg h41])
          clear h40 h41
          go_wp2
          go_roundw
          case rel => exact ⟨k + 1, o, m, rfl, rfl, by go_num, by omega, HD.out.trans HE.out, by omega, by omega, HBN.out⟩
          case measure => simp [intOf]; omega
    · obtain rfl : k = ts.length := by omega
      have hf := HF.out
      rw [List.take_of_length_le (Nat.le_refl _)] at hf
      have HM : Hid (deepL ts = m) := Lib.hid (by unfold deepL; rw [hf])
      clear hf
      go_wp2
      go_ret
      rw [HM.out]
      exact ⟨rfl, on HB1.out HB.out⟩
end Go.Proofs.YtahljmddnfldlaaGreatDoor
namespace Go.Proofs.YtahljmddnfldlaaGreatDoor
open Go.RowKit FloM ValM Go.Shelf
set_option linter.unusedVariables false
set_option linter.unusedSimpArgs false
/-- What lies in a row of one's own. -/
theorem own_cells {W : World} {base size n c : Nat} {e : TypeId} {A : Option Addr} {xs : List Value} (h : W.ownsRow base e size (.slice A n c) n xs) (hn : 0 < n) :
    ∃ g, A = some ⟨g, 0, none⟩ ∧ base ≤ g ∧ g < W.heap.size ∧ ∀ j v, xs[j]? = some v → W.cell? ⟨g, j, none⟩ = some v := by
  rcases h.2 with ⟨_, h0⟩ | ⟨g, cap, cur, hv, hbg, hg, h1, h2, h3, h4⟩
  · omega
  · injection hv with hv _ _
    refine ⟨g, hv, hbg, (Array.getElem?_eq_some_iff.1 hg).1, fun j v hj => ?_⟩
    have hj2 := (List.getElem?_eq_some_iff.1 hj).1
    rw [← h4, List.getElem?_take_of_lt (by rw [h.1] at hj2; exact hj2)] at hj
    simp [World.cell?, hg]
    simpa using hj
end Go.Proofs.YtahljmddnfldlaaGreatDoor
namespace Go.Proofs.YtahljmddnfldlaaGreatDoor
open Go.RowKit FloM ValM Go.Shelf
set_option linter.unusedVariables false
set_option linter.unusedSimpArgs false
def RdX {β : Type} (sz : Nat) (cl : β → List Value) (W : World) (A : Option Addr) (l : List β) : Prop := l.length ≤ maxLen ∧ ∀ i x, l[i]? = some x → ∃ b o, A = some ⟨b, o, none⟩ ∧ b < W.heap.size ∧ ∀ j v, (cl x)[j]? = some v → W.cell? ⟨b, o + i * sz + j, none⟩ = some v
theorem RdX.on {β : Type} {sz : Nat} {cl : β → List Value} {W W' : World} {A : Option Addr} {l : List β} (h : RdX sz cl W A l) (hb : Below W.heap.size W W') : RdX sz cl W' A l := ⟨h.1, fun i x hx => by
  obtain ⟨b, o, e, hl, hc⟩ := h.2 i x hx
  exact ⟨b, o, e, Nat.lt_of_lt_of_le hl hb.size, fun j v hj => (keep hb _ _ hl).trans (hc j v hj)⟩⟩
theorem cells_get {β : Type} {cl : β → List Value} {sz : Nat} (hs : ∀ x, (cl x).length = sz) : ∀ (l : List β) (i : Nat) (x : β), l[i]? = some x → ∀ j v, (cl x)[j]? = some v → (cellsOf cl l)[i * sz + j]? = some v
  | [], i, x, h, j, v, hj => by simp at h
  | y :: l, 0, x, h, j, v, hj => by
    have hy : y = x := by simpa using h
    subst hy
    have hj2 := (List.getElem?_eq_some_iff.1 hj).1
    show (cl y ++ cellsOf cl l)[0 * sz + j]? = some v
    rw [List.getElem?_append_left (by omega), Nat.zero_mul, Nat.zero_add]; exact hj
  | y :: l, i + 1, x, h, j, v, hj => by
    have := cells_get hs l i x (by simpa using h) j v hj
    show (cl y ++ cellsOf cl l)[(i + 1) * sz + j]? = some v
    have h1 := hs y
    have e : (i + 1) * sz + j = (cl y).length + (i * sz + j) := by rw [h1, Nat.add_mul, Nat.one_mul]; omega
    rw [e, List.getElem?_append_right (by omega), Nat.add_sub_cancel_left]; exact this
theorem own_max {w : World} {base size n : Nat} {e : TypeId} {v : Value} {xs : List Value} (h : w.ownsRow base e size v n xs) : n ≤ maxLen := by
  rcases h.2 with ⟨_, h0⟩ | ⟨g, cap, cur, hv, hbg, hg, h1, h2, r⟩
  · omega
  · omega
theorem RdX.of_own {β : Type} {sz : Nat} {cl : β → List Value} {W : World} {base c : Nat} {E : TypeId} {A : Option Addr} {l : List β} (hs : ∀ x, (cl x).length = sz) (h : W.ownsRow base E sz (.slice A l.length c) l.length (cellsOf cl l)) : RdX sz cl W A l := ⟨own_max h, fun i x hx => by
  obtain ⟨g, e, _, hg, hc⟩ := own_cells h (by have := (List.getElem?_eq_some_iff.1 hx).1; omega)
  exact ⟨g, 0, e, hg, fun j v hj => by rw [Nat.zero_add]; exact hc _ _ (cells_get hs l i x hx j v hj)⟩⟩
def stC (s : St) : List Value := [.int .i64 (s.k : Int), .string (bs s.l)]
def AmA.rd (W : World) (x : AmA) : Prop := RdX 4 tmC W x.A x.a
def LtA.rd (W : World) (x : LtA) : Prop := x.m.rd W ∧ RdX 2 stC W x.pA x.p
def RlA.rd (W : World) (x : RlA) : Prop := x.h.rd W ∧ RdX 17 litC W x.A x.b ∧ ∀ y ∈ x.b, y.rd W
def PgA.rd (W : World) (x : PgA) : Prop := RdX 4 rlC W x.A x.r ∧ (∀ y ∈ x.r, y.rd W) ∧ x.q.rd W
section
variable {W W' : World} {base : Nat}
theorem AmA.rd.on {x : AmA} (h : x.rd W) (hb : Below W.heap.size W W') : x.rd W' := RdX.on h hb
theorem LtA.rd.on {x : LtA} (h : x.rd W) (hb : Below W.heap.size W W') : x.rd W' := ⟨AmA.rd.on h.1 hb, RdX.on h.2 hb⟩
theorem RlA.rd.on {x : RlA} (h : x.rd W) (hb : Below W.heap.size W W') : x.rd W' := ⟨AmA.rd.on h.1 hb, RdX.on h.2.1 hb, fun y hy => (h.2.2 y hy).on hb⟩
theorem PgA.rd.on {x : PgA} (h : x.rd W) (hb : Below W.heap.size W W') : x.rd W' := ⟨RdX.on h.1 hb, fun y hy => (h.2.1 y hy).on hb, AmA.rd.on h.2.2 hb⟩
theorem AmA.ok.rd {x : AmA} (h : x.ok W base) : x.rd W := RdX.of_own (fun _ => rfl) h
theorem LtA.ok.rd {x : LtA} (h : x.ok W base) : x.rd W := ⟨AmA.ok.rd h.1, RdX.of_own (cl := stC) (fun _ => rfl) h.2⟩
theorem RlA.ok.rd {x : RlA} (h : x.ok W base) : x.rd W := ⟨AmA.ok.rd h.1, RdX.of_own (fun _ => rfl) h.2.1, fun y hy => (h.2.2 y hy).rd⟩
theorem PgA.ok.rd {x : PgA} (h : x.ok W base) : x.rd W := ⟨RdX.of_own (fun _ => rfl) h.1, fun y hy => (h.2.1 y hy).rd, AmA.ok.rd h.2.2⟩
end
theorem step_storeR {P : Program} {op : Oper} {a : Act} {w : World} {K : Act → World → Prop} {Q : Exit → Act → World → Prop} (ty : TypeId) (x y : Operand) (ho : op.op = .store ty x y)
    (g : Nat) (hx : a.eval x = .pointer (some ⟨g, 0, none⟩)) (v : Value) (hy : a.eval y = v) (vs : List Value) (hv : v.cells.toList = vs) {T : TypeId} {old : List Value} (hg : Row T w g old) (hl : old.length = vs.length)
    (hi : (P.info? ty).map (·.size) = some vs.length) (h1 : vs.all (·.oneCell') = true)
    (h : ∀ w', Row T w' g vs → (∀ B, Fr (· = g) B w w') → w'.heap.size = w.heap.size → K (a.put op.dst undef) w') : Oper.wp P op a w K Q := by
  have hvs : v.cells.size = vs.length := by rw [← hv]; simp
  have hth : w.there g 0 v.cells.size := fun j hj => by
    rw [hg.cell]
    refine ⟨?_, hg.frozen _⟩
    rw [Nat.zero_add, List.getElem?_eq_getElem (by omega)]
    rfl
  unfold Oper.wp execOp
  simp only [ho, hx, hy, Instr.storeAt, Instr.sureAddr, Sem.run_bind, Sem.run_pure, Result.andThen_ok, run_storeVar_any w g 0 ty v hth (by rw [hvs]; exact hi) (by rw [← hv] at h1; simpa using h1)]
  refine h _ ?_ (fun B => fr_sets g _ _ _ _) (size_sets g _ _ _)
  rw [hv]
  have := row_sets vs old [] [] w hl (by simpa using hg)
  simpa using this
end Go.Proofs.YtahljmddnfldlaaGreatDoor
namespace Go.Proofs.YtahljmddnfldlaaGreatDoor
open Go.RowKit FloM ValM Go.Shelf
set_option linter.unusedVariables false
set_option linter.unusedSimpArgs false
end Go.Proofs.YtahljmddnfldlaaGreatDoor
namespace Go.Proofs.YtahljmddnfldlaaGreatDoor
open FloM ValM
set_option linter.unusedVariables false
set_option linter.unusedSimpArgs false
def Nz {α : Type} (R : Ans α) : Prop := ∀ a k, R = .no a k → k ≠ 0
section
variable {α β : Type}
theorem Nz.ok (x : α) (r : List Tk) : Nz (.ok x r) := fun a k h => by cases h
theorem Nz.no {a k : Nat} (h : k ≠ 0) : Nz (.no a k : Ans α) := fun a' k' e => by cases e; exact h
theorem Nz.bind {x : Ans α} {g : α → List Tk → Ans β} (h : Nz x) (hg : ∀ y r, Nz (g y r)) : Nz (x.bind g) := fun a k e => by
  cases x with
  | ok y r => exact hg y r a k e
  | no a' k' => cases e; exact h _ _ rfl
theorem Nz.ite {c : Prop} [Decidable c] {x y : Ans α} (hx : Nz x) (hy : Nz y) : Nz (if c then x else y) := by split <;> assumption
theorem need_nz (p : Tk → Bool) (z : Nat) (ts : List Tk) : Nz (needP p z ts) := by
  cases ts with
  | nil => exact Nz.no (by decide)
  | cons t r => unfold needP; exact Nz.ite (Nz.ok _ _) (Nz.no (by decide))
theorem want_nz (m : List UInt8) (z : Nat) (ts : List Tk) : Nz (wantP m z ts) := need_nz _ z ts
def NzP (f : Ps α) : Prop := ∀ z ts, Nz (f z ts)
theorem part_nz {op : Ps (List St)} (h : NzP op) : NzP (partP op) := fun z ts => (h z ts).bind fun s r => Nz.ok _ _
theorem seqL_nz {m : List UInt8} {k : Nat} {op : Ps (List St)} (h : NzP op) {z : Nat} : ∀ (n : Nat) (acc : List St) (ts : List Tk), Nz (seqL m k op z n acc ts)
  | 0, acc, ts => Nz.ok _ _
  | n + 1, acc, ts => by unfold seqL; exact Nz.ite ((h z _).bind fun s r => seqL_nz h n _ r) (Nz.ok _ _)
theorem sequ_nz {m : List UInt8} {k : Nat} {op : Ps (List St)} (h : NzP op) : NzP (sequP m k op) := fun z ts => (h z ts).bind fun s r => seqL_nz h _ _ _
theorem oper_nz {inner : Option (Ps (List St))} (h : ∀ f, inner = some f → NzP f) : NzP (operP inner) := fun z ts => by
  unfold operP
  refine Nz.ite ?_ (Nz.ite ((need_nz _ z _).bind fun t r => Nz.ok _ _) ((need_nz _ z _).bind fun t r => Nz.ok _ _))
  cases inner with
  | none => exact Nz.no (by decide)
  | some f => exact (h f rfl z _).bind fun s r => (want_nz _ z r).bind fun _ r => Nz.ok _ _
theorem pathB_nz {inner : Option (Ps (List St))} (h : ∀ f, inner = some f → NzP f) : NzP (pathB inner) := fun z ts =>
  (sequ_nz (sequ_nz (part_nz (oper_nz h))) z ts).bind fun s r => Nz.ite (Nz.no (by decide)) (Nz.ok _ _)
theorem path_nz : ∀ k, NzP (pathP k)
  | 0 => pathB_nz fun f e => by cases e
  | k + 1 => pathB_nz fun f e => by cases e; exact path_nz k
theorem whole_nz {f : Ps α} (h : NzP f) : NzP (wholeP f) := fun z ts => (h z ts).bind fun x r => by
  cases r with
  | nil => exact Nz.ok _ _
  | cons t r => exact Nz.no (by decide)
theorem term_nz : NzP termP := fun z ts => (need_nz _ z ts).bind fun t r => Nz.ok _ _
theorem head_nz : NzP headP := fun z ts => (term_nz z ts).bind fun t r => Nz.ite (Nz.ok _ _) ((need_nz _ z _).bind fun t' r => (want_nz _ z r).bind fun _ r => Nz.ite (Nz.ok _ _) (Nz.no (by decide)))
theorem listL_nz {most z : Nat} {item : Ps α} (h : NzP item) : ∀ (n : Nat) (acc : List α) (ts : List Tk), Nz (listL most item z n acc ts)
  | 0, acc, ts => Nz.ok _ _
  | n + 1, acc, ts => by unfold listL; exact Nz.ite (Nz.ite (Nz.no (by decide)) ((h z _).bind fun x r => listL_nz h n _ r)) (Nz.ok _ _)
theorem list_nz {most : Nat} {item : Ps α} (h : NzP item) : NzP (listP most item) := fun z ts => (h z ts).bind fun x r => listL_nz h _ _ _
theorem atomB_nz {arg : Ps α} (h : NzP arg) : NzP (atomB arg) := fun z ts => (need_nz _ z ts).bind fun t r => Nz.ite ((list_nz h z _).bind fun l r => (want_nz _ z r).bind fun _ r => Nz.ok _ _) (Nz.ok _ _)
theorem atom_nz : NzP atomP := fun z ts => (atomB_nz term_nz z ts).bind fun x r => Nz.ok _ _
theorem comp_nz : NzP compP := fun z ts => (term_nz z ts).bind fun a r => (need_nz _ z r).bind fun o r => (term_nz z r).bind fun b r => Nz.ok _ _
theorem let_nz : NzP letP := fun z ts => (term_nz z ts).bind fun a r => (want_nz _ z r).bind fun _ r => (term_nz z r).bind fun b r => (need_nz _ z r).bind fun o r => (term_nz z r).bind fun c r => Nz.ok _ _
theorem walk_nz : NzP walkP := fun z ts => (want_nz _ z ts).bind fun _ r => (want_nz _ z r).bind fun _ r => (term_nz z r).bind fun a r => (want_nz _ z r).bind fun _ r => (path_nz 32 z r).bind fun p r => (want_nz _ z r).bind fun _ r => (term_nz z r).bind fun b r => (want_nz _ z r).bind fun _ r => Nz.ok _ _
theorem lit_nz : NzP litP := fun z ts => Nz.ite (comp_nz z ts) (Nz.ite (let_nz z ts) (Nz.ite ((want_nz _ z ts).bind fun _ r => (atom_nz z r).bind fun m r => Nz.ok _ _) (Nz.ite (walk_nz z ts) (Nz.ite ((atom_nz z ts).bind fun m r => Nz.ok _ _) (comp_nz z ts)))))
theorem rule_nz : NzP ruleP := fun z ts => (atomB_nz head_nz z ts).bind fun h r => Nz.ite ((list_nz lit_nz z _).bind fun b r => (want_nz _ z r).bind fun _ r => Nz.ok _ _) ((want_nz _ z r).bind fun _ r => Nz.ok _ _)
theorem rulesL_nz {z : Nat} : ∀ (n : Nat) (acc : List Rl) (ts : List Tk), Nz (rulesL z n acc ts)
  | 0, acc, ts => Nz.ok _ _
  | n + 1, acc, ts => by unfold rulesL; exact Nz.ite (Nz.ite (Nz.no (by decide)) ((rule_nz z _).bind fun x r => rulesL_nz n _ r)) (Nz.ok _ _)
theorem prog_nz : NzP progP := fun z ts => (rulesL_nz many [] ts).bind fun l r => (want_nz _ z r).bind fun _ r => (atom_nz z r).bind fun q r => (want_nz _ z r).bind fun _ r => Nz.ok _ _
end
end Go.Proofs.YtahljmddnfldlaaGreatDoor

/-
  Package parse: what the reader wants, and skips.
-/
import Derived.Test.YtahljmddnfldlaaGreatDoorPrsB
namespace Go.Proofs.YtahljmddnfldlaaGreatDoor
open Go.RowKit FloM ValM Go.Shelf
set_option linter.unusedVariables false
set_option linter.unusedSimpArgs false
section
variable {W W' : World} {rb tb z o : Nat} {ts : List Tk}
set_option maxRecDepth 20000 in
set_option maxHeartbeats 2000000 in
theorem wantC_any (t : Tk) (g : Nat) (s : ByteArray) (w : World) (hg : w.cell? ⟨g, 0, none⟩ = some (.string s)) : Calls Tryz.prog 86 #[t.val, .pointer (some ⟨g, 0, none⟩)] w fun e w' => e = .returned (.bool (isX (ls s) t)) ∧ Below w.heap.size w w' := by
  obtain ⟨k, l, a⟩ := t
  unfold Tk.val isX
  simp only
  have hl := lt_of_cell hg
  have he : ((bs l).toList == s.toList) = (l == ls s) := by rw [bsl, toList_ls]
  generalize (l == ls s) = q at he ⊢
  go_enter Tryz.func86, Tryz.ntmps86
  go_wp2
  go_ret
  exact ⟨rfl, (Below.refl _ _).alloc (Nat.le_refl _) _⟩
set_option maxRecDepth 20000 in
set_option maxHeartbeats 4000000 in
theorem need_want (g : Nat) (s : ByteArray) (W : World) (h : RdrAt W rb tb z ts o) (hg : W.cell? ⟨g, 0, none⟩ = some (.string s)) (hm : ls s ≠ []) : Calls Tryz.prog 53 #[.pointer (some ⟨rb, 0, none⟩), .func (.func 86) #[] #[.pointer (some ⟨g, 0, none⟩)]] W (NeedQ (needP (isX (ls s)) z ts) rb tb z o W) := by
  obtain ⟨off, c, H⟩ := h.hd
  have HH := Lib.hid H
  have r0 := H.r0; have c0 := H.c0; have c1 := H.c1; have c2 := H.c2; have hl := H.lt; have hb := H.bl
  have HP : Hid (∀ V, Below W.heap.size W V → Calls Tryz.prog 86 #[.agg #[.int .i64 ((hdT z ts).k : Int), .string (bs (hdT z ts).t), .int .i64 ((hdT z ts).a : Int)], .pointer (some ⟨g, 0, none⟩)] V fun e w' => e = .returned (.bool ((isX (ls s)) (hdT z ts))) ∧ Below V.heap.size V w') := Lib.hid fun V hV => wantC_any (hdT z ts) g s V ((keep hV _ _ (lt_of_cell hg)).trans hg)
  have HM := Lib.hid hm
  clear hg hm
  have h0 : (0 : Int) < ((ts.length + 2 : Nat) : Int) := by omega
  have hB0 : Below W.heap.size W ((W.alloc (.cells #[.int .i64 0, .string ByteArray.empty, .int .i64 0] 92)).alloc (.cells #[.int .i64 ((hdT z ts).k : Int), .string (bs (hdT z ts).t), .int .i64 ((hdT z ts).a : Int)] 92)) := ((Below.refl _ _).alloc (Nat.le_refl _) _).alloc (by simp) _
  have HB0 := Lib.hid hB0
  clear H h hB0
  cases hp : (isX (ls s)) (hdT z ts) with
  | false =>
    rw [hp] at HP
    rw [need_no hp]
    have HF : Hid (∀ V, Below W.heap.size W V → Calls Tryz.prog 56 #[.pointer (some ⟨rb, 0, none⟩), .int .i64 2] V fun e w' => e = .panicked [{ v := faultP (hdT z ts).a 2, recovered := false }] ∧ V = w') := Lib.hid fun V hV => fail_any 2 V (HH.out.on hV).at_
    clear hp
    generalize hdT z ts = t at c0 c1 c2 HP HF HB0
    go_enter Tryz.func53, Tryz.ntmps53
    go_wp2_with (first
      | (go_at_call 86; refine (HP.out _ HB0.out).mono ?_; rintro e w2 ⟨rfl, hb2⟩; have hB2 := on HB0.out hb2; clear hb2)
      | (go_at_call 56; refine (HF.out _ hB2).mono ?_; rintro e w3 ⟨rfl, rfl⟩))
    exact ⟨rfl, rfl, Fr.of hB2⟩
  | true =>
    rw [hp] at HP
    obtain ⟨t, r, rfl⟩ : ∃ t r, ts = t :: r := by
      cases ts with
      | nil => exact absurd (show (isX (ls s)) (endT z) = true from hp) (by simp [isX, endT]; exact HM.out)
      | cons t r => exact ⟨t, r, rfl⟩
    have hn : needP (isX (ls s)) z (t :: r) = .ok t r := by unfold needP; simp only [hdT] at hp; simp only; rw [hp]; rfl
    rw [hn]
    clear hp hn
    simp only [hdT] at c0 c1 c2 HP HB0
    have hcap := HH.out.cap
    simp only [List.length_cons] at r0 h0 hcap
    have hsl : ∀ V : World, (Instr.slice 88 (.slice (some ⟨tb, off, none⟩) (r.length + 1 + 2) c) (some (.int .i64 1)) none none).run Tryz.prog V = .ok (.slice (some ⟨tb, off + 3, none⟩) (r.length + 2) (c - 1)) V := fun V => slice_tok tb off r.length c V (by omega)
    go_enter Tryz.func53, Tryz.ntmps53
    go_wp2_with (go_at_call 86; refine (HP.out _ HB0.out).mono ?_; rintro e w2 ⟨rfl, hb2⟩; have HB2 := Lib.hid hb2; have HH2 := Lib.hid (HH.out.on (on HB0.out hb2)); have r0' := HH2.out.r0; have f0' := HH2.out.f0; have hl' := HH2.out.lt; simp only [List.length_cons] at r0'; have HR0 := Lib.hid (rowOn (Row.alloc (row_new (t := 92) W [.int .i64 0, .string ByteArray.empty, .int .i64 0]) _) hb2); have hR1 := row_new (t := 92) (W.alloc (.cells #[.int .i64 0, .string ByteArray.empty, .int .i64 0] 92)) [.int .i64 (t.k : Int), .string (bs t.t), .int .i64 (t.a : Int)]; rw [World.size_alloc] at hR1; have HR1 := Lib.hid (rowOn hR1 hb2); clear hb2 hR1; have d0 := HR1.out.cell 0; have d1 := HR1.out.cell 1; have d2 := HR1.out.cell 2; have e0 := HR0.out.cell 0; have e1 := HR0.out.cell 1; have e2 := HR0.out.cell 2; have g0 := HR0.out.frozen 0; have g1 := HR0.out.frozen 1; have g2 := HR0.out.frozen 2; simp only [List.getElem?_cons_zero, List.getElem?_cons_succ] at d0 d1 d2 e0 e1 e2; have hn0 := HR0.out.lt; have hn1 := HR1.out.lt)
    have hR := Row.set (pre := [.int .i64 (t.k : Int), .string (bs t.t)]) (post := []) (Row.set (pre := [.int .i64 (t.k : Int)]) (post := [.int .i64 0]) (Row.set (pre := []) (post := [.string ByteArray.empty, .int .i64 0]) (Row.far HR0.out (p := ⟨rb, 0, none⟩) (by simp; omega) (.slice (some ⟨tb, off + 3, none⟩) (r.length + 2) (c - 1))) (.int .i64 (t.k : Int))) (.string (bs t.t))) (.int .i64 (t.a : Int))
    refine bodyPost_ret (results_cell_row rfl _ _ W.heap.size _ _ _ _ rfl hR Tryz.underlying92 rfl (by kernel_rfl)) rfl ?_
    have hs := HH2.out.step
    have hb2 := on HB0.out HB2.out
    have hF := Fr.trans (Fr.of hb2) (fr_set w2 rb 0 (.slice (some ⟨tb, off + 3, none⟩) (r.length + 2) (c - 1)) W.heap.size)
    obtain ⟨V, hV⟩ : ∃ V, w2.setCell ⟨rb, 0, none⟩ (.slice (some ⟨tb, off + 3, none⟩) (r.length + 2) (c - 1)) = V := ⟨_, rfl⟩
    rw [hV] at hs hF
    have hK := Fr.trans (Fr.trans (fr_set V W.heap.size 0 (.int .i64 (t.k : Int)) (W.heap.size + 1)) (fr_set _ W.heap.size 1 (.string (bs t.t)) (W.heap.size + 1))) (fr_set _ W.heap.size 2 (.int .i64 (t.a : Int)) (W.heap.size + 1))
    show NeedQ _ _ _ _ _ _ (Ending.returned (.agg #[.int .i64 (t.k : Int), .string (bs t.t), .int .i64 (t.a : Int)])) _
    rw [hV]
    refine ⟨rfl, hs.far hl hb hK, hF.trans (Fr.of (hK.below (Nat.le_succ _) fun k hk e => by omega))⟩
/-- Texts that are wanted, in a row that is not the reader's. -/
def TxtAt (W : World) (rb : Nat) (A : Option Addr) (ms : List ByteArray) : Prop := ∀ i m, ms[i]? = some m → ∃ b off, A = some ⟨b, off, none⟩ ∧ b < W.heap.size ∧ b ≠ rb ∧ W.cell? ⟨b, off + i, none⟩ = some (.string m)
def wantsP : List ByteArray → Ps Unit
  | [], _, ts => .ok () ts
  | m :: ms, z, ts => (wantP (ls m) z ts).bind fun _ r => wantsP ms z r
/-- What comes of a method that tells nothing. -/
def VoidQ (R : Ans Unit) (rb tb z o : Nat) (W : World) (e : Ending) (w' : World) : Prop := match R with
  | .ok _ r => e = .returned (.tuple #[]) ∧ RdrAt w' rb tb z r o ∧ Fr (· = rb) W.heap.size W w'
  | .no a k => e = .panicked [{ v := faultP a k, recovered := false }] ∧ Fr (· = rb) W.heap.size W w'
def WantRel (ms : List ByteArray) (rb tb z o : Nat) (ts : List Tk) (W : World) (v : Value) (wr : World) : Prop := ∃ (k : Nat) (r : List Tk), v = .int .i64 (k : Nat) ∧ k ≤ ms.length ∧ wantsP ms z ts = wantsP (ms.drop k) z r ∧ RdrAt wr rb tb z r o ∧ Fr (· = rb) W.heap.size W wr
set_option maxRecDepth 20000 in
set_option maxHeartbeats 4000000 in
theorem want_any (A : Option Addr) (c : Nat) (ms : List ByteArray) (W : World) (h : RdrAt W rb tb z ts o) (ht : TxtAt W rb A ms) (hne : ∀ m ∈ ms, ls m ≠ []) (hl : ms.length ≤ 1000) :
    Calls Tryz.prog 58 #[.pointer (some ⟨rb, 0, none⟩), .slice A ms.length c] W (VoidQ (wantsP ms z ts) rb tb z o W) := by
  have HR := Lib.hid h; have HT := Lib.hid ht; have HN := Lib.hid hne
  clear h ht hne
  have hmf : ∀ (fn : Fn) (first cap : Array Value) (w : World), (Instr.makeFunc fn first cap).run Tryz.prog w = .ok (.func fn first cap) w := fun _ _ _ _ => rfl
  go_enter Tryz.func58, Tryz.ntmps58
  go_wp2
  go_loopw [8] (WantRel ms rb tb z o ts W) (fun v _ => ms.length - (intOf v).toNat)
  case atStart => exact ⟨0, ts, rfl, Nat.zero_le _, rfl, HR.out, Fr.refl _ _ _⟩
  case round =>
    clear HR
    obtain ⟨k, r, rfl, hk, hw, hR, hF⟩ := hrel
    have HW := Lib.hid hw; have HR := Lib.hid hR; have HF := Lib.hid hF
    clear hw hR hF
    by_cases hlt : k < ms.length
    · obtain ⟨m, hm⟩ : ∃ m, ms[k]? = some m := ⟨_, List.getElem?_eq_getElem hlt⟩
      obtain ⟨b, off, rfl, hb, hbr, cm⟩ := HT.out k m hm
      have cm' := (HF.out.cell hb hbr).trans cm
      have hb' := Nat.lt_of_lt_of_le hb HF.out.size
      have HD := Lib.hid (show wantsP (ms.drop k) z r = (wantP (ls m) z r).bind fun _ r => wantsP (ms.drop (k + 1)) z r by rw [drop_at hm]; rfl)
      have HNE := Lib.hid (HN.out m (List.mem_of_getElem? hm))
      have hbx : Below wr.heap.size wr (wr.alloc (.cells #[.string m] 9)) := (Below.refl _ _).alloc (Nat.le_refl _) _
      have HQ := Lib.hid (need_want wr.heap.size m (wr.alloc (.cells #[.string m] 9)) (HR.out.on hbx) (by simp) HNE.out)
      clear cm hm hbx
      cases hq : needP (isX (ls m)) z r with
      | ok t r2 =>
        rw [hq] at HQ
        have HD2 : Hid (wantsP (ms.drop k) z r = wantsP (ms.drop (k + 1)) z r2) := Lib.hid (by rw [HD.out]; unfold wantP; rw [hq]; rfl)
        clear hq
        go_wp2_with (go_at_call 53; refine HQ.out.mono ?_; rintro e w2 ⟨rfl, h2, hF2⟩; have H2 := Lib.hid h2; have HF2 := Lib.hid hF2; clear h2 hF2)
        go_roundw
        case rel => exact ⟨k + 1, r2, by go_num, by omega, by rw [HW.out, HD2.out], H2.out, HF.out.trans ((Fr.of ((Below.refl _ _).alloc (Nat.le_refl _) _)).trans (HF2.out.mono (by simp)) |>.mono HF.out.size)⟩
        case measure => simp [intOf]; omega
      | no a e0 =>
        rw [hq] at HQ
        have HD2 : Hid (wantsP ms z ts = .no a e0) := Lib.hid (by rw [HW.out, HD.out]; unfold wantP; rw [hq]; rfl)
        clear hq
        rw [HD2.out]
        go_wp2_with (go_at_call 53; refine HQ.out.mono ?_; rintro e w2 ⟨rfl, hF2⟩; have HF2 := Lib.hid hF2; clear hF2)
        exact ⟨rfl, rfl, HF.out.trans ((Fr.of ((Below.refl _ _).alloc (Nat.le_refl _) _)).trans (HF2.out.mono (by simp)) |>.mono HF.out.size)⟩
    · obtain rfl : k = ms.length := by omega
      have HE : Hid (wantsP ms z ts = .ok () r) := Lib.hid (by rw [HW.out, List.drop_length]; rfl)
      rw [HE.out]
      go_wp2
      go_end0
      exact ⟨rfl, HR.out, HF.out⟩
set_option maxRecDepth 20000 in
set_option maxHeartbeats 4000000 in
theorem skip_no (s : ByteArray) (W : World) (h : RdrAt W rb tb z ts o) (hm : (hdT z ts).t ≠ ls s) :
    Calls Tryz.prog 83 #[.pointer (some ⟨rb, 0, none⟩), .string s] W fun e w' => e = .returned (.bool false) ∧ W = w' := by
  have HN := next_any s W h
  rw [beq_eq_false_iff_ne.2 hm] at HN
  have HN := Lib.hid HN
  clear hm h
  go_enter Tryz.func83, Tryz.ntmps83
  go_wp2_with (go_at_call 105; refine HN.out.mono ?_; rintro e w1 ⟨rfl, rfl⟩)
  go_ret
  exact ⟨rfl, rfl⟩
set_option maxRecDepth 20000 in
set_option maxHeartbeats 4000000 in
theorem skip_yes (s : ByteArray) (W : World) (h : RdrAt W rb tb z ts o) (hm : (hdT z ts).t = ls s) (hne : ls s ≠ []) :
    Calls Tryz.prog 83 #[.pointer (some ⟨rb, 0, none⟩), .string s] W fun e w' => e = .returned (.bool true) ∧ RdrAt w' rb tb z ts.tail o ∧ Fr (· = rb) W.heap.size W w' := by
  have HN := next_any s W h
  rw [hm, beq_self_eq_true] at HN
  have HN := Lib.hid HN
  obtain ⟨t, r, rfl⟩ : ∃ t r, ts = t :: r := by
    cases ts with
    | nil => exact absurd hm.symm hne
    | cons t r => exact ⟨t, r, rfl⟩
  have hq : wantsP [s] z (t :: r) = .ok () r := by
    have e : isX (ls s) t = true := by unfold isX; rw [beq_iff_eq]; exact hm
    unfold wantsP wantP needP; simp only; rw [e]; rfl
  have hbx : Below W.heap.size W (W.alloc (.cells #[.string s] 9)) := (Below.refl _ _).alloc (Nat.le_refl _) _
  have hrl := h.lt
  have HW := want_any (some ⟨W.heap.size, 0, none⟩) 1 [s] (W.alloc (.cells #[.string s] 9)) (h.on hbx) (fun i m hi => by
    cases i with
    | zero =>
      simp only [List.getElem?_cons_zero, Option.some.injEq] at hi; subst hi
      exact ⟨W.heap.size, 0, rfl, by simp, by omega, by simp⟩
    | succ i => simp at hi) (fun m hm' => by rw [List.mem_singleton] at hm'; subst hm'; exact hne) (by simp)
  rw [hq] at HW
  have HW := Lib.hid HW
  clear hm h hne hq hbx hrl
  go_enter Tryz.func83, Tryz.ntmps83
  go_wp2_with (first
    | (go_at_call 105; refine HN.out.mono ?_; rintro e w1 ⟨rfl, rfl⟩)
    | (go_at_call 58; refine HW.out.mono ?_; rintro e w2 ⟨rfl, h2, hF2⟩))
  go_ret
  exact ⟨rfl, h2, (Fr.of ((Below.refl _ _).alloc (Nat.le_refl _) _)).trans (hF2.mono (by simp))⟩
end
end Go.Proofs.YtahljmddnfldlaaGreatDoor

/-
  Package parse: sequences, paths.
-/
import Derived.Test.YtahljmddnfldlaaGreatDoorPrsE
namespace Go.Proofs.YtahljmddnfldlaaGreatDoor
open Go.RowKit FloM ValM Go.Shelf
set_option linter.unusedVariables false
set_option linter.unusedSimpArgs false
def SeqRel (W : World) (m : List UInt8) (k : Nat) (op : Ps (List St)) (rb tb z o b : Nat) (s0 : List St) (r0 : List Tk) (v : Value) (wr : World) : Prop := ∃ (n : Nat) (s : List St) (r : List Tk) (A : Option Addr) (c : Nat), v = .slice A s.length c ∧ seqL m k op z many s0 r0 = seqL m k op z n s r ∧ r.length ≤ n ∧ s.length + r.length ≤ b ∧ OwnS wr W.heap.size A c s ∧ RdrAt wr rb tb z r o ∧ Fr (· = rb) W.heap.size W wr
section
variable {W W' : World} {rb tb z o : Nat} {ts : List Tk}
theorem seq_go {m : List UInt8} {k n : Nat} {op : Ps (List St)} {t : Tk} {r r2 : List Tk} {s s2 : List St} (h : t.t = m) (ho : op z r = .ok s2 r2) : seqL m k op z (n + 1) s (t :: r) = seqL m k op z n (s ++ s2 ++ [⟨k, []⟩]) r2 := by
  conv => lhs; unfold seqL
  rw [if_pos (show (hdT z (t :: r)).t = m from h)]
  simp only [List.tail_cons]
  rw [ho]; rfl
theorem seq_bad {m : List UInt8} {k n a e : Nat} {op : Ps (List St)} {t : Tk} {r : List Tk} {s : List St} (h : t.t = m) (ho : op z r = .no a e) : seqL m k op z (n + 1) s (t :: r) = .no a e := by
  conv => lhs; unfold seqL
  rw [if_pos (show (hdT z (t :: r)).t = m from h)]
  simp only [List.tail_cons]
  rw [ho]; rfl
theorem seq_end {m : List UInt8} {k n : Nat} {op : Ps (List St)} {r : List Tk} {s : List St} (h : (hdT z r).t ≠ m) : seqL m k op z n s r = .ok s r := by
  cases n with
  | zero => rfl
  | succ n => unfold seqL; rw [if_neg h]
theorem SeqRel.next {m : List UInt8} {k n b c c2 c3 : Nat} {op : Ps (List St)} {s0 s s2 : List St} {r0 r r2 : List Tk} {t : Tk} {A A2 A3 : Option Addr} {w3 w4 w5 : World} {o1 : Obj} (hb : s.length + s2.length + 1 + r2.length ≤ b)
    (hs : seqL m k op z many s0 r0 = seqL m k op z (n + 1) s (t :: r)) (ht : t.t = m) (ho : op z r = .ok s2 r2) (hn : r2.length ≤ n) (hr : rb < W.heap.size) (htb : tb < W.heap.size)
    (hF3 : Fr (· = rb) W.heap.size W w3) (hown3 : OwnS w3 W.heap.size A c s) (hR3 : RdrAt w3 rb tb z r2 o)
    (hg4 : w3.grownBy w4 (Value.slice A s.length c).ownBlock) (ho4 : w4.ownsRow W.heap.size 43 2 (.slice A2 (s.length + s2.length) c2) (s.length + s2.length) (scells s ++ scells s2))
    (ho5 : w5.ownsRow W.heap.size 43 2 (.slice A3 (s.length + s2.length + 1) c3) (s.length + s2.length + 1) (scells s ++ scells s2 ++ [.int .i64 (k : Int), .string ByteArray.empty])) (hg5 : (w4.alloc o1).grownBy w5 (Value.slice A2 (s.length + s2.length) c2).ownBlock) :
    SeqRel W m k op rb tb z o b s0 r0 (.slice A3 (s.length + s2.length + 1) c3) w5 ∧ RdrAt w5 rb tb z r2 o := by
  have hq4 := own_base hown3
  have hq5 := own_base ho4
  have hbl : Below w4.heap.size w4 (w4.alloc o1) := (Below.refl _ _).alloc (Nat.le_refl _) _
  have hF4 := fr_grown hF3 hF3.size hg4 hq4
  have hR4 := hR3.grown hg4 hr htb hq4
  have hR5 := (hR4.on hbl).grown hg5 hr htb hq5
  have e1 : (s ++ s2 ++ [(⟨k, []⟩ : St)]).length = s.length + s2.length + 1 := by rw [List.length_append, List.length_append]; rfl
  refine ⟨⟨n, s ++ s2 ++ [⟨k, []⟩], r2, A3, c3, by rw [e1], by rw [hs, seq_go ht ho], hn, by rw [e1]; omega, ?_, hR5, fr_grown (hF4.trans (Fr.of (hbl.mono hF4.size))) (by have := hF4.size; simp; omega) hg5 hq5⟩, hR5⟩
  unfold OwnS
  rw [e1, scells_app, scells_app]
  exact ho5
set_option maxRecDepth 20000 in
set_option maxHeartbeats 8000000 in
theorem seq_part (m : ByteArray) (k : Nat) (op : Ps (List St)) (hlen : LenOk op) (hm : ls m ≠ []) (W : World) (h : RdrAt W rb tb z ts o) (hts : ts.length ≤ 20009)
    (hop : ∀ V r, r.length ≤ ts.length → RdrAt V rb tb z r o → Calls Tryz.prog 141 #[.pointer (some ⟨rb, 0, none⟩)] V (StepsQ (op z r) rb tb z o V)) :
    Calls Tryz.prog 134 #[.pointer (some ⟨rb, 0, none⟩), .string m, .int .i64 (k : Int), .func (.func 141) #[] #[]] W (StepsQ (sequP (ls m) k op z ts) rb tb z o W) := by
  obtain ⟨i0, hi0, hz0, hz1, hz2⟩ := info_parts info_step
  have HI := Lib.hid (And.intro hi0 (And.intro hz0 (And.intro hz1 hz2)))
  have hr := h.lt; have ht := h.tlt
  have HOP := Lib.hid hop
  have HO0 := Lib.hid (hop W ts (Nat.le_refl _) h)
  have HM := Lib.hid hm
  have hmany : many = 20010 := rfl
  have HMY := Lib.hid hmany
  unfold sequP
  clear hi0 hz0 hz1 hz2 h hop hm hmany
  cases hR : op z ts with
  | no a e =>
    rw [hR] at HO0
    clear hR
    go_enter Tryz.func134, Tryz.ntmps134
    go_wp2_with (go_at_call 141; refine HO0.out.mono ?_; rintro e w1 ⟨rfl, f1⟩)
    exact ⟨rfl, rfl, f1⟩
  | ok s0 r0 =>
    rw [hR] at HO0
    have hl0 := (hlen z ts s0 r0 hR).1
    simp only [Ans.bind]
    clear hR
    go_enter Tryz.func134, Tryz.ntmps134
    go_wp2_with (go_at_call 141; refine HO0.out.mono ?_; rintro e w1 ⟨A0, cA0, rfl, own1, h1, f1⟩; have HP : Hid (SeqRel W (ls m) k op rb tb z o ts.length s0 r0 (.slice A0 s0.length cA0) w1) := Lib.hid ⟨many, s0, r0, A0, cA0, rfl, rfl, by rw [HMY.out]; omega, hl0, own1, h1, f1⟩; clear own1 h1 f1)
    go_loopw [9] (SeqRel W (ls m) k op rb tb z o ts.length s0 r0) (fun _ wr => leftAt rb wr)
    case atStart => exact HP.out
    case round =>
      clear HP HO0
      obtain ⟨n, s, r, A, c, rfl, hs, hn, hlm, hown, hR, hF⟩ := hrel
      have HS := Lib.hid hs; have HO := Lib.hid hown; have HR := Lib.hid hR; have HF := Lib.hid hF
      have hz := hF.size
      have HLF := Lib.hid (left_of hR)
      clear hs hown hR hF
      by_cases g1 : (hdT z r).t = ls m
      · have S1 := Lib.hid (skip_yes m wr HR.out g1 HM.out)
        obtain ⟨t, r', rfl⟩ : ∃ t r2, r = t :: r2 := ⟨_, _, hd_tail g1 HM.out⟩
        obtain ⟨n', rfl⟩ : ∃ n', n = n' + 1 := ⟨n - 1, by simp only [List.length_cons] at hn; omega⟩
        have G1 := Lib.hid (show t.t = ls m from g1)
        simp only [List.tail_cons] at S1
        simp only [List.length_cons] at hlm hn HLF
        have HC : Hid (∀ V, RdrAt V rb tb z r' o → Calls Tryz.prog 141 #[.pointer (some ⟨rb, 0, none⟩)] V (StepsQ (op z r') rb tb z o V)) := Lib.hid fun V hV => HOP.out V r' (by omega) hV
        clear g1
        cases ho : op z r' with
        | no a e =>
          rw [ho] at HC
          have HE := Lib.hid (HS.out.trans (seq_bad (k := k) (n := n') (s := s) G1.out ho))
          clear ho
          go_wp2_with (first
            | (go_at_call 83; refine S1.out.mono ?_; rintro e w2 ⟨rfl, h2, f2⟩; have H2 := Lib.hid h2; have F2 := Lib.hid f2; clear h2 f2)
            | (go_at_call 141; refine (HC.out _ H2.out).mono ?_; rintro e w3 ⟨rfl, f3⟩))
          rw [HE.out]
          exact ⟨rfl, rfl, (HF.out.trans (F2.out.mono hz)).trans (f3.mono (by have := F2.out.size; omega))⟩
        | ok s2 r2 =>
          rw [ho] at HC
          have hl2 := hlen z r' s2 r2 ho
          have HOK := Lib.hid ho
          clear ho
          go_wp2_with (first
            | (go_at_call 83; refine S1.out.mono ?_; rintro e w2 ⟨rfl, h2, f2⟩; have H2 := Lib.hid h2; have F2 := Lib.hid f2; have O2 := Lib.hid (HO.out.frb hr f2); have hs2 := f2.size; clear h2 f2)
            | (go_at_call 141; refine (HC.out _ H2.out).mono ?_; rintro e w3 ⟨B, cB, rfl, ownB, h3, f3⟩; obtain ⟨g, rfl, _, _⟩ := own_addr ownB hl2.2; have HB := Lib.hid ownB; have H3 := Lib.hid h3; have F3 := Lib.hid f3; have O3 := Lib.hid (O2.out.frb hr f3); have hs3 := f3.size; clear ownB h3 f3)
            | (at_builtin; refine wpList_append_own_at _ rfl (.tmp 16) (.tmp 19) _ rfl W.heap.size 43 i0 (.agg #[.int .i64 0, .string ByteArray.empty]) 2 24 Tryz.underlying44 HI.out.1 HI.out.2.1 HI.out.2.2.1 HI.out.2.2.2 rfl (by omega) (.slice A s.length c) s.length (scells s) rfl O3.out ⟨g, 0, none⟩ s2.length cB (scells s2) rfl (scells_len s2) (own_news HB.out) (scells_one s2) (by unfold maxLen; omega) (by omega) (by omega) ?_; intro v' w4 ho hg _ _; obtain ⟨A2, c2, rfl⟩ := own_form ho; have HG4 := Lib.hid hg; have O4 := Lib.hid ho; have hs4 := hg.size; clear ho hg)
            | (at_builtin; refine wpList_append_own_at _ rfl (.tmp 21) (.tmp 24) _ rfl W.heap.size 43 i0 (.agg #[.int .i64 0, .string ByteArray.empty]) 2 24 Tryz.underlying44 HI.out.1 HI.out.2.1 HI.out.2.2.1 HI.out.2.2.2 rfl (by omega) (.slice A2 (s.length + s2.length) c2) (s.length + s2.length) (scells s ++ scells s2) rfl (own_on O4.out ((Below.refl _ _).alloc (Nat.le_refl _) _)) ⟨w4.heap.size, 0, none⟩ 1 1 [.int .i64 (k : Int), .string ByteArray.empty] rfl (by simp) (news_one w4 #[.int .i64 (k : Int), .string ByteArray.empty] _) (by simp [Value.oneCell']) (by unfold maxLen; omega) (by omega) (by simp; omega) ?_; intro v' w5 ho hg _ _; obtain ⟨A3, c3, rfl⟩ := own_form ho; have HNX := Lib.hid (SeqRel.next (b := ts.length) (by omega) HS.out G1.out HOK.out (by omega) hr ht (HF.out.trans ((F2.out.next F3.out).mono hz)) O3.out H3.out HG4.out O4.out ho hg); clear ho hg))
          have HL5 := Lib.hid (left_of HNX.out.2)
          go_roundw
          case rel => exact HNX.out.1
          case measure => rw [HL5.out, HLF.out]; omega
      · have N1 := Lib.hid (skip_no m wr HR.out g1)
        have HE := Lib.hid (seq_end (k := k) (n := n) (op := op) (s := s) g1)
        clear g1
        go_wp2_with (go_at_call 83; refine N1.out.mono ?_; rintro e w2 ⟨rfl, rfl⟩)
        go_ret
        rw [HS.out, HE.out]
        exact ⟨A, c, rfl, HO.out, HR.out, HF.out⟩
set_option maxRecDepth 20000 in
set_option maxHeartbeats 8000000 in
theorem seq_alt (m : ByteArray) (k : Nat) (op : Ps (List St)) (hlen : LenOk op) (hm : ls m ≠ []) (W : World) (h : RdrAt W rb tb z ts o) (hts : ts.length ≤ 20009)
    (hop : ∀ V r, r.length ≤ ts.length → RdrAt V rb tb z r o → Calls Tryz.prog 135 #[.pointer (some ⟨rb, 0, none⟩)] V (StepsQ (op z r) rb tb z o V)) :
    Calls Tryz.prog 134 #[.pointer (some ⟨rb, 0, none⟩), .string m, .int .i64 (k : Int), .func (.func 135) #[] #[]] W (StepsQ (sequP (ls m) k op z ts) rb tb z o W) := by
  obtain ⟨i0, hi0, hz0, hz1, hz2⟩ := info_parts info_step
  have HI := Lib.hid (And.intro hi0 (And.intro hz0 (And.intro hz1 hz2)))
  have hr := h.lt; have ht := h.tlt
  have HOP := Lib.hid hop
  have HO0 := Lib.hid (hop W ts (Nat.le_refl _) h)
  have HM := Lib.hid hm
  have hmany : many = 20010 := rfl
  have HMY := Lib.hid hmany
  unfold sequP
  clear hi0 hz0 hz1 hz2 h hop hm hmany
  cases hR : op z ts with
  | no a e =>
    rw [hR] at HO0
    clear hR
    go_enter Tryz.func134, Tryz.ntmps134
    go_wp2_with (go_at_call 135; refine HO0.out.mono ?_; rintro e w1 ⟨rfl, f1⟩)
    exact ⟨rfl, rfl, f1⟩
  | ok s0 r0 =>
    rw [hR] at HO0
    have hl0 := (hlen z ts s0 r0 hR).1
    simp only [Ans.bind]
    clear hR
    go_enter Tryz.func134, Tryz.ntmps134
    go_wp2_with (go_at_call 135; refine HO0.out.mono ?_; rintro e w1 ⟨A0, cA0, rfl, own1, h1, f1⟩; have HP : Hid (SeqRel W (ls m) k op rb tb z o ts.length s0 r0 (.slice A0 s0.length cA0) w1) := Lib.hid ⟨many, s0, r0, A0, cA0, rfl, rfl, by rw [HMY.out]; omega, hl0, own1, h1, f1⟩; clear own1 h1 f1)
    go_loopw [9] (SeqRel W (ls m) k op rb tb z o ts.length s0 r0) (fun _ wr => leftAt rb wr)
    case atStart => exact HP.out
    case round =>
      clear HP HO0
      obtain ⟨n, s, r, A, c, rfl, hs, hn, hlm, hown, hR, hF⟩ := hrel
      have HS := Lib.hid hs; have HO := Lib.hid hown; have HR := Lib.hid hR; have HF := Lib.hid hF
      have hz := hF.size
      have HLF := Lib.hid (left_of hR)
      clear hs hown hR hF
      by_cases g1 : (hdT z r).t = ls m
      · have S1 := Lib.hid (skip_yes m wr HR.out g1 HM.out)
        obtain ⟨t, r', rfl⟩ : ∃ t r2, r = t :: r2 := ⟨_, _, hd_tail g1 HM.out⟩
        obtain ⟨n', rfl⟩ : ∃ n', n = n' + 1 := ⟨n - 1, by simp only [List.length_cons] at hn; omega⟩
        have G1 := Lib.hid (show t.t = ls m from g1)
        simp only [List.tail_cons] at S1
        simp only [List.length_cons] at hlm hn HLF
        have HC : Hid (∀ V, RdrAt V rb tb z r' o → Calls Tryz.prog 135 #[.pointer (some ⟨rb, 0, none⟩)] V (StepsQ (op z r') rb tb z o V)) := Lib.hid fun V hV => HOP.out V r' (by omega) hV
        clear g1
        cases ho : op z r' with
        | no a e =>
          rw [ho] at HC
          have HE := Lib.hid (HS.out.trans (seq_bad (k := k) (n := n') (s := s) G1.out ho))
          clear ho
          go_wp2_with (first
            | (go_at_call 83; refine S1.out.mono ?_; rintro e w2 ⟨rfl, h2, f2⟩; have H2 := Lib.hid h2; have F2 := Lib.hid f2; clear h2 f2)
            | (go_at_call 135; refine (HC.out _ H2.out).mono ?_; rintro e w3 ⟨rfl, f3⟩))
          rw [HE.out]
          exact ⟨rfl, rfl, (HF.out.trans (F2.out.mono hz)).trans (f3.mono (by have := F2.out.size; omega))⟩
        | ok s2 r2 =>
          rw [ho] at HC
          have hl2 := hlen z r' s2 r2 ho
          have HOK := Lib.hid ho
          clear ho
          go_wp2_with (first
            | (go_at_call 83; refine S1.out.mono ?_; rintro e w2 ⟨rfl, h2, f2⟩; have H2 := Lib.hid h2; have F2 := Lib.hid f2; have O2 := Lib.hid (HO.out.frb hr f2); have hs2 := f2.size; clear h2 f2)
            | (go_at_call 135; refine (HC.out _ H2.out).mono ?_; rintro e w3 ⟨B, cB, rfl, ownB, h3, f3⟩; obtain ⟨g, rfl, _, _⟩ := own_addr ownB hl2.2; have HB := Lib.hid ownB; have H3 := Lib.hid h3; have F3 := Lib.hid f3; have O3 := Lib.hid (O2.out.frb hr f3); have hs3 := f3.size; clear ownB h3 f3)
            | (at_builtin; refine wpList_append_own_at _ rfl (.tmp 16) (.tmp 19) _ rfl W.heap.size 43 i0 (.agg #[.int .i64 0, .string ByteArray.empty]) 2 24 Tryz.underlying44 HI.out.1 HI.out.2.1 HI.out.2.2.1 HI.out.2.2.2 rfl (by omega) (.slice A s.length c) s.length (scells s) rfl O3.out ⟨g, 0, none⟩ s2.length cB (scells s2) rfl (scells_len s2) (own_news HB.out) (scells_one s2) (by unfold maxLen; omega) (by omega) (by omega) ?_; intro v' w4 ho hg _ _; obtain ⟨A2, c2, rfl⟩ := own_form ho; have HG4 := Lib.hid hg; have O4 := Lib.hid ho; have hs4 := hg.size; clear ho hg)
            | (at_builtin; refine wpList_append_own_at _ rfl (.tmp 21) (.tmp 24) _ rfl W.heap.size 43 i0 (.agg #[.int .i64 0, .string ByteArray.empty]) 2 24 Tryz.underlying44 HI.out.1 HI.out.2.1 HI.out.2.2.1 HI.out.2.2.2 rfl (by omega) (.slice A2 (s.length + s2.length) c2) (s.length + s2.length) (scells s ++ scells s2) rfl (own_on O4.out ((Below.refl _ _).alloc (Nat.le_refl _) _)) ⟨w4.heap.size, 0, none⟩ 1 1 [.int .i64 (k : Int), .string ByteArray.empty] rfl (by simp) (news_one w4 #[.int .i64 (k : Int), .string ByteArray.empty] _) (by simp [Value.oneCell']) (by unfold maxLen; omega) (by omega) (by simp; omega) ?_; intro v' w5 ho hg _ _; obtain ⟨A3, c3, rfl⟩ := own_form ho; have HNX := Lib.hid (SeqRel.next (b := ts.length) (by omega) HS.out G1.out HOK.out (by omega) hr ht (HF.out.trans ((F2.out.next F3.out).mono hz)) O3.out H3.out HG4.out O4.out ho hg); clear ho hg))
          have HL5 := Lib.hid (left_of HNX.out.2)
          go_roundw
          case rel => exact HNX.out.1
          case measure => rw [HL5.out, HLF.out]; omega
      · have N1 := Lib.hid (skip_no m wr HR.out g1)
        have HE := Lib.hid (seq_end (k := k) (n := n) (op := op) (s := s) g1)
        clear g1
        go_wp2_with (go_at_call 83; refine N1.out.mono ?_; rintro e w2 ⟨rfl, rfl⟩)
        go_ret
        rw [HS.out, HE.out]
        exact ⟨A, c, rfl, HO.out, HR.out, HF.out⟩
set_option maxRecDepth 20000 in
set_option maxHeartbeats 4000000 in
theorem alt_any (inner : Option (Ps (List St))) (hin : LenOkI inner) (W : World) (h : RdrAt W rb tb z ts o) (hts : ts.length ≤ 20009)
    (he : ∀ V r, r.length ≤ ts.length → RdrAt V rb tb z r o → (hdT z r).t = [40] → Calls Tryz.prog 148 #[.pointer (some ⟨rb, 0, none⟩)] V (StepsQ (operP inner z r) rb tb z o V)) :
    Calls Tryz.prog 135 #[.pointer (some ⟨rb, 0, none⟩)] W (StepsQ (altP inner z ts) rb tb z o W) := by
  have HS := Lib.hid (seq_part ⟨#[47]⟩ 3 (partP (operP inner)) (LenOk.oper hin).part (by decide) W h hts fun V r hr hV => part_any (operP inner) (LenOk.oper hin) V hV (by omega) (operand_any inner V hV fun h40 U hU => he U r hr hU h40))
  have HE : Hid (altP inner z ts = sequP (ls ⟨#[47]⟩) 3 (partP (operP inner)) z ts) := Lib.hid rfl
  rw [HE.out]
  generalize sequP (ls ⟨#[47]⟩) 3 (partP (operP inner)) z ts = R at HS ⊢
  clear HE he h hin
  go_enter Tryz.func135, Tryz.ntmps135
  cases R with
  | ok s r =>
    go_wp2_with (go_at_call 134; refine HS.out.mono ?_; rintro e w1 ⟨A, c, rfl, h1⟩)
    go_ret
    exact ⟨A, c, rfl, h1⟩
  | no a k =>
    go_wp2_with (go_at_call 134; refine HS.out.mono ?_; rintro e w1 ⟨rfl, h1⟩)
    exact ⟨rfl, rfl, h1⟩
set_option maxRecDepth 20000 in
set_option maxHeartbeats 4000000 in
theorem pathB_any (inner : Option (Ps (List St))) (hin : LenOkI inner) (W : World) (h : RdrAt W rb tb z ts o) (hts : ts.length ≤ 20009)
    (he : ∀ V r, r.length ≤ ts.length → RdrAt V rb tb z r o → (hdT z r).t = [40] → Calls Tryz.prog 148 #[.pointer (some ⟨rb, 0, none⟩)] V (StepsQ (operP inner z r) rb tb z o V)) :
    Calls Tryz.prog 124 #[.pointer (some ⟨rb, 0, none⟩)] W (StepsQ (pathB inner z ts) rb tb z o W) := by
  have HS := Lib.hid (seq_alt ⟨#[124]⟩ 4 (altP inner) (LenOk.alt hin) (by decide) W h hts fun V r hr hV => alt_any inner hin V hV (by omega) fun U r2 hr2 hU h40 => he U r2 (by omega) hU h40)
  have HE : Hid (pathB inner z ts = (sequP (ls ⟨#[124]⟩) 4 (altP inner) z ts).bind fun s r => if 100 < s.length then .no (hdT z ts).a 4 else .ok s r) := Lib.hid rfl
  rw [HE.out]
  obtain ⟨off, c, H⟩ := h.hd
  have r0 := H.r0; have c2 := H.c2; have hl := H.lt; have hb := H.bl
  have h0 : (0 : Int) < ((ts.length + 2 : Nat) : Int) := by omega
  generalize sequP (ls ⟨#[124]⟩) 4 (altP inner) z ts = R at HS ⊢
  generalize hdT z ts = t at c2 ⊢
  clear HE he h hin H
  cases R with
  | ok s r =>
    simp only [Ans.bind]
    by_cases h100 : 100 < s.length
    · rw [if_pos h100]
      have h100' : (100 : Int) < (s.length : Int) := by omega
      go_enter Tryz.func124, Tryz.ntmps124
      go_wp2_with (go_at_call 134; refine HS.out.mono ?_; rintro e w1 ⟨A, c, rfl, h1, h2, h3⟩)
      exact ⟨rfl, rfl, h3⟩
    · rw [if_neg h100]
      have h100' : ¬ (100 : Int) < (s.length : Int) := by omega
      go_enter Tryz.func124, Tryz.ntmps124
      go_wp2_with (go_at_call 134; refine HS.out.mono ?_; rintro e w1 ⟨A, c, rfl, h1⟩)
      go_ret
      exact ⟨A, c, rfl, h1⟩
  | no a k =>
    simp only [Ans.bind]
    go_enter Tryz.func124, Tryz.ntmps124
    go_wp2_with (go_at_call 134; refine HS.out.mono ?_; rintro e w1 ⟨rfl, h1⟩)
    exact ⟨rfl, rfl, h1⟩
end
/-- A path, with so many ( open. -/
theorem path_any {rb tb z : Nat} : ∀ (k o : Nat) (ts : List Tk) (W : World), o + k = 32 → RdrAt W rb tb z ts o → ts.length ≤ 20009 → Calls Tryz.prog 124 #[.pointer (some ⟨rb, 0, none⟩)] W (StepsQ (pathP k z ts) rb tb z o W)
  | 0, o, ts, W, ho, h, hts => by
    obtain rfl : o = 32 := by omega
    exact pathB_any none (lenI 0) W h hts fun V r hr hV h40 => enclosed_no V hV h40
  | k + 1, o, ts, W, ho, h, hts => by
    refine pathB_any (some (pathP k)) (lenI (k + 1)) W h hts fun V r hr hV h40 => ?_
    refine enclosed_yes (pathP k) (lenI (k + 1) _ rfl) V hV (by omega) h40 fun U r2 hr2 hU => ?_
    exact path_any k (o + 1) r2 U (by omega) hU (by omega)
end Go.Proofs.YtahljmddnfldlaaGreatDoor

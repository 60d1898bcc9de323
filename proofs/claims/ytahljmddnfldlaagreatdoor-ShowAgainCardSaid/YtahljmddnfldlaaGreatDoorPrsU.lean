/-
  Package parse: arguments of heads.
-/
import Derived.Test.YtahljmddnfldlaaGreatDoorPrsT
import Derived.Test.YtahljmddnfldlaaGreatDoorPrsF
namespace Go.Proofs.YtahljmddnfldlaaGreatDoor
open Go.RowKit FloM ValM Go.Shelf
set_option linter.unusedVariables false
set_option linter.unusedSimpArgs false
theorem results_cell_tmp {P : Program} {fn : Func} {p q : Tmp} {ty : TypeId} (h : fn.results = #[.cell p ty, .tmp q]) (tmps : Array Value) (w : World) (g : Nat) (t : TypeId) (cs : Array Value) (fr : Nat × Nat) (d : TypeDesc) (v : Value)
    (hp : tmps.getD p undef = .pointer (some ⟨g, 0, none⟩)) (hq : tmps.getD q undef = v) (hg : w.heap[g]? = some (.cells cs t fr))
    (hu : P.underlying ty = some d) (hd : (match d with | .struct _ | .array _ _ => true | _ => false) = true) (hi : (P.info? ty).map (·.size) = some cs.size) :
    (results fn tmps).run P w = .ok (.tuple #[.agg cs, v]) w := by
  have hp' : tmps[p]?.getD undef = .pointer (some ⟨g, 0, none⟩) := by simpa using hp
  have hq' : tmps[q]?.getD undef = v := by simpa using hq
  simp [results, h, hp', hq', asAddr, run_loadVar_row w g t ty cs fr d hg hu hd hi]
/-! ### A call's own structs beside the reader -/
abbrev Lrow := Nat × TypeId × List Value
structure LSt (rb tb z o : Nat) (W : World) (rows : List Lrow) (ts : List Tk) (w : World) : Prop where
  rdr : RdrAt w rb tb z ts o
  fr : Fr (· = rb) W.heap.size W w
  each : ∀ x ∈ rows, Row x.2.1 w x.1 x.2.2 ∧ W.heap.size ≤ x.1
  nd : (rows.map (·.1)).Nodup
  rl : rb < W.heap.size
  tl : tb < W.heap.size
section
variable {W w w' : World} {rb tb z o : Nat} {ts r : List Tk} {rows pre post : List Lrow} {g : Nat} {T : TypeId} {cs cs' : List Value}
theorem LSt.start (h : RdrAt W rb tb z ts o) : LSt rb tb z o W [] ts W := ⟨h, Fr.refl _ _ _, (fun x hx => by cases hx), List.nodup_nil, h.lt, h.tlt⟩
theorem LSt.on (h : LSt rb tb z o W rows ts w) (hb : Below w.heap.size w w') : LSt rb tb z o W rows ts w' :=
  ⟨h.rdr.on hb, h.fr.trans (Fr.of (hb.mono h.fr.size)), fun x hx => ⟨rowOn (h.each x hx).1 hb, (h.each x hx).2⟩, h.nd, h.rl, h.tl⟩
theorem LSt.new (h : LSt rb tb z o W rows ts w) (T : TypeId) (cs : List Value) : LSt rb tb z o W (rows ++ [(w.heap.size, T, cs)]) ts (w.alloc (.cells cs.toArray T)) := by
  have h' := h.on ((Below.refl _ _).alloc (Nat.le_refl _) (.cells cs.toArray T))
  refine ⟨h'.rdr, h'.fr, fun x hx => ?_, ?_, h.rl, h.tl⟩
  · rw [List.mem_append, List.mem_singleton] at hx
    rcases hx with hx | rfl
    · exact h'.each x hx
    · exact ⟨row_new w cs, h.fr.size⟩
  · rw [List.map_append, List.nodup_append]
    refine ⟨h.nd, by simp, fun a ha b hb e => ?_⟩
    obtain ⟨x, hx, rfl⟩ := List.mem_map.1 ha
    simp at hb; subst hb
    have := (h.each x hx).1.lt
    omega
theorem LSt.call (h : LSt rb tb z o W rows ts w) (hr : RdrAt w' rb tb z r o) (hF : Fr (· = rb) w.heap.size w w') : LSt rb tb z o W rows r w' :=
  ⟨hr, h.fr.trans (hF.mono h.fr.size), fun x hx => ⟨(h.each x hx).1.fr hF (h.each x hx).1.lt (by have := (h.each x hx).2; have := h.rl; omega), (h.each x hx).2⟩, h.nd, h.rl, h.tl⟩
theorem LSt.row (h : LSt rb tb z o W rows ts w) {x : Lrow} (hx : x ∈ rows) : Row x.2.1 w x.1 x.2.2 := (h.each x hx).1
theorem LSt.ge (h : LSt rb tb z o W rows ts w) {x : Lrow} (hx : x ∈ rows) : W.heap.size ≤ x.1 := (h.each x hx).2
theorem LSt.store (h : LSt rb tb z o W (pre ++ (g, T, cs) :: post) ts w) (hR : Row T w' g cs') (hF : ∀ B, Fr (· = g) B w w') : LSt rb tb z o W (pre ++ (g, T, cs') :: post) ts w' := by
  have hg := h.ge (x := (g, T, cs)) (by simp)
  have hrl := h.rl; have htl := h.tl
  have hn := h.nd
  simp only [List.map_append, List.map_cons] at hn
  refine ⟨rdr_fr h.rdr (by simp only at hg; omega) (by simp only at hg; omega) hF, h.fr.trans (Fr.of ((hF W.heap.size).below (Nat.le_refl _) fun k hk e => by simp only at hg; omega)), fun x hx => ?_, by simpa using hn, hrl, htl⟩
  have hx' : x = (g, T, cs') ∨ x ∈ pre ∨ x ∈ post := by simp at hx; rcases hx with h | h | h <;> simp [h]
  rcases hx' with rfl | hx'
  · exact ⟨hR, hg⟩
  · have hm : x ∈ pre ++ (g, T, cs) :: post := by simp; rcases hx' with h | h <;> simp [h]
    have hne : x.1 ≠ g := fun e => by
      rw [List.nodup_append] at hn
      rcases hx' with hp | hp
      · exact hn.2.2 x.1 (List.mem_map_of_mem hp) g (by simp) e
      · have := (List.nodup_cons.1 hn.2.1).1
        exact this (e ▸ List.mem_map_of_mem hp)
    exact ⟨(h.each x hm).1.fr (hF (w.heap.size)) (h.each x hm).1.lt hne, (h.each x hm).2⟩
end
def HeadQ (R : Ans (Tm × Nat)) (rb tb z o : Nat) (W : World) (e : Ending) (w' : World) : Prop := match R with
  | .ok t r => e = .returned (.tuple #[t.1.val, .int .i64 (t.2 : Nat)]) ∧ RdrAt w' rb tb z r o ∧ Fr (· = rb) W.heap.size W w'
  | .no a k => e = .panicked [{ v := faultP a k, recovered := false }] ∧ Fr (· = rb) W.heap.size W w'
section
variable {W W' : World} {rb tb z o : Nat} {ts : List Tk}
set_option maxRecDepth 20000 in
set_option maxHeartbeats 8000000 in
theorem headTerm_any (W : World) (h : RdrAt W rb tb z ts o) (hg : GoodT ts) : Calls Tryz.prog 82 #[.pointer (some ⟨rb, 0, none⟩)] W (HeadQ (headP z ts) rb tb z o W) := by
  obtain ⟨off, c, H⟩ := h.hd
  have r0 := H.r0; have c1 := H.c1; have hl := H.lt; have hb := H.bl
  have h0 : (0 : Int) < ((ts.length + 2 : Nat) : Int) := by omega
  have hst := (LSt.start h).new 48 zeroT
  have HST := Lib.hid hst
  have HT := Lib.hid (term_any _ hst.rdr hg)
  have HFK : Hid (∀ V, Calls Tryz.prog 104 #[.string (bs (hdT z ts).t)] V fun e w' => e = .returned (.int .i64 (foldN (hdT z ts).t : Nat)) ∧ V = w') := Lib.hid fun V => by
    have := fold_any (bs (hdT z ts).t) V
    rwa [ls_bs] at this
  unfold headP
  have htl : ∀ t r, termP z ts = .ok t r → r <:+ ts := fun t r e => by
    obtain ⟨a, r', e1, e2⟩ := bind_ok e
    have := (need_len e1).1
    cases e2
    exact ⟨[a], this.symm⟩
  clear h H hst
  generalize foldN (hdT z ts).t = fk at HFK ⊢
  generalize hdT z ts = hd at c1 HFK
  cases hn : termP z ts with
  | no a k =>
    rw [hn] at HT
    simp only [Ans.bind]
    clear hn htl
    go_enter Tryz.func82, Tryz.ntmps82
    go_wp2_with (first
      | (go_at_call 104; refine (HFK.out _).mono ?_; rintro e w1 ⟨rfl, rfl⟩)
      | (go_at_call 60; refine HT.out.mono ?_; rintro e w1 ⟨rfl, f1⟩))
    exact ⟨rfl, rfl, HST.out.fr.trans (f1.mono HST.out.fr.size)⟩
  | ok t r =>
    rw [hn] at HT
    have hsuf := htl t r hn
    have HGR := Lib.hid (hg.suf hsuf)
    simp only [Ans.bind]
    clear hn htl hg hsuf
    by_cases hf : fk = 0
    · subst hf
      rw [if_pos (.inl rfl)]
      go_enter Tryz.func82, Tryz.ntmps82
      go_wp2_with (first
        | (go_at_call 104; refine (HFK.out _).mono ?_; rintro e w1 ⟨rfl, rfl⟩)
        | (go_at_call 60; refine HT.out.mono ?_; rintro e w1 ⟨rfl, h1, f1⟩; have S1 := Lib.hid (HST.out.call h1 f1); have S2 := Lib.hid (S1.out.new 48 [.string (bs t.v), .int .i64 t.x.k, .int .i64 t.x.n, .string t.x.s]); unfold Tm.val; clear h1 f1)
        | (refine wpList_storeR rfl 48 (.tmp 2) _ rfl W.heap.size 0 rfl (.agg #[.string (bs t.v), .int .i64 t.x.k, .int .i64 t.x.n, .string t.x.s]) rfl _ rfl (pre := []) (old := zeroT) (post := []) (S2.out.row (x := (W.heap.size, 48, zeroT)) (by simp)) rfl rfl (by kernel_rfl) rfl ?_; intro w4 hR4 hF4 hs4; have S4 := Lib.hid (S2.out.store (pre := []) hR4 hF4)))
      refine bodyPost_ret (results_cell_tmp rfl _ _ W.heap.size _ _ _ _ _ rfl rfl hR4 Tryz.underlying48 rfl (by kernel_rfl)) rfl ?_
      exact ⟨rfl, S4.out.rdr, S4.out.fr⟩
    · have hfk : ((fk : Int) == 0) = false := by rw [beq_eq_false_iff_ne]; omega
      by_cases h40 : (hdT z r).t = [40]
      · rw [if_neg (fun e => e.elim hf (fun e => e h40))]
        obtain ⟨u, q, rfl⟩ : ∃ u q, r = u :: q := ⟨_, _, hd_tail h40 (by simp)⟩
        have HSK : Hid (∀ V, RdrAt V rb tb z (u :: q) o → Calls Tryz.prog 83 #[.pointer (some ⟨rb, 0, none⟩), .string ⟨#[40]⟩] V fun e w' => e = .returned (.bool true) ∧ RdrAt w' rb tb z q o ∧ Fr (· = rb) V.heap.size V w') := Lib.hid fun V hV => skip_yes ⟨#[40]⟩ V hV h40 (by decide)
        have HND : Hid (∀ V, RdrAt V rb tb z q o → Calls Tryz.prog 53 #[.pointer (some ⟨rb, 0, none⟩), .func (.func 89) #[] #[]] V (NeedQ (needP varT z q) rb tb z o V)) := Lib.hid fun V hV => need_var V hV
        simp only [List.tail_cons]
        clear h40
        cases hq : needP varT z q with
        | no a k =>
          rw [hq] at HND
          simp only [Ans.bind]
          clear hq
          go_enter Tryz.func82, Tryz.ntmps82
          go_wp2_with (first
            | (go_at_call 104; refine (HFK.out _).mono ?_; rintro e w1 ⟨rfl, rfl⟩)
            | (go_at_call 60; refine HT.out.mono ?_; rintro e w1 ⟨rfl, h1, f1⟩; have S1 := Lib.hid (HST.out.call h1 f1); have S2 := Lib.hid (S1.out.new 48 [.string (bs t.v), .int .i64 t.x.k, .int .i64 t.x.n, .string t.x.s]); unfold Tm.val; clear h1 f1)
            | (go_at_call 83; refine (HSK.out _ S2.out.rdr).mono ?_; rintro e w3 ⟨rfl, h3, f3⟩; have S3 := Lib.hid (S2.out.call h3 f3); have hw1 := f3.size; simp only [World.size_alloc] at hw1; clear h3 f3)
            | (go_at_call 53; refine (HND.out _ S3.out.rdr).mono ?_; rintro e w5 ⟨rfl, f5⟩))
          exact ⟨rfl, rfl, S3.out.fr.trans (f5.mono S3.out.fr.size)⟩
        | ok t' r2 =>
          rw [hq] at HND
          have HWA : Hid (∀ V, RdrAt V rb tb z r2 o → _) := Lib.hid fun V hV => want_new ⟨#[41]⟩ V hV (by decide)
          rw [show ls ⟨#[41]⟩ = [41] from rfl] at HWA
          simp only [Ans.bind]
          clear hq
          have hfd := field_tok (t'.k : Int) (t'.a : Int) (bs t'.t)
          cases hw : wantP [41] z r2 with
          | no a k =>
            rw [hw] at HWA
            clear hw
            go_enter Tryz.func82, Tryz.ntmps82
            go_wp2_with (first
              | (go_at_call 104; refine (HFK.out _).mono ?_; rintro e w1 ⟨rfl, rfl⟩)
              | (go_at_call 60; refine HT.out.mono ?_; rintro e w1 ⟨rfl, h1, f1⟩; have S1 := Lib.hid (HST.out.call h1 f1); have S2 := Lib.hid (S1.out.new 48 [.string (bs t.v), .int .i64 t.x.k, .int .i64 t.x.n, .string t.x.s]); unfold Tm.val; clear h1 f1)
              | (go_at_call 83; refine (HSK.out _ S2.out.rdr).mono ?_; rintro e w3 ⟨rfl, h3, f3⟩; have S3 := Lib.hid (S2.out.call h3 f3); have hw1 := f3.size; simp only [World.size_alloc] at hw1; clear h3 f3)
              | (go_at_call 53; refine (HND.out _ S3.out.rdr).mono ?_; rintro e w5 ⟨rfl, h5, f5⟩; have S5 := Lib.hid (S3.out.call h5 f5); unfold Tk.val; clear h5 f5)
              | (refine wpList_storeR rfl 48 (.tmp 5) _ rfl w1.heap.size 0 rfl (.agg #[.string (bs t'.t), .int .i64 0, .int .i64 0, .string ByteArray.empty]) rfl _ rfl (pre := []) (old := [.string (bs t.v), .int .i64 t.x.k, .int .i64 t.x.n, .string t.x.s]) (post := []) (S5.out.row (x := (w1.heap.size, 48, [.string (bs t.v), .int .i64 t.x.k, .int .i64 t.x.n, .string t.x.s])) (by simp)) rfl rfl (by kernel_rfl) rfl ?_; intro w6 hR6 hF6 hs6; replace hR6 : Row 48 w6 w1.heap.size [.string (bs t'.t), .int .i64 0, .int .i64 0, .string ByteArray.empty] := hR6; have S6 := Lib.hid (S5.out.store (pre := [(W.heap.size, 48, zeroT)]) hR6 hF6); clear hR6 hF6 hs6)
              | (go_at_call 58; refine (HWA.out _ S6.out.rdr).mono ?_; rintro e w7 ⟨rfl, f7⟩))
            exact ⟨rfl, rfl, S6.out.fr.trans (f7.mono S6.out.fr.size)⟩
          | ok t3 r3 =>
            rw [hw] at HWA
            clear hw
            simp only
            by_cases h41 : (hdT z r3).t = [41]
            · rw [if_pos h41]
              have HNX : Hid (∀ V, RdrAt V rb tb z r3 o → Calls Tryz.prog 105 #[.pointer (some ⟨rb, 0, none⟩), .string ⟨#[41]⟩] V fun e w' => e = .returned (.bool true) ∧ V = w') := Lib.hid fun V hV => by
                have := next_any ⟨#[41]⟩ V hV
                rwa [show ((hdT z r3).t == ls ⟨#[41]⟩) = true by rw [h41]; rfl] at this
              clear h41
              go_enter Tryz.func82, Tryz.ntmps82
              go_wp2_with (first
                | (go_at_call 104; refine (HFK.out _).mono ?_; rintro e w1 ⟨rfl, rfl⟩)
                | (go_at_call 60; refine HT.out.mono ?_; rintro e w1 ⟨rfl, h1, f1⟩; have S1 := Lib.hid (HST.out.call h1 f1); have S2 := Lib.hid (S1.out.new 48 [.string (bs t.v), .int .i64 t.x.k, .int .i64 t.x.n, .string t.x.s]); unfold Tm.val; clear h1 f1)
                | (go_at_call 83; refine (HSK.out _ S2.out.rdr).mono ?_; rintro e w3 ⟨rfl, h3, f3⟩; have S3 := Lib.hid (S2.out.call h3 f3); have hw1 := f3.size; simp only [World.size_alloc] at hw1; clear h3 f3)
                | (go_at_call 53; refine (HND.out _ S3.out.rdr).mono ?_; rintro e w5 ⟨rfl, h5, f5⟩; have S5 := Lib.hid (S3.out.call h5 f5); unfold Tk.val; clear h5 f5)
                | (refine wpList_storeR rfl 48 (.tmp 5) _ rfl w1.heap.size 0 rfl (.agg #[.string (bs t'.t), .int .i64 0, .int .i64 0, .string ByteArray.empty]) rfl _ rfl (pre := []) (old := [.string (bs t.v), .int .i64 t.x.k, .int .i64 t.x.n, .string t.x.s]) (post := []) (S5.out.row (x := (w1.heap.size, 48, [.string (bs t.v), .int .i64 t.x.k, .int .i64 t.x.n, .string t.x.s])) (by simp)) rfl rfl (by kernel_rfl) rfl ?_; intro w6 hR6 hF6 hs6; replace hR6 : Row 48 w6 w1.heap.size [.string (bs t'.t), .int .i64 0, .int .i64 0, .string ByteArray.empty] := hR6; have S6 := Lib.hid (S5.out.store (pre := [(W.heap.size, 48, zeroT)]) hR6 hF6); clear hR6 hF6 hs6)
                | (go_at_call 58; refine (HWA.out _ S6.out.rdr).mono ?_; rintro e w7 ⟨rfl, h7, f7⟩; have S7 := Lib.hid (S6.out.call h7 f7); clear h7 f7)
                | (go_at_call 105; refine (HNX.out _ S7.out.rdr).mono ?_; rintro e w8 ⟨rfl, rfl⟩)
                | (refine wpList_loadR rfl 48 (.tmp 5) rfl w1.heap.size 0 rfl (pre := []) (mid := [.string (bs t'.t), .int .i64 0, .int .i64 0, .string ByteArray.empty]) (post := []) (S7.out.row (x := (w1.heap.size, 48, [.string (bs t'.t), .int .i64 0, .int .i64 0, .string ByteArray.empty])) (by simp)) rfl Tryz.underlying48 rfl (by kernel_rfl) ?_)
                | (refine wpList_storeR rfl 48 (.tmp 2) _ rfl W.heap.size 0 rfl (.agg #[.string (bs t'.t), .int .i64 0, .int .i64 0, .string ByteArray.empty]) rfl _ rfl (pre := []) (old := zeroT) (post := []) (S7.out.row (x := (W.heap.size, 48, zeroT)) (by simp)) rfl rfl (by kernel_rfl) rfl ?_; intro w10 hR10 hF10 hs10; have S10 := Lib.hid (S7.out.store (pre := []) hR10 hF10)))
              refine bodyPost_ret (results_cell_tmp rfl _ _ W.heap.size _ _ _ _ _ rfl rfl hR10 Tryz.underlying48 rfl (by kernel_rfl)) rfl ?_
              exact ⟨rfl, S10.out.rdr, S10.out.fr⟩
            · rw [if_neg h41]
              have HNX : Hid (∀ V, RdrAt V rb tb z r3 o → Calls Tryz.prog 105 #[.pointer (some ⟨rb, 0, none⟩), .string ⟨#[41]⟩] V fun e w' => e = .returned (.bool false) ∧ V = w') := Lib.hid fun V hV => by
                have := next_any ⟨#[41]⟩ V hV
                rwa [show ((hdT z r3).t == ls ⟨#[41]⟩) = false from beq_eq_false_iff_ne.2 h41] at this
              have HFA : Hid (∀ V, RdrAt V rb tb z r3 o → Calls Tryz.prog 56 #[.pointer (some ⟨rb, 0, none⟩), .int .i64 2] V fun e w' => e = .panicked [{ v := faultP (hdT z r3).a 2, recovered := false }] ∧ V = w') := Lib.hid fun V hV => fail_any 2 V hV
              clear h41
              go_enter Tryz.func82, Tryz.ntmps82
              go_wp2_with (first
                | (go_at_call 104; refine (HFK.out _).mono ?_; rintro e w1 ⟨rfl, rfl⟩)
                | (go_at_call 60; refine HT.out.mono ?_; rintro e w1 ⟨rfl, h1, f1⟩; have S1 := Lib.hid (HST.out.call h1 f1); have S2 := Lib.hid (S1.out.new 48 [.string (bs t.v), .int .i64 t.x.k, .int .i64 t.x.n, .string t.x.s]); unfold Tm.val; clear h1 f1)
                | (go_at_call 83; refine (HSK.out _ S2.out.rdr).mono ?_; rintro e w3 ⟨rfl, h3, f3⟩; have S3 := Lib.hid (S2.out.call h3 f3); have hw1 := f3.size; simp only [World.size_alloc] at hw1; clear h3 f3)
                | (go_at_call 53; refine (HND.out _ S3.out.rdr).mono ?_; rintro e w5 ⟨rfl, h5, f5⟩; have S5 := Lib.hid (S3.out.call h5 f5); unfold Tk.val; clear h5 f5)
                | (refine wpList_storeR rfl 48 (.tmp 5) _ rfl w1.heap.size 0 rfl (.agg #[.string (bs t'.t), .int .i64 0, .int .i64 0, .string ByteArray.empty]) rfl _ rfl (pre := []) (old := [.string (bs t.v), .int .i64 t.x.k, .int .i64 t.x.n, .string t.x.s]) (post := []) (S5.out.row (x := (w1.heap.size, 48, [.string (bs t.v), .int .i64 t.x.k, .int .i64 t.x.n, .string t.x.s])) (by simp)) rfl rfl (by kernel_rfl) rfl ?_; intro w6 hR6 hF6 hs6; replace hR6 : Row 48 w6 w1.heap.size [.string (bs t'.t), .int .i64 0, .int .i64 0, .string ByteArray.empty] := hR6; have S6 := Lib.hid (S5.out.store (pre := [(W.heap.size, 48, zeroT)]) hR6 hF6); clear hR6 hF6 hs6)
                | (go_at_call 58; refine (HWA.out _ S6.out.rdr).mono ?_; rintro e w7 ⟨rfl, h7, f7⟩; have S7 := Lib.hid (S6.out.call h7 f7); clear h7 f7)
                | (go_at_call 105; refine (HNX.out _ S7.out.rdr).mono ?_; rintro e w8 ⟨rfl, rfl⟩)
                | (go_at_call 56; refine (HFA.out _ S7.out.rdr).mono ?_; rintro e w9 ⟨rfl, rfl⟩))
              exact ⟨rfl, rfl, S7.out.fr⟩
      · rw [if_pos (.inr h40)]
        have HSK : Hid (∀ V, RdrAt V rb tb z r o → Calls Tryz.prog 83 #[.pointer (some ⟨rb, 0, none⟩), .string ⟨#[40]⟩] V fun e w' => e = .returned (.bool false) ∧ V = w') := Lib.hid fun V hV => skip_no ⟨#[40]⟩ V hV h40
        clear h40
        go_enter Tryz.func82, Tryz.ntmps82
        go_wp2_with (first
          | (go_at_call 104; refine (HFK.out _).mono ?_; rintro e w1 ⟨rfl, rfl⟩)
          | (go_at_call 60; refine HT.out.mono ?_; rintro e w1 ⟨rfl, h1, f1⟩; have S1 := Lib.hid (HST.out.call h1 f1); have S2 := Lib.hid (S1.out.new 48 [.string (bs t.v), .int .i64 t.x.k, .int .i64 t.x.n, .string t.x.s]); unfold Tm.val; clear h1 f1)
          | (go_at_call 83; refine (HSK.out _ S2.out.rdr).mono ?_; rintro e w3 ⟨rfl, rfl⟩)
          | (refine wpList_storeR rfl 48 (.tmp 2) _ rfl W.heap.size 0 rfl (.agg #[.string (bs t.v), .int .i64 t.x.k, .int .i64 t.x.n, .string t.x.s]) rfl _ rfl (pre := []) (old := zeroT) (post := []) (S2.out.row (x := (W.heap.size, 48, zeroT)) (by simp)) rfl rfl (by kernel_rfl) rfl ?_; intro w4 hR4 hF4 hs4; have S4 := Lib.hid (S2.out.store (pre := []) hR4 hF4)))
        refine bodyPost_ret (results_cell_tmp rfl _ _ W.heap.size _ _ _ _ _ rfl rfl hR4 Tryz.underlying48 rfl (by kernel_rfl)) rfl ?_
        exact ⟨rfl, S4.out.rdr, S4.out.fr⟩
end
end Go.Proofs.YtahljmddnfldlaaGreatDoor

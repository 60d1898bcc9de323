/-
  Package parse: lists of atoms. (This text is printed by tools/mklist.py.)
-/
import Derived.Test.YtahljmddnfldlaaGreatDoorPrsV
namespace Go.Proofs.YtahljmddnfldlaaGreatDoor
open Go.RowKit FloM ValM Go.Shelf
set_option linter.unusedVariables false
set_option linter.unusedSimpArgs false
/-! ### A call's own structs beside the reader, where more than the reader is written -/
structure LSX (X : Nat → Prop) (rb tb z o : Nat) (W : World) (rows : List Lrow) (ts : List Tk) (w : World) : Prop where
  rdr : RdrAt w rb tb z ts o
  fr : Fr X W.heap.size W w
  each : ∀ x ∈ rows, Row x.2.1 w x.1 x.2.2 ∧ W.heap.size ≤ x.1
  nd : (rows.map (·.1)).Nodup
  rl : rb < W.heap.size
  tl : tb < W.heap.size
  xl : ∀ k, X k → k < W.heap.size
  xr : X rb
section
variable {X : Nat → Prop} {W w w' : World} {rb tb z o : Nat} {ts r : List Tk} {rows pre post : List Lrow} {g : Nat} {T : TypeId} {cs cs' : List Value}
theorem LSX.start (h : RdrAt W rb tb z ts o) (hX : ∀ k, X k → k < W.heap.size) (hr : X rb) : LSX X rb tb z o W [] ts W := ⟨h, Fr.refl _ _ _, (fun x hx => by cases hx), List.nodup_nil, h.lt, h.tlt, hX, hr⟩
theorem LSX.on (h : LSX X rb tb z o W rows ts w) (hb : Below w.heap.size w w') : LSX X rb tb z o W rows ts w' :=
  ⟨h.rdr.on hb, h.fr.trans (Fr.of (hb.mono h.fr.size)), fun x hx => ⟨rowOn (h.each x hx).1 hb, (h.each x hx).2⟩, h.nd, h.rl, h.tl, h.xl, h.xr⟩
theorem LSX.new (h : LSX X rb tb z o W rows ts w) (T : TypeId) (cs : List Value) : LSX X rb tb z o W (rows ++ [(w.heap.size, T, cs)]) ts (w.alloc (.cells cs.toArray T)) := by
  have h' := h.on ((Below.refl _ _).alloc (Nat.le_refl _) (.cells cs.toArray T))
  refine ⟨h'.rdr, h'.fr, fun x hx => ?_, ?_, h.rl, h.tl, h.xl, h.xr⟩
  · rw [List.mem_append, List.mem_singleton] at hx
    rcases hx with hx | rfl
    · exact h'.each x hx
    · exact ⟨row_new w cs, h.fr.size⟩
  · rw [List.map_append, List.nodup_append]
    refine ⟨h.nd, by simp, fun a ha b hb e => ?_⟩
    obtain ⟨x, hx, rfl⟩ := List.mem_map.1 ha
    simp at hb; subst hb
    have := (h.each x hx).1.lt
    omega
theorem LSX.callX (h : LSX X rb tb z o W rows ts w) (hr : RdrAt w' rb tb z r o) (hF : Fr X w.heap.size w w') : LSX X rb tb z o W rows r w' :=
  ⟨hr, h.fr.trans (hF.mono h.fr.size), fun x hx => ⟨(h.each x hx).1.fr hF (h.each x hx).1.lt (fun e => by have := (h.each x hx).2; have := h.xl _ e; omega), (h.each x hx).2⟩, h.nd, h.rl, h.tl, h.xl, h.xr⟩
theorem LSX.call (h : LSX X rb tb z o W rows ts w) (hr : RdrAt w' rb tb z r o) (hF : Fr (· = rb) w.heap.size w w') : LSX X rb tb z o W rows r w' := h.callX hr (hF.toX h.xr)
theorem LSX.row (h : LSX X rb tb z o W rows ts w) {x : Lrow} (hx : x ∈ rows) : Row x.2.1 w x.1 x.2.2 := (h.each x hx).1
theorem LSX.ge (h : LSX X rb tb z o W rows ts w) {x : Lrow} (hx : x ∈ rows) : W.heap.size ≤ x.1 := (h.each x hx).2
theorem LSX.lt (h : LSX X rb tb z o W rows ts w) {x : Lrow} (hx : x ∈ rows) : x.1 < w.heap.size := (h.each x hx).1.lt
theorem LSX.store (h : LSX X rb tb z o W (pre ++ (g, T, cs) :: post) ts w) (hR : Row T w' g cs') (hF : ∀ B, Fr (· = g) B w w') : LSX X rb tb z o W (pre ++ (g, T, cs') :: post) ts w' := by
  have hg := h.ge (x := (g, T, cs)) (by simp)
  have hrl := h.rl; have htl := h.tl
  have hn := h.nd
  simp only [List.map_append, List.map_cons] at hn
  refine ⟨rdr_fr h.rdr (by simp only at hg; omega) (by simp only at hg; omega) hF, h.fr.trans (Fr.of ((hF W.heap.size).below (Nat.le_refl _) fun k hk e => by simp only at hg; omega)), fun x hx => ?_, by simpa using hn, hrl, htl, h.xl, h.xr⟩
  have hx' : x = (g, T, cs') ∨ x ∈ pre ∨ x ∈ post := by simp at hx; rcases hx with h | h | h <;> simp [h]
  rcases hx' with rfl | hx'
  · exact ⟨hR, hg⟩
  · have hm : x ∈ pre ++ (g, T, cs) :: post := by simp; rcases hx' with h | h <;> simp [h]
    have hne : x.1 ≠ g := fun e => by
      rw [List.nodup_append] at hn
      rcases hx' with hp | hp
      · exact hn.2.2 x.1 (List.mem_map_of_mem hp) g (by simp) e
      · have := (List.nodup_cons.1 hn.2.1).1
        exact this (e ▸ List.mem_map_of_mem hp)
    exact ⟨(h.each x hm).1.fr (hF (w.heap.size)) (h.each x hm).1.lt hne, (h.each x hm).2⟩
end
/-- What comes of an atom, beside more. -/
def AtomQ {α β : Type} (cl : β → List Value) (ab : β → α) (S : List β → World → Prop) (X : Nat → Prop) (R : Ans (List UInt8 × List α)) (rb tb z o : Nat) (W : World) (e : Ending) (w' : World) : Prop := match R with
  | .ok x r => ∃ (l : List β) (A : Option Addr) (c : Nat), l.map ab = x.2 ∧ e = .returned (.agg #[.string (bs x.1), .slice A l.length c]) ∧ OwnX 48 4 cl w' W.heap.size A c l ∧ RdrAt w' rb tb z r o ∧ S l w' ∧ Fr X W.heap.size W w'
  | .no a k => e = .panicked [{ v := faultP a k, recovered := false }] ∧ Fr X W.heap.size W w'
theorem OwnX.less {E : TypeId} {sz : Nat} {β : Type} {cl : β → List Value} {W : World} {b b' c : Nat} {A : Option Addr} {l : List β} (h : OwnX E sz cl W b A c l) (hb : b' ≤ b) : OwnX E sz cl W b' A c l := by
  refine ⟨h.1, ?_⟩
  rcases h.2 with h0 | ⟨g, cap, cur, hv, hbg, r⟩
  · exact .inl h0
  · exact .inr ⟨g, cap, cur, hv, Nat.le_trans hb hbg, r⟩
/-- More than the reader was written: what stands in old blocks else stays. -/
def OldS {β : Type} (W : World) (rb : Nat) (S : List β → World → Prop) : Prop := ∀ l V V' Y, W.heap.size ≤ V.heap.size → S l V → (∀ k, Y k → k = rb ∨ W.heap.size ≤ k) → Fr Y V.heap.size V V' → S l V'
section
variable {W W' : World} {rb tb z o xb : Nat} {ts : List Tk}
set_option maxRecDepth 20000 in
set_option maxHeartbeats 16000000 in
theorem atom_term {α β : Type} (ab : β → α) (tm : β → Tm) (S : List β → World → Prop) (X : Nat → Prop) (item : Ps α) (hst : StrictP item) (W : World) (hX : ∀ k, X k → k < W.heap.size) (hXr : X rb) (hS : OldS W rb S)
    (hit : ∀ V r l, r <:+ ts → RdrAt V rb tb z r o → W.heap.size ≤ V.heap.size → S l V → Calls Tryz.prog 60 #[.pointer (some ⟨rb, 0, none⟩)] V (ItemQ ab (fun b => .agg #[.string (bs (tm b).v), .int .i64 (tm b).x.k, .int .i64 (tm b).x.n, .string (tm b).x.s]) S X (item z r) rb tb z o l V))
    (h : RdrAt W rb tb z ts o) (hg : GoodT ts) (hts : ts.length ≤ 20009) (hs0 : S [] W) :
    Calls Tryz.prog 59 #[.pointer (some ⟨rb, 0, none⟩), .func (.func 60) #[] #[]] W (AtomQ (fun b => [.string (bs (tm b).v), .int .i64 (tm b).x.k, .int .i64 (tm b).x.n, .string (tm b).x.s]) ab S X (atomB item z ts) rb tb z o W) := by
  have hrl := h.lt
  have hst0 := (LSX.start h hX hXr).new 25 [.string ByteArray.empty, .slice none 0 0]
  have HST := Lib.hid hst0
  have HN := Lib.hid (need_pred _ hst0.rdr)
  have HS : Hid (∀ l V V' Y, W.heap.size ≤ V.heap.size → S l V → (∀ k, Y k → k = rb ∨ W.heap.size ≤ k) → Fr Y V.heap.size V V' → S l V') := Lib.hid hS
  have HS0 := Lib.hid (hS _ _ (W.alloc (.cells #[.string ByteArray.empty, .slice none 0 0] 25)) (· = rb) (Nat.le_refl _) hs0 (fun k hk => .inl hk) (Fr.of ((Below.refl _ _).alloc (Nat.le_refl _) _)))
  unfold atomB
  clear h hst0 hS
  cases hn : needP predT z ts with
  | no a k =>
    rw [hn] at HN
    simp only [Ans.bind]
    clear hn hit
    go_enter Tryz.func59, Tryz.ntmps59
    go_wp2_with (first
      | (go_at_call 53; refine HN.out.mono ?_; rintro e w1 ⟨rfl, f1⟩))
    exact ⟨rfl, rfl, HST.out.fr.trans ((f1.toX hXr).mono HST.out.fr.size)⟩
  | ok t r =>
    rw [hn] at HN
    obtain ⟨rfl, hpt⟩ := need_len hn
    have hfd := field_tok (t.k : Int) (t.a : Int) (bs t.t)
    simp only [Ans.bind]
    clear hn hpt
    by_cases h40 : (hdT z r).t = [40]
    · rw [if_pos h40]
      obtain ⟨u, q, rfl⟩ : ∃ u q, r = u :: q := ⟨_, _, hd_tail h40 (by simp)⟩
      have HSK : Hid (∀ V, RdrAt V rb tb z (u :: q) o → Calls Tryz.prog 83 #[.pointer (some ⟨rb, 0, none⟩), .string ⟨#[40]⟩] V fun e w' => e = .returned (.bool true) ∧ RdrAt w' rb tb z q o ∧ Fr (· = rb) V.heap.size V w') := Lib.hid fun V hV => skip_yes ⟨#[40]⟩ V hV h40 (by decide)
      simp only [List.length_cons] at hts
      have hsub : q <:+ t :: u :: q := ⟨[t, u], rfl⟩
      have HLI : Hid (∀ V, RdrAt V rb tb z q o → W.heap.size ≤ V.heap.size → S [] V → Calls Tryz.prog 87 #[.pointer (some ⟨rb, 0, none⟩), .int .i64 8, .func (.func 60) #[] #[]] V (ListQ 48 4 (fun b => [.string (bs (tm b).v), .int .i64 (tm b).x.k, .int .i64 (tm b).x.n, .string (tm b).x.s]) ab (fun l U => S l U ∧ V.heap.size ≤ U.heap.size) X (listP 8 item z q) rb tb z o V)) := Lib.hid fun V hV hVs hSV =>
        list_term ab tm (fun l U => S l U ∧ V.heap.size ≤ U.heap.size) X item hst V (fun k hk => Nat.lt_of_lt_of_le (hX k hk) hVs) hXr
          (fun l U U' hl hF => ⟨HS.out l U U' (· = rb) (Nat.le_trans hVs hl.2) hl.1 (fun k hk => .inl hk) hF, Nat.le_trans hl.2 hF.size⟩)
          (fun l U U' k hl hgr hk => ⟨HS.out l U U' (fun j => k = some j) (Nat.le_trans hVs hl.2) hl.1 (fun j hj => .inr (Nat.le_trans hVs (hk j hj).1)) (fr_of_grown hgr), Nat.le_trans hl.2 hgr.size⟩)
          (fun U r2 l hr2 hU hUs hSU => (hit U r2 l (hr2.trans hsub) hU (Nat.le_trans hVs hUs) hSU.1).mono (by
            intro e w' hq
            cases hi : item z r2 with
            | ok x r3 =>
              rw [hi] at hq
              obtain ⟨b, h1, h2, h3, h4, h5⟩ := hq
              exact ⟨b, h1, h2, h3, ⟨h4, Nat.le_trans hUs h5.size⟩, h5⟩
            | no a k => rw [hi] at hq; exact hq))
          hV (hg.suf hsub) (by omega) ⟨hSV, Nat.le_refl _⟩
      simp only [List.tail_cons]
      clear h40 hsub hit
      cases hl : listP 8 item z q with
      | no a k =>
        rw [hl] at HLI
        simp only [Ans.bind]
        clear hl
        go_enter Tryz.func59, Tryz.ntmps59
        go_wp2_with (first
          | (go_at_call 53; refine HN.out.mono ?_; rintro e w1 ⟨rfl, h1, f1⟩; have S1 := Lib.hid (HST.out.call h1 f1); have S2 := Lib.hid (S1.out.new 25 [.string (bs t.t), .slice none 0 0]); unfold Tk.val; have hz1 := f1.size; simp only [World.size_alloc] at hz1; have SS1 := Lib.hid (HS.out _ _ w1 (· = rb) (by simp) HS0.out (fun k hk => .inl hk) f1); have SS2 := Lib.hid (HS.out _ _ (w1.alloc (.cells #[.string (bs t.t), .slice none 0 0] 25)) (· = rb) (by omega) SS1.out (fun k hk => .inl hk) (Fr.of ((Below.refl _ _).alloc (Nat.le_refl _) _))); clear h1 f1 SS1)
          | (go_at_call 83; refine (HSK.out _ S2.out.rdr).mono ?_; rintro e w3 ⟨rfl, h3, f3⟩; have S3 := Lib.hid (S2.out.call h3 f3); have hz3 := f3.size; simp only [World.size_alloc] at hz3; have SS3 := Lib.hid (HS.out _ _ w3 (· = rb) (by simp; omega) SS2.out (fun k hk => .inl hk) f3); clear h3 f3)
          | (go_at_call 87; refine (HLI.out _ S3.out.rdr (by omega) SS3.out).mono ?_; rintro e w4 ⟨rfl, f4⟩))
        exact ⟨rfl, rfl, S3.out.fr.trans (f4.mono S3.out.fr.size)⟩
      | ok xs r2 =>
        rw [hl] at HLI
        have HWA : Hid (∀ V, RdrAt V rb tb z r2 o → _) := Lib.hid fun V hV => want_new ⟨#[41]⟩ V hV (by decide)
        rw [show ls ⟨#[41]⟩ = [41] from rfl] at HWA
        simp only [Ans.bind]
        clear hl
        cases hw : wantP [41] z r2 with
        | no a k =>
          rw [hw] at HWA
          clear hw
          go_enter Tryz.func59, Tryz.ntmps59
          go_wp2_with (first
            | (go_at_call 53; refine HN.out.mono ?_; rintro e w1 ⟨rfl, h1, f1⟩; have S1 := Lib.hid (HST.out.call h1 f1); have S2 := Lib.hid (S1.out.new 25 [.string (bs t.t), .slice none 0 0]); unfold Tk.val; have hz1 := f1.size; simp only [World.size_alloc] at hz1; have SS1 := Lib.hid (HS.out _ _ w1 (· = rb) (by simp) HS0.out (fun k hk => .inl hk) f1); have SS2 := Lib.hid (HS.out _ _ (w1.alloc (.cells #[.string (bs t.t), .slice none 0 0] 25)) (· = rb) (by omega) SS1.out (fun k hk => .inl hk) (Fr.of ((Below.refl _ _).alloc (Nat.le_refl _) _))); clear h1 f1 SS1)
            | (go_at_call 83; refine (HSK.out _ S2.out.rdr).mono ?_; rintro e w3 ⟨rfl, h3, f3⟩; have S3 := Lib.hid (S2.out.call h3 f3); have hz3 := f3.size; simp only [World.size_alloc] at hz3; have SS3 := Lib.hid (HS.out _ _ w3 (· = rb) (by simp; omega) SS2.out (fun k hk => .inl hk) f3); clear h3 f3)
            | (go_at_call 87; refine (HLI.out _ S3.out.rdr (by omega) SS3.out).mono ?_; rintro e w4 ⟨l, A, c, hab, rfl, own4, h4, s4, f4⟩; have HAB := Lib.hid hab; have O4 := Lib.hid own4; have SS4 := Lib.hid s4.1; have S4 := Lib.hid (S3.out.callX h4 f4); have hz4 := f4.size; clear hab own4 h4 s4 f4)
            | (refine wpList_storeR rfl 23 (.tmp 15) _ rfl w1.heap.size 1 rfl (.slice A l.length c) rfl [.slice A l.length c] rfl (pre := [.string (bs t.t)]) (old := [.slice none 0 0]) (post := []) (S4.out.row (x := (w1.heap.size, 25, [.string (bs t.t), .slice none 0 0])) (by simp)) rfl rfl (by kernel_rfl) rfl ?_; intro w5 hR5 hF5 hs5; have hz5 : w4.heap.size ≤ w5.heap.size := (by omega); clear hs5; replace hR5 : Row 25 w5 w1.heap.size [.string (bs t.t), .slice A l.length c] := hR5; have S5 := Lib.hid (S4.out.store (pre := [(W.heap.size, 25, [.string ByteArray.empty, .slice none 0 0])]) hR5 hF5); have O5 := Lib.hid (own_frx O4.out (fun k (hk : k = w1.heap.size) => by omega) (hF5 _)); have SS5 := Lib.hid (HS.out _ _ w5 (· = w1.heap.size) (by omega) SS4.out (fun k (hk : k = w1.heap.size) => .inr (by omega)) (hF5 _)); clear hR5 hF5)
            | (go_at_call 58; refine (HWA.out _ S5.out.rdr).mono ?_; rintro e w7 ⟨rfl, f7⟩))
          exact ⟨rfl, rfl, S5.out.fr.trans ((f7.toX hXr).mono S5.out.fr.size)⟩
        | ok t3 r3 =>
          rw [hw] at HWA
          clear hw
          go_enter Tryz.func59, Tryz.ntmps59
          go_wp2_with (first
            | (go_at_call 53; refine HN.out.mono ?_; rintro e w1 ⟨rfl, h1, f1⟩; have S1 := Lib.hid (HST.out.call h1 f1); have S2 := Lib.hid (S1.out.new 25 [.string (bs t.t), .slice none 0 0]); unfold Tk.val; have hz1 := f1.size; simp only [World.size_alloc] at hz1; have SS1 := Lib.hid (HS.out _ _ w1 (· = rb) (by simp) HS0.out (fun k hk => .inl hk) f1); have SS2 := Lib.hid (HS.out _ _ (w1.alloc (.cells #[.string (bs t.t), .slice none 0 0] 25)) (· = rb) (by omega) SS1.out (fun k hk => .inl hk) (Fr.of ((Below.refl _ _).alloc (Nat.le_refl _) _))); clear h1 f1 SS1)
            | (go_at_call 83; refine (HSK.out _ S2.out.rdr).mono ?_; rintro e w3 ⟨rfl, h3, f3⟩; have S3 := Lib.hid (S2.out.call h3 f3); have hz3 := f3.size; simp only [World.size_alloc] at hz3; have SS3 := Lib.hid (HS.out _ _ w3 (· = rb) (by simp; omega) SS2.out (fun k hk => .inl hk) f3); clear h3 f3)
            | (go_at_call 87; refine (HLI.out _ S3.out.rdr (by omega) SS3.out).mono ?_; rintro e w4 ⟨l, A, c, hab, rfl, own4, h4, s4, f4⟩; have HAB := Lib.hid hab; have O4 := Lib.hid own4; have SS4 := Lib.hid s4.1; have S4 := Lib.hid (S3.out.callX h4 f4); have hz4 := f4.size; clear hab own4 h4 s4 f4)
            | (refine wpList_storeR rfl 23 (.tmp 15) _ rfl w1.heap.size 1 rfl (.slice A l.length c) rfl [.slice A l.length c] rfl (pre := [.string (bs t.t)]) (old := [.slice none 0 0]) (post := []) (S4.out.row (x := (w1.heap.size, 25, [.string (bs t.t), .slice none 0 0])) (by simp)) rfl rfl (by kernel_rfl) rfl ?_; intro w5 hR5 hF5 hs5; have hz5 : w4.heap.size ≤ w5.heap.size := (by omega); clear hs5; replace hR5 : Row 25 w5 w1.heap.size [.string (bs t.t), .slice A l.length c] := hR5; have S5 := Lib.hid (S4.out.store (pre := [(W.heap.size, 25, [.string ByteArray.empty, .slice none 0 0])]) hR5 hF5); have O5 := Lib.hid (own_frx O4.out (fun k (hk : k = w1.heap.size) => by omega) (hF5 _)); have SS5 := Lib.hid (HS.out _ _ w5 (· = w1.heap.size) (by omega) SS4.out (fun k (hk : k = w1.heap.size) => .inr (by omega)) (hF5 _)); clear hR5 hF5)
            | (go_at_call 58; refine (HWA.out _ S5.out.rdr).mono ?_; rintro e w7 ⟨rfl, h7, f7⟩; have S7 := Lib.hid (S5.out.call h7 f7); have O7 := Lib.hid (own_frx O5.out (fun k (hk : k = rb) => by omega) f7); have SS7 := Lib.hid (HS.out _ _ w7 (· = rb) (by omega) SS5.out (fun k hk => .inl hk) f7); have hz7 := f7.size; clear h7 f7)
            | (refine wpList_loadR rfl 25 (.tmp 5) rfl w1.heap.size 0 rfl (pre := []) (mid := [.string (bs t.t), .slice A l.length c]) (post := []) (S7.out.row (x := (w1.heap.size, 25, [.string (bs t.t), .slice A l.length c])) (by simp)) rfl Tryz.underlying25 rfl (by kernel_rfl) ?_)
            | (refine wpList_storeR rfl 25 (.tmp 4) _ rfl W.heap.size 0 rfl (.agg #[.string (bs t.t), .slice A l.length c]) rfl _ rfl (pre := []) (old := [.string ByteArray.empty, .slice none 0 0]) (post := []) (S7.out.row (x := (W.heap.size, 25, [.string ByteArray.empty, .slice none 0 0])) (by simp)) rfl rfl (by kernel_rfl) rfl ?_; intro w10 hR10 hF10 hs10; have S10 := Lib.hid (S7.out.store (pre := []) hR10 hF10)))
          refine bodyPost_ret (results_cell_row rfl _ _ W.heap.size _ _ _ _ rfl hR10 Tryz.underlying25 rfl (by kernel_rfl)) rfl ?_
          exact ⟨l, A, c, HAB.out, rfl, OwnX.less (own_frx O7.out (fun k (hk : k = W.heap.size) => by omega) (hF10 _)) (by omega), S10.out.rdr, HS.out _ _ _ (· = W.heap.size) (by omega) SS7.out (fun k hk => .inr (by omega)) (hF10 _), S10.out.fr⟩
    · rw [if_neg h40]
      have HSK : Hid (∀ V, RdrAt V rb tb z r o → Calls Tryz.prog 83 #[.pointer (some ⟨rb, 0, none⟩), .string ⟨#[40]⟩] V fun e w' => e = .returned (.bool false) ∧ V = w') := Lib.hid fun V hV => skip_no ⟨#[40]⟩ V hV h40
      clear h40 hit
      go_enter Tryz.func59, Tryz.ntmps59
      go_wp2_with (first
        | (go_at_call 53; refine HN.out.mono ?_; rintro e w1 ⟨rfl, h1, f1⟩; have S1 := Lib.hid (HST.out.call h1 f1); have S2 := Lib.hid (S1.out.new 25 [.string (bs t.t), .slice none 0 0]); unfold Tk.val; have hz1 := f1.size; simp only [World.size_alloc] at hz1; have SS1 := Lib.hid (HS.out _ _ w1 (· = rb) (by simp) HS0.out (fun k hk => .inl hk) f1); have SS2 := Lib.hid (HS.out _ _ (w1.alloc (.cells #[.string (bs t.t), .slice none 0 0] 25)) (· = rb) (by omega) SS1.out (fun k hk => .inl hk) (Fr.of ((Below.refl _ _).alloc (Nat.le_refl _) _))); clear h1 f1 SS1)
        | (go_at_call 83; refine (HSK.out _ S2.out.rdr).mono ?_; rintro e w3 ⟨rfl, rfl⟩)
        | (refine wpList_storeR rfl 25 (.tmp 4) _ rfl W.heap.size 0 rfl (.agg #[.string (bs t.t), .slice none 0 0]) rfl _ rfl (pre := []) (old := [.string ByteArray.empty, .slice none 0 0]) (post := []) (S2.out.row (x := (W.heap.size, 25, [.string ByteArray.empty, .slice none 0 0])) (by simp)) rfl rfl (by kernel_rfl) rfl ?_; intro w10 hR10 hF10 hs10; have S10 := Lib.hid (S2.out.store (pre := []) hR10 hF10)))
      refine bodyPost_ret (results_cell_row rfl _ _ W.heap.size _ _ _ _ rfl hR10 Tryz.underlying25 rfl (by kernel_rfl)) rfl ?_
      exact ⟨[], none, 0, rfl, rfl, own_nil _ _ _ _, S10.out.rdr, HS.out _ _ _ (· = W.heap.size) (by simp; omega) SS2.out (fun k hk => .inr (by omega)) (hF10 _), S10.out.fr⟩
set_option maxRecDepth 20000 in
set_option maxHeartbeats 16000000 in
theorem atom_head {α β : Type} (ab : β → α) (tm : β → Tm) (S : List β → World → Prop) (X : Nat → Prop) (item : Ps α) (hst : StrictP item) (W : World) (hX : ∀ k, X k → k < W.heap.size) (hXr : X rb) (hS : OldS W rb S)
    (hit : ∀ V r l, r <:+ ts → RdrAt V rb tb z r o → W.heap.size ≤ V.heap.size → S l V → Calls Tryz.prog 81 #[.pointer (some ⟨rb, 0, none⟩), .pointer (some ⟨xb, 0, none⟩)] V (ItemQ ab (fun b => .agg #[.string (bs (tm b).v), .int .i64 (tm b).x.k, .int .i64 (tm b).x.n, .string (tm b).x.s]) S X (item z r) rb tb z o l V))
    (h : RdrAt W rb tb z ts o) (hg : GoodT ts) (hts : ts.length ≤ 20009) (hs0 : S [] W) :
    Calls Tryz.prog 59 #[.pointer (some ⟨rb, 0, none⟩), .func (.func 81) #[] #[.pointer (some ⟨xb, 0, none⟩)]] W (AtomQ (fun b => [.string (bs (tm b).v), .int .i64 (tm b).x.k, .int .i64 (tm b).x.n, .string (tm b).x.s]) ab S X (atomB item z ts) rb tb z o W) := by
  have hrl := h.lt
  have hst0 := (LSX.start h hX hXr).new 25 [.string ByteArray.empty, .slice none 0 0]
  have HST := Lib.hid hst0
  have HN := Lib.hid (need_pred _ hst0.rdr)
  have HS : Hid (∀ l V V' Y, W.heap.size ≤ V.heap.size → S l V → (∀ k, Y k → k = rb ∨ W.heap.size ≤ k) → Fr Y V.heap.size V V' → S l V') := Lib.hid hS
  have HS0 := Lib.hid (hS _ _ (W.alloc (.cells #[.string ByteArray.empty, .slice none 0 0] 25)) (· = rb) (Nat.le_refl _) hs0 (fun k hk => .inl hk) (Fr.of ((Below.refl _ _).alloc (Nat.le_refl _) _)))
  unfold atomB
  clear h hst0 hS
  cases hn : needP predT z ts with
  | no a k =>
    rw [hn] at HN
    simp only [Ans.bind]
    clear hn hit
    go_enter Tryz.func59, Tryz.ntmps59
    go_wp2_with (first
      | (go_at_call 53; refine HN.out.mono ?_; rintro e w1 ⟨rfl, f1⟩))
    exact ⟨rfl, rfl, HST.out.fr.trans ((f1.toX hXr).mono HST.out.fr.size)⟩
  | ok t r =>
    rw [hn] at HN
    obtain ⟨rfl, hpt⟩ := need_len hn
    have hfd := field_tok (t.k : Int) (t.a : Int) (bs t.t)
    simp only [Ans.bind]
    clear hn hpt
    by_cases h40 : (hdT z r).t = [40]
    · rw [if_pos h40]
      obtain ⟨u, q, rfl⟩ : ∃ u q, r = u :: q := ⟨_, _, hd_tail h40 (by simp)⟩
      have HSK : Hid (∀ V, RdrAt V rb tb z (u :: q) o → Calls Tryz.prog 83 #[.pointer (some ⟨rb, 0, none⟩), .string ⟨#[40]⟩] V fun e w' => e = .returned (.bool true) ∧ RdrAt w' rb tb z q o ∧ Fr (· = rb) V.heap.size V w') := Lib.hid fun V hV => skip_yes ⟨#[40]⟩ V hV h40 (by decide)
      simp only [List.length_cons] at hts
      have hsub : q <:+ t :: u :: q := ⟨[t, u], rfl⟩
      have HLI : Hid (∀ V, RdrAt V rb tb z q o → W.heap.size ≤ V.heap.size → S [] V → Calls Tryz.prog 87 #[.pointer (some ⟨rb, 0, none⟩), .int .i64 8, .func (.func 81) #[] #[.pointer (some ⟨xb, 0, none⟩)]] V (ListQ 48 4 (fun b => [.string (bs (tm b).v), .int .i64 (tm b).x.k, .int .i64 (tm b).x.n, .string (tm b).x.s]) ab (fun l U => S l U ∧ V.heap.size ≤ U.heap.size) X (listP 8 item z q) rb tb z o V)) := Lib.hid fun V hV hVs hSV =>
        list_head ab tm (fun l U => S l U ∧ V.heap.size ≤ U.heap.size) X item hst V (fun k hk => Nat.lt_of_lt_of_le (hX k hk) hVs) hXr
          (fun l U U' hl hF => ⟨HS.out l U U' (· = rb) (Nat.le_trans hVs hl.2) hl.1 (fun k hk => .inl hk) hF, Nat.le_trans hl.2 hF.size⟩)
          (fun l U U' k hl hgr hk => ⟨HS.out l U U' (fun j => k = some j) (Nat.le_trans hVs hl.2) hl.1 (fun j hj => .inr (Nat.le_trans hVs (hk j hj).1)) (fr_of_grown hgr), Nat.le_trans hl.2 hgr.size⟩)
          (fun U r2 l hr2 hU hUs hSU => (hit U r2 l (hr2.trans hsub) hU (Nat.le_trans hVs hUs) hSU.1).mono (by
            intro e w' hq
            cases hi : item z r2 with
            | ok x r3 =>
              rw [hi] at hq
              obtain ⟨b, h1, h2, h3, h4, h5⟩ := hq
              exact ⟨b, h1, h2, h3, ⟨h4, Nat.le_trans hUs h5.size⟩, h5⟩
            | no a k => rw [hi] at hq; exact hq))
          hV (hg.suf hsub) (by omega) ⟨hSV, Nat.le_refl _⟩
      simp only [List.tail_cons]
      clear h40 hsub hit
      cases hl : listP 8 item z q with
      | no a k =>
        rw [hl] at HLI
        simp only [Ans.bind]
        clear hl
        go_enter Tryz.func59, Tryz.ntmps59
        go_wp2_with (first
          | (go_at_call 53; refine HN.out.mono ?_; rintro e w1 ⟨rfl, h1, f1⟩; have S1 := Lib.hid (HST.out.call h1 f1); have S2 := Lib.hid (S1.out.new 25 [.string (bs t.t), .slice none 0 0]); unfold Tk.val; have hz1 := f1.size; simp only [World.size_alloc] at hz1; have SS1 := Lib.hid (HS.out _ _ w1 (· = rb) (by simp) HS0.out (fun k hk => .inl hk) f1); have SS2 := Lib.hid (HS.out _ _ (w1.alloc (.cells #[.string (bs t.t), .slice none 0 0] 25)) (· = rb) (by omega) SS1.out (fun k hk => .inl hk) (Fr.of ((Below.refl _ _).alloc (Nat.le_refl _) _))); clear h1 f1 SS1)
          | (go_at_call 83; refine (HSK.out _ S2.out.rdr).mono ?_; rintro e w3 ⟨rfl, h3, f3⟩; have S3 := Lib.hid (S2.out.call h3 f3); have hz3 := f3.size; simp only [World.size_alloc] at hz3; have SS3 := Lib.hid (HS.out _ _ w3 (· = rb) (by simp; omega) SS2.out (fun k hk => .inl hk) f3); clear h3 f3)
          | (go_at_call 87; refine (HLI.out _ S3.out.rdr (by omega) SS3.out).mono ?_; rintro e w4 ⟨rfl, f4⟩))
        exact ⟨rfl, rfl, S3.out.fr.trans (f4.mono S3.out.fr.size)⟩
      | ok xs r2 =>
        rw [hl] at HLI
        have HWA : Hid (∀ V, RdrAt V rb tb z r2 o → _) := Lib.hid fun V hV => want_new ⟨#[41]⟩ V hV (by decide)
        rw [show ls ⟨#[41]⟩ = [41] from rfl] at HWA
        simp only [Ans.bind]
        clear hl
        cases hw : wantP [41] z r2 with
        | no a k =>
          rw [hw] at HWA
          clear hw
          go_enter Tryz.func59, Tryz.ntmps59
          go_wp2_with (first
            | (go_at_call 53; refine HN.out.mono ?_; rintro e w1 ⟨rfl, h1, f1⟩; have S1 := Lib.hid (HST.out.call h1 f1); have S2 := Lib.hid (S1.out.new 25 [.string (bs t.t), .slice none 0 0]); unfold Tk.val; have hz1 := f1.size; simp only [World.size_alloc] at hz1; have SS1 := Lib.hid (HS.out _ _ w1 (· = rb) (by simp) HS0.out (fun k hk => .inl hk) f1); have SS2 := Lib.hid (HS.out _ _ (w1.alloc (.cells #[.string (bs t.t), .slice none 0 0] 25)) (· = rb) (by omega) SS1.out (fun k hk => .inl hk) (Fr.of ((Below.refl _ _).alloc (Nat.le_refl _) _))); clear h1 f1 SS1)
            | (go_at_call 83; refine (HSK.out _ S2.out.rdr).mono ?_; rintro e w3 ⟨rfl, h3, f3⟩; have S3 := Lib.hid (S2.out.call h3 f3); have hz3 := f3.size; simp only [World.size_alloc] at hz3; have SS3 := Lib.hid (HS.out _ _ w3 (· = rb) (by simp; omega) SS2.out (fun k hk => .inl hk) f3); clear h3 f3)
            | (go_at_call 87; refine (HLI.out _ S3.out.rdr (by omega) SS3.out).mono ?_; rintro e w4 ⟨l, A, c, hab, rfl, own4, h4, s4, f4⟩; have HAB := Lib.hid hab; have O4 := Lib.hid own4; have SS4 := Lib.hid s4.1; have S4 := Lib.hid (S3.out.callX h4 f4); have hz4 := f4.size; clear hab own4 h4 s4 f4)
            | (refine wpList_storeR rfl 23 (.tmp 15) _ rfl w1.heap.size 1 rfl (.slice A l.length c) rfl [.slice A l.length c] rfl (pre := [.string (bs t.t)]) (old := [.slice none 0 0]) (post := []) (S4.out.row (x := (w1.heap.size, 25, [.string (bs t.t), .slice none 0 0])) (by simp)) rfl rfl (by kernel_rfl) rfl ?_; intro w5 hR5 hF5 hs5; have hz5 : w4.heap.size ≤ w5.heap.size := (by omega); clear hs5; replace hR5 : Row 25 w5 w1.heap.size [.string (bs t.t), .slice A l.length c] := hR5; have S5 := Lib.hid (S4.out.store (pre := [(W.heap.size, 25, [.string ByteArray.empty, .slice none 0 0])]) hR5 hF5); have O5 := Lib.hid (own_frx O4.out (fun k (hk : k = w1.heap.size) => by omega) (hF5 _)); have SS5 := Lib.hid (HS.out _ _ w5 (· = w1.heap.size) (by omega) SS4.out (fun k (hk : k = w1.heap.size) => .inr (by omega)) (hF5 _)); clear hR5 hF5)
            | (go_at_call 58; refine (HWA.out _ S5.out.rdr).mono ?_; rintro e w7 ⟨rfl, f7⟩))
          exact ⟨rfl, rfl, S5.out.fr.trans ((f7.toX hXr).mono S5.out.fr.size)⟩
        | ok t3 r3 =>
          rw [hw] at HWA
          clear hw
          go_enter Tryz.func59, Tryz.ntmps59
          go_wp2_with (first
            | (go_at_call 53; refine HN.out.mono ?_; rintro e w1 ⟨rfl, h1, f1⟩; have S1 := Lib.hid (HST.out.call h1 f1); have S2 := Lib.hid (S1.out.new 25 [.string (bs t.t), .slice none 0 0]); unfold Tk.val; have hz1 := f1.size; simp only [World.size_alloc] at hz1; have SS1 := Lib.hid (HS.out _ _ w1 (· = rb) (by simp) HS0.out (fun k hk => .inl hk) f1); have SS2 := Lib.hid (HS.out _ _ (w1.alloc (.cells #[.string (bs t.t), .slice none 0 0] 25)) (· = rb) (by omega) SS1.out (fun k hk => .inl hk) (Fr.of ((Below.refl _ _).alloc (Nat.le_refl _) _))); clear h1 f1 SS1)
            | (go_at_call 83; refine (HSK.out _ S2.out.rdr).mono ?_; rintro e w3 ⟨rfl, h3, f3⟩; have S3 := Lib.hid (S2.out.call h3 f3); have hz3 := f3.size; simp only [World.size_alloc] at hz3; have SS3 := Lib.hid (HS.out _ _ w3 (· = rb) (by simp; omega) SS2.out (fun k hk => .inl hk) f3); clear h3 f3)
            | (go_at_call 87; refine (HLI.out _ S3.out.rdr (by omega) SS3.out).mono ?_; rintro e w4 ⟨l, A, c, hab, rfl, own4, h4, s4, f4⟩; have HAB := Lib.hid hab; have O4 := Lib.hid own4; have SS4 := Lib.hid s4.1; have S4 := Lib.hid (S3.out.callX h4 f4); have hz4 := f4.size; clear hab own4 h4 s4 f4)
            | (refine wpList_storeR rfl 23 (.tmp 15) _ rfl w1.heap.size 1 rfl (.slice A l.length c) rfl [.slice A l.length c] rfl (pre := [.string (bs t.t)]) (old := [.slice none 0 0]) (post := []) (S4.out.row (x := (w1.heap.size, 25, [.string (bs t.t), .slice none 0 0])) (by simp)) rfl rfl (by kernel_rfl) rfl ?_; intro w5 hR5 hF5 hs5; have hz5 : w4.heap.size ≤ w5.heap.size := (by omega); clear hs5; replace hR5 : Row 25 w5 w1.heap.size [.string (bs t.t), .slice A l.length c] := hR5; have S5 := Lib.hid (S4.out.store (pre := [(W.heap.size, 25, [.string ByteArray.empty, .slice none 0 0])]) hR5 hF5); have O5 := Lib.hid (own_frx O4.out (fun k (hk : k = w1.heap.size) => by omega) (hF5 _)); have SS5 := Lib.hid (HS.out _ _ w5 (· = w1.heap.size) (by omega) SS4.out (fun k (hk : k = w1.heap.size) => .inr (by omega)) (hF5 _)); clear hR5 hF5)
            | (go_at_call 58; refine (HWA.out _ S5.out.rdr).mono ?_; rintro e w7 ⟨rfl, h7, f7⟩; have S7 := Lib.hid (S5.out.call h7 f7); have O7 := Lib.hid (own_frx O5.out (fun k (hk : k = rb) => by omega) f7); have SS7 := Lib.hid (HS.out _ _ w7 (· = rb) (by omega) SS5.out (fun k hk => .inl hk) f7); have hz7 := f7.size; clear h7 f7)
            | (refine wpList_loadR rfl 25 (.tmp 5) rfl w1.heap.size 0 rfl (pre := []) (mid := [.string (bs t.t), .slice A l.length c]) (post := []) (S7.out.row (x := (w1.heap.size, 25, [.string (bs t.t), .slice A l.length c])) (by simp)) rfl Tryz.underlying25 rfl (by kernel_rfl) ?_)
            | (refine wpList_storeR rfl 25 (.tmp 4) _ rfl W.heap.size 0 rfl (.agg #[.string (bs t.t), .slice A l.length c]) rfl _ rfl (pre := []) (old := [.string ByteArray.empty, .slice none 0 0]) (post := []) (S7.out.row (x := (W.heap.size, 25, [.string ByteArray.empty, .slice none 0 0])) (by simp)) rfl rfl (by kernel_rfl) rfl ?_; intro w10 hR10 hF10 hs10; have S10 := Lib.hid (S7.out.store (pre := []) hR10 hF10)))
          refine bodyPost_ret (results_cell_row rfl _ _ W.heap.size _ _ _ _ rfl hR10 Tryz.underlying25 rfl (by kernel_rfl)) rfl ?_
          exact ⟨l, A, c, HAB.out, rfl, OwnX.less (own_frx O7.out (fun k (hk : k = W.heap.size) => by omega) (hF10 _)) (by omega), S10.out.rdr, HS.out _ _ _ (· = W.heap.size) (by omega) SS7.out (fun k hk => .inr (by omega)) (hF10 _), S10.out.fr⟩
    · rw [if_neg h40]
      have HSK : Hid (∀ V, RdrAt V rb tb z r o → Calls Tryz.prog 83 #[.pointer (some ⟨rb, 0, none⟩), .string ⟨#[40]⟩] V fun e w' => e = .returned (.bool false) ∧ V = w') := Lib.hid fun V hV => skip_no ⟨#[40]⟩ V hV h40
      clear h40 hit
      go_enter Tryz.func59, Tryz.ntmps59
      go_wp2_with (first
        | (go_at_call 53; refine HN.out.mono ?_; rintro e w1 ⟨rfl, h1, f1⟩; have S1 := Lib.hid (HST.out.call h1 f1); have S2 := Lib.hid (S1.out.new 25 [.string (bs t.t), .slice none 0 0]); unfold Tk.val; have hz1 := f1.size; simp only [World.size_alloc] at hz1; have SS1 := Lib.hid (HS.out _ _ w1 (· = rb) (by simp) HS0.out (fun k hk => .inl hk) f1); have SS2 := Lib.hid (HS.out _ _ (w1.alloc (.cells #[.string (bs t.t), .slice none 0 0] 25)) (· = rb) (by omega) SS1.out (fun k hk => .inl hk) (Fr.of ((Below.refl _ _).alloc (Nat.le_refl _) _))); clear h1 f1 SS1)
        | (go_at_call 83; refine (HSK.out _ S2.out.rdr).mono ?_; rintro e w3 ⟨rfl, rfl⟩)
        | (refine wpList_storeR rfl 25 (.tmp 4) _ rfl W.heap.size 0 rfl (.agg #[.string (bs t.t), .slice none 0 0]) rfl _ rfl (pre := []) (old := [.string ByteArray.empty, .slice none 0 0]) (post := []) (S2.out.row (x := (W.heap.size, 25, [.string ByteArray.empty, .slice none 0 0])) (by simp)) rfl rfl (by kernel_rfl) rfl ?_; intro w10 hR10 hF10 hs10; have S10 := Lib.hid (S2.out.store (pre := []) hR10 hF10)))
      refine bodyPost_ret (results_cell_row rfl _ _ W.heap.size _ _ _ _ rfl hR10 Tryz.underlying25 rfl (by kernel_rfl)) rfl ?_
      exact ⟨[], none, 0, rfl, rfl, own_nil _ _ _ _, S10.out.rdr, HS.out _ _ _ (· = W.heap.size) (by simp; omega) SS2.out (fun k hk => .inr (by omega)) (hF10 _), S10.out.fr⟩
end
end Go.Proofs.YtahljmddnfldlaaGreatDoor

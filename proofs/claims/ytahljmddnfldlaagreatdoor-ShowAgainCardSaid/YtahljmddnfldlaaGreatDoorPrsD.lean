/-
  Package parse: paths.
-/
import Derived.Test.YtahljmddnfldlaaGreatDoorPrsC
import Derived.Maps.AppendAt
namespace Go.Proofs.YtahljmddnfldlaaGreatDoor
open Go.RowKit FloM ValM Go.Shelf
set_option linter.unusedVariables false
set_option linter.unusedSimpArgs false
theorem field_tok (a c : Int) (b : ByteArray) (w : World) : (Instr.field 92 (.agg #[.int .i64 a, .string b, .int .i64 c]) 1).run Tryz.prog w = .ok (.string b) w := by kernel_rfl
/-! ### Rows of steps -/
theorem info_step : (Tryz.prog.info? 43).map (fun i => (i.zero, i.size, i.bytes)) = some (some (.agg #[.int .i64 0, .string ByteArray.empty]), 2, 24) := by kernel_rfl
def scells (l : List St) : List Value := l.flatMap fun s => [.int .i64 (s.k : Int), .string (bs s.l)]
theorem scells_len (l : List St) : (scells l).length = l.length * 2 := by
  induction l with
  | nil => rfl
  | cons v l ih => simp only [scells, List.flatMap_cons, List.length_append, List.length_cons, List.length_nil] at ih ⊢; omega
theorem scells_app (a b : List St) : scells (a ++ b) = scells a ++ scells b := by simp [scells]
theorem scells_one (l : List St) : ∀ u ∈ scells l, u.oneCell' = true := fun u hu => by
  simp only [scells, List.mem_flatMap] at hu
  obtain ⟨o, _, hu⟩ := hu
  rcases List.mem_cons.1 hu with rfl | hu
  · rfl
  · rw [List.mem_singleton] at hu; subst hu; rfl
/-- A row of steps of the call's own. -/
def OwnS (W : World) (base : Nat) (A : Option Addr) (c : Nat) (l : List St) : Prop := W.ownsRow base 43 2 (.slice A l.length c) l.length (scells l)
theorem own_in {w : World} {base size n c : Nat} {e : TypeId} {A : Option Addr} {xs : List Value} (h : w.ownsRow base e size (.slice A n c) n xs) : ∀ ad, A = some ad → base ≤ ad.block ∧ ad.block < w.heap.size := fun ad ha => by
  rcases h.2 with ⟨h0, _⟩ | ⟨g, cap, cur, hv, hbg, hg, r⟩
  · injection h0 with e1 _ _; rw [ha] at e1; cases e1
  · injection hv with e1 _ _
    rw [ha] at e1; injection e1 with e1; subst e1
    exact ⟨hbg, (Array.getElem?_eq_some_iff.1 hg).1⟩
theorem own_fr {w w' : World} {base size n c : Nat} {e : TypeId} {A : Option Addr} {xs : List Value} (h : w.ownsRow base e size (.slice A n c) n xs) (hb : ∀ ad, A = some ad → w'.heap[ad.block]? = w.heap[ad.block]?) : w'.ownsRow base e size (.slice A n c) n xs := by
  refine ⟨h.1, ?_⟩
  rcases h.2 with h0 | ⟨g, cap, cur, hv, hbg, hg, r⟩
  · exact .inl h0
  · injection hv with e1 _ _
    exact .inr ⟨g, cap, cur, by rw [e1]; simp_all, hbg, (hb _ e1).trans hg, r⟩
/-- The reader goes on; a row that came behind it stays. -/
theorem own_frb {w w' : World} {base size n c rb : Nat} {e : TypeId} {A : Option Addr} {xs : List Value} (h : w.ownsRow base e size (.slice A n c) n xs) (hr : rb < base) (hF : Fr (· = rb) w.heap.size w w') : w'.ownsRow base e size (.slice A n c) n xs :=
  own_fr h fun ad ha => by
    have := own_in h ad ha
    exact hF.block _ this.2 (by omega)
theorem own_addr {w : World} {base size n c : Nat} {e : TypeId} {A : Option Addr} {xs : List Value} (h : w.ownsRow base e size (.slice A n c) n xs) (hn : 0 < n) : ∃ g, A = some ⟨g, 0, none⟩ ∧ base ≤ g ∧ g < w.heap.size := by
  rcases h.2 with ⟨_, h0⟩ | ⟨g, cap, cur, hv, hbg, hg, r⟩
  · omega
  · injection hv with e1 _ _
    exact ⟨g, e1, hbg, (Array.getElem?_eq_some_iff.1 hg).1⟩
theorem own_news {w : World} {base size n c g : Nat} {e : TypeId} {xs : List Value} (h : w.ownsRow base e size (.slice (some ⟨g, 0, none⟩) n c) n xs) : ∀ j u, xs[j]? = some u → w.cell? ((⟨g, 0, none⟩ : Addr).add j) = some u := fun j u hu => by
  have hadd : (⟨g, 0, none⟩ : Addr).add j = ⟨g, j, none⟩ := by unfold Addr.add; split <;> simp_all
  rw [hadd]
  obtain ⟨g', cap, e0, _, _, c0⟩ := own_cell h hu
  injection e0 with e0 _ _; injection e0 with e0; injection e0 with e0 _ _; subst e0
  exact c0
section
variable {X : Nat → Prop} {W W1 W2 : World} {rb tb z o : Nat} {ts : List Tk} {q : Option Nat}
theorem RdrAt.fr {Z : Nat → Prop} (h : RdrAt W rb tb z ts o) (hF : Fr Z W.heap.size W W1) (hr : ¬ Z rb) (ht : ¬ Z tb) : RdrAt W1 rb tb z ts o := by
  obtain ⟨off, c, h1, hk, h2, h3⟩ := h.ex
  refine ⟨off, c, (hF.block rb h1.lt hr).trans h1, fun i v hv => ?_, h2, h3⟩
  obtain ⟨b', o', e, hb, c0, c1, c2⟩ := hk i v hv
  injection e with e; injection e with e1 e2 _; subst e1 e2
  have hc : ∀ k, W1.cell? ⟨tb, k, none⟩ = W.cell? ⟨tb, k, none⟩ := fun k => hF.cell hb ht
  exact ⟨tb, off, rfl, Nat.lt_of_lt_of_le hb hF.size, (hc _).trans c0, (hc _).trans c1, (hc _).trans c2⟩
theorem fr_of_grown (hg : W1.grownBy W2 q) : Fr (fun k => q = some k) W1.heap.size W1 W2 := ⟨hg.os, hg.tape, hg.output, hg.size, fun k hk hne => hg.block k hk fun e => hne e.symm⟩
/-- A row of one's own that came behind B grew. -/
theorem fr_grown {B : Nat} (h : Fr X B W W1) (hB : B ≤ W1.heap.size) (hg : W1.grownBy W2 q) (hq : ∀ k, q = some k → B ≤ k) : Fr X B W W2 :=
  ⟨hg.os.trans h.os, hg.tape.trans h.tape, hg.output.trans h.output, Nat.le_trans h.size hg.size, fun k hk hx => (hg.block k (by omega) fun e => by have := hq k e.symm; omega).trans (h.block k hk hx)⟩
theorem RdrAt.grown (h : RdrAt W1 rb tb z ts o) (hg : W1.grownBy W2 q) {B : Nat} (hr : rb < B) (ht : tb < B) (hq : ∀ k, q = some k → B ≤ k) : RdrAt W2 rb tb z ts o :=
  h.fr (fr_of_grown hg) (fun e => by have := hq _ e; omega) (fun e => by have := hq _ e; omega)
theorem RdrAt.tlt (h : RdrAt W rb tb z ts o) : tb < W.heap.size := by
  obtain ⟨off, c, h1, hk, h2, h3⟩ := h.ex
  obtain ⟨b', o', e, hb, c0, c1, c2⟩ := hk 0 _ (hd_at z ts)
  injection e with e; injection e with e1 e2 _; subst e1 e2
  exact hb
/-- How many ( are open was written. -/
theorem RdrAt.open_ {o' : Nat} (h : RdrAt W rb tb z ts o) : RdrAt (W.setCell ⟨rb, 1, none⟩ (.int .i64 (o' : Int))) rb tb z ts o' := by
  obtain ⟨off, c, h1, hk, h2, h3⟩ := h.ex
  have hF := fr_set W rb 1 (.int .i64 (o' : Int)) W.heap.size
  refine ⟨off, c, Row.set (pre := [_]) (post := []) h1 _, fun i v hv => ?_, h2, h3⟩
  obtain ⟨b', o2, e, hb, c0, c1, c2⟩ := hk i v hv
  injection e with e; injection e with e1 e2 _; subst e1 e2
  have hc : ∀ k, (W.setCell ⟨rb, 1, none⟩ (.int .i64 (o' : Int))).cell? ⟨tb, k, none⟩ = W.cell? ⟨tb, k, none⟩ := fun k => hF.cell hb h2
  exact ⟨tb, off, rfl, Nat.lt_of_lt_of_le hb hF.size, (hc _).trans c0, (hc _).trans c1, (hc _).trans c2⟩
end
/-- What comes of a method that tells steps. -/
def StepsQ (R : Ans (List St)) (rb tb z o : Nat) (W : World) (e : Ending) (w' : World) : Prop := match R with
  | .ok s r => ∃ A c, e = .returned (.slice A s.length c) ∧ OwnS w' W.heap.size A c s ∧ RdrAt w' rb tb z r o ∧ Fr (· = rb) W.heap.size W w'
  | .no a k => e = .panicked [{ v := faultP a k, recovered := false }] ∧ Fr (· = rb) W.heap.size W w'
/-- One step in a row of its own. -/
theorem own_one (W : World) (s : St) : OwnS (W.alloc (.cells #[.int .i64 (s.k : Int), .string (bs s.l)] 43)) W.heap.size (some ⟨W.heap.size, 0, none⟩) 1 [s] :=
  ⟨rfl, .inr ⟨W.heap.size, 1, #[.int .i64 (s.k : Int), .string (bs s.l)], rfl, Nat.le_refl _, heap_alloc_new _ _, Nat.le_refl _, (by unfold maxLen; omega), rfl, rfl⟩⟩
section
variable {W W' : World} {rb tb z o : Nat} {ts : List Tk}
/-! ### operand -/
set_option maxRecDepth 20000 in
set_option maxHeartbeats 8000000 in
theorem operand_any (inner : Option (Ps (List St))) (W : World) (h : RdrAt W rb tb z ts o)
    (hin : (hdT z ts).t = [40] → ∀ V, RdrAt V rb tb z ts o → Calls Tryz.prog 148 #[.pointer (some ⟨rb, 0, none⟩)] V (StepsQ (operP inner z ts) rb tb z o V)) :
    Calls Tryz.prog 146 #[.pointer (some ⟨rb, 0, none⟩)] W (StepsQ (operP inner z ts) rb tb z o W) := by
  have HR := Lib.hid h
  by_cases h40 : (hdT z ts).t = [40]
  · have HE := Lib.hid (hin h40 W h)
    have HN : Hid (Calls Tryz.prog 105 #[.pointer (some ⟨rb, 0, none⟩), .string ⟨#[40]⟩] W fun e w' => e = .returned (.bool true) ∧ W = w') := Lib.hid (by
      have := next_any ⟨#[40]⟩ W h
      rwa [show ((hdT z ts).t == ls ⟨#[40]⟩) = true by rw [h40]; rfl] at this)
    generalize operP inner z ts = R at HE ⊢
    clear h hin h40 HR
    go_enter Tryz.func146, Tryz.ntmps146
    cases R with
    | ok s r =>
      go_wp2_with (first
        | (go_at_call 105; refine HN.out.mono ?_; rintro e w1 ⟨rfl, rfl⟩)
        | (go_at_call 148; refine HE.out.mono ?_; rintro e w2 ⟨A, c, rfl, h2⟩; have H2 := Lib.hid h2; clear h2))
      go_ret
      exact ⟨A, c, rfl, H2.out⟩
    | no a k =>
      go_wp2_with (first
        | (go_at_call 105; refine HN.out.mono ?_; rintro e w1 ⟨rfl, rfl⟩)
        | (go_at_call 148; refine HE.out.mono ?_; rintro e w2 ⟨rfl, h2⟩))
      exact ⟨rfl, rfl, h2⟩
  · have HN : Hid (Calls Tryz.prog 105 #[.pointer (some ⟨rb, 0, none⟩), .string ⟨#[40]⟩] W fun e w' => e = .returned (.bool false) ∧ W = w') := Lib.hid (by
      have := next_any ⟨#[40]⟩ W h
      rwa [show ((hdT z ts).t == ls ⟨#[40]⟩) = false from beq_eq_false_iff_ne.2 h40] at this)
    by_cases h94 : (hdT z ts).t = [94]
    · have HS := Lib.hid (skip_yes ⟨#[94]⟩ W h h94 (by decide))
      have hR : operP inner z ts = (needP predT z ts.tail).bind fun t r => .ok [⟨2, t.t⟩] r := by unfold operP; rw [if_neg h40, if_pos h94]
      rw [hR]
      have HND : Hid (∀ V, RdrAt V rb tb z ts.tail o → Calls Tryz.prog 53 #[.pointer (some ⟨rb, 0, none⟩), .func (.func 55) #[] #[]] V (NeedQ (needP predT z ts.tail) rb tb z o V)) := Lib.hid fun V hV => need_pred V hV
      generalize needP predT z ts.tail = R at HND ⊢
      clear h hin h40 h94 hR
      go_enter Tryz.func146, Tryz.ntmps146
      cases R with
      | ok t r =>
        have hfd := field_tok (t.k : Int) (t.a : Int) (bs t.t)
        go_wp2_with (first
          | (go_at_call 105; refine HN.out.mono ?_; rintro e w1 ⟨rfl, rfl⟩)
          | (go_at_call 83; refine HS.out.mono ?_; rintro e w2 ⟨rfl, h2, f2⟩; have H2 := Lib.hid h2; have F2 := Lib.hid f2; clear h2 f2)
          | (go_at_call 53; refine (HND.out _ H2.out).mono ?_; rintro e w3 ⟨rfl, h3, f3⟩; have H3 := Lib.hid h3; have F3 := Lib.hid f3; unfold Tk.val; clear h3 f3))
        go_ret
        have hs := F2.out.size; have hs3 := F3.out.size
        refine ⟨_, 1, rfl, ⟨(own_one w3 ⟨2, t.t⟩).1, ?_⟩, H3.out.on ((Below.refl _ _).alloc (Nat.le_refl _) _), (F2.out.next F3.out).trans (Fr.of ((Below.refl _ _).alloc (by omega) _))⟩
        rcases (own_one w3 ⟨2, t.t⟩).2 with h0 | ⟨g, cap, cur, hv, hbg, hg, r⟩
        · exact .inl h0
        · exact .inr ⟨g, cap, cur, hv, by omega, hg, r⟩
      | no a k =>
        go_wp2_with (first
          | (go_at_call 105; refine HN.out.mono ?_; rintro e w1 ⟨rfl, rfl⟩)
          | (go_at_call 83; refine HS.out.mono ?_; rintro e w2 ⟨rfl, h2, f2⟩; have H2 := Lib.hid h2; have F2 := Lib.hid f2; clear h2 f2)
          | (go_at_call 53; refine (HND.out _ H2.out).mono ?_; rintro e w3 ⟨rfl, f3⟩))
        exact ⟨rfl, rfl, F2.out.next f3⟩
    · have HS := Lib.hid (skip_no ⟨#[94]⟩ W h h94)
      have hR : operP inner z ts = (needP predT z ts).bind fun t r => .ok [⟨1, t.t⟩] r := by unfold operP; rw [if_neg h40, if_neg h94]
      rw [hR]
      have HND := Lib.hid (need_pred W h)
      generalize needP predT z ts = R at HND ⊢
      clear h hin h40 h94 hR
      go_enter Tryz.func146, Tryz.ntmps146
      cases R with
      | ok t r =>
        have hfd := field_tok (t.k : Int) (t.a : Int) (bs t.t)
        go_wp2_with (first
          | (go_at_call 105; refine HN.out.mono ?_; rintro e w1 ⟨rfl, rfl⟩)
          | (go_at_call 83; refine HS.out.mono ?_; rintro e w2 ⟨rfl, rfl⟩)
          | (go_at_call 53; refine HND.out.mono ?_; rintro e w3 ⟨rfl, h3, f3⟩; have H3 := Lib.hid h3; have F3 := Lib.hid f3; unfold Tk.val; clear h3 f3))
        go_ret
        have hs3 := F3.out.size
        refine ⟨_, 1, rfl, ⟨(own_one w3 ⟨1, t.t⟩).1, ?_⟩, H3.out.on ((Below.refl _ _).alloc (Nat.le_refl _) _), F3.out.trans (Fr.of ((Below.refl _ _).alloc (by omega) _))⟩
        rcases (own_one w3 ⟨1, t.t⟩).2 with h0 | ⟨g, cap, cur, hv, hbg, hg, r⟩
        · exact .inl h0
        · exact .inr ⟨g, cap, cur, hv, by omega, hg, r⟩
      | no a k =>
        go_wp2_with (first
          | (go_at_call 105; refine HN.out.mono ?_; rintro e w1 ⟨rfl, rfl⟩)
          | (go_at_call 83; refine HS.out.mono ?_; rintro e w2 ⟨rfl, rfl⟩)
          | (go_at_call 53; refine HND.out.mono ?_; rintro e w3 ⟨rfl, f3⟩))
        exact ⟨rfl, rfl, f3⟩
/-! ### enclosed -/
theorem size_set (w : World) (p : Addr) (v : Value) : (w.setCell p v).heap.size = w.heap.size := by simp [World.setCell]
theorem OwnS.less {b b' c : Nat} {A : Option Addr} {l : List St} (h : OwnS W b A c l) (hb : b' ≤ b) : OwnS W b' A c l := by
  refine ⟨h.1, ?_⟩
  rcases h.2 with h0 | ⟨g, cap, cur, hv, hbg, r⟩
  · exact .inl h0
  · exact .inr ⟨g, cap, cur, hv, Nat.le_trans hb hbg, r⟩
theorem OwnS.frb {b c : Nat} {A : Option Addr} {l : List St} (h : OwnS W b A c l) (hr : rb < b) (hF : Fr (· = rb) W.heap.size W W') : OwnS W' b A c l := own_frb h hr hF
theorem OwnS.on {b c : Nat} {A : Option Addr} {l : List St} (h : OwnS W b A c l) (hb : Below W.heap.size W W') : OwnS W' b A c l := own_on h hb
theorem want_txt {rb g c : Nat} {W : World} (hg : rb < g) (m : ByteArray) (hc : W.cell? ⟨g, 0, none⟩ = some (.string m)) : TxtAt W rb (some ⟨g, 0, none⟩) [m] := fun i m' hi => by
  cases i with
  | zero =>
    simp only [List.getElem?_cons_zero, Option.some.injEq] at hi; subst hi
    exact ⟨g, 0, rfl, lt_of_cell hc, by omega, hc⟩
  | succ i => simp at hi
/-- One text is wanted, laid in a row made for it. -/
theorem want_new (m : ByteArray) (W : World) (h : RdrAt W rb tb z ts o) (hm : ls m ≠ []) :
    Calls Tryz.prog 58 #[.pointer (some ⟨rb, 0, none⟩), .slice (some ⟨W.heap.size, 0, none⟩) 1 1] (W.alloc (.cells #[.string m] 9)) fun e w' => match wantP (ls m) z ts with
      | .ok _ r => e = .returned (.tuple #[]) ∧ RdrAt w' rb tb z r o ∧ Fr (· = rb) W.heap.size W w'
      | .no a k => e = .panicked [{ v := faultP a k, recovered := false }] ∧ Fr (· = rb) W.heap.size W w' := by
  have hbx : Below W.heap.size W (W.alloc (.cells #[.string m] 9)) := (Below.refl _ _).alloc (Nat.le_refl _) _
  have hw := want_any (some ⟨W.heap.size, 0, none⟩) 1 [m] _ (h.on hbx) (want_txt (c := 1) h.lt m (by simp)) (fun x hx => by rw [List.mem_singleton] at hx; subst hx; exact hm) (by simp)
  refine Calls.mono hw ?_
  intro e w' hq
  have he : wantsP [m] z ts = (wantP (ls m) z ts).bind fun _ r => .ok () r := rfl
  rw [he] at hq
  cases hw : wantP (ls m) z ts with
  | ok t r =>
    rw [hw] at hq
    obtain ⟨h1, h2, h3⟩ := hq
    exact ⟨h1, h2, (Fr.of hbx).trans (h3.mono hbx.size)⟩
  | no a k =>
    rw [hw] at hq
    obtain ⟨h1, h3⟩ := hq
    exact ⟨h1, (Fr.of hbx).trans (h3.mono hbx.size)⟩
theorem want_hd {m : List UInt8} {t : Tk} {r : List Tk} (h : t.t = m) : wantP m z (t :: r) = .ok t r := by
  unfold wantP needP isX; simp only; rw [h, beq_self_eq_true]; rfl
set_option maxRecDepth 20000 in
set_option maxHeartbeats 8000000 in
theorem enclosed_no (W : World) (h : RdrAt W rb tb z ts 32) (hh : (hdT z ts).t = [40]) :
    Calls Tryz.prog 148 #[.pointer (some ⟨rb, 0, none⟩)] W (StepsQ (operP none z ts) rb tb z 32 W) := by
  have hR : operP none z ts = .no (hdT z ts).a 3 := by unfold operP; rw [if_pos hh]
  rw [hR]
  obtain ⟨off, c, H⟩ := h.hd
  have r1 := H.r1; have hl := H.lt
  have HF := Lib.hid (fail_any 3 W h)
  clear H h hh hR
  go_enter Tryz.func148, Tryz.ntmps148
  go_wp2_with (go_at_call 56; refine HF.out.mono ?_; rintro e w1 ⟨rfl, rfl⟩)
  exact ⟨rfl, rfl, Fr.refl _ _ _⟩
set_option maxRecDepth 20000 in
set_option maxHeartbeats 8000000 in
theorem enclosed_yes (f : Ps (List St)) (hlen : LenOk f) (W : World) (h : RdrAt W rb tb z ts o) (ho : o < 32) (hh : (hdT z ts).t = [40])
    (hf : ∀ V r, r.length ≤ ts.length → RdrAt V rb tb z r (o + 1) → Calls Tryz.prog 124 #[.pointer (some ⟨rb, 0, none⟩)] V (StepsQ (f z r) rb tb z (o + 1) V)) :
    Calls Tryz.prog 148 #[.pointer (some ⟨rb, 0, none⟩)] W (StepsQ (operP (some f) z ts) rb tb z o W) := by
  have hR : operP (some f) z ts = (f z ts.tail).bind fun s r => (wantP [41] z r).bind fun _ r => .ok s r := by unfold operP; rw [if_pos hh]
  rw [hR]
  obtain ⟨t, r, rfl⟩ : ∃ t r, ts = t :: r := ⟨_, _, hd_tail hh (by simp)⟩
  simp only [hdT] at hh
  simp only [List.tail_cons]
  obtain ⟨off, c, H⟩ := h.hd
  have r1 := H.r1; have hl := H.lt
  have ho' : ((o : Int) == 32) = false := by rw [beq_eq_false_iff_ne]; omega
  have ho2 : (o : Int) < 32 := by omega
  have hw := want_new ⟨#[40]⟩ W h (by decide)
  rw [show wantP (ls ⟨#[40]⟩) z (t :: r) = .ok t r from want_hd hh] at hw
  have HW := Lib.hid hw
  have HF : Hid (∀ V, RdrAt V rb tb z r (o + 1) → Calls Tryz.prog 124 #[.pointer (some ⟨rb, 0, none⟩)] V (StepsQ (f z r) rb tb z (o + 1) V)) := Lib.hid fun V hV => hf V r (by simp) hV
  clear hR H h hh hw hf
  cases hfr : f z r with
  | no a k =>
    rw [hfr] at HF
    clear hfr
    go_enter Tryz.func148, Tryz.ntmps148
    go_wp2_with (first
      | (go_at_call 58; refine HW.out.mono ?_; rintro e w1 ⟨rfl, h1, f1⟩; obtain ⟨off1, c1, K1⟩ := h1.hd; have q1 := K1.r1; have g1 := K1.f1; have hl1 := K1.lt; have F1 := Lib.hid f1; have HO := Lib.hid (RdrAt.open_ (o' := o + 1) h1); clear h1 f1 K1)
      | (go_at_call 124; refine (HF.out _ HO.out).mono ?_; rintro e w2 ⟨rfl, f2⟩))
    exact ⟨rfl, rfl, (F1.out.trans (fr_set w1 rb 1 _ _)).trans (f2.mono (by have := F1.out.size; simp [World.setCell]; omega))⟩
  | ok s r2 =>
    rw [hfr] at HF
    have hl2 := (hlen z r s r2 hfr).1
    have HW2 : Hid (∀ V, RdrAt V rb tb z r2 (o + 1) → _) := Lib.hid fun V hV => want_new ⟨#[41]⟩ V hV (by decide)
    simp only [Ans.bind]
    rw [show ls ⟨#[41]⟩ = [41] from rfl] at HW2
    clear hfr
    cases hw2 : wantP [41] z r2 with
    | no a k =>
      rw [hw2] at HW2
      clear hw2
      go_enter Tryz.func148, Tryz.ntmps148
      go_wp2_with (first
        | (go_at_call 58; first
          | ((with_reducible refine HW.out.mono ?_); rintro e w1 ⟨rfl, h1, f1⟩; obtain ⟨off1, c1, K1⟩ := h1.hd; have q1 := K1.r1; have g1 := K1.f1; have hl1 := K1.lt; have F1 := Lib.hid f1; have HO := Lib.hid (RdrAt.open_ (o' := o + 1) h1); clear h1 f1 K1)
          | (refine (HW2.out _ H2.out).mono ?_; rintro e w3 ⟨rfl, f3⟩))
        | (go_at_call 124; refine (HF.out _ HO.out).mono ?_; rintro e w2 ⟨A, cA, rfl, own2, h2, f2⟩; have H2 := Lib.hid h2; have F2 := Lib.hid f2; clear own2 h2 f2))
      exact ⟨rfl, rfl, ((F1.out.trans (fr_set w1 rb 1 _ _)).trans (F2.out.mono (by have := F1.out.size; simp [World.setCell]; omega))).trans (f3.mono (by have := F1.out.size; have := F2.out.size; simp [World.setCell] at this; omega))⟩
    | ok t3 r3 =>
      rw [hw2] at HW2
      clear hw2
      have hsub : ((o : Int) + 1 - 1) = (o : Int) := by omega
      go_enter Tryz.func148, Tryz.ntmps148
      go_wp2_with (first
        | (go_at_call 58; first
          | ((with_reducible refine HW.out.mono ?_); rintro e w1 ⟨rfl, h1, f1⟩; obtain ⟨off1, c1, K1⟩ := h1.hd; have q1 := K1.r1; have g1 := K1.f1; have hl1 := K1.lt; have F1 := Lib.hid f1; have HO := Lib.hid (RdrAt.open_ (o' := o + 1) h1); clear h1 f1 K1)
          | (refine (HW2.out _ H2.out).mono ?_; rintro e w3 ⟨rfl, h3, f3⟩; obtain ⟨off3, c3, K3⟩ := h3.hd; have q3 := K3.r1; have g3 := K3.f1; have hl3 := K3.lt; have F3 := Lib.hid f3; have HO3 := Lib.hid (RdrAt.open_ (o' := o) h3); clear h3 f3 K3))
        | (go_at_call 124; refine (HF.out _ HO.out).mono ?_; rintro e w2 ⟨A, cA, rfl, own2, h2, f2⟩; have H2 := Lib.hid h2; have F2 := Lib.hid f2; have HO2 := Lib.hid own2; clear own2 h2 f2))
      go_ret
      have z1 := F1.out.size; have z2 := F2.out.size; have z3 := F3.out.size
      simp only [size_set] at z2
      refine ⟨A, cA, rfl, ?_, HO3.out, ?_⟩
      · have hb : rb < (w1.setCell ⟨rb, 1, none⟩ (.int .i64 ((o + 1 : Nat) : Int))).heap.size := by rw [size_set]; omega
        exact (((HO2.out.frb hb F3.out).frb hb (fr_set w3 rb 1 _ _))).less (by rw [size_set]; exact z1)
      · exact (((F1.out.trans (fr_set w1 rb 1 _ _)).trans (F2.out.mono (by rw [size_set]; omega))).trans (F3.out.mono (by omega))).trans (fr_set w3 rb 1 _ _)
end
end Go.Proofs.YtahljmddnfldlaaGreatDoor

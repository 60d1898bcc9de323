/-
  Package parse: terms and arguments of heads as items of lists; what is left of the tokens.
-/
import Derived.Test.YtahljmddnfldlaaGreatDoorPrsW
namespace Go.Proofs.YtahljmddnfldlaaGreatDoor
open Go.RowKit FloM ValM Go.Shelf
set_option linter.unusedVariables false
set_option linter.unusedSimpArgs false
/-! ### What is left of the tokens -/
def Wk {α : Type} (ts : List Tk) (R : Ans α) : Prop := ∀ x r, R = .ok x r → r <:+ ts
def Sk {α : Type} (ts : List Tk) (R : Ans α) : Prop := ∀ x r, R = .ok x r → r <:+ ts ∧ r.length < ts.length
theorem Sk.wk {α : Type} {ts : List Tk} {R : Ans α} (h : Sk ts R) : Wk ts R := fun x r e => (h x r e).1
theorem Wk.ok {α : Type} {ts : List Tk} (x : α) : Wk ts (.ok x ts) := fun y r e => by cases e; exact List.suffix_refl _
theorem Wk.no {α : Type} {ts : List Tk} (a k : Nat) : Wk (α := α) ts (.no a k) := fun y r e => by cases e
theorem Sk.no {α : Type} {ts : List Tk} (a k : Nat) : Sk (α := α) ts (.no a k) := fun y r e => by cases e
theorem Wk.bind {α β : Type} {ts : List Tk} {R : Ans α} {g : α → List Tk → Ans β} (h : Wk ts R) (hg : ∀ a r, r <:+ ts → Wk r (g a r)) : Wk ts (R.bind g) := fun y r e => by
  obtain ⟨a, r1, e1, e2⟩ := bind_ok e
  exact (hg a r1 (h a r1 e1) y r e2).trans (h a r1 e1)
theorem Sk.bind {α β : Type} {ts : List Tk} {R : Ans α} {g : α → List Tk → Ans β} (h : Sk ts R) (hg : ∀ a r, r <:+ ts → Wk r (g a r)) : Sk ts (R.bind g) := fun y r e => by
  obtain ⟨a, r1, e1, e2⟩ := bind_ok e
  have h1 := h a r1 e1
  have h2 := hg a r1 h1.1 y r e2
  exact ⟨h2.trans h1.1, Nat.lt_of_le_of_lt h2.length_le h1.2⟩
theorem need_sk (p : Tk → Bool) (z : Nat) (ts : List Tk) : Sk ts (needP p z ts) := fun t r e => by
  have := (need_len e).1
  subst this
  exact ⟨List.suffix_cons _ _, by simp⟩
theorem want_sk (m : List UInt8) (z : Nat) (ts : List Tk) : Sk ts (wantP m z ts) := need_sk _ z ts
theorem term_sk (z : Nat) (ts : List Tk) : Sk ts (termP z ts) := (need_sk _ z ts).bind fun t r _ => Wk.ok _
theorem tail_suf (r : List Tk) : r.tail <:+ r := by cases r with
  | nil => exact List.suffix_refl _
  | cons t r => exact List.suffix_cons _ _
theorem Wk.tail {α : Type} {r : List Tk} {R : Ans α} (h : Wk r.tail R) : Wk r R := fun x q e => (h x q e).trans (tail_suf r)
theorem head_sk (z : Nat) (ts : List Tk) : Sk ts (headP z ts) := (term_sk z ts).bind fun t r _ => by
  split
  · exact Wk.ok _
  · refine Wk.tail ((need_sk _ z _).wk.bind fun t' r' _ => (want_sk _ z r').wk.bind fun _ r2 _ => ?_)
    split
    · exact Wk.ok _
    · exact Wk.no _ _
theorem listL_wk {α : Type} {most z : Nat} {item : Ps α} (hi : StrictP item) : ∀ (n : Nat) (acc : List α) (ts : List Tk), GoodT ts → Wk ts (listL most item z n acc ts)
  | 0, acc, ts, hg => Wk.ok _
  | n + 1, acc, ts, hg => by
    unfold listL
    split
    · split
      · exact Wk.no _ _
      · have hgt : GoodT ts.tail := hg.suf (tail_suf ts)
        exact Wk.tail (Wk.bind (fun x r e => (hi z _ x r hgt e).1) fun x r hr => listL_wk hi n _ r (hgt.suf hr))
    · exact Wk.ok _
theorem list_strict {α : Type} {most : Nat} {item : Ps α} (hi : StrictP item) : StrictP (listP most item) := fun z ts x r hg e =>
  (Sk.bind (fun x r e => hi z ts x r hg e) fun x r hr => listL_wk hi _ _ r (hg.suf hr)) x r e
theorem term_strict : StrictP termP := fun z ts x r _ e => term_sk z ts x r e
theorem head_strict : StrictP headP := fun z ts x r _ e => head_sk z ts x r e
theorem atom_strict {α : Type} {item : Ps α} (hi : StrictP item) : StrictP (atomB item) := fun z ts x r hg e =>
  (Sk.bind (need_sk predT z ts) fun t r hr => by
    split
    · exact Wk.tail (Wk.bind (fun x q e => (list_strict hi z _ x q ((hg.suf hr).suf (tail_suf r)) e).1) fun l r2 _ => (want_sk _ z r2).wk.bind fun _ r3 _ => Wk.ok _)
    · exact Wk.ok _) x r e
theorem path_strict (k : Nat) : StrictP (pathP k) := fun z ts x r hg e => by
  obtain ⟨u, h1, _⟩ := path_nest k z ts x r (fun t ht => (hg t ht).1) e
  have h2 := (pathP_eq k ▸ LenOk.path (lenI k) : LenOk (pathP k)) z ts x r e
  exact ⟨⟨u, h1.symm⟩, by omega⟩
/-! ### Atoms -/
theorem Fr.subX {X Y : Nat → Prop} {B : Nat} {w w' : World} (h : Fr X B w w') (hX : ∀ k, k < B → X k → Y k) : Fr Y B w w' := ⟨h.os, h.tape, h.output, h.size, fun k hk hy => h.block k hk (fun hx => hy (hX k hk hx))⟩
def tmC (b : Tm) : List Value := [.string (bs b.v), .int .i64 b.x.k, .int .i64 b.x.n, .string b.x.s]
structure AmA where
  p : List UInt8
  A : Option Addr
  c : Nat
  a : List Tm
def AmA.am (x : AmA) : Am := ⟨x.p, x.a⟩
def AmA.ok (W : World) (base : Nat) (x : AmA) : Prop := OwnX 48 4 tmC W base x.A x.c x.a
theorem AmA.ok.frx {W W' : World} {base : Nat} {x : AmA} {X : Nat → Prop} (h : x.ok W base) (hX : ∀ k, X k → k < base) (hF : Fr X W.heap.size W W') : x.ok W' base := own_frx h hX hF
theorem AmA.ok.less {W : World} {base b' : Nat} {x : AmA} (h : x.ok W base) (hb : b' ≤ base) : x.ok W b' := OwnX.less h hb
def AtmQ (R : Ans Am) (rb tb z o : Nat) (W : World) (e : Ending) (w' : World) : Prop := match R with
  | .ok m r => ∃ M : AmA, M.am = m ∧ e = .returned (.agg #[.string (bs M.p), .slice M.A M.a.length M.c]) ∧ M.ok w' W.heap.size ∧ RdrAt w' rb tb z r o ∧ Fr (· = rb) W.heap.size W w'
  | .no a k => e = .panicked [{ v := faultP a k, recovered := false }] ∧ Fr (· = rb) W.heap.size W w'
section
variable {W W' : World} {rb tb z o xb : Nat} {ts : List Tk}
theorem atm_any (W : World) (h : RdrAt W rb tb z ts o) (hg : GoodT ts) (hts : ts.length ≤ 20009) :
    Calls Tryz.prog 59 #[.pointer (some ⟨rb, 0, none⟩), .func (.func 60) #[] #[]] W (AtmQ (atomP z ts) rb tb z o W) := by
  have hl := h.lt
  refine (atom_term (β := Tm) id id (fun _ _ => True) (· = rb) termP term_strict W (fun k hk => by omega) rfl (fun _ _ _ _ _ _ _ _ => trivial) (fun V r l hr hV _ _ => (term_any V hV (hg.suf hr)).mono ?_) h hg hts trivial).mono ?_
  · intro e w' hq
    cases ht : termP z r with
    | ok t r2 => rw [ht] at hq; exact ⟨t, rfl, hq.1, hq.2.1, trivial, hq.2.2⟩
    | no a k => rw [ht] at hq; exact hq
  · intro e w' hq
    unfold atomP
    cases ht : atomB termP z ts with
    | ok x r =>
      rw [ht] at hq
      obtain ⟨l, A, c, h1, h2, h3, h4, _, h5⟩ := hq
      rw [List.map_id] at h1
      exact ⟨⟨x.1, A, c, l⟩, by rw [← h1]; rfl, h2, h3, h4, h5⟩
    | no a k => rw [ht] at hq; exact hq
/-! ### The arguments of a head -/
def lastF (l : List (Tm × Nat)) : Nat := (l.getLast?.map Prod.snd).getD 0
def ruleC (f : Nat) : List Value := [.string ByteArray.empty, .slice none 0 0, .int .i64 (f : Int), .slice none 0 0]
def HeadS (xb : Nat) (l : List (Tm × Nat)) (V : World) : Prop := Row 33 V xb (ruleC (lastF l))
theorem lastF_snoc (l : List (Tm × Nat)) (x : Tm × Nat) : lastF (l ++ [x]) = x.2 := by simp [lastF]
set_option maxRecDepth 20000 in
set_option maxHeartbeats 8000000 in
theorem rule1_any (l : List (Tm × Nat)) (W : World) (h : RdrAt W rb tb z ts o) (hg : GoodT ts) (hs : HeadS xb l W) (hx : xb ≠ rb) (hxt : xb ≠ tb) :
    Calls Tryz.prog 81 #[.pointer (some ⟨rb, 0, none⟩), .pointer (some ⟨xb, 0, none⟩)] W (ItemQ id (fun b : Tm × Nat => .agg #[.string (bs b.1.v), .int .i64 b.1.x.k, .int .i64 b.1.x.n, .string b.1.x.s]) (HeadS xb) (fun k => k = rb ∨ k = xb) (headP z ts) rb tb z o l W) := by
  have hxl := Row.lt hs
  have hrl := h.lt; have htl := h.tlt
  have hst := (LSX.start (X := fun k => k = rb ∨ k = xb) h (fun k hk => by omega) (.inl rfl)).new 48 zeroT
  have HST := Lib.hid hst
  have HT := Lib.hid (headTerm_any _ hst.rdr hg)
  have HX0 := Lib.hid (rowOn hs ((Below.refl _ _).alloc (Nat.le_refl _) (.cells zeroT.toArray 48)))
  clear h hst hs
  cases hn : headP z ts with
  | no a k =>
    rw [hn] at HT
    clear hn
    go_enter Tryz.func81, Tryz.ntmps81
    go_wp2_with (go_at_call 82; refine HT.out.mono ?_; rintro e w1 ⟨rfl, f1⟩)
    exact ⟨rfl, rfl, HST.out.fr.trans ((f1.toX (.inl rfl)).mono HST.out.fr.size)⟩
  | ok t r =>
    rw [hn] at HT
    obtain ⟨⟨tv, tx⟩, f⟩ := t
    clear hn
    go_enter Tryz.func81, Tryz.ntmps81
    go_wp2_with (first
      | (go_at_call 82; refine HT.out.mono ?_; rintro e w1 ⟨rfl, h1, f1⟩; have S1 := Lib.hid (HST.out.call h1 f1); have S2 := Lib.hid (S1.out.new 48 [.string (bs tv), .int .i64 tx.k, .int .i64 tx.n, .string tx.s]); unfold Tm.val; simp only; have hz1 := f1.size; simp only [World.size_alloc] at hz1; have HX1 := Lib.hid (Row.alloc (Row.fr HX0.out f1 (by simp; omega) hx) (.cells #[.string (bs tv), .int .i64 tx.k, .int .i64 tx.n, .string tx.s] 48)); clear h1 f1)
      | (refine wpList_storeR rfl 3 (.tmp 12) _ rfl xb 2 rfl (.int .i64 (f : Int)) rfl [.int .i64 (f : Int)] rfl (pre := [.string ByteArray.empty, .slice none 0 0]) (old := [.int .i64 (lastF l : Int)]) (post := [.slice none 0 0]) HX1.out rfl rfl (by kernel_rfl) rfl ?_; intro w5 hR5 hF5 hs5; have hz5 : w1.heap.size + 1 ≤ w5.heap.size := (by simp at hs5; omega); clear hs5; have HX5 : Hid (Row 33 w5 xb (ruleC f)) := Lib.hid hR5; have S5 := Lib.hid (S2.out.callX (rdr_fr S2.out.rdr (by omega) (by omega) hF5) (Fr.subX (hF5 _) (fun k _ hk => .inr hk))); clear hR5 hF5)
      | (refine wpList_loadR rfl 48 (.tmp 4) rfl w1.heap.size 0 rfl (pre := []) (mid := [.string (bs tv), .int .i64 tx.k, .int .i64 tx.n, .string tx.s]) (post := []) (S5.out.row (x := (w1.heap.size, 48, [.string (bs tv), .int .i64 tx.k, .int .i64 tx.n, .string tx.s])) (by simp)) rfl Tryz.underlying48 rfl (by kernel_rfl) ?_)
      | (refine wpList_storeR rfl 48 (.tmp 3) _ rfl W.heap.size 0 rfl (.agg #[.string (bs tv), .int .i64 tx.k, .int .i64 tx.n, .string tx.s]) rfl _ rfl (pre := []) (old := zeroT) (post := []) (S5.out.row (x := (W.heap.size, 48, zeroT)) (by simp)) rfl rfl (by kernel_rfl) rfl ?_; intro w10 hR10 hF10 hs10; have S10 := Lib.hid (S5.out.store (pre := []) hR10 hF10)))
    refine bodyPost_ret (results_cell_row rfl _ _ W.heap.size _ _ _ _ rfl hR10 Tryz.underlying48 rfl (by kernel_rfl)) rfl ?_
    refine ⟨(⟨tv, tx⟩, f), rfl, rfl, S10.out.rdr, ?_, S10.out.fr⟩
    unfold HeadS
    rw [lastF_snoc]
    exact Row.fr HX5.out (hF10 W.heap.size) hxl (by omega)
end
end Go.Proofs.YtahljmddnfldlaaGreatDoor

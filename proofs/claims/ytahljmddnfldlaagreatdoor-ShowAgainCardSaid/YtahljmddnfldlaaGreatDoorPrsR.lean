/-
  Package parse: bodies, rules.
-/
import Derived.Test.YtahljmddnfldlaaGreatDoorPrsLl
namespace Go.Proofs.YtahljmddnfldlaaGreatDoor
open Go.RowKit FloM ValM Go.Shelf
set_option linter.unusedVariables false
set_option linter.unusedSimpArgs false
/-! ### What a literal leaves -/
theorem atom_sk {z : Nat} {ts : List Tk} (hg : GoodT ts) : Sk ts (atomP z ts) := Sk.bind (fun x r e => atom_strict term_strict z ts x r hg e) fun x r _ => Wk.ok _
theorem comp_sk (z : Nat) (ts : List Tk) : Sk ts (compP z ts) := (term_sk z ts).bind fun a r _ => (need_sk _ z r).wk.bind fun o r2 _ => (term_sk z r2).wk.bind fun b r3 _ => Wk.ok _
theorem let_sk (z : Nat) (ts : List Tk) : Sk ts (letP z ts) := (term_sk z ts).bind fun a r _ => (want_sk _ z r).wk.bind fun _ r1 _ => (term_sk z r1).wk.bind fun b r2 _ => (need_sk _ z r2).wk.bind fun o r3 _ => (term_sk z r3).wk.bind fun c r4 _ => Wk.ok _
theorem walk_sk {z : Nat} {ts : List Tk} (hg : GoodT ts) : Sk ts (walkP z ts) := (want_sk _ z ts).bind fun _ r0 h0 => (want_sk _ z r0).wk.bind fun _ r1 h1 => (term_sk z r1).wk.bind fun a r2 h2 => (want_sk _ z r2).wk.bind fun _ r3 h3 =>
  Wk.bind (fun x r e => (path_strict 32 z r3 x r (hg.suf (h3.trans (h2.trans (h1.trans h0)))) e).1) fun p r4 _ => (want_sk _ z r4).wk.bind fun _ r5 _ => (term_sk z r5).wk.bind fun b r6 _ => (want_sk _ z r6).wk.bind fun _ r7 _ => Wk.ok _
theorem lit_strict : StrictP litP := fun z ts x r hg e => by
  have h : Sk ts (litP z ts) := by
    unfold litP
    split
    · exact comp_sk z ts
    split
    · exact let_sk z ts
    split
    · exact (want_sk _ z ts).bind fun _ r0 h0 => (atom_sk (hg.suf h0)).wk.bind fun m r1 _ => Wk.ok _
    split
    · exact walk_sk hg
    split
    · exact (atom_sk hg).bind fun m r1 _ => Wk.ok _
    · exact comp_sk z ts
  exact h x r e
/-! ### Bodies -/
theorem LtA.ok.frxR {W W' : World} {base : Nat} {x : LtA} {X : Nat → Prop} (h : x.ok W base) (hX : ∀ k, X k → k < base) (hF : Fr X W.heap.size W W') : x.ok W' base := ⟨AmA.ok.frx h.1 hX hF, own_frx h.2 hX hF⟩
theorem LtA.ok.lessR {W : World} {base b' : Nat} {x : LtA} (h : x.ok W base) (hb : b' ≤ base) : x.ok W b' := ⟨AmA.ok.less h.1 hb, OwnS.less h.2 hb⟩
/-- A row of another type grew. -/
theorem own_other {w w' : World} {base size n c : Nat} {e E : TypeId} {A : Option Addr} {xs : List Value} {q : Option Nat} (h : w.ownsRow base e size (.slice A n c) n xs) (hg : w.grownBy w' q) (hq : ∀ k, q = some k → ∃ cs z, w.heap[k]? = some (.cells cs E z)) (hne : e ≠ E) : w'.ownsRow base e size (.slice A n c) n xs :=
  own_fr h fun ad ha => by
    have h1 := own_in h ad ha
    refine hg.block _ h1.2 fun e1 => ?_
    obtain ⟨cs, z, h2⟩ := hq ad.block e1.symm
    have h3 := (own_typ h ad.block (by subst ha; rfl)).2
    obtain ⟨cs', z', h3⟩ := h3
    rw [h2] at h3
    injection h3 with h3; injection h3 with _ h3
    exact hne h3.symm
theorem LtA.ok.other {w w' : World} {base : Nat} {x : LtA} {E : TypeId} {q : Option Nat} (h : x.ok w base) (hg : w.grownBy w' q) (hq : ∀ k, q = some k → ∃ cs z, w.heap[k]? = some (.cells cs E z)) (h1 : 48 ≠ E) (h2 : 43 ≠ E) : x.ok w' base :=
  ⟨own_other h.1 hg hq h1, own_other h.2 hg hq h2⟩
def BodyOk (W : World) (base : Nat) (A : Option Addr) (c : Nat) (l : List LtA) : Prop := OwnX 52 17 litC W base A c l ∧ ∀ x ∈ l, x.ok W base
theorem BodyOk.frx {W W' : World} {base c : Nat} {A : Option Addr} {l : List LtA} {X : Nat → Prop} (h : BodyOk W base A c l) (hX : ∀ k, X k → k < base) (hF : Fr X W.heap.size W W') : BodyOk W' base A c l := ⟨own_frx h.1 hX hF, fun x hx => (h.2 x hx).frxR hX hF⟩
theorem BodyOk.less {W : World} {base b' c : Nat} {A : Option Addr} {l : List LtA} (h : BodyOk W base A c l) (hb : b' ≤ base) : BodyOk W b' A c l := ⟨OwnX.less h.1 hb, fun x hx => (h.2 x hx).lessR hb⟩
theorem BodyOk.other {w w' : World} {base c : Nat} {A : Option Addr} {l : List LtA} {E : TypeId} {q : Option Nat} (h : BodyOk w base A c l) (hg : w.grownBy w' q) (hq : ∀ k, q = some k → ∃ cs z, w.heap[k]? = some (.cells cs E z)) (h1 : 48 ≠ E) (h2 : 43 ≠ E) (h3 : 52 ≠ E) : BodyOk w' base A c l :=
  ⟨own_other h.1 hg hq h3, fun x hx => (h.2 x hx).other hg hq h1 h2⟩
/-- What comes of a body. -/
def BodyQ (R : Ans (List Lt)) (rb tb z o : Nat) (W : World) (e : Ending) (w' : World) : Prop := match R with
  | .ok xs r => ∃ (l : List LtA) (A : Option Addr) (c : Nat), l.map LtA.lt = xs ∧ e = .returned (.slice A l.length c) ∧ BodyOk w' W.heap.size A c l ∧ RdrAt w' rb tb z r o ∧ Fr (· = rb) W.heap.size W w'
  | .no a k => e = .panicked [{ v := faultP a k, recovered := false }] ∧ Fr (· = rb) W.heap.size W w'
section
variable {W W' : World} {rb tb z o : Nat} {ts : List Tk}
theorem body_any (W : World) (h : RdrAt W rb tb z ts o) (hg : GoodT ts) (hts : ts.length ≤ 20009)
    (hlit : ∀ V r, r <:+ ts → RdrAt V rb tb z r o → Calls Tryz.prog 85 #[.pointer (some ⟨rb, 0, none⟩)] V (LitQ (litP z r) rb tb z o V)) :
    Calls Tryz.prog 84 #[.pointer (some ⟨rb, 0, none⟩), .int .i64 12, .func (.func 85) #[] #[]] W (BodyQ (listP 12 litP z ts) rb tb z o W) := by
  have hl := h.lt
  refine (list_lit LtA.lt (fun l V => ∀ x ∈ l, x.ok V W.heap.size) (· = rb) litP lit_strict W (fun k hk => by omega) rfl (fun l V V' hs hF x hx => (hs x hx).frxR (fun k hk => by omega) hF)
    (fun l V V' q hs hgr hq x hx => (hs x hx).other hgr (fun k hk => (hq k hk).2) (by decide) (by decide)) (fun V r l hr hV hVs hs => (hlit V r hr hV).mono ?_) h hg hts (fun x hx => by cases hx)).mono ?_
  · intro e w' hq
    cases ht : litP z r with
    | ok t r2 =>
      rw [ht] at hq
      obtain ⟨X, h1, h2, h3, h4, h5⟩ := hq
      refine ⟨X, h1, h2, h4, fun x hx => ?_, h5⟩
      rcases List.mem_append.1 hx with hx | hx
      · exact (hs x hx).frxR (fun k hk => by omega) h5
      · rw [List.mem_singleton] at hx; subst hx; exact h3.lessR hVs
    | no a k => rw [ht] at hq; exact hq
  · intro e w' hq
    cases ht : listP 12 litP z ts with
    | ok xs r =>
      rw [ht] at hq
      obtain ⟨l, A, c, h1, h2, h3, h4, h5, h6⟩ := hq
      exact ⟨l, A, c, h1, h2, ⟨h3, h5⟩, h4, h6⟩
    | no a k => rw [ht] at hq; exact hq
/-! ### Rules -/
structure RlA where
  h : AmA
  f : Nat
  A : Option Addr
  c : Nat
  b : List LtA
def RlA.rl (x : RlA) : Rl := ⟨x.h.am, x.f, x.b.map LtA.lt⟩
def rlC (x : RlA) : List Value := [.string (bs x.h.p), .slice x.h.A x.h.a.length x.h.c, .int .i64 (x.f : Int), .slice x.A x.b.length x.c]
def RlA.ok (W : World) (base : Nat) (x : RlA) : Prop := x.h.ok W base ∧ BodyOk W base x.A x.c x.b
def RuleQ (R : Ans Rl) (rb tb z o : Nat) (W : World) (e : Ending) (w' : World) : Prop := match R with
  | .ok x r => ∃ X : RlA, X.rl = x ∧ e = .returned (.agg (rlC X).toArray) ∧ X.ok w' W.heap.size ∧ RdrAt w' rb tb z r o ∧ Fr (· = rb) W.heap.size W w'
  | .no a k => e = .panicked [{ v := faultP a k, recovered := false }] ∧ Fr (· = rb) W.heap.size W w'
theorem LSt.callX2 {w w' : World} {r : List Tk} {x0 : Lrow} {g : Nat} {T : TypeId} {cs cs' : List Value} (h : LSt rb tb z o W [x0, (g, T, cs)] ts w) (hr : RdrAt w' rb tb z r o) (hF : Fr (fun k => k = rb ∨ k = g) w.heap.size w w') (hR : Row T w' g cs') : LSt rb tb z o W [x0, (g, T, cs')] r w' := by
  have h0 := h.each x0 (.head _)
  have h1 := h.each _ (.tail _ (.head _))
  have hn := h.nd
  simp at hn
  have hrl := h.rl
  refine ⟨hr, h.fr.trans ⟨hF.os, hF.tape, hF.output, hF.size, fun k hk hne => hF.block k (Nat.lt_of_lt_of_le hk h.fr.size) fun e => e.elim hne fun e => by have := h1.2; simp only at this; omega⟩, fun x hx => ?_, by simpa using hn, h.rl, h.tl⟩
  rcases List.mem_cons.1 hx with rfl | hx
  · exact ⟨Row.fr h0.1 hF h0.1.lt fun e => e.elim (fun e => by have := h0.2; omega) hn, h0.2⟩
  · rw [List.mem_singleton] at hx; subst hx; exact ⟨hR, h1.2⟩
/-- A head, in the world with the rule's own struct. -/
theorem headA_any {xb : Nat} (W : World) (h : RdrAt W rb tb z ts o) (hg : GoodT ts) (hts : ts.length ≤ 20009) (hx : Row 33 W xb (ruleC 0)) (hxr : xb ≠ rb) (hxt : xb ≠ tb) :
    Calls Tryz.prog 59 #[.pointer (some ⟨rb, 0, none⟩), .func (.func 81) #[] #[.pointer (some ⟨xb, 0, none⟩)]] W fun e w' => match atomB headP z ts with
      | .ok x r => ∃ M : AmA, M.am = ⟨x.1, x.2.map Prod.fst⟩ ∧ e = .returned (.agg #[.string (bs M.p), .slice M.A M.a.length M.c]) ∧ M.ok w' W.heap.size ∧ RdrAt w' rb tb z r o ∧ Row 33 w' xb (ruleC (lastF x.2)) ∧ Fr (fun k => k = rb ∨ k = xb) W.heap.size W w'
      | .no a k => e = .panicked [{ v := faultP a k, recovered := false }] ∧ Fr (fun k => k = rb ∨ k = xb) W.heap.size W w' := by
  have hl := h.lt; have hxl := hx.lt
  refine (atom_head (β := Tm × Nat) id Prod.fst (HeadS xb) (fun k => k = rb ∨ k = xb) headP head_strict W (fun k hk => by omega) (.inl rfl) (fun l V V' Y hV hs hY hF => Row.fr hs hF hs.lt fun hy => by have := hY _ hy; omega)
    (fun V r l hr hV _ hs => rule1_any l V hV (hg.suf hr) hs hxr hxt) h hg hts hx).mono ?_
  intro e w' hq
  cases ht : atomB headP z ts with
  | ok x r =>
    rw [ht] at hq
    obtain ⟨l, A, c, h1, h2, h3, h4, h5, h6⟩ := hq
    rw [List.map_id] at h1
    subst h1
    refine ⟨⟨x.1, A, c, x.2.map Prod.fst⟩, rfl, by rw [h2]; simp only [List.length_map], ?_, h4, h5, h6⟩
    have e1 : cellsOf (fun b : Tm × Nat => tmC b.1) x.2 = cellsOf tmC (x.2.map Prod.fst) := by simp [cellsOf, List.flatMap_map]
    have h3' : w'.ownsRow W.heap.size 48 4 (.slice A x.2.length c) x.2.length (cellsOf (fun b : Tm × Nat => tmC b.1) x.2) := h3
    rw [e1] at h3'
    unfold AmA.ok OwnX
    simp only [List.length_map]
    exact h3'
  | no a k => rw [ht] at hq; exact hq
end
end Go.Proofs.YtahljmddnfldlaaGreatDoor

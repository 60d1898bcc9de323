/-
  One tree, or two, of a statement's own, while other memory stays as it was.
-/
import Derived.Test.YtojanokicfeghaaBtAwake
namespace Go.Proofs.Ytojanokicfeghaa
open Go.RowKit FloM ValM Go.Shelf
set_option linter.unusedVariables false
set_option linter.unusedSimpArgs false

theorem RdL.row {w : World} {A : Option Addr} {xs : List Sl} (h : RdL w A xs) (hne : 0 < xs.length) : ∃ b o, A = some ⟨b, o, none⟩ ∧ b < w.heap.size ∧ ∀ j x, xs[j]? = some x → w.cell? ⟨b, o + j, none⟩ = some (.slice x.A x.l.length x.c) := by
  obtain ⟨b, o, rfl, hb, _⟩ := h.at_ (List.getElem?_eq_getElem hne)
  refine ⟨b, o, rfl, hb, fun j x hx => ?_⟩
  obtain ⟨b', o', e, _, hc⟩ := h.at_ hx
  injection e with e; injection e with e1 e2 _; subst e1 e2; exact hc
theorem RdI.row {w : World} {A : Option Addr} {xs : List Int} (h : RdI w A xs) (hne : 0 < xs.length) : ∃ b o, A = some ⟨b, o, none⟩ ∧ b < w.heap.size ∧ ∀ (j : Nat) (x : Int), xs[j]? = some x → w.cell? ⟨b, o + j, none⟩ = some (.int .i64 x) := by
  obtain ⟨b, o, rfl, hb, _⟩ := h 0 _ (List.getElem?_eq_getElem hne)
  refine ⟨b, o, rfl, hb, fun j x hx => ?_⟩
  obtain ⟨b', o', e, _, hc⟩ := h j x hx
  injection e with e; injection e with e1 e2 _; subst e1 e2; exact hc
theorem rdV_row {w : World} {A : Option Addr} {l : List V} (h : RdV w A l) (hne : 0 < l.length) : ∃ b o, A = some ⟨b, o, none⟩ ∧ b < w.heap.size ∧ ∀ (j : Nat) (v : V), l[j]? = some v → CellsV w b (o + j * 3) v := by
  obtain ⟨b, o, rfl, hb, _⟩ := h 0 _ (List.getElem?_eq_getElem hne)
  refine ⟨b, o, rfl, hb, fun j x hx => ?_⟩
  obtain ⟨b', o', e, _, hc⟩ := h j x hx
  injection e with e; injection e with e1 e2 _; subst e1 e2; exact hc
theorem lsOf_at {xs : List Sl} {k : Nat} {x : Sl} (h : xs[k]? = some x) : (lsOf xs)[k]? = some x.l := by simp [lsOf, h]
theorem puts_next {p : List Int} {l : List (List V)} {k : Nat} {a : List V} (h : l[k]? = some a) : puts p (l.take (k + 1)) = putM p a (puts p (l.take k)) := by rw [take_snoc' h, puts_snoc]

/-! ### One tree -/
structure OneT (w : World) (g : Nat) (p : List Int) (M : List (List V)) (W : World) : Prop where
  t : TreeS (· = g) W g p M
  b : Below w.heap.size w W
  g0 : w.heap.size ≤ g
section
variable {w W W' : World} {g : Nat} {p : List Int} {M M' : List (List V)}
theorem OneT.start {w0 w1 : World} {P : Option Addr} {cp : Nat} (N : NewC p w0 w1 g P cp) (h : Below w.heap.size w w0) (hp : permB p = true) (hl : p.length ≤ 8) : OneT w g p [] w1 :=
  ⟨TreeS.one N hp hl, h.trans (N.b.mono h.size), Nat.le_trans h.size N.fresh⟩
theorem OneT.x (h : OneT w g p M W) : ∀ i, i = g → i < W.heap.size := fun i hi => by subst hi; exact h.t.lt
theorem OneT.on (h : OneT w g p M W) (hb : Below W.heap.size W W') : OneT w g p M W' := ⟨h.t.on hb, h.b.trans (hb.mono h.b.size), h.g0⟩
theorem OneT.put (h : OneT w g p M W) (ht : TreeS (· = g) W' g p M') (hF : Fr (· = g) W.heap.size W W') : OneT w g p M' W' :=
  ⟨ht, h.b.trans (hF.below h.b.size fun k hk e => by have := h.g0; omega), h.g0⟩
end

/-! ### Two trees -/
structure TwoT (w : World) (g1 g2 : Nat) (p1 p2 : List Int) (M1 M2 : List (List V)) (W : World) : Prop where
  t : TreeS (fun k => k = g1 ∨ k = g2) W g1 p1 M1
  u : TreeS (fun k => k = g1 ∨ k = g2) W g2 p2 M2
  b : Below w.heap.size w W
  g0 : w.heap.size ≤ g1
  lt : g1 < g2
section
variable {w W W' : World} {g1 g2 : Nat} {p1 p2 : List Int} {M1 M2 M' : List (List V)}
theorem TwoT.start {w0 w1 w2 w3 : World} {P1 P2 : Option Addr} {c1 c2 : Nat} (N1 : NewC p1 w0 w1 g1 P1 c1) (N2 : NewC p2 w2 w3 g2 P2 c2) (h : Below w.heap.size w w0) (h12 : Below w1.heap.size w1 w2) (hp1 : permB p1 = true) (hl1 : p1.length ≤ 8) (hp2 : permB p2 = true) (hl2 : p2.length ≤ 8) : TwoT w g1 g2 p1 p2 [] [] w3 := by
  obtain ⟨t, u, lt⟩ := TreeS.two N1 h12 N2 hp1 hl1 hp2 hl2
  have e1 := h.trans (N1.b.mono h.size)
  have e2 := e1.trans (h12.mono e1.size)
  exact ⟨t, u, e2.trans (N2.b.mono e2.size), Nat.le_trans h.size N1.fresh, lt⟩
theorem TwoT.x (h : TwoT w g1 g2 p1 p2 M1 M2 W) : ∀ i, (i = g1 ∨ i = g2) → i < W.heap.size := fun i hi => by
  rcases hi with rfl | rfl
  · exact h.t.lt
  · exact h.u.lt
theorem TwoT.on (h : TwoT w g1 g2 p1 p2 M1 M2 W) (hb : Below W.heap.size W W') : TwoT w g1 g2 p1 p2 M1 M2 W' := ⟨h.t.on hb, h.u.on hb, h.b.trans (hb.mono h.b.size), h.g0, h.lt⟩
theorem TwoT.put1 (h : TwoT w g1 g2 p1 p2 M1 M2 W) (ht : TreeS (fun k => k = g1 ∨ k = g2) W' g1 p1 M') (hF : Fr (· = g1) W.heap.size W W') : TwoT w g1 g2 p1 p2 M' M2 W' :=
  ⟨ht, h.u.other (.inl rfl) (by have := h.lt; omega) hF, h.b.trans (hF.below h.b.size fun k hk e => by have := h.g0; omega), h.g0, h.lt⟩
theorem TwoT.put2 (h : TwoT w g1 g2 p1 p2 M1 M2 W) (ht : TreeS (fun k => k = g1 ∨ k = g2) W' g2 p2 M') (hF : Fr (· = g2) W.heap.size W W') : TwoT w g1 g2 p1 p2 M1 M' W' :=
  ⟨h.t.other (.inr rfl) (by have := h.lt; omega) hF, ht, h.b.trans (hF.below h.b.size fun k hk e => by have := h.g0; have := h.lt; omega), h.g0, h.lt⟩
end
/-! ### What was told -/
/-- A row of tuples that told made, by its list. -/
structure ToldR (W : World) (A : Option Addr) (c : Nat) (xs : List Sl) (M : List (List V)) : Prop where
  rd : RdL W A xs
  e : lsOf xs = M
  cap : M.length ≤ c
  capm : c ≤ maxLen
  low : ∀ a, A = some a → 0 ≤ a.block
theorem ToldR.on {W W' : World} {A : Option Addr} {c : Nat} {xs : List Sl} {M : List (List V)} (h : ToldR W A c xs M) (hb : Below W.heap.size W W') : ToldR W' A c xs M := ⟨h.rd.on hb, h.e, h.cap, h.capm, h.low⟩
theorem ToldR.len {W : World} {A : Option Addr} {c : Nat} {xs : List Sl} {M : List (List V)} (h : ToldR W A c xs M) : xs.length = M.length := by rw [← h.e]; simp [lsOf]
theorem ToldR.at_ {W : World} {A : Option Addr} {c : Nat} {xs : List Sl} {M : List (List V)} (h : ToldR W A c xs M) {k : Nat} {x : Sl} (hx : xs[k]? = some x) : M[k]? = some x.l := by rw [← h.e]; exact lsOf_at hx
theorem toldS_any {X : Nat → Prop} {M : List (List V)} {gf : Nat} {lb : Array Value} (w : World) (eg : ∀ args w, (callFunc gf args).run Try.prog w = .ok (.enter gf args) w) (hseq : SeqR gf lb X w.heap.size M w) (hX : ∀ k, X k → k < w.heap.size) (hM : M.length ≤ 1000000) (hl : ∀ x ∈ M, x.length ≤ 1000) :
    Calls Try.prog 15 #[.func (.func gf) #[] lb] w fun e w' => ∃ A c xs, e = .returned (.slice A M.length c) ∧ ToldR w' A c xs M ∧ Below w.heap.size w w' ∧ (∀ a, A = some a → w.heap.size ≤ a.block) ∧ RdT X w' A xs := by
  refine (told_any w w eg hseq (Below.refl _ _) (Nat.le_refl _) hM hX).mono ?_
  rintro e w' ⟨A, c, xs, hs⟩
  refine ⟨A, c, xs, hs.val, ⟨hs.rd.rdL fun x hx => ?_, hs.vals, hs.cap, hs.capm, fun _ _ => Nat.zero_le _⟩, hs.b, hs.own, hs.rd⟩
  have := hl x.l (by rw [← hs.vals]; exact List.mem_map_of_mem hx)
  unfold maxLen; omega
theorem sameR_any {W : World} {A B : Option Addr} {c d : Nat} {ys zs : List Sl} {M : List (List V)} (hy : ToldR W A c ys M) (hz : ToldR W B d zs M) (hM : M.length ≤ maxLen) :
    Calls Try.prog 29 #[.slice A M.length c, .slice B M.length d] W fun e w' => e = .returned (.bool true) ∧ Below W.heap.size W w' := by
  have := same_yes A B c d ys zs W hy.rd hz.rd (by rw [hy.len]; exact hM) (by rw [hy.e, hz.e])
  rwa [hy.len, hz.len] at this
theorem sort_at {p : List Int} {M : List (List V)} (h : SortS p M) {j : Nat} {a b : List V} (ha : M[j]? = some a) (hb : M[j + 1]? = some b) : cmpC p a b = -1 := by
  obtain ⟨h1, rfl⟩ := List.getElem?_eq_some_iff.1 ha
  obtain ⟨h2, rfl⟩ := List.getElem?_eq_some_iff.1 hb
  exact List.pairwise_iff_getElem.1 h j (j + 1) h1 h2 (by omega)
/-- told(x.All()) told all, or told(x.From(..)): what follows from what the iterator says. -/
theorem FitS.short {p : List Int} {M : List (List V)} (h : FitS p M) (hp : p.length ≤ 1000) : ∀ x ∈ M, x.length ≤ 1000 := fun x hx => by rw [h.lens x hx]; exact hp
theorem beg_short {p : List Int} {hd : List V} {M : List (List V)} (h : ∀ x ∈ M, x.length ≤ 1000) : ∀ x ∈ beg p hd M, x.length ≤ 1000 := fun x hx => h x (List.mem_filter.1 hx).1
theorem beg_len (p : List Int) (hd : List V) (M : List (List V)) : (beg p hd M).length ≤ M.length := List.length_filter_le _ _
end Go.Proofs.Ytojanokicfeghaa

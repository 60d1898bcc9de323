/-
  Contract of the statements' own few (layer 4).
-/
import Derived.Test.YtpmkhpbhimmeiaaGreatBtRefL
import Derived.Test.YtpmkhpbhimmeiaaGreatTupRefB
import Derived.Test.YtpmkhpbhimmeiaaGreatTupRefC
import Derived.Maps.AppendAt
namespace Go.Proofs.YtpmkhpbhimmeiaaGreat
open Go.RowKit FloM ValM Go.Shelf
set_option linter.unusedVariables false
set_option linter.unusedSimpArgs false
/-! ### few -/
def fewB (M : List (List V)) : Bool := M.all (fun a => decide (a.length ≤ 12)) && decide (M.length ≤ 150)
theorem fewB_yes {M : List (List V)} (h : fewB M = true) : (∀ a ∈ M, a.length ≤ 12) ∧ M.length ≤ 150 := by
  unfold fewB at h
  rw [Bool.and_eq_true, List.all_eq_true, decide_eq_true_eq] at h
  exact ⟨fun a ha => by simpa using h.1 a ha, h.2⟩
theorem fewB_long {M : List (List V)} {a : List V} (ha : a ∈ M) (h : 12 < a.length) : fewB M = false := by
  unfold fewB
  rw [Bool.and_eq_false_iff]; left
  rw [List.all_eq_false]; exact ⟨a, ha, by simp; omega⟩
theorem fewB_all {M : List (List V)} (h : ∀ a ∈ M, a.length ≤ 12) : fewB M = decide (M.length ≤ 150) := by
  unfold fewB
  rw [List.all_eq_true.2 (fun a ha => by simpa using h a ha), Bool.true_and]
def FewL (xs : List Sl) (i : Value) : Prop := ∃ k : Nat, i = .int .i64 (k : Nat) ∧ k ≤ xs.length ∧ ∀ x ∈ xs.take k, x.l.length ≤ 12
end Go.Proofs.YtpmkhpbhimmeiaaGreat
/-
  Contract of the statements' own awake (layer 4).
-/
namespace Go.Proofs.YtpmkhpbhimmeiaaGreat
open Go.RowKit FloM ValM Go.Shelf
set_option linter.unusedVariables false
set_option linter.unusedSimpArgs false

theorem rdC_made (w : World) (cs : Array Value) (t : TypeId) : RdC (w.alloc (.cells cs t)) (some ⟨w.heap.size, 0, none⟩) cs.toList := fun j u hu => by
  have h := news_one w cs t j u hu
  have hadd : (⟨w.heap.size, 0, none⟩ : Addr).add j = ⟨w.heap.size, 0 + j, none⟩ := by unfold Addr.add; split <;> simp_all
  rw [hadd] at h
  exact ⟨_, _, rfl, by simp, h⟩
theorem rdI_new (w : World) (l : List Int) (t : TypeId) : RdI (w.alloc (.cells (icells l).toArray t)) (some ⟨w.heap.size, 0, none⟩) l := fun i x hx => by
  obtain ⟨b, o, e, hb, hc⟩ := rdC_made w (icells l).toArray t i (.int .i64 x) (by simp [icells, hx])
  exact ⟨b, o, e, hb, hc⟩
theorem rdV_new (w : World) (l : List V) (t : TypeId) : RdV (w.alloc (.cells (vcells l).toArray t)) (some ⟨w.heap.size, 0, none⟩) l := fun i v hv => by
  obtain ⟨h0, h1, h2⟩ := vcells_at hv
  have f := fun (k : Nat) (u : Value) (hu : (vcells l)[k]? = some u) => news_one w (vcells l).toArray t k u hu
  have hadd : ∀ k, (⟨w.heap.size, 0, none⟩ : Addr).add k = ⟨w.heap.size, k, none⟩ := fun k => by unfold Addr.add; split <;> simp_all
  simp only [hadd] at f
  exact ⟨_, 0, rfl, by simp, by rw [Nat.zero_add]; exact ⟨f _ _ h0, f _ _ h1, f _ _ h2⟩⟩
def awA : List V := [⟨1, 1, ByteArray.empty⟩, ⟨1, 9, ByteArray.empty⟩]
def awB : List V := [⟨1, 2, ByteArray.empty⟩, ⟨1, 3, ByteArray.empty⟩]
theorem aw_cmp : cmpC [1, 0] awA awB = 1 := by decide
theorem aw_cmp2 : cmpC [1, 0] awB awA = -1 := by decide
theorem aw_m1 : putM [1, 0] awA [] = [awA] := rfl
theorem aw_m2 : putM [1, 0] awB [awA] = [awB, awA] := by
  rw [putM, if_pos (show awB.length = ([1, 0] : List Int).length from rfl), insS, aw_cmp]; rfl
theorem aw_m3 : putM [1, 0] awA [awB, awA] = [awB, awA] := by
  rw [putM, if_pos (show awA.length = ([1, 0] : List Int).length from rfl), insS, aw_cmp2, insS, cmpC_self]; rfl
theorem aw_b1 : putB [1, 0] awA [] = true := rfl
theorem aw_b2 : putB [1, 0] awB [awA] = true := by
  have : inS [1, 0] awB [awA] = false := by simp [inS, aw_cmp]
  rw [putB, this]; rfl
theorem aw_b3 : putB [1, 0] awA [awB, awA] = false := by
  have : inS [1, 0] awA [awB, awA] = true := by simp [inS, cmpC_self]
  rw [putB, this]; rfl
theorem aw_e1 : putE [1, 0] awA = 0 := rfl
theorem aw_e2 : putE [1, 0] awB = 0 := rfl
theorem aw_h : hasB [1, 0] awB [awB, awA] = true := by
  have : inS [1, 0] awB [awB, awA] = true := by simp [inS, cmpC_self]
  rw [hasB, this]; rfl
theorem aw_d : deepestN [awB, awA].length = 1 := by decide +kernel
structure AwF (w w1 W : World) (g : Nat) (M : List (List V)) : Prop where
  t : TreeS (· = g) W g [1, 0] M
  a : RdV W (some ⟨w1.heap.size, 0, none⟩) awA
  b : RdV W (some ⟨w1.heap.size + 1, 0, none⟩) awB
  gl : g < w1.heap.size
  g0 : w.heap.size ≤ g
  s : w1.heap.size ≤ W.heap.size
  b0 : Below w.heap.size w W
theorem AwF.start {w w1 : World} {g : Nat} {P : Option Addr} {cp : Nat} {c : Obj} (N : NewC [1, 0] (w.alloc c) w1 g P cp) :
    AwF w w1 ((w1.alloc (.cells #[.int .i64 1, .int .i64 1, .string ByteArray.empty, .int .i64 1, .int .i64 9, .string ByteArray.empty] 69)).alloc (.cells #[.int .i64 1, .int .i64 2, .string ByteArray.empty, .int .i64 1, .int .i64 3, .string ByteArray.empty] 69)) g [] := by
  have h1 : Below w.heap.size w w1 := ((Below.refl _ _).alloc (Nat.le_refl _) c).trans (N.b.mono (by simp))
  have h2 := (Below.refl w1.heap.size w1).alloc (Nat.le_refl _) (.cells #[.int .i64 1, .int .i64 1, .string ByteArray.empty, .int .i64 1, .int .i64 9, .string ByteArray.empty] 69)
  have h3 := (Below.refl _ (w1.alloc (.cells #[.int .i64 1, .int .i64 1, .string ByteArray.empty, .int .i64 1, .int .i64 9, .string ByteArray.empty] 69))).alloc (Nat.le_refl _) (.cells #[.int .i64 1, .int .i64 2, .string ByteArray.empty, .int .i64 1, .int .i64 3, .string ByteArray.empty] 69)
  have h4 := h2.trans (h3.mono h2.size)
  refine ⟨(TreeS.one N (by decide) (by decide)).on h4, (rdV_new w1 awA _).on h3, ?_, N.lt, by have := N.fresh; simp at this; omega, h4.size, h1.trans (h4.mono h1.size)⟩
  have := rdV_new (w1.alloc (.cells #[.int .i64 1, .int .i64 1, .string ByteArray.empty, .int .i64 1, .int .i64 9, .string ByteArray.empty] 69)) awB 69
  rwa [show (w1.alloc (.cells #[.int .i64 1, .int .i64 1, .string ByteArray.empty, .int .i64 1, .int .i64 9, .string ByteArray.empty] 69)).heap.size = w1.heap.size + 1 by simp] at this
theorem AwF.put {w w1 W W' : World} {g : Nat} {M M' : List (List V)} (h : AwF w w1 W g M) (ht : TreeS (· = g) W' g [1, 0] M') (hF : Fr (· = g) W.heap.size W W') : AwF w w1 W' g M' :=
  ⟨ht, h.a.onF (fun a ha e => by cases ha; have := h.gl; simp only at e; omega) hF, h.b.onF (fun a ha e => by cases ha; have := h.gl; simp only at e; omega) hF, h.gl, h.g0, Nat.le_trans h.s hF.size,
    h.b0.trans (hF.below h.b0.size fun k hk e => by have := h.g0; omega)⟩
theorem AwF.on {w w1 W W' : World} {g : Nat} {M : List (List V)} (h : AwF w w1 W g M) (hb : Below W.heap.size W W') : AwF w w1 W' g M :=
  ⟨h.t.on hb, h.a.on hb, h.b.on hb, h.gl, h.g0, Nat.le_trans h.s hb.size, h.b0.trans (hb.mono h.b0.size)⟩
theorem AwF.x {w w1 W : World} {g : Nat} {M : List (List V)} (h : AwF w w1 W g M) : ∀ i, i = g → i < W.heap.size := fun i hi => by have := h.gl; have := h.s; omega
/-- What told hands back: two tuples, the first one reads awB. -/
structure AwT (W : World) (A : Option Addr) (b o : Nat) (x : Sl) : Prop where
  e : A = some ⟨b, o, none⟩
  lt : b < W.heap.size
  c : W.cell? ⟨b, o, none⟩ = some (.slice x.A x.l.length x.c)
  l : x.l = awB
  r : RdV W x.A awB
theorem awT_of {X : Nat → Prop} {w W : World} {e : Ending} {A : Option Addr} {c : Nat} {xs : List Sl} (h : SaysT X [awB, awA] w e W A c xs) : ∃ b o x, AwT W A b o x := by
  have hv := h.vals
  rcases xs with _ | ⟨x, xs⟩
  · cases hv
  have hx : x.l = awB := by simp only [List.map_cons, List.cons.injEq] at hv; exact hv.1
  obtain ⟨b, o, e, hl, hc⟩ := h.rd.at_ (j := 0) (x := x) rfl
  exact ⟨b, o, x, e, hl, hc, hx, hx ▸ (h.rd.each x (List.mem_cons_self ..)).rd⟩
theorem AwT.on {W W' : World} {A : Option Addr} {b o : Nat} {x : Sl} (h : AwT W A b o x) (hb : Below W.heap.size W W') : AwT W' A b o x :=
  ⟨h.e, Nat.lt_of_lt_of_le h.lt hb.size, (keep hb _ _ h.lt).trans h.c, h.l, h.r.on hb⟩
theorem aw_ord : ordV awB awB = 0 := ord_self _
end Go.Proofs.YtpmkhpbhimmeiaaGreat
/-
  One tree, or two, of a statement's own, while other memory stays as it was.
-/
namespace Go.Proofs.YtpmkhpbhimmeiaaGreat
open Go.RowKit FloM ValM Go.Shelf
set_option linter.unusedVariables false
set_option linter.unusedSimpArgs false

theorem RdL.row {w : World} {A : Option Addr} {xs : List Sl} (h : RdL w A xs) (hne : 0 < xs.length) : ∃ b o, A = some ⟨b, o, none⟩ ∧ b < w.heap.size ∧ ∀ j x, xs[j]? = some x → w.cell? ⟨b, o + j, none⟩ = some (.slice x.A x.l.length x.c) := by
  obtain ⟨b, o, rfl, hb, _⟩ := h.at_ (List.getElem?_eq_getElem hne)
  refine ⟨b, o, rfl, hb, fun j x hx => ?_⟩
  obtain ⟨b', o', e, _, hc⟩ := h.at_ hx
  injection e with e; injection e with e1 e2 _; subst e1 e2; exact hc
theorem RdI.row {w : World} {A : Option Addr} {xs : List Int} (h : RdI w A xs) (hne : 0 < xs.length) : ∃ b o, A = some ⟨b, o, none⟩ ∧ b < w.heap.size ∧ ∀ (j : Nat) (x : Int), xs[j]? = some x → w.cell? ⟨b, o + j, none⟩ = some (.int .i64 x) := by
  obtain ⟨b, o, rfl, hb, _⟩ := h 0 _ (List.getElem?_eq_getElem hne)
  refine ⟨b, o, rfl, hb, fun j x hx => ?_⟩
  obtain ⟨b', o', e, _, hc⟩ := h j x hx
  injection e with e; injection e with e1 e2 _; subst e1 e2; exact hc
theorem rdV_row {w : World} {A : Option Addr} {l : List V} (h : RdV w A l) (hne : 0 < l.length) : ∃ b o, A = some ⟨b, o, none⟩ ∧ b < w.heap.size ∧ ∀ (j : Nat) (v : V), l[j]? = some v → CellsV w b (o + j * 3) v := by
  obtain ⟨b, o, rfl, hb, _⟩ := h 0 _ (List.getElem?_eq_getElem hne)
  refine ⟨b, o, rfl, hb, fun j x hx => ?_⟩
  obtain ⟨b', o', e, _, hc⟩ := h j x hx
  injection e with e; injection e with e1 e2 _; subst e1 e2; exact hc
theorem lsOf_at {xs : List Sl} {k : Nat} {x : Sl} (h : xs[k]? = some x) : (lsOf xs)[k]? = some x.l := by simp [lsOf, h]
theorem puts_next {p : List Int} {l : List (List V)} {k : Nat} {a : List V} (h : l[k]? = some a) : puts p (l.take (k + 1)) = putM p a (puts p (l.take k)) := by rw [take_snoc' h, puts_snoc]

/-! ### One tree -/
structure OneT (w : World) (g : Nat) (p : List Int) (M : List (List V)) (W : World) : Prop where
  t : TreeS (· = g) W g p M
  b : Below w.heap.size w W
  g0 : w.heap.size ≤ g
section
variable {w W W' : World} {g : Nat} {p : List Int} {M M' : List (List V)}
theorem OneT.start {w0 w1 : World} {P : Option Addr} {cp : Nat} (N : NewC p w0 w1 g P cp) (h : Below w.heap.size w w0) (hp : permB p = true) (hl : p.length ≤ 8) : OneT w g p [] w1 :=
  ⟨TreeS.one N hp hl, h.trans (N.b.mono h.size), Nat.le_trans h.size N.fresh⟩
theorem OneT.x (h : OneT w g p M W) : ∀ i, i = g → i < W.heap.size := fun i hi => by subst hi; exact h.t.lt
theorem OneT.on (h : OneT w g p M W) (hb : Below W.heap.size W W') : OneT w g p M W' := ⟨h.t.on hb, h.b.trans (hb.mono h.b.size), h.g0⟩
theorem OneT.put (h : OneT w g p M W) (ht : TreeS (· = g) W' g p M') (hF : Fr (· = g) W.heap.size W W') : OneT w g p M' W' :=
  ⟨ht, h.b.trans (hF.below h.b.size fun k hk e => by have := h.g0; omega), h.g0⟩
end

/-! ### Two trees -/
structure TwoT (w : World) (g1 g2 : Nat) (p1 p2 : List Int) (M1 M2 : List (List V)) (W : World) : Prop where
  t : TreeS (fun k => k = g1 ∨ k = g2) W g1 p1 M1
  u : TreeS (fun k => k = g1 ∨ k = g2) W g2 p2 M2
  b : Below w.heap.size w W
  g0 : w.heap.size ≤ g1
  lt : g1 < g2
section
variable {w W W' : World} {g1 g2 : Nat} {p1 p2 : List Int} {M1 M2 M' : List (List V)}
theorem TwoT.start {w0 w1 w2 w3 : World} {P1 P2 : Option Addr} {c1 c2 : Nat} (N1 : NewC p1 w0 w1 g1 P1 c1) (N2 : NewC p2 w2 w3 g2 P2 c2) (h : Below w.heap.size w w0) (h12 : Below w1.heap.size w1 w2) (hp1 : permB p1 = true) (hl1 : p1.length ≤ 8) (hp2 : permB p2 = true) (hl2 : p2.length ≤ 8) : TwoT w g1 g2 p1 p2 [] [] w3 := by
  obtain ⟨t, u, lt⟩ := TreeS.two N1 h12 N2 hp1 hl1 hp2 hl2
  have e1 := h.trans (N1.b.mono h.size)
  have e2 := e1.trans (h12.mono e1.size)
  exact ⟨t, u, e2.trans (N2.b.mono e2.size), Nat.le_trans h.size N1.fresh, lt⟩
theorem TwoT.x (h : TwoT w g1 g2 p1 p2 M1 M2 W) : ∀ i, (i = g1 ∨ i = g2) → i < W.heap.size := fun i hi => by
  rcases hi with rfl | rfl
  · exact h.t.lt
  · exact h.u.lt
theorem TwoT.on (h : TwoT w g1 g2 p1 p2 M1 M2 W) (hb : Below W.heap.size W W') : TwoT w g1 g2 p1 p2 M1 M2 W' := ⟨h.t.on hb, h.u.on hb, h.b.trans (hb.mono h.b.size), h.g0, h.lt⟩
theorem TwoT.put1 (h : TwoT w g1 g2 p1 p2 M1 M2 W) (ht : TreeS (fun k => k = g1 ∨ k = g2) W' g1 p1 M') (hF : Fr (· = g1) W.heap.size W W') : TwoT w g1 g2 p1 p2 M' M2 W' :=
  ⟨ht, h.u.other (.inl rfl) (by have := h.lt; omega) hF, h.b.trans (hF.below h.b.size fun k hk e => by have := h.g0; omega), h.g0, h.lt⟩
theorem TwoT.put2 (h : TwoT w g1 g2 p1 p2 M1 M2 W) (ht : TreeS (fun k => k = g1 ∨ k = g2) W' g2 p2 M') (hF : Fr (· = g2) W.heap.size W W') : TwoT w g1 g2 p1 p2 M1 M' W' :=
  ⟨h.t.other (.inr rfl) (by have := h.lt; omega) hF, ht, h.b.trans (hF.below h.b.size fun k hk e => by have := h.g0; have := h.lt; omega), h.g0, h.lt⟩
end
/-! ### What was told -/
/-- A row of tuples that told made, by its list. -/
structure ToldR (W : World) (A : Option Addr) (c : Nat) (xs : List Sl) (M : List (List V)) : Prop where
  rd : RdL W A xs
  e : lsOf xs = M
  cap : M.length ≤ c
  capm : c ≤ maxLen
  low : ∀ a, A = some a → 0 ≤ a.block
theorem ToldR.on {W W' : World} {A : Option Addr} {c : Nat} {xs : List Sl} {M : List (List V)} (h : ToldR W A c xs M) (hb : Below W.heap.size W W') : ToldR W' A c xs M := ⟨h.rd.on hb, h.e, h.cap, h.capm, h.low⟩
theorem ToldR.len {W : World} {A : Option Addr} {c : Nat} {xs : List Sl} {M : List (List V)} (h : ToldR W A c xs M) : xs.length = M.length := by rw [← h.e]; simp [lsOf]
theorem ToldR.at_ {W : World} {A : Option Addr} {c : Nat} {xs : List Sl} {M : List (List V)} (h : ToldR W A c xs M) {k : Nat} {x : Sl} (hx : xs[k]? = some x) : M[k]? = some x.l := by rw [← h.e]; exact lsOf_at hx
theorem sameR_any {W : World} {A B : Option Addr} {c d : Nat} {ys zs : List Sl} {M : List (List V)} (hy : ToldR W A c ys M) (hz : ToldR W B d zs M) (hM : M.length ≤ maxLen) :
    Calls Tryz.prog 16 #[.slice A M.length c, .slice B M.length d] W fun e w' => e = .returned (.bool true) ∧ Below W.heap.size W w' := by
  have := same_yes A B c d ys zs W hy.rd hz.rd (by rw [hy.len]; exact hM) (by rw [hy.e, hz.e])
  rwa [hy.len, hz.len] at this
theorem sort_at {p : List Int} {M : List (List V)} (h : SortS p M) {j : Nat} {a b : List V} (ha : M[j]? = some a) (hb : M[j + 1]? = some b) : cmpC p a b = -1 := by
  obtain ⟨h1, rfl⟩ := List.getElem?_eq_some_iff.1 ha
  obtain ⟨h2, rfl⟩ := List.getElem?_eq_some_iff.1 hb
  exact List.pairwise_iff_getElem.1 h j (j + 1) h1 h2 (by omega)
/-- told(x.All()) told all, or told(x.From(..)): what follows from what the iterator says. -/
theorem FitS.short {p : List Int} {M : List (List V)} (h : FitS p M) (hp : p.length ≤ 1000) : ∀ x ∈ M, x.length ≤ 1000 := fun x hx => by rw [h.lens x hx]; exact hp
theorem beg_short {p : List Int} {hd : List V} {M : List (List V)} (h : ∀ x ∈ M, x.length ≤ 1000) : ∀ x ∈ beg p hd M, x.length ≤ 1000 := fun x hx => h x (List.mem_filter.1 hx).1
theorem beg_len (p : List Int) (hd : List V) (M : List (List V)) : (beg p hd M).length ≤ M.length := List.length_filter_le _ _
end Go.Proofs.YtpmkhpbhimmeiaaGreat
/-
  Contracts of the document's own tree (package antecedentref04): New, Has, From.
-/
namespace Go.Proofs.YtpmkhpbhimmeiaaGreat
open Go.RowKit FloM ValM Go.Shelf
set_option linter.unusedVariables false
set_option linter.unusedSimpArgs false

def blkR (b : Nat) (P : Option Addr) (m cp : Nat) (A : Option Addr) (n c : Nat) (w : World) : Prop := w.heap[b]? = some (.cells #[.slice P m cp, .slice A n c] 43 (0, 0))
/-- The document's own tree at b, by p, with the tuples M in order. -/
structure RefS (X : Nat → Prop) (W : World) (b : Nat) (p : List Int) (M : List (List V)) : Prop where
  ex : ∃ P cp A c xs, blkR b P p.length cp A xs.length c W ∧ RdI W P p ∧ Off X P ∧ RdT X W A xs ∧ lsOf xs = M ∧ p.length ≤ cp ∧ cp ≤ maxLen ∧ xs.length ≤ c ∧ c ≤ maxLen ∧ (xs = [] → A = none ∧ c = 0)
  mem : X b
  fit : FitS p M
  perm : permB p = true
  few : p.length ≤ 8
section
variable {X : Nat → Prop} {w w' : World} {b : Nat} {p : List Int} {M : List (List V)}
theorem RefS.lt (h : RefS X w b p M) : b < w.heap.size := by
  obtain ⟨P, cp, A, c, xs, hb, _⟩ := h.ex; exact (Array.getElem?_eq_some_iff.1 (show w.heap[b]? = _ from hb)).1
theorem RefS.on (h : RefS X w b p M) (hb : Below w.heap.size w w') : RefS X w' b p M := by
  obtain ⟨P, cp, A, c, xs, h1, h2, h3, h4, h5, h6, h7, h8, h9, h10⟩ := h.ex
  exact ⟨⟨P, cp, A, c, xs, (hb.block _ h.lt).trans h1, h2.on hb, h3, h4.on hb, h5, h6, h7, h8, h9, h10⟩, h.mem, h.fit, h.perm, h.few⟩
theorem RefS.onF (h : RefS X w b p M) (hb : Fr X w.heap.size w w') (hg : w'.heap[b]? = w.heap[b]?) : RefS X w' b p M := by
  obtain ⟨P, cp, A, c, xs, h1, h2, h3, h4, h5, h6, h7, h8, h9, h10⟩ := h.ex
  exact ⟨⟨P, cp, A, c, xs, hg.trans h1, h2.onF h3 hb, h3, h4.onF hb, h5, h6, h7, h8, h9, h10⟩, h.mem, h.fit, h.perm, h.few⟩
theorem RefS.other {g' : Nat} (h : RefS X w b p M) (hg' : X g') (hne : b ≠ g') (hb : Fr (· = g') w.heap.size w w') : RefS X w' b p M :=
  h.onF (hb.sub fun k _ hk => by subst hk; exact hg') (hb.block b h.lt hne)
theorem RefS.short (h : RefS X w b p M) {P : Option Addr} {A : Option Addr} {xs : List Sl} (hr : RdT X w A xs) (e : lsOf xs = M) : RdL w A xs := hr.rdL fun x hx => by
  have := h.fit.lens x.l (by rw [← e]; exact List.mem_map_of_mem hx)
  have := h.few
  unfold maxLen; omega
end
structure NewR (p : List Int) (w w' : World) (b : Nat) (P : Option Addr) (cp : Nat) : Prop where
  fresh : w.heap.size ≤ b
  row : ∀ a, P = some a → w.heap.size ≤ a.block ∧ a.block < b
  blk : blkR b P p.length cp none 0 0 w'
  rp : RdI w' P p
  cap : p.length ≤ cp
  capm : cp ≤ maxLen
  b : Below w.heap.size w w'
theorem NewR.lt {p : List Int} {w w' : World} {b : Nat} {P : Option Addr} {cp : Nat} (N : NewR p w w' b P cp) : b < w'.heap.size := (Array.getElem?_eq_some_iff.1 (show w'.heap[b]? = _ from N.blk)).1
theorem RefS.start {X : Nat → Prop} {p : List Int} {w0 w1 w : World} {b : Nat} {P : Option Addr} {cp : Nat} (N : NewR p w0 w1 b P cp) (h : Below w1.heap.size w1 w) (hb : X b) (hP : ∀ a, P = some a → ¬ X a.block) (hp : permB p = true) (hl : p.length ≤ 8) : RefS X w b p [] :=
  ⟨⟨P, cp, none, 0, [], (h.block _ N.lt).trans N.blk, N.rp.on h, hP, RdT.nil (Off.none _), rfl, N.cap, N.capm, Nat.le_refl _, Nat.zero_le _, fun _ => ⟨rfl, rfl⟩⟩, hb, FitS.nil p, hp, hl⟩

/-! ### New -/
set_option maxHeartbeats 1000000 in
theorem refNew_bad (A : Option Addr) (c : Nat) (p : List Int) (w : World) (hp : RdI w A p) (hl : p.length ≤ 1000) (hb : permB p = false ∨ 8 < p.length) :
    Calls Tryz.prog 38 #[.slice A p.length c] w fun e w' => e = .returned (.pointer none) ∧ w = w' := by
  have HP := Lib.hid (refPerm_any A c p w hp hl)
  clear hp
  obtain ⟨b, hpb⟩ : ∃ b, permB p = b := ⟨_, rfl⟩
  rw [hpb] at HP hb
  clear hpb
  cases b
  · clear hb
    go_enter Tryz.func38, Tryz.ntmps38
    go_wp2_with (go_at_call 37; refine HP.out.mono ?_; rintro e w1 ⟨rfl, rfl⟩)
    go_ret
    exact ⟨rfl, rfl⟩
  · have h8 : (8 : Int) < (p.length : Int) := by simp at hb; omega
    clear hb
    go_enter Tryz.func38, Tryz.ntmps38
    go_wp2_with (go_at_call 37; refine HP.out.mono ?_; rintro e w1 ⟨rfl, rfl⟩)
    go_ret
    exact ⟨rfl, rfl⟩
set_option maxRecDepth 20000 in
set_option maxHeartbeats 2000000 in
theorem refNew_any (A : Option Addr) (c : Nat) (p : List Int) (w : World) (hp : RdI w A p) (hl : p.length ≤ 8) (hb : permB p = true) :
    Calls Tryz.prog 38 #[.slice A p.length c] w fun e w' => ∃ b P cp, e = .returned (.pointer (some ⟨b, 0, none⟩)) ∧ NewR p w w' b P cp := by
  have HP := Lib.hid (refPerm_any A c p w hp (by omega))
  rw [hb] at HP
  have h8 : ¬ (8 : Int) < (p.length : Int) := by omega
  have HH := Lib.hid (rdI_rdC hp); clear hp hb
  have HL := Lib.hid (show (icells p).length = p.length by simp [icells])
  obtain ⟨i0, hi0, hz0, hz1, hz2⟩ := info_parts info_int
  have HI0 := Lib.hid hi0; have HZ0 := Lib.hid hz0; have HZ1 := Lib.hid hz1; have HZ2 := Lib.hid hz2
  clear hi0 hz0 hz1 hz2
  have hB : Below w.heap.size w (w.alloc (.cells #[] 3)) := (Below.refl _ _).alloc (Nat.le_refl _) _
  go_enter Tryz.func38, Tryz.ntmps38
  go_wp2_with (first
    | (go_at_call 37; refine HP.out.mono ?_; rintro e w1 ⟨rfl, rfl⟩)
    | (at_builtin; refine wpList_appC rfl (.tmp 11) (.tmp 12) 24 rfl w.heap.size 3 i0 _ 8 Tryz.underlying24 HI0.out HZ0.out HZ1.out HZ2.out rfl (by omega) _ 0 0 [] rfl (own_made1 w _) A c _ (icells p) HL.out rfl (HH.out.on hB) (fun u hu => by simp only [icells, List.mem_map] at hu; obtain ⟨_, _, rfl⟩ := hu; rfl) (by omega) hB.size ?_; intro A3 c3 w3 ho3 hg3))
  go_ret
  simp only [List.nil_append, Nat.zero_add] at ho3 ⊢
  have h4 := (Below.refl w3.heap.size w3).alloc (Nat.le_refl _) (.cells #[.slice A3 p.length c3, .slice none 0 0] 43)
  have h3 := hB.grown hg3 hB.size (own_base (own_made1 w 3))
  exact ⟨w3.heap.size, A3, c3, rfl, h3.size, fun a ha => by subst ha; exact ⟨own_base ho3 a.block rfl, own_lt ho3 _ rfl⟩, heap_alloc_new _ _, (rdC_rdI (own_rdC ho3)).on h4, (own_cap ho3).1, (own_cap ho3).2, h3.trans (h4.mono h3.size)⟩

/-! ### Has -/
def RHasRel (w : World) (M : List (List V)) (a : List V) (i : Value) (wr : World) : Prop := ∃ k : Nat, i = .int .i64 (k : Nat) ∧ k ≤ M.length ∧ Below w.heap.size w wr ∧ ∀ z ∈ M.take k, z ≠ a
set_option maxRecDepth 20000 in
set_option maxHeartbeats 4000000 in
theorem refHas_any {X : Nat → Prop} {b : Nat} {p : List Int} {M : List (List V)} (B : Option Addr) (cb : Nat) (a : List V) (w : World) (h : RefS X w b p M) (ha : RdV w B a) (la : a.length ≤ maxLen) (hM : M.length ≤ 100000) :
    Calls Tryz.prog 14 #[.pointer (some ⟨b, 0, none⟩), .slice B a.length cb] w fun e w' => e = .returned (.bool (hasB p a M)) ∧ Below w.heap.size w w' := by
  have hlt := h.lt
  obtain ⟨P, cp, A, c, xs, h1, h2, h3, h4, h5, h6, h7, h8, h9, h10⟩ := h.ex
  have hxl : xs.length = M.length := by rw [← h5]; simp [lsOf]
  have c1 : w.cell? ⟨b, 1, none⟩ = some (.slice A xs.length c) := by simp [World.cell?, show w.heap[b]? = _ from h1]
  have HL := Lib.hid (h.short (P := P) h4 h5)
  have HA := Lib.hid ha; have HS := Lib.hid h; have H5 := Lib.hid h5
  clear h1 h2 h3 h4 h5 ha h
  unfold maxLen at h9
  rw [hxl] at c1
  go_enter Tryz.func14, Tryz.ntmps14
  go_wp2
  go_loopw [11] (fun i wr => RHasRel w M a i wr) (fun i _ => M.length - (intOf i).toNat)
  case atStart => exact ⟨0, rfl, Nat.zero_le _, Below.refl _ _, fun z hz => by simp at hz⟩
  case round =>
    obtain ⟨k, rfl, hk, hB, hn⟩ := hrel
    have HN := Lib.hid hn; clear hn
    have c1' := (keep hB _ _ hlt).trans c1
    by_cases hlk : k < M.length
    · have hx := List.getElem?_eq_getElem (show k < xs.length by omega)
      generalize xs[k] = x at hx
      obtain ⟨ab, ao, rfl, hab, hc⟩ := (HL.out.on hB).at_ hx
      have hm := lsOf_at hx
      rw [H5.out] at hm
      have hx1 := (HL.out.on hB).each x (List.mem_of_getElem? hx)
      have HX1 := Lib.hid hx1; have HM := Lib.hid hm
      clear hx hm hx1
      have hnn : ¬ ((M.length : Int) ≤ (k : Int)) := by omega
      obtain ⟨r, hr⟩ : ∃ r, ordV x.l a = r := ⟨_, rfl⟩
      have HR := Lib.hid hr
      by_cases h0 : r = 0
      · subst h0
        have HE := Lib.hid ((ord_zero _ _).1 hr)
        clear hr
        go_wp2_with (go_at_call 42; refine (refOrder_any x.A B x.c cb x.l a _ HX1.out.1 (HA.out.on hB) HX1.out.2 la).mono ?_; rw [HR.out]; rintro e w4 ⟨rfl, h4⟩)
        go_ret
        exact ⟨ret_bool (by symm; rw [hasB_iff HS.out.perm HS.out.fit, ← HE.out]; exact List.mem_of_getElem? HM.out), on hB h4⟩
      · have h0' : (r == 0) = false := by simpa using h0
        have HE := Lib.hid (fun e : x.l = a => h0 (by rw [← hr, e]; exact ord_self _))
        clear hr
        go_wp2_with (go_at_call 42; refine (refOrder_any x.A B x.c cb x.l a _ HX1.out.1 (HA.out.on hB) HX1.out.2 la).mono ?_; rw [HR.out]; rintro e w4 ⟨rfl, h4⟩)
        go_roundw
        case rel => exact ⟨k + 1, by go_num, by omega, on hB h4, fun z hz => by
          rw [take_snoc' HM.out, List.mem_append, List.mem_singleton] at hz
          rcases hz with hz | rfl
          · exact HN.out z hz
          · exact HE.out⟩
        case measure => simp [intOf]; omega
    · have HF := Lib.hid (show hasB p a M = false by
        rw [Bool.eq_false_iff]; intro h
        rw [hasB_iff HS.out.perm HS.out.fit] at h
        exact HN.out a (by rw [List.take_of_length_le (by omega)]; exact h) rfl)
      go_wp2
      go_ret
      exact ⟨ret_bool HF.out.symm, hB⟩

/-! ### From -/
theorem RdI.take {w : World} {A : Option Addr} {l : List Int} (h : RdI w A l) (n : Nat) : RdI w A (l.take n) := fun i x hx => h i x (by
  rw [List.getElem?_take] at hx; split at hx
  · exact hx
  · cases hx)
theorem beg_snoc {p : List Int} {hd a : List V} {M : List (List V)} {k : Nat} (h : M[k]? = some a) : beg p hd (M.take (k + 1)) = beg p hd (M.take k) ++ (if ordV (pickL a (p.take hd.length)) hd = 0 then [a] else []) := by
  rw [take_snoc' h]; unfold beg; rw [List.filter_append]
  congr 1
  by_cases h0 : ordV (pickL a (p.take hd.length)) hd = 0 <;> simp [h0]
structure RFromR (w : World) (p : List Int) (hd : List V) (M : List (List V)) (xs : List Sl) (out i : Value) (wr : World) : Prop where
  ex : ∃ (k : Nat) (ys : List Sl) (A1 : Option Addr) (c1 : Nat), i = .int .i64 (k : Nat) ∧ k ≤ M.length ∧ Below w.heap.size w wr ∧ out = .slice A1 ys.length c1 ∧ wr.ownsRow w.heap.size 25 1 (.slice A1 ys.length c1) ys.length (ys.map Sl.val) ∧ (∀ y ∈ ys, y ∈ xs) ∧ lsOf ys = beg p hd (M.take k)
end Go.Proofs.YtpmkhpbhimmeiaaGreat
/-
  Contract of the document's own Put (package antecedentref04).
-/
namespace Go.Proofs.YtpmkhpbhimmeiaaGreat
open Go.RowKit FloM ValM Go.Shelf
set_option linter.unusedVariables false
set_option linter.unusedSimpArgs false

theorem blkR_fz {b : Nat} {P A : Option Addr} {m cp n c : Nat} {w : World} (hb : blkR b P m cp A n c w) (i : Nat) : w.frozen? ⟨b, i, none⟩ = false := by simp [World.frozen?, show w.heap[b]? = _ from hb]
set_option maxHeartbeats 1000000 in
theorem refPut_far {X : Nat → Prop} {b : Nat} {p : List Int} {M : List (List V)} (n : Nat) (B : Option Addr) (cb : Nat) (w : World) (h : RefS X w b p M) (hn : n ≠ p.length) :
    Calls Tryz.prog 11 #[.pointer (some ⟨b, 0, none⟩), .slice B n cb] w fun e w' => e = .returned (.tuple #[.bool false, .int .i64 1]) ∧ w = w' := by
  obtain ⟨P, cp, A, c, xs, h1, h2, h3, h4, h5, h6, h7, h8, h9, h10⟩ := h.ex
  have c0 : w.cell? ⟨b, 0, none⟩ = some (.slice P p.length cp) := by simp [World.cell?, show w.heap[b]? = _ from h1]
  have hn' : ((n : Int) != (p.length : Int)) = true := by simp; omega
  clear h1 h2 h3 h4 h5 h
  go_enter Tryz.func11, Tryz.ntmps11
  go_wp2
  go_ret2
  exact ⟨rfl, rfl⟩
/-! ### The rows that are put together -/
structure T1 (w : World) (A1 : Option Addr) (n k1 : Nat) (cs : List Value) (w1 : World) : Prop where
  b : Below w.heap.size w w1
  o : w1.ownsRow w.heap.size 25 1 (.slice A1 n k1) n cs
theorem tail1 {w W w1 : World} {A1 : Option Addr} {k k1 : Nat} {cs : List Value} (hB : Below w.heap.size w W) (ho : w1.ownsRow w.heap.size 25 1 (.slice A1 k k1) k ([] ++ cs)) (hg : W.grownBy w1 (Value.slice none 0 0).ownBlock) : T1 w A1 k k1 cs w1 :=
  ⟨hB.grown hg hB.size (fun k hk => by simp [Value.ownBlock] at hk), by simpa using ho⟩
theorem T1.next {w w1 w3 : World} {A1 : Option Addr} {n k1 : Nat} {cs : List Value} (h : T1 w A1 n k1 cs w1) (hb : Below w1.heap.size w1 w3) : T1 w A1 n k1 cs w3 := ⟨h.b.trans (hb.mono h.b.size), own_on h.o hb⟩
/-- A tuple of memory of its own. -/
structure TupW (w : World) (A2 : Option Addr) (k2 : Nat) (a : List V) (W : World) : Prop where
  rd : RdV W A2 a
  lo : ∀ z, A2 = some z → w.heap.size ≤ z.block
  cap : a.length ≤ k2
  ty : ∀ z, A2 = some z → ∃ c f, W.heap[z.block]? = some (.cells c 69 f)
theorem TupW.same {w W W' : World} {A2 : Option Addr} {k2 : Nat} {a : List V} (h : TupW w A2 k2 a W) (hs : W.heap.size ≤ W'.heap.size) (hb : ∀ z, A2 = some z → W'.heap[z.block]? = W.heap[z.block]?) : TupW w A2 k2 a W' :=
  ⟨fun i v hv => by
    obtain ⟨b, o, e, hl, c0, c1, c2⟩ := h.rd i v hv
    have hh := hb _ e
    have cc : ∀ o', W'.cell? ⟨b, o', none⟩ = W.cell? ⟨b, o', none⟩ := fun o' => World.cell?_of_block (w := W) hh
    exact ⟨b, o, e, Nat.lt_of_lt_of_le hl hs, (cc _).trans c0, (cc _).trans c1, (cc _).trans c2⟩, h.lo, h.cap, fun z hz => by
    obtain ⟨c, f, hc⟩ := h.ty z hz
    exact ⟨c, f, (hb z hz).trans hc⟩⟩
structure T2 (w : World) (A1 : Option Addr) (n k1 : Nat) (cs : List Value) (A2 : Option Addr) (k2 : Nat) (a : List V) (w3 : World) : Prop where
  t : T1 w A1 n k1 cs w3
  v : TupW w A2 k2 a w3
  sep : ∀ z, A2 = some z → (Value.slice A1 n k1).ownBlock ≠ some z.block
theorem own_blk {w : World} {base size : Nat} {e : TypeId} {v : Value} {n : Nat} {xs : List Value} (h : w.ownsRow base e size v n xs) : ∀ k, v.ownBlock = some k → k < w.heap.size := fun k hk => by
  rcases h.2 with ⟨e, _⟩ | ⟨g, cap, cur, e, _, hgg, _⟩
  · rw [e] at hk; simp [Value.ownBlock] at hk
  · rw [e] at hk
    have hgk : g = k := by simpa [Value.ownBlock] using hk
    subst hgk
    exact (Array.getElem?_eq_some_iff.1 hgg).1
theorem tail2 {w w1 w3 : World} {A1 A2 : Option Addr} {n k1 k2 : Nat} {cs : List Value} {a : List V} (h : T1 w A1 n k1 cs w1) (ho : w3.ownsRow w1.heap.size 69 3 (.slice A2 a.length k2) a.length (vcells a))
    (hg : (w1.alloc (.cells #[] 69)).grownBy w3 (Value.slice (some ⟨w1.heap.size, 0, none⟩) ([] : List V).length 0).ownBlock) : T2 w A1 n k1 cs A2 k2 a w3 := by
  have hb : Below w1.heap.size w1 w3 := ((Below.refl _ _).alloc (Nat.le_refl _) _).grown hg (by simp) (own_base (own_made0 w1))
  refine ⟨h.next hb, ⟨own_rdV ho, fun z hz => by subst hz; have := own_base ho z.block rfl; have := h.b.size; omega, (own_cap ho).1, fun z hz => own_ty ho z hz⟩, fun z hz e => ?_⟩
  subst hz
  have h1 := own_base ho z.block rfl
  have h2 := own_blk h.o _ e
  omega
theorem tail3 {w w3 w5 : World} {A1 A2 A5 : Option Addr} {n k1 k2 k5 : Nat} {cs : List Value} {a : List V} {c : Obj} (h : T2 w A1 n k1 cs A2 k2 a w3) (ho : w5.ownsRow w.heap.size 25 1 (.slice A5 (n + 1) k5) (n + 1) (cs ++ [.slice A2 a.length k2]))
    (hg : (w3.alloc c).grownBy w5 (Value.slice A1 n k1).ownBlock) (hv : (Value.slice A5 (n + 1) k5).ownBlock = (Value.slice A1 n k1).ownBlock ∨ (Value.slice A5 (n + 1) k5).ownBlock = some (w3.alloc c).heap.size) : T2 w A5 (n + 1) k5 (cs ++ [.slice A2 a.length k2]) A2 k2 a w5 := by
  have hb1 : Below w.heap.size w (w3.alloc c) := h.t.b.alloc h.t.b.size c
  have hlt : ∀ z, A2 = some z → z.block < w3.heap.size := fun z hz => by obtain ⟨_, _, hc⟩ := h.v.ty z hz; exact (Array.getElem?_eq_some_iff.1 hc).1
  refine ⟨⟨hb1.grown hg hb1.size (own_base h.t.o), ho⟩, h.v.same (Nat.le_trans (by simp) hg.size) (fun z hz => ?_), fun z hz e => ?_⟩
  · have h1 := hlt z hz
    rw [hg.block z.block (by simp; omega) (fun e => h.sep z hz e.symm), Below.heap_alloc _ _ _ h1]
  · rcases hv with hv | hv
    · exact h.sep z hz (hv ▸ e)
    · rw [hv] at e
      have h1 := hlt z hz
      injection e with e
      simp at e; omega
structure T4 (w : World) (A6 : Option Addr) (n k6 : Nat) (cs : List Value) (A2 : Option Addr) (k2 : Nat) (a : List V) (w6 : World) : Prop where
  t : T1 w A6 n k6 cs w6
  v : TupW w A2 k2 a w6
theorem tail4 {w w5 w6 : World} {A5 A6 A2 : Option Addr} {n m k5 k6 k2 : Nat} {cs ds : List Value} {a : List V} (h : T2 w A5 n k5 cs A2 k2 a w5) (ho : w6.ownsRow w.heap.size 25 1 (.slice A6 m k6) m ds)
    (hg : w5.grownBy w6 (Value.slice A5 n k5).ownBlock) : T4 w A6 m k6 ds A2 k2 a w6 := by
  have hlt : ∀ z, A2 = some z → z.block < w5.heap.size := fun z hz => by obtain ⟨_, _, hc⟩ := h.v.ty z hz; exact (Array.getElem?_eq_some_iff.1 hc).1
  exact ⟨⟨h.t.b.grown hg h.t.b.size (own_base h.t.o), ho⟩, h.v.same hg.size fun z hz => hg.block z.block (hlt z hz) (fun e => h.sep z hz e.symm)⟩
theorem sort_more {p : List Int} {M : List (List V)} (h : SortS p M) {k : Nat} {x a : List V} (hx : M[k]? = some x) (h1 : cmpC p x a = 1) : ∀ z ∈ M.drop k, cmpC p z a = 1 := fun z hz => by
  rw [drop_at hx] at hz
  rcases List.mem_cons.1 hz with rfl | hz
  · exact h1
  · have e := split_take hx
    have hs := h
    unfold SortS at hs
    rw [e] at hs
    have h2 := (List.pairwise_cons.1 (List.pairwise_append.1 hs).2.1).1 z hz
    have h3 : cmpC p a x = -1 := by rw [cmpC_anti]; omega
    rw [cmpC_anti, cmpC_lt h3 h2]; rfl
theorem refPut_end {X : Nat → Prop} {w w6 : World} {b : Nat} {p : List Int} {M : List (List V)} {P A A2 A6 : Option Addr} {cp c k k2 k6 : Nat} {xs : List Sl} {a : List V} (h : RefS X w b p M) (h1 : blkR b P p.length cp A xs.length c w) (h2 : RdI w P p) (h3 : Off X P) (h4 : RdT X w A xs) (h5 : lsOf xs = M) (h6 : p.length ≤ cp) (h7 : cp ≤ maxLen)
    (ha : a.length = p.length) (hk : k ≤ M.length) (hless : ∀ z ∈ M.take k, cmpC p z a = -1) (hmore : ∀ z ∈ M.drop k, cmpC p z a = 1) (hX : ∀ i, X i → i < w.heap.size)
    (t : T4 w A6 (k + 1 + (M.length - k)) k6 ((xs.map Sl.val).take k ++ [.slice A2 a.length k2] ++ (xs.map Sl.val).drop k) A2 k2 a w6) :
    putB p a M = true ∧ putE p a = 0 ∧ RefS X (w6.setCell ⟨b, 1, none⟩ (.slice A6 (k + 1 + (M.length - k)) k6)) b p (putM p a M) ∧ Fr (· = b) w.heap.size w (w6.setCell ⟨b, 1, none⟩ (.slice A6 (k + 1 + (M.length - k)) k6)) := by
  have hlt := h.lt
  have hxl : xs.length = M.length := by rw [← h5]; simp [lsOf]
  have hins : insS p a M = M.take k ++ a :: M.drop k := by
    have := ins_parts hless hmore
    rwa [List.take_append_drop] at this
  have hno : inS p a M = false := inS_not.2 fun z hz => by
    rw [← List.take_append_drop k M] at hz
    rcases List.mem_append.1 hz with hz | hz
    · have := hless z hz; omega
    · have := hmore z hz; omega
  have hput : putM p a M = M.take k ++ a :: M.drop k := by unfold putM; rw [if_pos ha, hins]
  have s6 := t.t.b.size
  have hfs : Fr (· = b) w6.heap.size w6 (w6.setCell ⟨b, 1, none⟩ (.slice A6 (k + 1 + (M.length - k)) k6)) := fr_set w6 b 1 _ _
  have hF : Fr (· = b) w.heap.size w (w6.setCell ⟨b, 1, none⟩ (.slice A6 (k + 1 + (M.length - k)) k6)) := (Fr.of t.t.b).trans (hfs.mono s6)
  have hFX : Fr X w.heap.size w (w6.setCell ⟨b, 1, none⟩ (.slice A6 (k + 1 + (M.length - k)) k6)) := hF.sub fun i _ hi => by subst hi; exact h.mem
  have hoA : Off (· = b) A6 := own_off t.t.o fun i hi => by subst hi; exact hlt
  have hoX : Off X A6 := own_off t.t.o hX
  have hb6 : blkR b P p.length cp A xs.length c w6 := (t.t.b.block _ hlt).trans h1
  refine ⟨by unfold putB; rw [hno, decide_eq_true ha]; rfl, by unfold putE; rw [if_pos ha], ⟨⟨P, cp, A6, k6, xs.take k ++ ⟨A2, k2, a⟩ :: xs.drop k, ?_, h2.onF h3 hFX, h3, ⟨?_, hoX, fun x hx => ?_⟩, ?_, h6, h7, ?_, (own_cap t.t.o).2, ?_⟩, h.mem, ?_, h.perm, h.few⟩, hF⟩
  · have := heap_set' (w := w6) (D := b) (o := 1) (cs := [.slice P p.length cp, .slice A xs.length c]) (t := 43) (z := (0, 0)) (.slice A6 (k + 1 + (M.length - k)) k6) hb6
    simp only [List.set_cons_succ, List.set_cons_zero] at this
    have hl : (xs.take k ++ (⟨A2, k2, a⟩ : Sl) :: xs.drop k).length = k + 1 + (M.length - k) := by simp; omega
    unfold blkR
    rw [hl]; exact this
  · have e : (xs.take k ++ (⟨A2, k2, a⟩ : Sl) :: xs.drop k).map Sl.val = (xs.map Sl.val).take k ++ [.slice A2 a.length k2] ++ (xs.map Sl.val).drop k := by simp [Sl.val]
    rw [e]
    exact (own_rdC t.t.o).onF hoA hfs
  · rcases List.mem_append.1 hx with hx | hx
    · exact (h4.each x (List.mem_of_mem_take hx)).onF hFX
    · rcases List.mem_cons.1 hx with rfl | hx
      · have hv := t.v.same (W' := w6.setCell ⟨b, 1, none⟩ (.slice A6 (k + 1 + (M.length - k)) k6)) hfs.size fun z hz => Below.heap_setCell _ _ _ _ (by have := t.v.lo z hz; simp; omega)
        exact ⟨hv.rd, fun z hz hx => by have := t.v.lo z hz; have := hX _ hx; omega, hv.cap, hv.ty⟩
      · exact (h4.each x (List.mem_of_mem_drop hx)).onF hFX
  · rw [hput, ← h5]; simp [lsOf]
  · have := (own_cap t.t.o).1; simp; omega
  · intro hnil; simp at hnil
  · have := h.fit.put a; exact this
/-! ### The walk -/
def RPutRel (w : World) (p : List Int) (M : List (List V)) (a : List V) (i : Value) (wr : World) : Prop := ∃ k : Nat, i = .int .i64 (k : Nat) ∧ k ≤ M.length ∧ Below w.heap.size w wr ∧ ∀ z ∈ M.take k, cmpC p z a = -1
section
variable {X : Nat → Prop} {b : Nat} {p : List Int} {M : List (List V)}
set_option maxRecDepth 20000 in
set_option maxHeartbeats 8000000 in
theorem refPut_nil (B : Option Addr) (cb : Nat) (a : List V) (w : World) (h : RefS X w b p M) (hr : RdV w B a) (ha : a.length = p.length) (hM : M = []) (hX : ∀ i, X i → i < w.heap.size) :
    Calls Tryz.prog 11 #[.pointer (some ⟨b, 0, none⟩), .slice B a.length cb] w fun e w' => e = .returned (.tuple #[.bool (putB p a M), .int .i64 (putE p a)]) ∧ RefS X w' b p (putM p a M) ∧ Fr (· = b) w.heap.size w w' := by
  have hlt := h.lt
  have hfew := h.few
  obtain ⟨P, cp, A, c, xs, h1, h2, h3, h4, h5, h6, h7, h8, h9, h10⟩ := h.ex
  obtain rfl : xs = [] := by rw [hM] at h5; simpa [lsOf] using h5
  obtain ⟨rfl, rfl⟩ := h10 rfl
  have c0 : w.cell? ⟨b, 0, none⟩ = some (.slice P p.length cp) := by simp [World.cell?, show w.heap[b]? = _ from h1]
  have c1 : w.cell? ⟨b, 1, none⟩ = some (.slice none 0 0) := by simp [World.cell?, show w.heap[b]? = _ from h1]
  have hne : ((a.length : Int) != (p.length : Int)) = false := by simp; omega
  have hal : a.length ≤ 8 := by omega
  obtain ⟨i0, hi0, hz0, hz1, hz2⟩ := info_parts info_tup
  have HI := Lib.hid (And.intro hi0 (And.intro hz0 (And.intro hz1 hz2)))
  have HA := Lib.hid hr; have HS := Lib.hid h; have H1 := Lib.hid h1; have H2 := Lib.hid h2; have H3 := Lib.hid h3; have H4 := Lib.hid h4; have H5 := Lib.hid h5; have HX := Lib.hid hX; have HC7 := Lib.hid h7; have HAL := Lib.hid ha
  have HMM := Lib.hid hM
  clear h1 h2 h3 h4 h5 hr h hX h7 h10 hi0 hz0 hz1 hz2 ha
  subst hM
  go_enter Tryz.func11, Tryz.ntmps11
  go_wp2
  go_loopw [6] (fun i wr => i = .int .i64 0 ∧ Below w.heap.size w wr) (fun i _ => 0)
  case atStart => exact ⟨rfl, Below.refl _ _⟩
  case round =>
    obtain ⟨rfl, hB⟩ := hrel
    have c1' := (keep hB _ _ hlt).trans c1
    go_wp2_with fail
    go_quiet (fail)
    all_goals
      have hBW : ∀ n, Below w.heap.size w (wr.drewN n) := fun n => on hB (bel_drawN wr n)
      have e0 : ∀ n, (wr.drewN n).cell? ⟨b, 1, none⟩ = some (.slice none 0 0) := fun n => (keep (hBW n) _ 1 hlt).trans c1
      have LENK := Lib.hid (rfl : ([] : List Value).length = 0)
      have LEND := Lib.hid (rfl : ([] : List Value).length = 0)
      have ROWK : Hid (∀ W', Below w.heap.size w W' → RdC W' none []) := fun _ _ => RdC.nil
      have ROWD : Hid (∀ W', Below w.heap.size w W' → RdC W' none []) := fun _ _ => RdC.nil
      have ROWD2 := ROWD
      obtain ⟨hi0, hz0, hz1, hz2⟩ := HI.out
      go_wp2_with (first
        | (at_builtin; refine wpList_appC rfl (.tmp 60) (.tmp 66) 23 rfl w.heap.size 25 i0 _ 24 Tryz.underlying23 hi0 hz0 hz1 hz2 rfl (by omega) none 0 0 [] rfl (own_nil _ _ _ _) none 0 0 [] LENK.out rfl (ROWK.out _ (hBW _)) (fun u hu => by cases hu) (by omega) (hBW _).size ?_; intro A1 k1 w1 ho1 hg1; rw [Nat.zero_add] at ho1; rw [Nat.zero_add]; have t1 := Lib.hid (tail1 (hBW _) ho1 hg1); clear ho1 hg1)
        | (at_builtin; refine wpList_appV rfl (.tmp 68) (.tmp 69) rfl w1.heap.size (some ⟨w1.heap.size, 0, none⟩) 0 [] a a rfl rfl (own_made0 w1) B cb rfl (HA.out.on (t1.out.b.alloc t1.out.b.size _)) (by simp; omega) (by simp) ?_; intro A2 k2 w3 ho2 hg2; have t2 := Lib.hid (tail2 t1.out ho2 hg2); clear ho2 hg2)
        | (at_builtin; refine wpList_append_own_at _ rfl (.tmp 67) (.tmp 71) _ rfl w.heap.size 25 i0 (.slice none 0 0) 1 24 Tryz.underlying23 hi0 hz0 hz1 hz2 rfl (by decide) (.slice A1 0 k1) 0 [] rfl (own_on t2.out.t.o ((Below.refl _ _).alloc (Nat.le_refl _) _)) ⟨w3.heap.size, 0, none⟩ 1 1 [.slice A2 a.length k2] rfl rfl (cell_one_new _ _ _) (by simp [Value.oneCell']) (by unfold maxLen; omega) (by omega) (by have := t2.out.t.b.size; simp; omega) ?_; intro v' w5 ho3 hg3 _ hv3; obtain ⟨A5, k5, rfl⟩ := own_form ho3; have t3 := Lib.hid (tail3 t2.out ho3 hg3 hv3); have e1 := (keep t3.out.t.b _ 1 hlt).trans c1; clear ho3 hg3 hv3)
        | (at_builtin; refine wpList_appC rfl (.tmp 74) (.tmp 80) 23 rfl w.heap.size 25 i0 _ 24 Tryz.underlying23 hi0 hz0 hz1 hz2 rfl (by omega) A5 (0 + 1) k5 _ rfl t3.out.t.o _ _ 0 [] LEND.out rfl (by first | exact ROWD.out _ t3.out.t.b | exact ROWD2.out _ t3.out.t.b) (fun u hu => by cases hu) (by omega) t3.out.t.b.size ?_; intro A6 k6 w6 ho4 hg4; have t4 := Lib.hid (tail4 t3.out ho4 hg4); have fz := blkR_fz ((t4.out.t.b.block _ hlt).trans H1.out) 1; have e2 := (keep t4.out.t.b _ 1 hlt).trans c1; clear ho4 hg4))
      all_goals go_ret2
      all_goals obtain ⟨q1, q2, q3, q4⟩ := refPut_end (k := 0) HS.out H1.out H2.out H3.out H4.out H5.out h6 HC7.out HAL.out (Nat.le_refl _) (fun z hz => by simp at hz) (fun z hz => by simp at hz) HX.out t4.out
      all_goals exact ⟨by rw [q1, q2]; rfl, q3, q4⟩
set_option maxRecDepth 20000 in
set_option maxHeartbeats 16000000 in
theorem refPut_some (B : Option Addr) (cb : Nat) (a : List V) (w : World) (h : RefS X w b p M) (hr : RdV w B a) (ha : a.length = p.length) (hM : M ≠ []) (hMl : M.length ≤ 100000) (hX : ∀ i, X i → i < w.heap.size) :
    Calls Tryz.prog 11 #[.pointer (some ⟨b, 0, none⟩), .slice B a.length cb] w fun e w' => e = .returned (.tuple #[.bool (putB p a M), .int .i64 (putE p a)]) ∧ RefS X w' b p (putM p a M) ∧ Fr (· = b) w.heap.size w w' := by
  have hlt := h.lt
  have hfew := h.few
  obtain ⟨P, cp, A, c, xs, h1, h2, h3, h4, h5, h6, h7, h8, h9, h10⟩ := h.ex
  have hxl : xs.length = M.length := by rw [← h5]; simp [lsOf]
  have hM0 : 0 < M.length := List.length_pos_iff.2 hM
  have HL := Lib.hid (h.short (P := P) h4 h5)
  obtain ⟨tb, tq, rfl, htb, hrow⟩ := HL.out.row (by omega)
  have c0 : w.cell? ⟨b, 0, none⟩ = some (.slice P p.length cp) := by simp [World.cell?, show w.heap[b]? = _ from h1]
  have c1 : w.cell? ⟨b, 1, none⟩ = some (.slice (some ⟨tb, tq, none⟩) xs.length c) := by simp [World.cell?, show w.heap[b]? = _ from h1]
  have hne : ((a.length : Int) != (p.length : Int)) = false := by simp; omega
  have hal : a.length ≤ 8 := by omega
  obtain ⟨i0, hi0, hz0, hz1, hz2⟩ := info_parts info_tup
  have HI := Lib.hid (And.intro hi0 (And.intro hz0 (And.intro hz1 hz2)))
  have hrk : ∀ k W', Below w.heap.size w W' → RdC W' (some ⟨tb, tq, none⟩) ((xs.map Sl.val).take k) := fun k W' hW => (h4.rd.on hW).take k
  have hrd : ∀ k W', Below w.heap.size w W' → RdC W' (if c = k then some ⟨tb, tq, none⟩ else some ⟨tb, tq + k, none⟩) ((xs.map Sl.val).drop k) := fun k W' hW => rdC_from (h4.rd.on hW) (by simpa using h8)
  have hrd2 : ∀ k W', Below w.heap.size w W' → RdC W' (some ⟨tb, tq + k, none⟩) ((xs.map Sl.val).drop k) := fun k W' hW => (h4.rd.on hW).drop k
  have HRD2 := Lib.hid hrd2
  clear hrd2
  have hlk : ∀ k, k ≤ M.length → ((xs.map Sl.val).take k).length = k := fun k hk => by rw [List.length_take, List.length_map]; omega
  have hld : ∀ k, k ≤ M.length → ((xs.map Sl.val).drop k).length = M.length - k := fun k hk => by rw [List.length_drop, List.length_map]; omega
  have HRK := Lib.hid hrk; have HRD := Lib.hid hrd; have HLK := Lib.hid hlk; have HLD := Lib.hid hld; have HROW := Lib.hid hrow
  have HA := Lib.hid hr; have HS := Lib.hid h; have H1 := Lib.hid h1; have H2 := Lib.hid h2; have H3 := Lib.hid h3; have H4 := Lib.hid h4; have H5 := Lib.hid h5; have HX := Lib.hid hX; have HC7 := Lib.hid h7; have HAL := Lib.hid ha
  clear h1 h2 h3 h4 h5 hr h hX h7 h10 hi0 hz0 hz1 hz2 ha hM hrk hrd hlk hld hrow
  rw [hxl] at c1
  have hmc : M.length ≤ c := by omega
  have hcm : c ≤ 9223372036854775807 := by unfold maxLen at h9; omega
  go_enter Tryz.func11, Tryz.ntmps11
  go_wp2
  go_loopw [6] (fun i wr => RPutRel w p M a i wr) (fun i _ => M.length - (intOf i).toNat)
  case atStart => exact ⟨0, rfl, Nat.zero_le _, Below.refl _ _, fun z hz => by simp at hz⟩
  case round =>
    obtain ⟨k, rfl, hk, hB, hn⟩ := hrel
    have HN := Lib.hid hn; clear hn
    have c0' := (keep hB _ _ hlt).trans c0
    have c1' := (keep hB _ _ hlt).trans c1
    have hbl : b < wr.heap.size := Nat.lt_of_lt_of_le hlt hB.size
    have htb' : tb < wr.heap.size := Nat.lt_of_lt_of_le htb hB.size
    have LENK := Lib.hid (HLK.out k hk); have LEND := Lib.hid (HLD.out k hk); have ROWK := Lib.hid (HRK.out k); have ROWD := Lib.hid (HRD.out k); have ROWD2 := Lib.hid (HRD2.out k)
    have hj1 : (0 : Int) ≤ (k : Int) := by omega
    have hj3 : (k : Int) ≤ (c : Int) := by omega
    have hj4 : (k : Int) ≤ (M.length : Int) := by omega
    have hj5 : (M.length : Int) ≤ (c : Int) := by omega
    by_cases hlk : k < M.length
    · have hx := List.getElem?_eq_getElem (show k < xs.length by omega)
      generalize xs[k] = x at hx
      have hc := (keep hB _ _ htb).trans (HROW.out k x hx)
      have hm := lsOf_at hx
      rw [H5.out] at hm
      have hx1 := (HL.out.on hB).each x (List.mem_of_getElem? hx)
      have hxe := HS.out.fit.lens x.l (List.mem_of_getElem? hm)
      have hxw : x.l.length ≤ 1000 := by omega
      have HX1 := Lib.hid hx1; have HM := Lib.hid hm; have HXE := Lib.hid hxe
      clear hx hm hx1 hxe
      have hj2 : (k : Int) < (M.length : Int) := by omega
      have hcase := cmpC_rng p x.l a
      rcases hcase with hr | hr | hr
      · have HR := Lib.hid hr; clear hr
        go_wp2_with fail
        go_region_held3 (fun u => Below wr.heap.size wr u ∧ u.cell? ⟨b, 0, none⟩ = some (.slice P p.length cp) ∧ u.cell? ⟨b, 1, none⟩ = some (.slice (some ⟨tb, tq, none⟩) M.length c) ∧ u.cell? ⟨tb, tq + k, none⟩ = some (.slice x.A x.l.length x.c))
          (first | exact ⟨Below.refl _ _, c0', c1', hc⟩ | exact ⟨(Below.refl _ _).drew, c0', c1', hc⟩ | exact ⟨h4, (k4 _ _ hbl).trans c0', (k4 _ _ hbl).trans c1', (k4 _ _ htb').trans hc⟩)
          ((go_at_call 41; refine (refCompareT_any x.A B P x.c cb cp x.l a p _ (HX1.out.1.on (Below.refl _ _).drew) ((HA.out.on hB).on (Below.refl _ _).drew) ((H2.out.on hB).on (Below.refl _ _).drew) hxw (by omega) (by omega)).mono ?_; rintro e w4 ⟨rfl, h4⟩; rw [show ordV (pickL x.l p) (pickL a p) = -1 from HR.out]; replace h4 : Below wr.heap.size wr w4 := (Below.refl wr.heap.size wr).drew.trans h4; have k4 := keep h4))
        all_goals
          go_wp2
          go_roundw
          case rel => exact ⟨k + 1, by go_num, by omega, on hB h4, fun z hz => by
            rw [take_snoc' HM.out, List.mem_append, List.mem_singleton] at hz
            rcases hz with hz | rfl
            · exact HN.out z hz
            · exact HR.out⟩
          case measure => simp [intOf]; omega
      · have hxa := (cmpC_zero HS.out.perm HXE.out HAL.out).1 hr
        have HR := Lib.hid hr; clear hr
        have HR2 := Lib.hid (show ordV x.l a = 0 by rw [hxa]; exact ord_self _)
        have HQ := Lib.hid (show putB p a M = false ∧ putE p a = 0 ∧ putM p a M = M from by
          have hi : inS p a M = true := inS_iff.2 ⟨x.l, List.mem_of_getElem? HM.out, HR.out⟩
          refine ⟨by unfold putB; rw [hi, Bool.not_true, Bool.and_false], by unfold putE; rw [if_pos HAL.out], by unfold putM; rw [if_pos HAL.out, ins_same HS.out.fit.sort hi]⟩)
        clear hxa
        go_wp2_with fail
        go_region_held3 (fun u => Below wr.heap.size wr u ∧ u.cell? ⟨b, 0, none⟩ = some (.slice P p.length cp) ∧ u.cell? ⟨b, 1, none⟩ = some (.slice (some ⟨tb, tq, none⟩) M.length c) ∧ u.cell? ⟨tb, tq + k, none⟩ = some (.slice x.A x.l.length x.c))
          (first | exact ⟨Below.refl _ _, c0', c1', hc⟩ | exact ⟨(Below.refl _ _).drew, c0', c1', hc⟩ | exact ⟨h4, (k4 _ _ hbl).trans c0', (k4 _ _ hbl).trans c1', (k4 _ _ htb').trans hc⟩)
          ((go_at_call 41; refine (refCompareT_any x.A B P x.c cb cp x.l a p _ (HX1.out.1.on (Below.refl _ _).drew) ((HA.out.on hB).on (Below.refl _ _).drew) ((H2.out.on hB).on (Below.refl _ _).drew) hxw (by omega) (by omega)).mono ?_; rintro e w4 ⟨rfl, h4⟩; rw [show ordV (pickL x.l p) (pickL a p) = 0 from HR.out]; replace h4 : Below wr.heap.size wr w4 := (Below.refl wr.heap.size wr).drew.trans h4; have k4 := keep h4))
        all_goals
          go_wp2_with ((go_at_call 42; refine (refOrder_any x.A B x.c cb x.l a _ (HX1.out.1.on h4) (HA.out.on (on hB h4)) (by unfold maxLen; omega) (by unfold maxLen; omega)).mono ?_; rw [HR2.out]; rintro e w4b ⟨rfl, h4b⟩; have hBW := on (on hB h4) h4b; have e0 := (keep hBW _ 1 hlt).trans c1))
          go_ret2
          obtain ⟨q1, q2, q3⟩ := HQ.out
          exact ⟨by rw [q1, q2]; rfl, by rw [q3]; exact HS.out.on hBW, Fr.of hBW⟩
      · have HR := Lib.hid hr
        obtain ⟨r2, hr2⟩ : ∃ r2, ordV x.l a = r2 := ⟨_, rfl⟩
        have hr0 : (r2 == 0) = false := by
          rw [← hr2, beq_eq_false_iff_ne]; intro h0
          rw [(ord_zero _ _).1 h0, cmpC_self] at hr; omega
        have HMORE := Lib.hid (sort_more HS.out.fit.sort HM.out hr)
        have HR2 := Lib.hid hr2
        clear hr hr2
        go_wp2_with fail
        go_region_held3 (fun u => Below wr.heap.size wr u ∧ u.cell? ⟨b, 0, none⟩ = some (.slice P p.length cp) ∧ u.cell? ⟨b, 1, none⟩ = some (.slice (some ⟨tb, tq, none⟩) M.length c) ∧ u.cell? ⟨tb, tq + k, none⟩ = some (.slice x.A x.l.length x.c))
          (first | exact ⟨Below.refl _ _, c0', c1', hc⟩ | exact ⟨(Below.refl _ _).drew, c0', c1', hc⟩ | exact ⟨h4, (k4 _ _ hbl).trans c0', (k4 _ _ hbl).trans c1', (k4 _ _ htb').trans hc⟩)
          ((go_at_call 41; refine (refCompareT_any x.A B P x.c cb cp x.l a p _ (HX1.out.1.on (Below.refl _ _).drew) ((HA.out.on hB).on (Below.refl _ _).drew) ((H2.out.on hB).on (Below.refl _ _).drew) hxw (by omega) (by omega)).mono ?_; rintro e w4 ⟨rfl, h4⟩; rw [show ordV (pickL x.l p) (pickL a p) = 1 from HR.out]; replace h4 : Below wr.heap.size wr w4 := (Below.refl wr.heap.size wr).drew.trans h4; have k4 := keep h4))
        all_goals
          obtain ⟨hi0, hz0, hz1, hz2⟩ := HI.out
          go_wp2_with (first
            | (go_at_call 42; refine (refOrder_any x.A B x.c cb x.l a _ (HX1.out.1.on h4) (HA.out.on (on hB h4)) (by unfold maxLen; omega) (by unfold maxLen; omega)).mono ?_; rw [HR2.out]; rintro e w4b ⟨rfl, h4b⟩; have hBW := on (on hB h4) h4b; have e0 := (keep hBW _ 1 hlt).trans c1)
            | (at_builtin; refine wpList_appC rfl (.tmp 60) (.tmp 66) 23 rfl w.heap.size 25 i0 _ 24 Tryz.underlying23 hi0 hz0 hz1 hz2 rfl (by omega) none 0 0 [] rfl (own_nil _ _ _ _) (some ⟨tb, tq, none⟩) c k ((xs.map Sl.val).take k) LENK.out rfl (ROWK.out _ hBW) (fun u hu => tup_cells xs u (List.mem_of_mem_take hu)) (by omega) hBW.size ?_; intro A1 k1 w1 ho1 hg1; rw [Nat.zero_add] at ho1; rw [Nat.zero_add]; have t1 := Lib.hid (tail1 hBW ho1 hg1); clear ho1 hg1)
            | (at_builtin; refine wpList_appV rfl (.tmp 68) (.tmp 69) rfl w1.heap.size (some ⟨w1.heap.size, 0, none⟩) 0 [] a a rfl rfl (own_made0 w1) B cb rfl (HA.out.on (t1.out.b.alloc t1.out.b.size _)) (by simp; omega) (by simp) ?_; intro A2 k2 w3 ho2 hg2; have t2 := Lib.hid (tail2 t1.out ho2 hg2); clear ho2 hg2)
            | (at_builtin; refine wpList_append_own_at _ rfl (.tmp 67) (.tmp 71) _ rfl w.heap.size 25 i0 (.slice none 0 0) 1 24 Tryz.underlying23 hi0 hz0 hz1 hz2 rfl (by decide) (.slice A1 k k1) k ((xs.map Sl.val).take k) rfl (own_on t2.out.t.o ((Below.refl _ _).alloc (Nat.le_refl _) _)) ⟨w3.heap.size, 0, none⟩ 1 1 [.slice A2 a.length k2] rfl rfl (cell_one_new _ _ _) (by simp [Value.oneCell']) (by unfold maxLen; omega) (by omega) (by have := t2.out.t.b.size; simp; omega) ?_; intro v' w5 ho3 hg3 _ hv3; obtain ⟨A5, k5, rfl⟩ := own_form ho3; have t3 := Lib.hid (tail3 t2.out ho3 hg3 hv3); have e1 := (keep t3.out.t.b _ 1 hlt).trans c1; clear ho3 hg3 hv3)
            | (at_builtin; refine wpList_appC rfl (.tmp 74) (.tmp 80) 23 rfl w.heap.size 25 i0 _ 24 Tryz.underlying23 hi0 hz0 hz1 hz2 rfl (by omega) A5 (k + 1) k5 _ rfl t3.out.t.o _ _ (M.length - k) ((xs.map Sl.val).drop k) LEND.out rfl (by first | exact ROWD.out _ t3.out.t.b | exact ROWD2.out _ t3.out.t.b) (fun u hu => tup_cells xs u (List.mem_of_mem_drop hu)) (by omega) t3.out.t.b.size ?_; intro A6 k6 w6 ho4 hg4; have t4 := Lib.hid (tail4 t3.out ho4 hg4); have fz := blkR_fz ((t4.out.t.b.block _ hlt).trans H1.out) 1; have e2 := (keep t4.out.t.b _ 1 hlt).trans c1; clear ho4 hg4))
          all_goals go_ret2
          all_goals obtain ⟨q1, q2, q3, q4⟩ := refPut_end HS.out H1.out H2.out H3.out H4.out H5.out h6 HC7.out HAL.out hk HN.out HMORE.out HX.out t4.out
          all_goals exact ⟨by rw [q1, q2]; rfl, q3, q4⟩
    · have HMORE := Lib.hid (show ∀ z ∈ M.drop k, cmpC p z a = 1 by rw [List.drop_of_length_le (by omega)]; intro z hz; cases hz)
      have hj2 : ¬ ((k : Int) < (M.length : Int)) := by omega
      have hBW : ∀ n, Below w.heap.size w (wr.drewN n) := fun n => on hB (bel_drawN wr n)
      have e0 : ∀ n, (wr.drewN n).cell? ⟨b, 1, none⟩ = some (.slice (some ⟨tb, tq, none⟩) M.length c) := fun n => (keep (hBW n) _ 1 hlt).trans c1
      go_wp2_with fail
      go_quiet (fail)
      all_goals
        obtain ⟨hi0, hz0, hz1, hz2⟩ := HI.out
        go_wp2_with (first
          | (at_builtin; refine wpList_appC rfl (.tmp 60) (.tmp 66) 23 rfl w.heap.size 25 i0 _ 24 Tryz.underlying23 hi0 hz0 hz1 hz2 rfl (by omega) none 0 0 [] rfl (own_nil _ _ _ _) (some ⟨tb, tq, none⟩) c k ((xs.map Sl.val).take k) LENK.out rfl (ROWK.out _ (hBW _)) (fun u hu => tup_cells xs u (List.mem_of_mem_take hu)) (by omega) (hBW _).size ?_; intro A1 k1 w1 ho1 hg1; rw [Nat.zero_add] at ho1; rw [Nat.zero_add]; have t1 := Lib.hid (tail1 (hBW _) ho1 hg1); clear ho1 hg1)
          | (at_builtin; refine wpList_appV rfl (.tmp 68) (.tmp 69) rfl w1.heap.size (some ⟨w1.heap.size, 0, none⟩) 0 [] a a rfl rfl (own_made0 w1) B cb rfl (HA.out.on (t1.out.b.alloc t1.out.b.size _)) (by simp; omega) (by simp) ?_; intro A2 k2 w3 ho2 hg2; have t2 := Lib.hid (tail2 t1.out ho2 hg2); clear ho2 hg2)
          | (at_builtin; refine wpList_append_own_at _ rfl (.tmp 67) (.tmp 71) _ rfl w.heap.size 25 i0 (.slice none 0 0) 1 24 Tryz.underlying23 hi0 hz0 hz1 hz2 rfl (by decide) (.slice A1 k k1) k ((xs.map Sl.val).take k) rfl (own_on t2.out.t.o ((Below.refl _ _).alloc (Nat.le_refl _) _)) ⟨w3.heap.size, 0, none⟩ 1 1 [.slice A2 a.length k2] rfl rfl (cell_one_new _ _ _) (by simp [Value.oneCell']) (by unfold maxLen; omega) (by omega) (by have := t2.out.t.b.size; simp; omega) ?_; intro v' w5 ho3 hg3 _ hv3; obtain ⟨A5, k5, rfl⟩ := own_form ho3; have t3 := Lib.hid (tail3 t2.out ho3 hg3 hv3); have e1 := (keep t3.out.t.b _ 1 hlt).trans c1; clear ho3 hg3 hv3)
          | (at_builtin; refine wpList_appC rfl (.tmp 74) (.tmp 80) 23 rfl w.heap.size 25 i0 _ 24 Tryz.underlying23 hi0 hz0 hz1 hz2 rfl (by omega) A5 (k + 1) k5 _ rfl t3.out.t.o _ _ (M.length - k) ((xs.map Sl.val).drop k) LEND.out rfl (by first | exact ROWD.out _ t3.out.t.b | exact ROWD2.out _ t3.out.t.b) (fun u hu => tup_cells xs u (List.mem_of_mem_drop hu)) (by omega) t3.out.t.b.size ?_; intro A6 k6 w6 ho4 hg4; have t4 := Lib.hid (tail4 t3.out ho4 hg4); have fz := blkR_fz ((t4.out.t.b.block _ hlt).trans H1.out) 1; have e2 := (keep t4.out.t.b _ 1 hlt).trans c1; clear ho4 hg4))
        all_goals go_ret2
        all_goals obtain ⟨q1, q2, q3, q4⟩ := refPut_end HS.out H1.out H2.out H3.out H4.out H5.out h6 HC7.out HAL.out hk HN.out HMORE.out HX.out t4.out
        all_goals exact ⟨by rw [q1, q2]; rfl, q3, q4⟩
theorem refPut_any (B : Option Addr) (cb : Nat) (a : List V) (w : World) (h : RefS X w b p M) (hr : RdV w B a) (hMl : M.length ≤ 100000) (hX : ∀ i, X i → i < w.heap.size) :
    Calls Tryz.prog 11 #[.pointer (some ⟨b, 0, none⟩), .slice B a.length cb] w fun e w' => e = .returned (.tuple #[.bool (putB p a M), .int .i64 (putE p a)]) ∧ RefS X w' b p (putM p a M) ∧ Fr (· = b) w.heap.size w w' := by
  by_cases ha : a.length = p.length
  · by_cases hM : M = []
    · exact refPut_nil B cb a w h hr ha hM hX
    · exact refPut_some B cb a w h hr ha hM hMl hX
  · refine (refPut_far a.length B cb w h ha).mono ?_
    rintro e w' ⟨rfl, rfl⟩
    exact ⟨by unfold putB putE; rw [decide_eq_false ha, if_neg ha]; rfl, by unfold putM; rw [if_neg ha]; exact h, Fr.refl _ _ _⟩
end
end Go.Proofs.YtpmkhpbhimmeiaaGreat
/-
  A tree beside the document's own.
-/
namespace Go.Proofs.YtpmkhpbhimmeiaaGreat
open Go.RowKit FloM ValM Go.Shelf
set_option linter.unusedVariables false
set_option linter.unusedSimpArgs false

structure PlayH (w : World) (g b : Nat) (p : List Int) (M N : List (List V)) (W : World) : Prop where
  t : TreeS (fun k => k = g ∨ k = b) W g p M
  r : RefS (fun k => k = g ∨ k = b) W b p N
  bw : Below w.heap.size w W
  g0 : w.heap.size ≤ g
  lt : g < b
section
variable {w W W' : World} {g b : Nat} {p : List Int} {M M' N : List (List V)}
theorem PlayH.x (h : PlayH w g b p M N W) : ∀ i, (i = g ∨ i = b) → i < W.heap.size := fun i hi => by
  rcases hi with rfl | rfl
  · exact h.t.lt
  · exact h.r.lt
theorem PlayH.start {w0 w1 w2 w3 : World} {P P2 : Option Addr} {c c2 : Nat} (N1 : NewC p w0 w1 g P c) (N2 : NewR p w2 w3 b P2 c2) (h : Below w.heap.size w w0) (h12 : Below w1.heap.size w1 w2) (hp : permB p = true) (hl : p.length ≤ 8) : PlayH w g b p [] [] w3 := by
  have h1 := N1.lt; have h2 := h12.size; have h3 := N2.fresh
  have e1 := h.trans (N1.b.mono h.size)
  have e2 := e1.trans (h12.mono e1.size)
  refine ⟨TreeS.start N1 (h12.trans (N2.b.mono h2)) (.inl rfl) (fun a ha e => ?_) hp hl, RefS.start N2 (Below.refl _ _) (.inr rfl) (fun a ha e => ?_) hp hl, e2.trans (N2.b.mono e2.size), Nat.le_trans h.size N1.fresh, by omega⟩
  · have := N1.row' a ha; omega
  · have := N2.row a ha; omega
theorem PlayH.on (h : PlayH w g b p M N W) (hb : Below W.heap.size W W') : PlayH w g b p M N W' := ⟨h.t.on hb, h.r.on hb, h.bw.trans (hb.mono h.bw.size), h.g0, h.lt⟩
theorem PlayH.put1 (h : PlayH w g b p M N W) (ht : TreeS (fun k => k = g ∨ k = b) W' g p M') (hF : Fr (· = g) W.heap.size W W') : PlayH w g b p M' N W' :=
  ⟨ht, h.r.other (.inl rfl) (by have := h.lt; omega) hF, h.bw.trans (hF.below h.bw.size fun k hk e => by have := h.g0; omega), h.g0, h.lt⟩
theorem PlayH.put2 (h : PlayH w g b p M N W) (ht : RefS (fun k => k = g ∨ k = b) W' b p M') (hF : Fr (· = b) W.heap.size W W') : PlayH w g b p M M' W' :=
  ⟨h.t.other (.inr rfl) (by have := h.lt; omega) hF, ht, h.bw.trans (hF.below h.bw.size fun k hk e => by have := h.g0; have := h.lt; omega), h.g0, h.lt⟩
end
/-- The row of the document's own tree. -/
theorem RefS.row {X : Nat → Prop} {W : World} {b : Nat} {p : List Int} {M : List (List V)} (h : RefS X W b p M) : ∃ A c xs, ToldR W A c xs M ∧ W.cell? ⟨b, 1, none⟩ = some (.slice A M.length c) ∧ b < W.heap.size := by
  have hlt := h.lt
  obtain ⟨P, cp, A, c, xs, h1, h2, h3, h4, h5, h6, h7, h8, h9, h10⟩ := h.ex
  have hxl : xs.length = M.length := by rw [← h5]; simp [lsOf]
  refine ⟨A, c, xs, ⟨h.short (P := P) h4 h5, h5, by omega, h9, fun _ _ => Nat.zero_le _⟩, ?_, hlt⟩
  rw [← hxl]; simp [World.cell?, show W.heap[b]? = _ from h1]
def begX (p : List Int) (hd : List V) (M : List (List V)) : List (List V) := if hd.length ≤ p.length then beg p hd M else []
theorem fromX_any {X : Nat → Prop} {g : Nat} {p : List Int} {M : List (List V)} (A : Option Addr) (ca : Nat) (hd : List V) (w : World) (h : TreeS X w g p M) (hr : RdV w A hd) (hX : ∀ k, X k → k < w.heap.size) :
    Calls Tryz.prog 70 #[.pointer (some ⟨g, 0, none⟩), .slice A hd.length ca] w (SaysQ X (begX p hd M) w) := by
  by_cases hl : hd.length ≤ p.length
  · rw [show begX p hd M = beg p hd M by unfold begX; rw [if_pos hl]]; exact fromS_any A ca hd w h hr hl hX
  · rw [show begX p hd M = [] by unfold begX; rw [if_neg hl]]; exact fromS_far hd.length A ca w h (by omega)
theorem begX_len (p : List Int) (hd : List V) (M : List (List V)) : (begX p hd M).length ≤ M.length := by
  unfold begX; split
  · exact beg_len p hd M
  · simp
theorem begX_short {p : List Int} {hd : List V} {M : List (List V)} (h : ∀ x ∈ M, x.length ≤ 1000) : ∀ x ∈ begX p hd M, x.length ≤ 1000 := by
  unfold begX; split
  · exact beg_short h
  · intro x hx; cases hx
end Go.Proofs.YtpmkhpbhimmeiaaGreat

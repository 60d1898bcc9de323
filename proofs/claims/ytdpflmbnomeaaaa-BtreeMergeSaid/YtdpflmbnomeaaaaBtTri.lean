/-
  Two trees beside the document's own.
-/
import Derived.Test.YtdpflmbnomeaaaaBtPlay
import Derived.Test.YtdpflmbnomeaaaaBtMerge
namespace Go.Proofs.Ytdpflmbnomeaaaa
open Go.RowKit FloM ValM Go.Shelf
set_option linter.unusedVariables false
set_option linter.unusedSimpArgs false

structure TriT (w : World) (g1 g2 b : Nat) (p q : List Int) (M1 M2 N : List (List V)) (W : World) : Prop where
  t : TreeS (fun k => k = g1 ∨ k = g2 ∨ k = b) W g1 p M1
  u : TreeS (fun k => k = g1 ∨ k = g2 ∨ k = b) W g2 q M2
  r : RefS (fun k => k = g1 ∨ k = g2 ∨ k = b) W b p N
  bw : Below w.heap.size w W
  g0 : w.heap.size ≤ g1
  lt : g1 < g2
  lt2 : g2 < b
section
variable {w W W' : World} {g1 g2 b : Nat} {p q : List Int} {M1 M2 M' N : List (List V)}
theorem TriT.x (h : TriT w g1 g2 b p q M1 M2 N W) : ∀ i, (i = g1 ∨ i = g2 ∨ i = b) → i < W.heap.size := fun i hi => by
  rcases hi with rfl | rfl | rfl
  · exact h.t.lt
  · exact h.u.lt
  · exact h.r.lt
theorem TriT.start {w0 w1 w2 w3 : World} {P1 P2 P3 : Option Addr} {c1 c2 c3 : Nat} (N1 : NewC p w0 w1 g1 P1 c1) (N2 : NewC q w1 w2 g2 P2 c2) (N3 : NewR p w2 w3 b P3 c3) (h : Below w.heap.size w w0) (hp : permB p = true) (hl : p.length ≤ 8) (hq : permB q = true) (hlq : q.length ≤ 8) : TriT w g1 g2 b p q [] [] [] w3 := by
  have e1 := N1.lt; have e2 := N2.fresh; have e3 := N2.lt; have e4 := N3.fresh
  have h1 := h.trans (N1.b.mono h.size)
  have h2 := h1.trans (N2.b.mono h1.size)
  refine ⟨TreeS.start N1 (N2.b.trans (N3.b.mono N2.b.size)) (.inl rfl) (fun a ha e => ?_) hp hl, TreeS.start N2 N3.b (.inr (.inl rfl)) (fun a ha e => ?_) hq hlq, RefS.start N3 (Below.refl _ _) (.inr (.inr rfl)) (fun a ha e => ?_) hp hl, h2.trans (N3.b.mono h2.size), Nat.le_trans h.size N1.fresh, by omega, by omega⟩
  · have := N1.row' a ha; omega
  · have := N2.row' a ha; have := N2.row a ha; omega
  · have := N3.row a ha; omega
theorem TriT.on (h : TriT w g1 g2 b p q M1 M2 N W) (hb : Below W.heap.size W W') : TriT w g1 g2 b p q M1 M2 N W' := ⟨h.t.on hb, h.u.on hb, h.r.on hb, h.bw.trans (hb.mono h.bw.size), h.g0, h.lt, h.lt2⟩
theorem TriT.put1 (h : TriT w g1 g2 b p q M1 M2 N W) (ht : TreeS (fun k => k = g1 ∨ k = g2 ∨ k = b) W' g1 p M') (hF : Fr (· = g1) W.heap.size W W') : TriT w g1 g2 b p q M' M2 N W' := by
  have h1 := h.lt; have h2 := h.lt2; have h0 := h.g0
  exact ⟨ht, h.u.other (.inl rfl) (by omega) hF, h.r.other (.inl rfl) (by omega) hF, h.bw.trans (hF.below h.bw.size fun k hk e => by omega), h0, h1, h2⟩
theorem TriT.put2 (h : TriT w g1 g2 b p q M1 M2 N W) (ht : TreeS (fun k => k = g1 ∨ k = g2 ∨ k = b) W' g2 q M') (hF : Fr (· = g2) W.heap.size W W') : TriT w g1 g2 b p q M1 M' N W' := by
  have h1 := h.lt; have h2 := h.lt2; have h0 := h.g0
  exact ⟨h.t.other (.inr (.inl rfl)) (by omega) hF, ht, h.r.other (.inr (.inl rfl)) (by omega) hF, h.bw.trans (hF.below h.bw.size fun k hk e => by omega), h0, h1, h2⟩
theorem TriT.put3 (h : TriT w g1 g2 b p q M1 M2 N W) (ht : RefS (fun k => k = g1 ∨ k = g2 ∨ k = b) W' b p M') (hF : Fr (· = b) W.heap.size W W') : TriT w g1 g2 b p q M1 M2 M' W' := by
  have h1 := h.lt; have h2 := h.lt2; have h0 := h.g0
  exact ⟨h.t.other (.inr (.inr rfl)) (by omega) hF, h.u.other (.inr (.inr rfl)) (by omega) hF, ht, h.bw.trans (hF.below h.bw.size fun k hk e => by omega), h0, h1, h2⟩
theorem TriT.merge (h : TriT w g1 g2 b p q M1 M2 N W) (hM : M1.length + M2.length < 100000) :
    Calls Try.prog 35 #[.pointer (some ⟨g1, 0, none⟩), .pointer (some ⟨g2, 0, none⟩)] W fun e w' => ∃ c : Nat, e = .returned (.int .i64 (c : Nat)) ∧ M1.length + c = (mergeM p M1 M2).length ∧ TriT w g1 g2 b p q (mergeM p M1 M2) M2 N w' ∧ Fr (· = g1) W.heap.size W w' := by
  refine (merge_any (some ⟨g2, 0, none⟩) W h.t h.x hM (h.u.fit.short (by have := h.u.few; omega)) fun W2 hW hs => ?_).mono ?_
  · have hu := (h.u.more (Y := fun k => (k = g1 ∨ k = g2 ∨ k = b) ∨ k = W.heap.size + 1) (fun k h => .inl h) (fun k h => h.imp_right fun e => by omega)).on hW
    exact allS_any W2 hu fun k hk => by
      rcases hk with hk | rfl
      · have := h.x k hk; have := hW.size; omega
      · exact hs
  · rintro e w' ⟨c, rfl, hc, ht, hF⟩
    exact ⟨c, rfl, hc, h.put1 ht hF, hF⟩
theorem TriT.mergeNil (h : TriT w g1 g2 b p q M1 M2 N W) (hM : M1.length < 100000) :
    Calls Try.prog 35 #[.pointer (some ⟨g1, 0, none⟩), .pointer none] W fun e w' => e = .returned (.int .i64 0) ∧ TriT w g1 g2 b p q M1 M2 N w' ∧ Fr (· = g1) W.heap.size W w' := by
  refine (merge_any (M2 := []) none W h.t h.x (by simpa using hM) (fun x hx => by cases hx) fun W2 hW hs => all_nil _ W2).mono ?_
  rintro e w' ⟨c, rfl, hc, ht, hF⟩
  have hc0 : c = 0 := by
    have : mergeM p M1 [] = M1 := rfl
    rw [this] at hc; omega
  subst hc0
  exact ⟨rfl, h.put1 ht hF, hF⟩
end
theorem putM_same {p : List Int} {M : List (List V)} (hp : permB p = true) (h : FitS p M) {a : List V} (ha : a.length = p.length → a ∈ M) : putM p a M = M := by
  unfold putM; split
  · rename_i hl
    exact ins_same h.sort ((inS_mem hp hl h.lens).2 (ha hl))
  · rfl
theorem mergeM_same {p : List Int} {M : List (List V)} (hp : permB p = true) (h : FitS p M) : ∀ l : List (List V), (∀ a ∈ l, a.length = p.length → a ∈ M) → mergeM p M l = M
  | [], _ => rfl
  | a :: l, hl => by
    have e := putM_same hp h (hl a (List.mem_cons_self ..))
    have ih := mergeM_same hp h l fun x hx => hl x (List.mem_cons_of_mem _ hx)
    unfold mergeM at *
    rw [List.foldl_cons, e, ih]
theorem mergeM_again {p : List Int} {M l : List (List V)} (hp : permB p = true) (h : FitS p M) : mergeM p (mergeM p M l) l = mergeM p M l :=
  mergeM_same hp (mergeM_fit l h) l fun a ha hl => (puts_fold_mem hp l M h).2 (.inl ⟨ha, hl⟩)
theorem merge_next {p : List Int} {M l : List (List V)} {k : Nat} {a : List V} (h : l[k]? = some a) : mergeM p M (l.take (k + 1)) = putM p a (mergeM p M (l.take k)) := by rw [take_snoc' h, mergeM_snoc]
/-! ### New, whatever comes -/
def newE (p : List Int) : Int := if permB p then 0 else 1
theorem newX_any (A : Option Addr) (c : Nat) (p : List Int) (w : World) (hl : p.length ≤ 8) (hp : RdI w A p) : Calls Try.prog 17 #[.slice A p.length c] w fun e w' => ∃ r, e = .returned (.tuple #[.pointer r, .int .i64 (newE p)]) ∧ Below w.heap.size w w' := by
  cases hb : permB p with
  | true =>
    refine (new_any A c p w hl hp hb).mono ?_
    rintro e w' ⟨g, P, cp, rfl, N⟩
    exact ⟨_, by unfold newE; rw [hb]; rfl, N.b⟩
  | false =>
    refine (new_bad A c p w hl hp hb).mono ?_
    rintro e w' ⟨rfl, h⟩
    exact ⟨none, by unfold newE; rw [hb]; rfl, h⟩
theorem refNewX_any (A : Option Addr) (c : Nat) (p : List Int) (w : World) (hl : p.length ≤ 8) (hp : RdI w A p) : Calls Try.prog 18 #[.slice A p.length c] w fun e w' => ∃ r, e = .returned (.pointer r) ∧ Below w.heap.size w w' := by
  cases hb : permB p with
  | true =>
    refine (refNew_any A c p w hp hl hb).mono ?_
    rintro e w' ⟨g, P, cp, rfl, N⟩
    exact ⟨_, rfl, N.b⟩
  | false =>
    refine (refNew_bad A c p w hp (by omega) (.inl hb)).mono ?_
    rintro e w' ⟨rfl, rfl⟩
    exact ⟨none, rfl, Below.refl _ _⟩
/-- A row that was told, kept where trees are written. -/
structure ToldX (X : Nat → Prop) (W : World) (A : Option Addr) (c : Nat) (xs : List Sl) (M : List (List V)) : Prop where
  rt : RdT X W A xs
  e : lsOf xs = M
  cap : M.length ≤ c
  capm : c ≤ maxLen
section
variable {X : Nat → Prop} {W W' : World} {A : Option Addr} {c : Nat} {xs : List Sl} {M : List (List V)}
theorem ToldX.on (h : ToldX X W A c xs M) (hb : Below W.heap.size W W') : ToldX X W' A c xs M := ⟨h.rt.on hb, h.e, h.cap, h.capm⟩
theorem ToldX.onF (h : ToldX X W A c xs M) (hb : Fr X W.heap.size W W') : ToldX X W' A c xs M := ⟨h.rt.onF hb, h.e, h.cap, h.capm⟩
theorem ToldX.toldR (h : ToldX X W A c xs M) (hl : ∀ x ∈ M, x.length ≤ 1000) : ToldR W A c xs M := ⟨h.rt.rdL fun x hx => by
  have := hl x.l (by rw [← h.e]; exact List.mem_map_of_mem hx)
  unfold maxLen; omega, h.e, h.cap, h.capm, fun _ _ => Nat.zero_le _⟩
theorem ToldX.of (h : ToldR W A c xs M) (hr : RdT X W A xs) : ToldX X W A c xs M := ⟨hr, h.e, h.cap, h.capm⟩
theorem RefS.rowX {b : Nat} {p : List Int} (h : RefS X W b p M) : ∃ A c xs, ToldX X W A c xs M ∧ W.cell? ⟨b, 1, none⟩ = some (.slice A M.length c) ∧ b < W.heap.size := by
  have hlt := h.lt
  obtain ⟨P, cp, A, c, xs, h1, h2, h3, h4, h5, h6, h7, h8, h9, h10⟩ := h.ex
  have hxl : xs.length = M.length := by rw [← h5]; simp [lsOf]
  refine ⟨A, c, xs, ⟨h4, h5, by omega, h9⟩, ?_, hlt⟩
  rw [← hxl]; simp [World.cell?, show W.heap[b]? = _ from h1]
end
end Go.Proofs.Ytdpflmbnomeaaaa

/-
  A tree beside the document's own.
-/
import Derived.Test.YtdpflmbnomeaaaaBtRefP
namespace Go.Proofs.Ytdpflmbnomeaaaa
open Go.RowKit FloM ValM Go.Shelf
set_option linter.unusedVariables false
set_option linter.unusedSimpArgs false

structure PlayH (w : World) (g b : Nat) (p : List Int) (M N : List (List V)) (W : World) : Prop where
  t : TreeS (fun k => k = g ∨ k = b) W g p M
  r : RefS (fun k => k = g ∨ k = b) W b p N
  bw : Below w.heap.size w W
  g0 : w.heap.size ≤ g
  lt : g < b
section
variable {w W W' : World} {g b : Nat} {p : List Int} {M M' N : List (List V)}
theorem PlayH.x (h : PlayH w g b p M N W) : ∀ i, (i = g ∨ i = b) → i < W.heap.size := fun i hi => by
  rcases hi with rfl | rfl
  · exact h.t.lt
  · exact h.r.lt
theorem PlayH.start {w0 w1 w2 w3 : World} {P P2 : Option Addr} {c c2 : Nat} (N1 : NewC p w0 w1 g P c) (N2 : NewR p w2 w3 b P2 c2) (h : Below w.heap.size w w0) (h12 : Below w1.heap.size w1 w2) (hp : permB p = true) (hl : p.length ≤ 8) : PlayH w g b p [] [] w3 := by
  have h1 := N1.lt; have h2 := h12.size; have h3 := N2.fresh
  have e1 := h.trans (N1.b.mono h.size)
  have e2 := e1.trans (h12.mono e1.size)
  refine ⟨TreeS.start N1 (h12.trans (N2.b.mono h2)) (.inl rfl) (fun a ha e => ?_) hp hl, RefS.start N2 (Below.refl _ _) (.inr rfl) (fun a ha e => ?_) hp hl, e2.trans (N2.b.mono e2.size), Nat.le_trans h.size N1.fresh, by omega⟩
  · have := N1.row' a ha; omega
  · have := N2.row a ha; omega
theorem PlayH.on (h : PlayH w g b p M N W) (hb : Below W.heap.size W W') : PlayH w g b p M N W' := ⟨h.t.on hb, h.r.on hb, h.bw.trans (hb.mono h.bw.size), h.g0, h.lt⟩
theorem PlayH.put1 (h : PlayH w g b p M N W) (ht : TreeS (fun k => k = g ∨ k = b) W' g p M') (hF : Fr (· = g) W.heap.size W W') : PlayH w g b p M' N W' :=
  ⟨ht, h.r.other (.inl rfl) (by have := h.lt; omega) hF, h.bw.trans (hF.below h.bw.size fun k hk e => by have := h.g0; omega), h.g0, h.lt⟩
theorem PlayH.put2 (h : PlayH w g b p M N W) (ht : RefS (fun k => k = g ∨ k = b) W' b p M') (hF : Fr (· = b) W.heap.size W W') : PlayH w g b p M M' W' :=
  ⟨h.t.other (.inr rfl) (by have := h.lt; omega) hF, ht, h.bw.trans (hF.below h.bw.size fun k hk e => by have := h.g0; have := h.lt; omega), h.g0, h.lt⟩
end
/-- The row of the document's own tree. -/
theorem RefS.row {X : Nat → Prop} {W : World} {b : Nat} {p : List Int} {M : List (List V)} (h : RefS X W b p M) : ∃ A c xs, ToldR W A c xs M ∧ W.cell? ⟨b, 1, none⟩ = some (.slice A M.length c) ∧ b < W.heap.size := by
  have hlt := h.lt
  obtain ⟨P, cp, A, c, xs, h1, h2, h3, h4, h5, h6, h7, h8, h9, h10⟩ := h.ex
  have hxl : xs.length = M.length := by rw [← h5]; simp [lsOf]
  refine ⟨A, c, xs, ⟨h.short (P := P) h4 h5, h5, by omega, h9, fun _ _ => Nat.zero_le _⟩, ?_, hlt⟩
  rw [← hxl]; simp [World.cell?, show W.heap[b]? = _ from h1]
def begX (p : List Int) (hd : List V) (M : List (List V)) : List (List V) := if hd.length ≤ p.length then beg p hd M else []
theorem fromX_any {X : Nat → Prop} {g : Nat} {p : List Int} {M : List (List V)} (A : Option Addr) (ca : Nat) (hd : List V) (w : World) (h : TreeS X w g p M) (hr : RdV w A hd) (hX : ∀ k, X k → k < w.heap.size) :
    Calls Try.prog 27 #[.pointer (some ⟨g, 0, none⟩), .slice A hd.length ca] w (SaysQ X (begX p hd M) w) := by
  by_cases hl : hd.length ≤ p.length
  · rw [show begX p hd M = beg p hd M by unfold begX; rw [if_pos hl]]; exact fromS_any A ca hd w h hr hl hX
  · rw [show begX p hd M = [] by unfold begX; rw [if_neg hl]]; exact fromS_far hd.length A ca w h (by omega)
theorem refFromX_any {X : Nat → Prop} {b : Nat} {p : List Int} {M : List (List V)} (B : Option Addr) (cb : Nat) (hd : List V) (w : World) (h : RefS X w b p M) (hr : RdV w B hd) (hM : M.length ≤ 100000) :
    Calls Try.prog 28 #[.pointer (some ⟨b, 0, none⟩), .slice B hd.length cb] w fun e w' => ∃ A c ys, e = .returned (.slice A (begX p hd M).length c) ∧ ToldR w' A c ys (begX p hd M) ∧ Below w.heap.size w w' := by
  by_cases hl : hd.length ≤ p.length
  · rw [show begX p hd M = beg p hd M by unfold begX; rw [if_pos hl]]; exact refFrom_any B cb hd w h hr hl hM
  · rw [show begX p hd M = [] by unfold begX; rw [if_neg hl]]
    refine (refFrom_far hd.length B cb w h (by omega)).mono ?_
    rintro e w' ⟨rfl, rfl⟩
    exact ⟨none, 0, [], rfl, ⟨RdL.nil, rfl, Nat.le_refl _, Nat.zero_le _, fun _ _ => Nat.zero_le _⟩, Below.refl _ _⟩
theorem begX_len (p : List Int) (hd : List V) (M : List (List V)) : (begX p hd M).length ≤ M.length := by
  unfold begX; split
  · exact beg_len p hd M
  · simp
theorem begX_short {p : List Int} {hd : List V} {M : List (List V)} (h : ∀ x ∈ M, x.length ≤ 1000) : ∀ x ∈ begX p hd M, x.length ≤ 1000 := by
  unfold begX; split
  · exact beg_short h
  · intro x hx; cases hx
end Go.Proofs.Ytdpflmbnomeaaaa

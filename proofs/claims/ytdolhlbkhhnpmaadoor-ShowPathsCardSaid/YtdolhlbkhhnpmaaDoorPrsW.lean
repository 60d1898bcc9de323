/-
  Package parse: lists of atoms. (This text is printed by tools/mklist.py.)
-/
import Derived.Test.YtdolhlbkhhnpmaaDoorPrsV
namespace Go.Proofs.YtdolhlbkhhnpmaaDoor
open Go.RowKit FloM ValM Go.Shelf
set_option linter.unusedVariables false
set_option linter.unusedSimpArgs false
/-! ### A call's own structs beside the reader, where more than the reader is written -/
structure LSX (X : Nat → Prop) (rb tb z o : Nat) (W : World) (rows : List Lrow) (ts : List Tk) (w : World) : Prop where
  rdr : RdrAt w rb tb z ts o
  fr : Fr X W.heap.size W w
  each : ∀ x ∈ rows, Row x.2.1 w x.1 x.2.2 ∧ W.heap.size ≤ x.1
  nd : (rows.map (·.1)).Nodup
  rl : rb < W.heap.size
  tl : tb < W.heap.size
  xl : ∀ k, X k → k < W.heap.size
  xr : X rb
section
variable {X : Nat → Prop} {W w w' : World} {rb tb z o : Nat} {ts r : List Tk} {rows pre post : List Lrow} {g : Nat} {T : TypeId} {cs cs' : List Value}
theorem LSX.start (h : RdrAt W rb tb z ts o) (hX : ∀ k, X k → k < W.heap.size) (hr : X rb) : LSX X rb tb z o W [] ts W := ⟨h, Fr.refl _ _ _, (fun x hx => by cases hx), List.nodup_nil, h.lt, h.tlt, hX, hr⟩
theorem LSX.on (h : LSX X rb tb z o W rows ts w) (hb : Below w.heap.size w w') : LSX X rb tb z o W rows ts w' :=
  ⟨h.rdr.on hb, h.fr.trans (Fr.of (hb.mono h.fr.size)), fun x hx => ⟨rowOn (h.each x hx).1 hb, (h.each x hx).2⟩, h.nd, h.rl, h.tl, h.xl, h.xr⟩
theorem LSX.new (h : LSX X rb tb z o W rows ts w) (T : TypeId) (cs : List Value) : LSX X rb tb z o W (rows ++ [(w.heap.size, T, cs)]) ts (w.alloc (.cells cs.toArray T)) := by
  have h' := h.on ((Below.refl _ _).alloc (Nat.le_refl _) (.cells cs.toArray T))
  refine ⟨h'.rdr, h'.fr, fun x hx => ?_, ?_, h.rl, h.tl, h.xl, h.xr⟩
  · rw [List.mem_append, List.mem_singleton] at hx
    rcases hx with hx | rfl
    · exact h'.each x hx
    · exact ⟨row_new w cs, h.fr.size⟩
  · rw [List.map_append, List.nodup_append]
    refine ⟨h.nd, by simp, fun a ha b hb e => ?_⟩
    obtain ⟨x, hx, rfl⟩ := List.mem_map.1 ha
    simp at hb; subst hb
    have := (h.each x hx).1.lt
    omega
theorem LSX.callX (h : LSX X rb tb z o W rows ts w) (hr : RdrAt w' rb tb z r o) (hF : Fr X w.heap.size w w') : LSX X rb tb z o W rows r w' :=
  ⟨hr, h.fr.trans (hF.mono h.fr.size), fun x hx => ⟨(h.each x hx).1.fr hF (h.each x hx).1.lt (fun e => by have := (h.each x hx).2; have := h.xl _ e; omega), (h.each x hx).2⟩, h.nd, h.rl, h.tl, h.xl, h.xr⟩
theorem LSX.call (h : LSX X rb tb z o W rows ts w) (hr : RdrAt w' rb tb z r o) (hF : Fr (· = rb) w.heap.size w w') : LSX X rb tb z o W rows r w' := h.callX hr (hF.toX h.xr)
theorem LSX.row (h : LSX X rb tb z o W rows ts w) {x : Lrow} (hx : x ∈ rows) : Row x.2.1 w x.1 x.2.2 := (h.each x hx).1
theorem LSX.ge (h : LSX X rb tb z o W rows ts w) {x : Lrow} (hx : x ∈ rows) : W.heap.size ≤ x.1 := (h.each x hx).2
theorem LSX.lt (h : LSX X rb tb z o W rows ts w) {x : Lrow} (hx : x ∈ rows) : x.1 < w.heap.size := (h.each x hx).1.lt
theorem LSX.store (h : LSX X rb tb z o W (pre ++ (g, T, cs) :: post) ts w) (hR : Row T w' g cs') (hF : ∀ B, Fr (· = g) B w w') : LSX X rb tb z o W (pre ++ (g, T, cs') :: post) ts w' := by
  have hg := h.ge (x := (g, T, cs)) (by simp)
  have hrl := h.rl; have htl := h.tl
  have hn := h.nd
  simp only [List.map_append, List.map_cons] at hn
  refine ⟨rdr_fr h.rdr (by simp only at hg; omega) (by simp only at hg; omega) hF, h.fr.trans (Fr.of ((hF W.heap.size).below (Nat.le_refl _) fun k hk e => by simp only at hg; omega)), fun x hx => ?_, by simpa using hn, hrl, htl, h.xl, h.xr⟩
  have hx' : x = (g, T, cs') ∨ x ∈ pre ∨ x ∈ post := by simp at hx; rcases hx with h | h | h <;> simp [h]
  rcases hx' with rfl | hx'
  · exact ⟨hR, hg⟩
  · have hm : x ∈ pre ++ (g, T, cs) :: post := by simp; rcases hx' with h | h <;> simp [h]
    have hne : x.1 ≠ g := fun e => by
      rw [List.nodup_append] at hn
      rcases hx' with hp | hp
      · exact hn.2.2 x.1 (List.mem_map_of_mem hp) g (by simp) e
      · have := (List.nodup_cons.1 hn.2.1).1
        exact this (e ▸ List.mem_map_of_mem hp)
    exact ⟨(h.each x hm).1.fr (hF (w.heap.size)) (h.each x hm).1.lt hne, (h.each x hm).2⟩
end
/-- What comes of an atom, beside more. -/
def AtomQ {α β : Type} (cl : β → List Value) (ab : β → α) (S : List β → World → Prop) (X : Nat → Prop) (R : Ans (List UInt8 × List α)) (rb tb z o : Nat) (W : World) (e : Ending) (w' : World) : Prop := match R with
  | .ok x r => ∃ (l : List β) (A : Option Addr) (c : Nat), l.map ab = x.2 ∧ e = .returned (.agg #[.string (bs x.1), .slice A l.length c]) ∧ OwnX 39 4 cl w' W.heap.size A c l ∧ RdrAt w' rb tb z r o ∧ S l w' ∧ Fr X W.heap.size W w'
  | .no a k => e = .panicked [{ v := faultP a k, recovered := false }] ∧ Fr X W.heap.size W w'
theorem OwnX.less {E : TypeId} {sz : Nat} {β : Type} {cl : β → List Value} {W : World} {b b' c : Nat} {A : Option Addr} {l : List β} (h : OwnX E sz cl W b A c l) (hb : b' ≤ b) : OwnX E sz cl W b' A c l := by
  refine ⟨h.1, ?_⟩
  rcases h.2 with h0 | ⟨g, cap, cur, hv, hbg, r⟩
  · exact .inl h0
  · exact .inr ⟨g, cap, cur, hv, Nat.le_trans hb hbg, r⟩
/-- More than the reader was written: what stands in old blocks else stays. -/
def OldS {β : Type} (W : World) (rb : Nat) (S : List β → World → Prop) : Prop := ∀ l V V' Y, W.heap.size ≤ V.heap.size → S l V → (∀ k, Y k → k = rb ∨ W.heap.size ≤ k) → Fr Y V.heap.size V V' → S l V'
theorem pred_ne {t : Tk} (h : predT t = true) : t.k = 1 := (pred_tok h).1
section
variable {W W' : World} {rb tb z o xb : Nat} {ts : List Tk}
end
end Go.Proofs.YtdolhlbkhhnpmaaDoor

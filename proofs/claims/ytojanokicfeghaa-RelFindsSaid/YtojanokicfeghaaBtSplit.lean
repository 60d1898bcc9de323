/-
  Contract of a node's split.
-/
import Derived.Test.YtojanokicfeghaaBtCat
import Derived.RegionTactic
import Derived.BigRegion
import Derived.Deep.RegionHeld3
namespace Go.Proofs.Ytojanokicfeghaa
open Go.RowKit FloM ValM
set_option linter.unusedVariables false

theorem heap_al (w : World) (o : Obj) : (w.alloc o).heap = w.heap.push o := rfl
theorem heap_dr (w : World) : w.drew.heap = w.heap := rfl
theorem node_new {X : Nat → Prop} {W : World} {b n m : Nat} {ts : List Sl} {ps : List Value} {At Ak : Option Addr} {ct ck : Nat} {t : TypeId} (hc : W.heap[b]? = some (.cells #[.slice At n ct, .slice Ak m ck] t (0, 0))) (hx : ¬ X b) (hn : ts.length = n) (hm : ps.length = m) (rt : RdT X W At ts) (rk : RdC W Ak ps) (ok : Off X Ak) (h1 : n ≤ ct) (h2 : m ≤ ck) (h3 : ct ≤ maxLen) (h4 : ck ≤ maxLen) : NodeAt X W b ts ps At ct Ak ck :=
  ⟨(Array.getElem?_eq_some_iff.1 hc).1, hx, by rw [hn]; simp [World.cell?, hc], by rw [hm]; simp [World.cell?, hc], rt, rk, fun _ => ok, by omega, by omega, h3, h4⟩
theorem rdC_new {W : World} {b : Nat} {cs : Array Value} {t : TypeId} {fz : Nat × Nat} (hc : W.heap[b]? = some (.cells cs t fz)) : RdC W (some ⟨b, 0, none⟩) cs.toList := fun j u hu => ⟨b, 0, rfl, (Array.getElem?_eq_some_iff.1 hc).1, by simp [World.cell?, hc]; simpa using hu⟩
theorem split_end {X : Nat → Prop} {b : Nat} {ts : List Sl} {Ak : Option Addr} {ct ck : Nat} (w : World) {W : World} {tb to bl br bt B1 B2 : Nat} {x : Sl} {t1 t2 t3 t4 t5 : TypeId} (h : NodeAt X w b ts [] (some ⟨tb, to, none⟩) ct Ak ck) (hx : ts[3]? = some x) (h7 : ts.length = 7) (hX : ∀ k, X k → k < w.heap.size) (hB : Below w.heap.size w W)
    (hl : W.heap[bl]? = some (.cells #[.slice (some ⟨tb, to, none⟩) 3 ct, .slice none 0 0] t1 (0, 0)))
    (hr : W.heap[br]? = some (.cells #[.slice (some ⟨tb, to + 4, none⟩) 3 (ct - 4), .slice none 0 0] t2 (0, 0)))
    (hB1 : W.heap[B1]? = some (.cells #[.slice x.A x.l.length x.c] t3 (0, 0)))
    (hB2 : W.heap[B2]? = some (.cells #[.pointer (some ⟨bl, 0, none⟩), .pointer (some ⟨br, 0, none⟩)] t4 (0, 0)))
    (ht : W.heap[bt]? = some (.cells #[.slice (some ⟨B1, 0, none⟩) 1 1, .slice (some ⟨B2, 0, none⟩) 2 2] t5 (0, 0)))
    (g1 : w.heap.size ≤ bl) (g2 : w.heap.size ≤ br) (g3 : w.heap.size ≤ B1) (g4 : w.heap.size ≤ B2) (g5 : w.heap.size ≤ bt) :
    ∃ bl br bt' At' Ak' ct' ck' Bt Bk dt dk Ct Ck et ek x, Ending.returned (.pointer (some ⟨bt, 0, none⟩)) = .returned (.pointer (some ⟨bt', 0, none⟩)) ∧ ts[3]? = some x ∧
      NodeAt X W bl (ts.take 3) [] At' ct' Ak' ck' ∧ NodeAt X W br (ts.drop 4) [] Bt dt Bk dk ∧ NodeAt X W bt' [x] [.pointer (some ⟨bl, 0, none⟩), .pointer (some ⟨br, 0, none⟩)] Ct et Ck ek ∧ Below w.heap.size w W := by
  have hn : ∀ k, w.heap.size ≤ k → ¬ X k := fun k hk hx => by have := hX k hx; omega
  have c1 := h.capt; have c2 := h.capt'
  have hrt := h.rt.on hB
  refine ⟨bl, br, bt, _, _, _, _, _, _, _, _, _, _, _, _, x, rfl, hx,
    node_new hl (hn _ g1) (by simp; omega) rfl (hrt.take 3) RdC.nil (Off.none _) (by omega) (Nat.le_refl _) c2 (by unfold maxLen; omega),
    node_new hr (hn _ g2) (by simp; omega) rfl (hrt.drop 4) RdC.nil (Off.none _) (by omega) (Nat.le_refl _) (by omega) (by unfold maxLen; omega),
    node_new ht (hn _ g5) rfl rfl ⟨rdC_new hB1, fun a ha => by cases ha; exact hn _ g3, fun y hy => by
      rw [List.mem_singleton] at hy; subst hy; exact hrt.each _ (List.mem_of_getElem? hx)⟩ (rdC_new hB2) (fun a ha => by cases ha; exact hn _ g4) (Nat.le_refl _) (Nat.le_refl _) (by unfold maxLen; omega) (by unfold maxLen; omega), hB⟩
set_option maxHeartbeats 4000000 in
theorem split_leaf {X : Nat → Prop} {b : Nat} {ts : List Sl} {At Ak : Option Addr} {ct ck : Nat} (w : World) (h : NodeAt X w b ts [] At ct Ak ck) (h7 : ts.length = 7) (hX : ∀ k, X k → k < w.heap.size) :
    Calls Try.prog 91 #[.pointer (some ⟨b, 0, none⟩)] w fun e w' => ∃ bl br bt At' Ak' ct' ck' Bt Bk dt dk Ct Ck et ek x, e = .returned (.pointer (some ⟨bt, 0, none⟩)) ∧ ts[3]? = some x ∧
      NodeAt X w' bl (ts.take 3) [] At' ct' Ak' ck' ∧ NodeAt X w' br (ts.drop 4) [] Bt dt Bk dk ∧ NodeAt X w' bt [x] [.pointer (some ⟨bl, 0, none⟩), .pointer (some ⟨br, 0, none⟩)] Ct et Ck ek ∧ Below w.heap.size w w' := by
  have hlt : 3 < ts.length := by omega
  have hx := List.getElem?_eq_getElem hlt
  generalize ts[3] = x at hx
  obtain ⟨tb, to, rfl, htb, hcx⟩ := h.rt.at_ hx
  have c0 := h.c0; have c1 := h.c1
  simp only [List.length_nil] at c1
  rw [h7] at c0
  have hct := h.capt; have hct' := h.capt'
  unfold maxLen at hct'
  have hb := h.lt
  have HN := Lib.hid h; clear h
  have HX := Lib.hid hx; clear hx
  go_enter Try.func91, Try.ntmps91
  go_wp2
  go_region
  all_goals go_wp2
  · go_ret
    exact split_end w (bl := w.heap.size) (br := w.heap.size + 1) (bt := w.heap.size + 1 + 1 + 1 + 1) (B1 := w.heap.size + 1 + 1) (B2 := w.heap.size + 1 + 1 + 1) HN.out HX.out h7 hX ((((((Below.refl _ w).alloc (Nat.le_refl _) _).alloc (by simp) _).alloc (by simp; omega) _).alloc (by simp; omega) _).alloc (by simp; omega) _).drew (by simp only [heap_dr, heap_al, Array.getElem?_push, Array.size_push]; repeat (first | rw [if_pos trivial] | rw [if_pos (by omega)] | rw [if_neg (by omega)])) (by simp only [heap_dr, heap_al, Array.getElem?_push, Array.size_push]; repeat (first | rw [if_pos trivial] | rw [if_pos (by omega)] | rw [if_neg (by omega)])) (by simp only [heap_dr, heap_al, Array.getElem?_push, Array.size_push]; repeat (first | rw [if_pos trivial] | rw [if_pos (by omega)] | rw [if_neg (by omega)])) (by simp only [heap_dr, heap_al, Array.getElem?_push, Array.size_push]; repeat (first | rw [if_pos trivial] | rw [if_pos (by omega)] | rw [if_neg (by omega)])) (by simp only [heap_dr, heap_al, Array.getElem?_push, Array.size_push]; repeat (first | rw [if_pos trivial] | rw [if_pos (by omega)] | rw [if_neg (by omega)])) (by omega) (by omega) (by omega) (by omega) (by omega)
  · go_ret
    exact split_end w (bl := w.heap.size + 1) (br := w.heap.size) (bt := w.heap.size + 1 + 1 + 1 + 1) (B1 := w.heap.size + 1 + 1) (B2 := w.heap.size + 1 + 1 + 1) HN.out HX.out h7 hX ((((((Below.refl _ w).alloc (Nat.le_refl _) _).alloc (by simp) _).alloc (by simp; omega) _).alloc (by simp; omega) _).alloc (by simp; omega) _).drew (by simp only [heap_dr, heap_al, Array.getElem?_push, Array.size_push]; repeat (first | rw [if_pos trivial] | rw [if_pos (by omega)] | rw [if_neg (by omega)])) (by simp only [heap_dr, heap_al, Array.getElem?_push, Array.size_push]; repeat (first | rw [if_pos trivial] | rw [if_pos (by omega)] | rw [if_neg (by omega)])) (by simp only [heap_dr, heap_al, Array.getElem?_push, Array.size_push]; repeat (first | rw [if_pos trivial] | rw [if_pos (by omega)] | rw [if_neg (by omega)])) (by simp only [heap_dr, heap_al, Array.getElem?_push, Array.size_push]; repeat (first | rw [if_pos trivial] | rw [if_pos (by omega)] | rw [if_neg (by omega)])) (by simp only [heap_dr, heap_al, Array.getElem?_push, Array.size_push]; repeat (first | rw [if_pos trivial] | rw [if_pos (by omega)] | rw [if_neg (by omega)])) (by omega) (by omega) (by omega) (by omega) (by omega)
end Go.Proofs.Ytojanokicfeghaa

/-
  Contract of a node's split, where it has kids.
-/
import Derived.Test.YtojanokicfeghaaBtSplit
namespace Go.Proofs.Ytojanokicfeghaa
open Go.RowKit FloM ValM
set_option linter.unusedVariables false

theorem split_endK {X : Nat → Prop} {b : Nat} {ts : List Sl} {ps : List Value} {ct ck : Nat} (w : World) {W : World} {tb to kb ko bl br bt B1 B2 : Nat} {x : Sl} {t1 t2 t3 t4 t5 : TypeId} (h : NodeAt X w b ts ps (some ⟨tb, to, none⟩) ct (some ⟨kb, ko, none⟩) ck) (hx : ts[3]? = some x) (h7 : ts.length = 7) (h8 : ps.length = 8) (hX : ∀ k, X k → k < w.heap.size) (hB : Below w.heap.size w W)
    (hl : W.heap[bl]? = some (.cells #[.slice (some ⟨tb, to, none⟩) 3 ct, .slice (some ⟨kb, ko, none⟩) 4 ck] t1 (0, 0)))
    (hr : W.heap[br]? = some (.cells #[.slice (some ⟨tb, to + 4, none⟩) 3 (ct - 4), .slice (some ⟨kb, ko + 4, none⟩) 4 (ck - 4)] t2 (0, 0)))
    (hB1 : W.heap[B1]? = some (.cells #[.slice x.A x.l.length x.c] t3 (0, 0)))
    (hB2 : W.heap[B2]? = some (.cells #[.pointer (some ⟨bl, 0, none⟩), .pointer (some ⟨br, 0, none⟩)] t4 (0, 0)))
    (ht : W.heap[bt]? = some (.cells #[.slice (some ⟨B1, 0, none⟩) 1 1, .slice (some ⟨B2, 0, none⟩) 2 2] t5 (0, 0)))
    (g1 : w.heap.size ≤ bl) (g2 : w.heap.size ≤ br) (g3 : w.heap.size ≤ B1) (g4 : w.heap.size ≤ B2) (g5 : w.heap.size ≤ bt) :
    ∃ bl br bt' At' Ak' ct' ck' Bt Bk dt dk Ct Ck et ek x, Ending.returned (.pointer (some ⟨bt, 0, none⟩)) = .returned (.pointer (some ⟨bt', 0, none⟩)) ∧ ts[3]? = some x ∧
      NodeAt X W bl (ts.take 3) (ps.take 4) At' ct' Ak' ck' ∧ NodeAt X W br (ts.drop 4) (ps.drop 4) Bt dt Bk dk ∧ NodeAt X W bt' [x] [.pointer (some ⟨bl, 0, none⟩), .pointer (some ⟨br, 0, none⟩)] Ct et Ck ek ∧ Below w.heap.size w W := by
  have hn : ∀ k, w.heap.size ≤ k → ¬ X k := fun k hk hx => by have := hX k hx; omega
  have c1 := h.capt; have c2 := h.capt'; have c3 := h.capk; have c4 := h.capk'
  have hrt := h.rt.on hB
  have hrk := h.rk.on hB
  have hnk : ps ≠ [] := fun e => by simp [e] at h8
  refine ⟨bl, br, bt, _, _, _, _, _, _, _, _, _, _, _, _, x, rfl, hx,
    node_new hl (hn _ g1) (by simp; omega) (by simp; omega) (hrt.take 3) (hrk.take 4) (h.offk hnk) (by omega) (by omega) c2 c4,
    node_new hr (hn _ g2) (by simp; omega) (by simp; omega) (hrt.drop 4) (hrk.drop 4) (fun a ha => by cases ha; exact off_some (h.offk hnk)) (by omega) (by omega) (by omega) (by omega),
    node_new ht (hn _ g5) rfl rfl ⟨rdC_new hB1, fun a ha => by cases ha; exact hn _ g3, fun y hy => by
      rw [List.mem_singleton] at hy; subst hy; exact hrt.each _ (List.mem_of_getElem? hx)⟩ (rdC_new hB2) (fun a ha => by cases ha; exact hn _ g4) (Nat.le_refl _) (Nat.le_refl _) (by unfold maxLen; omega) (by unfold maxLen; omega), hB⟩
set_option maxHeartbeats 8000000 in
theorem split_kids {X : Nat → Prop} {b : Nat} {ts : List Sl} {ps : List Value} {At Ak : Option Addr} {ct ck : Nat} (w : World) (h : NodeAt X w b ts ps At ct Ak ck) (h7 : ts.length = 7) (h8 : ps.length = 8) (hX : ∀ k, X k → k < w.heap.size) :
    Calls Try.prog 91 #[.pointer (some ⟨b, 0, none⟩)] w fun e w' => ∃ bl br bt At' Ak' ct' ck' Bt Bk dt dk Ct Ck et ek x, e = .returned (.pointer (some ⟨bt, 0, none⟩)) ∧ ts[3]? = some x ∧
      NodeAt X w' bl (ts.take 3) (ps.take 4) At' ct' Ak' ck' ∧ NodeAt X w' br (ts.drop 4) (ps.drop 4) Bt dt Bk dk ∧ NodeAt X w' bt [x] [.pointer (some ⟨bl, 0, none⟩), .pointer (some ⟨br, 0, none⟩)] Ct et Ck ek ∧ Below w.heap.size w w' := by
  have hlt : 3 < ts.length := by omega
  have hx := List.getElem?_eq_getElem hlt
  generalize ts[3] = x at hx
  obtain ⟨tb, to, rfl, htb, hcx⟩ := h.rt.at_ hx
  obtain ⟨kb, ko, rfl, hkb, hcy⟩ := h.rk 0 _ (List.getElem?_eq_getElem (show 0 < ps.length by omega))
  have c0 := h.c0; have c1 := h.c1
  rw [h7] at c0
  rw [h8] at c1
  have hct := h.capt; have hct' := h.capt'; have hck := h.capk; have hck' := h.capk'
  unfold maxLen at hct' hck'
  have hb := h.lt
  have HN := Lib.hid h; clear h
  have HX := Lib.hid hx; clear hx hcy
  go_enter Try.func91, Try.ntmps91
  go_wp2
  go_region
  all_goals go_wp2
  all_goals go_region
  all_goals go_wp2
  · go_ret
    exact split_endK w (bl := w.heap.size) (br := w.heap.size + 1) (bt := w.heap.size + 1 + 1 + 1 + 1) (B1 := w.heap.size + 1 + 1) (B2 := w.heap.size + 1 + 1 + 1) HN.out HX.out h7 h8 hX ((((((Below.refl _ w).alloc (Nat.le_refl _) _).alloc (by simp) _).alloc (by simp; omega) _).alloc (by simp; omega) _).alloc (by simp; omega) _).drew.drew (by simp only [heap_dr, heap_al, Array.getElem?_push, Array.size_push]; repeat (first | rw [if_pos trivial] | rw [if_pos (by omega)] | rw [if_neg (by omega)])) (by simp only [heap_dr, heap_al, Array.getElem?_push, Array.size_push]; repeat (first | rw [if_pos trivial] | rw [if_pos (by omega)] | rw [if_neg (by omega)])) (by simp only [heap_dr, heap_al, Array.getElem?_push, Array.size_push]; repeat (first | rw [if_pos trivial] | rw [if_pos (by omega)] | rw [if_neg (by omega)])) (by simp only [heap_dr, heap_al, Array.getElem?_push, Array.size_push]; repeat (first | rw [if_pos trivial] | rw [if_pos (by omega)] | rw [if_neg (by omega)])) (by simp only [heap_dr, heap_al, Array.getElem?_push, Array.size_push]; repeat (first | rw [if_pos trivial] | rw [if_pos (by omega)] | rw [if_neg (by omega)])) (by omega) (by omega) (by omega) (by omega) (by omega)
  · go_ret
    exact split_endK w (bl := w.heap.size + 1) (br := w.heap.size) (bt := w.heap.size + 1 + 1 + 1 + 1) (B1 := w.heap.size + 1 + 1) (B2 := w.heap.size + 1 + 1 + 1) HN.out HX.out h7 h8 hX ((((((Below.refl _ w).alloc (Nat.le_refl _) _).alloc (by simp) _).alloc (by simp; omega) _).alloc (by simp; omega) _).alloc (by simp; omega) _).drew.drew (by simp only [heap_dr, heap_al, Array.getElem?_push, Array.size_push]; repeat (first | rw [if_pos trivial] | rw [if_pos (by omega)] | rw [if_neg (by omega)])) (by simp only [heap_dr, heap_al, Array.getElem?_push, Array.size_push]; repeat (first | rw [if_pos trivial] | rw [if_pos (by omega)] | rw [if_neg (by omega)])) (by simp only [heap_dr, heap_al, Array.getElem?_push, Array.size_push]; repeat (first | rw [if_pos trivial] | rw [if_pos (by omega)] | rw [if_neg (by omega)])) (by simp only [heap_dr, heap_al, Array.getElem?_push, Array.size_push]; repeat (first | rw [if_pos trivial] | rw [if_pos (by omega)] | rw [if_neg (by omega)])) (by simp only [heap_dr, heap_al, Array.getElem?_push, Array.size_push]; repeat (first | rw [if_pos trivial] | rw [if_pos (by omega)] | rw [if_neg (by omega)])) (by omega) (by omega) (by omega) (by omega) (by omega)
end Go.Proofs.Ytojanokicfeghaa

/-
  Contract of a tree's Put.
-/
import Derived.Test.YtpmkhpbhimmeiaaGreatBtDeepen
import Derived.Test.YtpmkhpbhimmeiaaGreatBtFrom
namespace Go.Proofs.YtpmkhpbhimmeiaaGreat
open Go.RowKit FloM ValM Go.Shelf
set_option linter.unusedVariables false
set_option linter.unusedSimpArgs false

set_option maxHeartbeats 1000000 in
theorem put_nil (v : Value) (w : World) : Calls Tryz.prog 40 #[.pointer none, v] w fun e w' => e = .returned (.tuple #[.bool false, .int .i64 1]) ∧ w = w' := by
  go_enter Tryz.func40, Tryz.ntmps40
  go_wp2
  go_ret2
  exact ⟨rfl, rfl⟩
section
variable {X : Nat → Prop} {g : Nat} {p : List Int} {L : List Sl} {o : Option (Nat × Nd)} {P : Option Addr} {cp : Nat} {q : Option Addr}
set_option maxHeartbeats 1000000 in
theorem put_far (A : Option Addr) (ca n : Nat) (w : World) (h : TreeAt X w g p L o P cp q) (hn : n ≠ p.length) : Calls Tryz.prog 40 #[.pointer (some ⟨g, 0, none⟩), .slice A n ca] w fun e w' => e = .returned (.tuple #[.bool false, .int .i64 1]) ∧ w = w' := by
  have c1 := h.cells.1
  have hne : ¬ ((n : Int) = (p.length : Int)) := by omega
  clear h
  go_enter Tryz.func40, Tryz.ntmps40
  go_wp2
  go_ret2
  exact ⟨rfl, rfl⟩
/-- What a node's with says of a tuple that is new: the node with it. -/
def WithNew (X : Nat → Prop) (k : Nat) (a : List V) (p : List Int) (L : List Sl) (w : World) (e : Ending) (w' : World) : Prop := ∃ t' y L1 L2, e = .returned (.tuple #[t'.val, .bool true]) ∧ IsN X w' k t' ∧ InsP p a y L (flat k t') L1 L2 ∧ (1 ≤ t'.ts.length ∧ t'.ts.length ≤ 7) ∧ Below w.heap.size w w'
set_option maxRecDepth 20000 in
set_option maxHeartbeats 4000000 in
theorem put_same (A : Option Addr) (ca : Nat) (a : List V) (w : World) (h : TreeAt X w g p L o P cp q) (hn : a.length = p.length)
    (hw : ∀ W, Below w.heap.size w W → Calls Tryz.prog 64 #[.pointer q, .slice A a.length ca, .slice P p.length cp] W fun e w' => (∃ r, e = .returned (.tuple #[.pointer r, .bool false])) ∧ Below W.heap.size W w') :
    Calls Tryz.prog 40 #[.pointer (some ⟨g, 0, none⟩), .slice A a.length ca] w fun e w' => e = .returned (.tuple #[.bool false, .int .i64 0]) ∧ Below w.heap.size w w' := by
  have c0 := h.cells.1; have c1 := h.cells.2.1; have hg := h.cells.2.2.2
  have hi : ((a.length : Int) = (p.length : Int)) := by omega
  have HW := Lib.hid hw
  clear h hw
  go_enter Tryz.func40, Tryz.ntmps40
  rw [hn] at HW ⊢
  go_wp2
  go_region_held3 (fun u => Below w.heap.size w u ∧ u.cell? ⟨g, 0, none⟩ = some (.slice P p.length cp) ∧ u.cell? ⟨g, 1, none⟩ = some (.pointer q))
      ((refine (fun hh => ⟨hh, held_cell hg c0 hh, held_cell hg c1 hh⟩) ?_; (repeat (first | exact Below.refl _ _ | exact h2 | apply Below.drew | (refine bel_alloc ?_ ?_; (first | omega | (focus (simp; done)) | (focus (simp; omega))))))))
      ((go_at_call 64; refine (HW.out _ ?_).mono ?_; (focus ((repeat (first | exact Below.refl _ _ | exact h2 | apply Below.drew | (refine bel_alloc ?_ ?_; (first | omega | (focus (simp; done)) | (focus (simp; omega)))))); done)); rintro e w2 ⟨⟨r, he⟩, hb2⟩; subst he; have h2 : Below w.heap.size w w2 := by { refine Below.trans ?_ (hb2.mono (by simp; try omega)); (repeat (first | exact Below.refl _ _ | exact h2 | apply Below.drew | (refine bel_alloc ?_ ?_; (first | omega | (focus (simp; done)) | (focus (simp; omega)))))) }; have s2 : w.heap.size ≤ w2.heap.size := h2.size; replace hb2 := Lib.hid hb2; dsimp only))
  all_goals go_wp2
  go_ret2
  exact ⟨rfl, h2⟩
/-- What Put leaves: the tuple is in, at its place; the tree may have been rebuilt with one more level. -/
def PutP (X : Nat → Prop) (g : Nat) (P : Option Addr) (cp k : Nat) (p : List Int) (a : List V) (L : List Sl) (w : World) (e : Ending) (w' : World) : Prop := e = .returned (.tuple #[.bool true, .int .i64 0]) ∧ Fr (· = g) w.heap.size w w' ∧ ∃ k2 t2 t1 y L1 L2, blkT g P p.length cp t2.ptr (L.length + 1) w' ∧ IsN X w' k2 t2 ∧
  InsP p a y L (flat k t1) L1 L2 ∧ (1 ≤ t1.ts.length ∧ t1.ts.length ≤ 7) ∧ (flat k2 t2).map Sl.l = (flat k t1).map Sl.l ∧ ((L.length + 1 = 2 * 4 ^ (k + 1) - 1 ∧ k2 = k + 1 ∧ t2.ts.length = 1) ∨ (L.length + 1 ≠ 2 * 4 ^ (k + 1) - 1 ∧ k2 = k ∧ t2 = t1))
theorem blk_put {g : Nat} {P q r : Option Addr} {m cp n : Nat} {w : World} (h : blkT g P m cp q n w) (hn : n < 100000) : blkT g P m cp r (n + 1) ((w.setCell ⟨g, 1, none⟩ (.pointer r)).setCell ⟨g, 2, none⟩ (.int .i64 (wrap64 ((n : Int) + 1)))) := by
  have h1 := heap_set' (w := w) (D := g) (o := 1) (cs := [.slice P m cp, .pointer q, .int .i64 (n : Int)]) (t := 107) (z := (0, 0)) (.pointer r) h
  have h2 := heap_set' (o := 2) (.int .i64 (wrap64 ((n : Int) + 1))) h1
  simp only [List.set_cons_succ, List.set_cons_zero] at h2
  rw [show wrap64 ((n : Int) + 1) = ((n + 1 : Nat) : Int) by unfold wrap64; omega] at h2 ⊢
  exact h2
theorem fr_put {X : Nat → Prop} {g : Nat} {w : World} (u v : Value) (B : Nat) : Fr (· = g) B w ((w.setCell ⟨g, 1, none⟩ u).setCell ⟨g, 2, none⟩ v) := (fr_set w g 1 u B).trans (fr_set _ g 2 v B)
set_option maxRecDepth 20000 in
set_option maxHeartbeats 4000000 in
theorem put_more {k : Nat} (A : Option Addr) (ca : Nat) (a : List V) (w : World) (h : TreeAt X w g p L o P cp q) (hn : a.length = p.length) (hL : L.length < 100000) (hk : k ≤ 20) (hX : ∀ i, X i → i < w.heap.size)
    (hw : ∀ W, Below w.heap.size w W → Calls Tryz.prog 64 #[.pointer q, .slice A a.length ca, .slice P p.length cp] W (WithNew X k a p L W)) :
    Calls Tryz.prog 40 #[.pointer (some ⟨g, 0, none⟩), .slice A a.length ca] w (PutP X g P cp k p a L w) := by
  have c0 := h.cells.1; have c1 := h.cells.2.1; have c2 := h.cells.2.2.1; have hg := h.cells.2.2.2
  have hi : ((a.length : Int) = (p.length : Int)) := by omega
  have HW := Lib.hid hw
  have H := Lib.hid h
  have HL := Lib.hid hL; have HX := Lib.hid hX
  clear h hw hL hX
  go_enter Tryz.func40, Tryz.ntmps40
  rw [hn] at HW ⊢
  go_wp2
  go_region_held3 (fun u => Below w.heap.size w u ∧ u.cell? ⟨g, 0, none⟩ = some (.slice P p.length cp) ∧ u.cell? ⟨g, 1, none⟩ = some (.pointer q))
      ((refine (fun hh => ⟨hh, held_cell hg c0 hh, held_cell hg c1 hh⟩) ?_; (repeat (first | exact Below.refl _ _ | exact h2 | apply Below.drew | (refine bel_alloc ?_ ?_; (first | omega | (focus (simp; done)) | (focus (simp; omega))))))))
      ((go_at_call 64; refine (HW.out _ ?_).mono ?_; (focus ((repeat (first | exact Below.refl _ _ | exact h2 | apply Below.drew | (refine bel_alloc ?_ ?_; (first | omega | (focus (simp; done)) | (focus (simp; omega)))))); done)); rintro e w2 ⟨t', y, L1, L2, he, ht', hins, hts, hb2⟩; subst he; have h2 : Below w.heap.size w w2 := by { refine Below.trans ?_ (hb2.mono (by simp; try omega)); (repeat (first | exact Below.refl _ _ | exact h2 | apply Below.drew | (refine bel_alloc ?_ ?_; (first | omega | (focus (simp; done)) | (focus (simp; omega)))))) }; have s2 : w.heap.size ≤ w2.heap.size := h2.size; replace hb2 := Lib.hid hb2; replace ht' := Lib.hid ht'; replace hins := Lib.hid hins; dsimp only))
  rw [show t'.val = .pointer (some ⟨t'.b, 0, none⟩) from rfl]
  have d1 := (keep h2 _ 1 hg).trans c1
  have d2 := (keep h2 _ 2 hg).trans c2
  have hg4 := blk_on (P := P) (q := q) (m := p.length) (cp := cp) (n := L.length) H.out.blk h2
  have fz1 := blk_fz hg4 1
  have fz2 := blk_fz hg4 2
  have HG4 := Lib.hid hg4
  clear hg4 c0 c1 c2
  have hfl : (flat k t').length = L.length + 1 := by rw [hins.out.new, hins.out.old]; simp; omega
  have hls : ∀ x ∈ flat k t', x.l.length ≤ 1000 := fun x hx => by
    have hf := H.out.few
    rw [hins.out.new] at hx
    rcases List.mem_append.1 hx with hx | hx
    · rw [H.out.lens x (by rw [hins.out.old]; exact List.mem_append_left _ hx)]; omega
    · rcases List.mem_cons.1 hx with rfl | hx
      · rw [hins.out.val]; omega
      · rw [H.out.lens x (by rw [hins.out.old]; exact List.mem_append_right _ hx)]; omega
  obtain ⟨W5, hW5⟩ : ∃ W5, (w2.setCell ⟨g, 1, none⟩ (.pointer (some ⟨t'.b, 0, none⟩))).setCell ⟨g, 2, none⟩ (.int .i64 (wrap64 ((L.length : Int) + 1))) = W5 := ⟨_, rfl⟩
  have hf5 : Fr (· = g) w2.heap.size w2 W5 := hW5 ▸ fr_put (X := X) _ _ _
  have hb5 : blkT g P p.length cp t'.ptr (L.length + 1) W5 := hW5 ▸ blk_put HG4.out HL.out
  have hd := Lib.hid (deepen_any (X := X) W5 hb5 (ht'.out.onF (hf5.sub fun i _ hi => by subst hi; exact H.out.mem)) hk (by have := HL.out; omega) hfl hls (fun i hi => by have := HX.out i hi; have := h2.size; have := hf5.size; omega) H.out.mem)
  have HW5 := Lib.hid hW5; have HF5 := Lib.hid hf5; clear hW5 hf5 hb5
  go_wp2_with (go_at_call 65; rw [HW5.out]; refine hd.out.mono ?_; rintro e w6 ⟨⟨v, he⟩, k2, t2, hb6, ht2, hfl2, hf6, hc⟩; subst he; replace hb6 := Lib.hid hb6; replace hc := Lib.hid hc; replace hfl2 := Lib.hid hfl2; replace ht2 := Lib.hid ht2; replace hf6 := Lib.hid hf6)
  go_ret2
  exact ⟨rfl, (Fr.of h2).next (HF5.out.next hf6.out), k2, t2, t', y, L1, L2, hb6.out, ht2.out, hins.out, hts, hfl2.out, hc.out⟩
end
end Go.Proofs.YtpmkhpbhimmeiaaGreat

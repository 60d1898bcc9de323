/-
  Contract of a tree's deepen.
-/
import Derived.Test.YtpmkhpbhimmeiaaGreatBtSparK
import Derived.Test.YtpmkhpbhimmeiaaGreatBtSince
import Derived.Test.YtpmkhpbhimmeiaaGreatBtTold
import Derived.Deep.QuietTactic
import Derived.BigQuiet
namespace Go.Proofs.YtpmkhpbhimmeiaaGreat
open Go.RowKit FloM ValM Go.Shelf
set_option linter.unusedVariables false
set_option linter.unusedSimpArgs false

theorem dW_nil' (a : List V) (L : List Sl) : dW [] a L = L := dW_id fun y _ => by simp [cmpC, pickL_nil, ordV]
theorem ws_nil' (L : List Sl) : WS [] L := by
  unfold WS
  induction L with
  | nil => exact List.Pairwise.nil
  | cons a L ih => exact List.Pairwise.cons (fun y _ => by simp [cmpC, pickL_nil, ordV]) ih
theorem heap_set' {w : World} {D o : Nat} {cs : List Value} {t : TypeId} {z : Nat × Nat} (v : Value) (h : w.heap[D]? = some (.cells cs.toArray t z)) : (w.setCell ⟨D, o, none⟩ v).heap[D]? = some (.cells (cs.set o v).toArray t z) := by
  simp [World.setCell, Array.getElem?_modify, h]
theorem fr_set (w : World) (D o : Nat) (v : Value) (B : Nat) : Fr (· = D) B w (w.setCell ⟨D, o, none⟩ v) :=
  ⟨rfl, rfl, rfl, by simp [World.setCell], fun b _ hb => Below.heap_setCell _ _ _ _ (by simpa using hb)⟩
theorem cell_box' {W : World} {B : Nat} {v : Value} {t : TypeId} (h : W.heap[B]? = some (.cells #[v] t (0, 0))) : W.cell? ⟨B, 0, none⟩ = some v := by simp [World.cell?, h]
theorem same_quiet {P : Program} {f : FuncId} {args : Array Value} {w : World} {n : Nat} {v : Value} (h : Calls P f args (w.drewN n) fun e w' => e = .returned v ∧ w.drewN n = w') : Calls P f args (w.drewN n) fun e w'' => e = .returned v ∧ ∃ m, w'' = w.drewN m :=
  h.mono fun _ _ ⟨he, hm⟩ => ⟨he, n, hm.symm⟩
theorem bel_drawN (w : World) (n : Nat) : Below w.heap.size w (w.drewN n) := ⟨rfl, rfl, rfl, Nat.le_refl _, fun _ _ => rfl⟩
/-- The root of the tree at g, with n tuples. -/
def blkT (g : Nat) (P : Option Addr) (m cp : Nat) (q : Option Addr) (n : Nat) (w : World) : Prop := w.heap[g]? = some (.cells #[.slice P m cp, .pointer q, .int .i64 (n : Int)] 107 (0, 0))
def DeepenP (X : Nat → Prop) (g : Nat) (P : Option Addr) (m cp n k : Nat) (t : Nd) (w : World) (e : Ending) (w' : World) : Prop := (∃ v, e = .returned v) ∧ ∃ k' t', blkT g P m cp t'.ptr n w' ∧ IsN X w' k' t' ∧ (flat k' t').map Sl.l = (flat k t).map Sl.l ∧ Fr (· = g) w.heap.size w w' ∧
  ((n = 2 * 4 ^ (k + 1) - 1 ∧ k' = k + 1 ∧ t'.ts.length = 1) ∨ (n ≠ 2 * 4 ^ (k + 1) - 1 ∧ k' = k ∧ t' = t))
theorem blk_on {g : Nat} {P q : Option Addr} {m cp n : Nat} {w w4 : World} (hb : blkT g P m cp q n w) (h : Below w.heap.size w w4) : blkT g P m cp q n w4 := (h.block _ (Array.getElem?_eq_some_iff.1 (show w.heap[g]? = _ from hb)).1).trans hb
theorem blk_fz {g : Nat} {P q : Option Addr} {m cp n : Nat} {w : World} (hb : blkT g P m cp q n w) (i : Nat) : w.frozen? ⟨g, i, none⟩ = false := by simp [World.frozen?, show w.heap[g]? = _ from hb]
set_option maxRecDepth 20000 in
set_option maxHeartbeats 4000000 in
theorem deepen_not {X : Nat → Prop} {g : Nat} {P : Option Addr} {m cp n k : Nat} {t : Nd} (w : World) (hb : blkT g P m cp t.ptr n w) (ht : IsN X w k t) (hk : k ≤ 20) (hn : n ≤ 1000000) (hne : n ≠ 2 * 4 ^ (k + 1) - 1) :
    Calls Tryz.prog 65 #[.pointer (some ⟨g, 0, none⟩)] w (DeepenP X g P m cp n k t w) := by
  have c1 : w.cell? ⟨g, 1, none⟩ = some (.pointer t.ptr) := by simp [World.cell?, show w.heap[g]? = _ from hb]
  have c2 : w.cell? ⟨g, 2, none⟩ = some (.int .i64 (n : Int)) := by simp [World.cell?, show w.heap[g]? = _ from hb]
  obtain ⟨kk, hkk⟩ : ∃ kk, k + 1 = kk := ⟨_, rfl⟩
  rw [hkk] at hne
  obtain ⟨f, hf⟩ : ∃ f : Nat, 2 * 4 ^ kk - 1 = f := ⟨_, rfl⟩
  have hlev := Lib.hid (fun W (hW : Below w.heap.size w W) => levels_any (X := X) (some (k, t)) t.ptr kk W ⟨rfl, ht.on hW⟩ (by simpa using hkk) (by omega))
  have hfw := Lib.hid (fun W => hf ▸ fewest_any kk W (by omega))
  rw [hf] at hne
  have hnf : ¬ ((n : Int) = (f : Int)) := by omega
  have HB := Lib.hid hb; have HT := Lib.hid ht; have HKK := Lib.hid hkk; have HF := Lib.hid hf; have HNE := Lib.hid hne; clear hb ht hkk hf hne
  have hkb : kk ≤ 21 := by have := HKK.out; omega
  have hpt : t.ptr = some ⟨t.b, 0, none⟩ := rfl
  rw [hpt] at c1
  go_enter Tryz.func65, Tryz.ntmps65
  go_wp2
  go_quiet ((first
    | (go_at_call 83; exact same_quiet (hlev.out _ (bel_drawN w _)))
    | (go_at_call 82; exact same_quiet (hfw.out _))))
  all_goals go_wp2
  go_end0
  exact ⟨⟨_, rfl⟩, k, t, HB.out, HT.out.on (bel_drawN w _), rfl, Fr.of (bel_drawN w _), .inr ⟨by rw [HKK.out]; exact HF.out ▸ HNE.out, rfl, rfl⟩⟩
set_option maxRecDepth 20000 in
set_option maxHeartbeats 4000000 in
theorem deepen_yes {X : Nat → Prop} {g : Nat} {P : Option Addr} {m cp n k : Nat} {t : Nd} (w : World) (hb : blkT g P m cp t.ptr n w) (ht : IsN X w k t) (hk : k ≤ 20) (hn : n ≤ 1000000) (hlen : (flat k t).length = n) (hls : ∀ x ∈ flat k t, x.l.length ≤ 1000) (hX : ∀ i, X i → i < w.heap.size) (hXg : X g) (hne : n = 2 * 4 ^ (k + 1) - 1) :
    Calls Tryz.prog 65 #[.pointer (some ⟨g, 0, none⟩)] w (DeepenP X g P m cp n k t w) := by
  have c1 : w.cell? ⟨g, 1, none⟩ = some (.pointer t.ptr) := by simp [World.cell?, show w.heap[g]? = _ from hb]
  have c2 : w.cell? ⟨g, 2, none⟩ = some (.int .i64 (n : Int)) := by simp [World.cell?, show w.heap[g]? = _ from hb]
  obtain ⟨kk, hkk⟩ : ∃ kk, k + 1 = kk := ⟨_, rfl⟩
  rw [hkk] at hne
  obtain ⟨f, hf⟩ : ∃ f : Nat, 2 * 4 ^ kk - 1 = f := ⟨_, rfl⟩
  have hlev := Lib.hid (fun W (hW : Below w.heap.size w W) => levels_any (X := X) (some (k, t)) t.ptr kk W ⟨rfl, ht.on hW⟩ (by simpa using hkk) (by omega))
  have hfw := Lib.hid (fun W => hf ▸ fewest_any kk W (by omega))
  rw [hf] at hne
  have hnf : (n : Int) = (f : Int) := by omega
  have hg : g < w.heap.size := (Array.getElem?_eq_some_iff.1 (show w.heap[g]? = _ from hb)).1
  have HB := Lib.hid hb; have HT := Lib.hid ht; have HKK := Lib.hid hkk; have HF := Lib.hid hf; have HNE := Lib.hid hne; have HL := Lib.hid hlen; have HLS := Lib.hid hls; have HX := Lib.hid hX; clear hb ht hkk hf hne hlen hls hX
  have hkb : kk ≤ 21 := by have := HKK.out; omega
  have hpt : t.ptr = some ⟨t.b, 0, none⟩ := rfl
  rw [hpt] at c1
  go_enter Tryz.func65, Tryz.ntmps65
  go_wp2
  go_quiet ((first
    | (go_at_call 83; exact same_quiet (hlev.out _ (bel_drawN w _)))
    | (go_at_call 82; exact same_quiet (hfw.out _))))
  rename_i nq
  obtain ⟨W, hW⟩ : ∃ W, w.drewN nq = W := ⟨_, rfl⟩
  have hbW : Below w.heap.size w W := hW ▸ bel_drawN w nq
  try rw [hW]
  have HW := Lib.hid hW; clear hW
  have HBW := Lib.hid hbW; clear hbW
  have c1 := (keep HBW.out _ 1 hg).trans c1
  have hs := Lib.hid (fun a W2 => since_any (.pointer a) (.slice none 0 0) (.slice none 0 0) W2 ⟨_, rfl⟩ ⟨_, _, _, rfl⟩ ⟨_, _, _, rfl⟩)
  go_wp2_with (first
    | (go_at_call 85; refine (hs.out _ _).mono ?_; rintro e w2 ⟨rfl, hw2⟩; replace hw2 := Lib.hid hw2))
  have hL2 : (flat k t).length ≤ 1000000 := by rw [HL.out]; exact hn
  have hb3 : Below W.heap.size W w2 := by rw [hw2.out]; exact ((((Below.refl _ W).alloc (Nat.le_refl _) _).alloc (by simp) _).alloc (by simp; omega) _)
  have hs3 : w2.heap.size = W.heap.size + 3 := by rw [hw2.out]; simp
  have k1 : w2.cell? ⟨W.heap.size, 0, none⟩ = some (.pointer (some ⟨t.b, 0, none⟩)) := by rw [hw2.out]; exact cell_box' (by simp only [heap_al, heap_dr, Array.getElem?_push, Array.size_push]; repeat (first | rw [if_pos trivial] | rw [if_pos (by omega)] | rw [if_neg (by omega)]))
  have k2 : w2.cell? ⟨W.heap.size + 1, 0, none⟩ = some (.slice none 0 0) := by rw [hw2.out]; exact cell_box' (by simp only [heap_al, heap_dr, Array.getElem?_push, Array.size_push]; repeat (first | rw [if_pos trivial] | rw [if_pos (by omega)] | rw [if_neg (by omega)]))
  have k3 : w2.cell? ⟨W.heap.size + 1 + 1, 0, none⟩ = some (.slice none 0 0) := by rw [hw2.out]; exact cell_box' (by simp only [heap_al, heap_dr, Array.getElem?_push, Array.size_push]; repeat (first | rw [if_pos trivial] | rw [if_pos (by omega)] | rw [if_neg (by omega)]))
  have hseq := since_seq (X := X) (B1 := W.heap.size) (B2 := W.heap.size + 1) (B3 := W.heap.size + 1 + 1) none none 0 0 [] [] W w2 (some (k, t)) t.ptr (Nat.zero_le _) (Nat.zero_le _) RdV.nil (fun i x hx => by simp at hx) (fun a ha => by cases ha) (fun a ha => by cases ha) ⟨rfl, HT.out.on HBW.out⟩ HLS.out (ws_nil' _) hb3 (by omega) (by omega) (by omega) k1 k2 k3
  rw [dW_nil', show flatO (some (k, t)) = flat k t from rfl] at hseq
  have hcol := Lib.hid (collect_any w2 w2 (enters_of Tryz.func110 (by kernel_rfl) rfl) hseq (Below.refl _ _) hb3.size (by rw [List.length_map]; exact hL2) (fun i hi => by have := HX.out i hi; have := HBW.out.size; omega))
  have HB3 := Lib.hid hb3; clear hseq k1 k2 k3 hb3
  go_at_call 45
  refine hcol.out.mono ?_
  rintro e w3 ⟨A, c, xs, hsa⟩
  have he := hsa.val
  subst he
  rw [List.length_map] at *
  have hxl : xs.length = (flat k t).length := by have := congrArg List.length hsa.vals; simpa using this
  have HS := Lib.hid hsa; clear hsa
  have hsp := (sparse_any (k + 1) X A c xs 2 2 w3 rfl HS.out.rd (by rw [hxl, HL.out, HNE.out, ← HF.out, ← HKK.out]; have : 0 < 4 ^ (k + 1) := Nat.pow_pos (by omega); omega) (by omega) (by omega) (by omega) (by have := HS.out.cap; rw [List.length_map] at this; omega) HS.out.capm (fun i hi => by have := HX.out i hi; have := HBW.out.size; have := HB3.out.size; have := HS.out.b.size; omega))
  rw [hxl] at hsp
  have hsp := Lib.hid hsp
  have HXL := Lib.hid hxl; clear hxl
  have gW : g < W.heap.size := Nat.lt_of_lt_of_le hg HBW.out.size
  have g2 : g < w2.heap.size := Nat.lt_of_lt_of_le gW HB3.out.size
  have g3 : g < w3.heap.size := Nat.lt_of_lt_of_le g2 HS.out.b.size
  have c3 := (keep HS.out.b _ 1 g2).trans ((keep HB3.out _ 1 gW).trans c1)
  go_wp2_with (go_at_call 84; refine hsp.out.mono ?_; rintro e w4 ⟨t', he, ht', hfl, h1, hb4⟩; subst he; rw [show t'.val = .pointer (some ⟨t'.b, 0, none⟩) from rfl]; have c4 := (keep hb4 _ 1 g3).trans c3; have hall : Below w.heap.size w w4 := HBW.out.trans ((HB3.out.trans ((HS.out.b.trans (hb4.mono HS.out.b.size)).mono HB3.out.size)).mono HBW.out.size); have hg4 := blk_on HB.out hall; have fz := blk_fz hg4 1; replace hall := Lib.hid hall; replace hg4 := Lib.hid hg4; replace ht' := Lib.hid ht'; replace hfl := Lib.hid hfl; replace hb4 := Lib.hid hb4; replace h1 := Lib.hid h1)
  go_end0
  refine ⟨⟨_, rfl⟩, k + 1, t', ?_, ht'.out.onF ((fr_set w4 g 1 _ _).sub (fun i _ hi => ?_)), ?_, (Fr.of hall.out).trans (fr_set w4 g 1 _ _), .inl ⟨?_, rfl, h1.out⟩⟩
  · have := heap_set' (w := w4) (D := g) (o := 1) (cs := [.slice P m cp, .pointer t.ptr, .int .i64 (n : Int)]) (t := 107) (z := (0, 0)) (.pointer (some ⟨t'.b, 0, none⟩)) hg4.out
    simp only [List.set_cons_succ, List.set_cons_zero] at this
    exact this
  · subst hi; exact hXg
  · rw [hfl.out]; exact HS.out.vals
  · rw [HKK.out, HF.out]; exact HNE.out
/-- A root that has grown to the least tree of one more level is rebuilt sparsely; else nothing happens. -/
theorem deepen_any {X : Nat → Prop} {g : Nat} {P : Option Addr} {m cp n k : Nat} {t : Nd} (w : World) (hb : blkT g P m cp t.ptr n w) (ht : IsN X w k t) (hk : k ≤ 20) (hn : n ≤ 1000000) (hlen : (flat k t).length = n) (hls : ∀ x ∈ flat k t, x.l.length ≤ 1000) (hX : ∀ i, X i → i < w.heap.size) (hXg : X g) :
    Calls Tryz.prog 65 #[.pointer (some ⟨g, 0, none⟩)] w (DeepenP X g P m cp n k t w) := by
  by_cases h : n = 2 * 4 ^ (k + 1) - 1
  · exact deepen_yes w hb ht hk hn hlen hls hX hXg h
  · exact deepen_not w hb ht hk hn h
end Go.Proofs.YtpmkhpbhimmeiaaGreat

/-
  The document's own relation (layer 5): in, Columns.
-/
import Derived.Test.YtpmkhpbhimmeiaaGreatRelMany
import Derived.Test.YtpmkhpbhimmeiaaGreatBtRefZ
namespace Go.Proofs.YtpmkhpbhimmeiaaGreat
open Go.RowKit FloM ValM Go.Shelf
set_option linter.unusedVariables false
set_option linter.unusedSimpArgs false
set_option maxHeartbeats 2000000 in
theorem refIn_any (A : Option Addr) (c : Nat) (l : List Int) (x : Int) (w : World) (h : RdI w A l) (hl : l.length ≤ 1000) :
    Calls Tryz.prog 57 #[.slice A l.length c, .int .i64 x] w fun e w' => e = .returned (.bool (decide (x ∈ l))) ∧ w = w' := by
  have H := Lib.hid h; clear h
  go_enter Tryz.func57, Tryz.ntmps57
  go_wp2
  go_loop [8] (fun v => ∃ k : Nat, v = .int .i64 (k : Nat) ∧ k ≤ l.length ∧ x ∉ l.take k) (fun v => l.length - (intOf v).toNat)
  case atStart => exact ⟨0, rfl, Nat.zero_le _, by simp⟩
  case round =>
    obtain ⟨k, rfl, hk, hn⟩ := hrel
    have HN := Lib.hid hn; clear hn
    by_cases hlt : k < l.length
    · obtain ⟨y, hy⟩ : ∃ y, l[k]? = some y := ⟨_, List.getElem?_eq_getElem hlt⟩
      obtain ⟨b, o, rfl, hb, cy⟩ := H.out k y hy
      have HY := Lib.hid hy; clear hy
      by_cases he : y = x
      · subst he
        go_wp2
        go_ret
        exact ⟨congrArg (fun b => Ending.returned (.bool b)) (decide_eq_true (List.mem_of_getElem? HY.out)).symm, rfl⟩
      · go_wp2
        refine ⟨⟨k + 1, by go_num, by omega, ?_⟩, by simp [intOf]; omega⟩
        rw [take_snoc' HY.out, List.mem_append, List.mem_singleton]
        rintro (h | h)
        · exact HN.out h
        · exact he h.symm
    · obtain rfl : k = l.length := by omega
      go_wp2
      go_ret
      have h := HN.out
      rw [List.take_of_length_le (Nat.le_refl _)] at h
      exact ⟨congrArg (fun b => Ending.returned (.bool b)) (decide_eq_false h).symm, rfl⟩
/-- The document's own relation: a record, a tree, and permutations of its own. -/
structure RefQ (X : Nat → Prop) (W : World) (rb tb n : Nat) (PP : Option Addr) (pc : Nat) (ps : List IS) (N : List (List V)) : Prop where
  rcd : W.heap[rb]? = some (.cells #[.pointer (some ⟨tb, 0, none⟩), .slice PP ps.length pc] 39 (0, 0))
  t : RefS X W tb (upto n) N
  rp : RdP W PP ps
  rX : ¬ X rb
  offP : ∀ a, PP = some a → ¬ X a.block
  offE : ∀ x ∈ ps, ∀ a, x.A = some a → ¬ X a.block
section
variable {X : Nat → Prop} {W W' : World} {rb tb n pc : Nat} {PP : Option Addr} {ps : List IS} {N N' : List (List V)}
theorem RefQ.lt (h : RefQ X W rb tb n PP pc ps N) : rb < W.heap.size := (Array.getElem?_eq_some_iff.1 h.rcd).1
theorem RefQ.on (h : RefQ X W rb tb n PP pc ps N) (hb : Below W.heap.size W W') : RefQ X W' rb tb n PP pc ps N :=
  ⟨(hb.block _ h.lt).trans h.rcd, h.t.on hb, h.rp.on hb, h.rX, h.offP, h.offE⟩
theorem RefQ.cells (h : RefQ X W rb tb n PP pc ps N) : W.cell? ⟨rb, 0, none⟩ = some (.pointer (some ⟨tb, 0, none⟩)) ∧ W.cell? ⟨rb, 1, none⟩ = some (.slice PP ps.length pc) := cell2 h.rcd
theorem RefQ.perm (h : RefQ X W rb tb n PP pc ps N) : ∃ P cp, W.cell? ⟨tb, 0, none⟩ = some (.slice P n cp) ∧ tb < W.heap.size := by
  have hlt := h.t.lt
  obtain ⟨P, cp, A, c, xs, h1, _⟩ := h.t.ex
  refine ⟨P, cp, ?_, hlt⟩
  have := (cell2 (show W.heap[tb]? = _ from h1)).1
  rwa [upto_len] at this
end
theorem bel_drawN'' {B : Nat} {w u : World} (h : Below B w u) (k : Nat) : Below B w (u.drewN k) := ⟨h.os, h.tape, h.output, h.size, h.block⟩
def ColRel (w : World) (n : Nat) (cols : List Int) (i : Value) (wr : World) : Prop := ∃ k : Nat, i = .int .i64 (k : Nat) ∧ k ≤ cols.length ∧ distB n (cols.take k) = true ∧ Below w.heap.size w wr
theorem dist_snoc {n k : Nat} {cols : List Int} {c : Int} (hc : cols[k]? = some c) (hd : distB n (cols.take k) = true) (h0 : 0 ≤ c) (h1 : c < (n : Int)) (hi : c ∉ cols.take k) : distB n (cols.take (k + 1)) = true := by
  rw [distB_iff] at hd ⊢
  rw [take_snoc' hc]
  refine ⟨fun x hx => ?_, ?_⟩
  · rw [List.mem_append, List.mem_singleton] at hx
    rcases hx with hx | rfl
    · exact hd.1 x hx
    · exact inR_iff.2 ⟨h0, h1⟩
  · rw [List.nodup_append]
    exact ⟨hd.2, by simp, fun a ha b hb => by rw [List.mem_singleton] at hb; subst hb; intro e; subst e; exact hi ha⟩
theorem dist_bad {n k : Nat} {cols : List Int} {c : Int} (hc : cols[k]? = some c) (h : c < 0 ∨ (n : Int) ≤ c ∨ c ∈ cols.take k) : distB n cols = false := by
  rw [Bool.eq_false_iff]
  intro hd
  rw [distB_iff] at hd
  have hr := inR_iff.1 (hd.1 c (List.mem_of_getElem? hc))
  rcases h with h | h | h
  · omega
  · omega
  · obtain ⟨j, hj⟩ := List.mem_iff_getElem?.1 h
    rw [List.getElem?_take] at hj
    split at hj
    · rename_i hjk
      have e1 := idxOf_at hd.2 hj
      have e2 := idxOf_at hd.2 hc
      omega
    · cases hj
set_option maxRecDepth 20000 in
set_option maxHeartbeats 8000000 in
theorem refColumns_any {X : Nat → Prop} {rb tb n pc : Nat} {PP : Option Addr} {ps : List IS} {N : List (List V)} (C : Option Addr) (cc : Nat) (cols : List Int) (w : World) (h : RefQ X w rb tb n PP pc ps N) (hc : RdI w C cols) (lc : cols.length ≤ 1000) (hcap : cols.length ≤ cc) :
    Calls Tryz.prog 52 #[.pointer (some ⟨rb, 0, none⟩), .slice C cols.length cc] w fun e w' => e = .returned (.bool (distB n cols)) ∧ Below w.heap.size w w' := by
  obtain ⟨r0, _⟩ := h.cells
  obtain ⟨P, cp, t0, htl⟩ := h.perm
  have hrl := h.lt
  have HC := Lib.hid hc
  have HR0 := Lib.hid r0; have HT0 := Lib.hid t0
  clear h hc r0 t0
  go_enter Tryz.func52, Tryz.ntmps52
  go_wp2
  go_loopw [8] (fun i wr => ColRel w n cols i wr) (fun i _ => cols.length - (intOf i).toNat)
  case atStart => exact ⟨0, rfl, Nat.zero_le _, by rw [List.take_zero]; exact distB_iff.2 ⟨fun x hx => (by cases hx), List.nodup_nil⟩, Below.refl _ _⟩
  case round =>
    obtain ⟨k, rfl, hk, hd, hB⟩ := hrel
    have HD := Lib.hid hd; clear hd
    by_cases hlt : k < cols.length
    · obtain ⟨c, hy⟩ : ∃ y, cols[k]? = some y := ⟨_, List.getElem?_eq_getElem hlt⟩
      obtain ⟨b, o, rfl, hb, cy⟩ := (HC.out.on hB) k c hy
      have r0 := (keep hB _ 0 hrl).trans HR0.out
      have t0 := (keep hB _ 0 htl).trans HT0.out
      have hrl2 := Nat.lt_of_lt_of_le hrl hB.size
      have htl2 := Nat.lt_of_lt_of_le htl hB.size
      have HY := Lib.hid hy; clear hy
      by_cases h0 : c < 0
      · have HBAD := Lib.hid (dist_bad (n := n) HY.out (.inl h0))
        go_wp2_with fail
        go_quiet (fail)
        all_goals
          go_wp2
          go_ret
          exact ⟨by rw [HBAD.out]; rfl, bel_drawN'' hB _⟩
      · have h0' : (0 : Int) ≤ c := by omega
        by_cases h1 : (n : Int) ≤ c
        · have HBAD := Lib.hid (dist_bad (n := n) HY.out (.inr (.inl h1)))
          go_wp2_with fail
          go_quiet (fail)
          all_goals
            go_wp2
            go_ret
            exact ⟨by rw [HBAD.out]; rfl, bel_drawN'' hB _⟩
        · have h1' : c < (n : Int) := by omega
          have hb0 : decide (c < 0) = false := decide_eq_false h0
          have hb1 : decide ((n : Int) ≤ c) = false := decide_eq_false h1
          have hIN : RdI wr (some ⟨b, o, none⟩) (cols.take k) := (HC.out.on hB).take k
          have hlk : (cols.take k).length = k := by rw [List.length_take]; omega
          have HIN : Hid (∀ W, Below wr.heap.size wr W → Calls Tryz.prog 57 #[.slice (some ⟨b, o, none⟩) k cc, .int .i64 c] W fun e w' => e = .returned (.bool (decide (c ∈ cols.take k))) ∧ W = w') := Lib.hid fun W hW => by
            have := refIn_any (some ⟨b, o, none⟩) cc (cols.take k) c W (hIN.on hW) (by omega)
            rwa [hlk] at this
          have hkc : k ≤ cc := by omega
          have h4 : Below wr.heap.size wr wr.drew := (Below.refl _ _).drew
          clear hIN hlk
          by_cases hin : c ∈ cols.take k
          · have HBAD := Lib.hid (dist_bad (n := n) HY.out (.inr (.inr hin)))
            rw [decide_eq_true hin] at HIN
            clear hin
            go_wp2_with fail
            go_region_held3 (fun u => Below wr.heap.size wr u ∧ u.cell? ⟨b, o + k, none⟩ = some (.int .i64 c) ∧ u.cell? ⟨rb, 0, none⟩ = some (.pointer (some ⟨tb, 0, none⟩)) ∧ u.cell? ⟨tb, 0, none⟩ = some (.slice P n cp))
              (first | exact ⟨Below.refl _ _, cy, r0, t0⟩ | exact ⟨h4, (keep h4 _ _ hb).trans cy, (keep h4 _ _ hrl2).trans r0, (keep h4 _ _ htl2).trans t0⟩)
              ((go_at_call 57; refine (HIN.out _ h4).mono ?_; rintro e w9 ⟨rfl, rfl⟩))
            all_goals
              go_wp2
              go_ret
              exact ⟨by rw [HBAD.out]; rfl, on hB h4⟩
          · have HOK := Lib.hid (dist_snoc HY.out HD.out h0' h1' hin)
            rw [decide_eq_false hin] at HIN
            clear hin
            go_wp2_with fail
            go_region_held3 (fun u => Below wr.heap.size wr u ∧ u.cell? ⟨b, o + k, none⟩ = some (.int .i64 c) ∧ u.cell? ⟨rb, 0, none⟩ = some (.pointer (some ⟨tb, 0, none⟩)) ∧ u.cell? ⟨tb, 0, none⟩ = some (.slice P n cp))
              (first | exact ⟨Below.refl _ _, cy, r0, t0⟩ | exact ⟨h4, (keep h4 _ _ hb).trans cy, (keep h4 _ _ hrl2).trans r0, (keep h4 _ _ htl2).trans t0⟩)
              ((go_at_call 57; refine (HIN.out _ h4).mono ?_; rintro e w9 ⟨rfl, rfl⟩))
            all_goals
              go_wp2
              go_roundw
              case rel => exact ⟨k + 1, by go_num, by omega, HOK.out, on hB h4⟩
              case measure => simp [intOf]; omega
    · obtain rfl : k = cols.length := by omega
      go_wp2
      go_ret
      have h := HD.out
      rw [List.take_of_length_le (Nat.le_refl _)] at h
      exact ⟨by rw [h]; rfl, hB⟩
end Go.Proofs.YtpmkhpbhimmeiaaGreat

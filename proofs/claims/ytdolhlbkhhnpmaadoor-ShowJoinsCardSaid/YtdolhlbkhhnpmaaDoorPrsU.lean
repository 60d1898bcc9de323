/-
  Package parse: arguments of heads.
-/
import Derived.Test.YtdolhlbkhhnpmaaDoorPrsT
import Derived.Test.YtdolhlbkhhnpmaaDoorPrsF
namespace Go.Proofs.YtdolhlbkhhnpmaaDoor
open Go.RowKit FloM ValM Go.Shelf
set_option linter.unusedVariables false
set_option linter.unusedSimpArgs false
theorem results_cell_tmp {P : Program} {fn : Func} {p q : Tmp} {ty : TypeId} (h : fn.results = #[.cell p ty, .tmp q]) (tmps : Array Value) (w : World) (g : Nat) (t : TypeId) (cs : Array Value) (fr : Nat × Nat) (d : TypeDesc) (v : Value)
    (hp : tmps.getD p undef = .pointer (some ⟨g, 0, none⟩)) (hq : tmps.getD q undef = v) (hg : w.heap[g]? = some (.cells cs t fr))
    (hu : P.underlying ty = some d) (hd : (match d with | .struct _ | .array _ _ => true | _ => false) = true) (hi : (P.info? ty).map (·.size) = some cs.size) :
    (results fn tmps).run P w = .ok (.tuple #[.agg cs, v]) w := by
  have hp' : tmps[p]?.getD undef = .pointer (some ⟨g, 0, none⟩) := by simpa using hp
  have hq' : tmps[q]?.getD undef = v := by simpa using hq
  simp [results, h, hp', hq', asAddr, run_loadVar_row w g t ty cs fr d hg hu hd hi]
/-! ### A call's own structs beside the reader -/
abbrev Lrow := Nat × TypeId × List Value
structure LSt (rb tb z o : Nat) (W : World) (rows : List Lrow) (ts : List Tk) (w : World) : Prop where
  rdr : RdrAt w rb tb z ts o
  fr : Fr (· = rb) W.heap.size W w
  each : ∀ x ∈ rows, Row x.2.1 w x.1 x.2.2 ∧ W.heap.size ≤ x.1
  nd : (rows.map (·.1)).Nodup
  rl : rb < W.heap.size
  tl : tb < W.heap.size
section
variable {W w w' : World} {rb tb z o : Nat} {ts r : List Tk} {rows pre post : List Lrow} {g : Nat} {T : TypeId} {cs cs' : List Value}
theorem LSt.start (h : RdrAt W rb tb z ts o) : LSt rb tb z o W [] ts W := ⟨h, Fr.refl _ _ _, (fun x hx => by cases hx), List.nodup_nil, h.lt, h.tlt⟩
theorem LSt.on (h : LSt rb tb z o W rows ts w) (hb : Below w.heap.size w w') : LSt rb tb z o W rows ts w' :=
  ⟨h.rdr.on hb, h.fr.trans (Fr.of (hb.mono h.fr.size)), fun x hx => ⟨rowOn (h.each x hx).1 hb, (h.each x hx).2⟩, h.nd, h.rl, h.tl⟩
theorem LSt.new (h : LSt rb tb z o W rows ts w) (T : TypeId) (cs : List Value) : LSt rb tb z o W (rows ++ [(w.heap.size, T, cs)]) ts (w.alloc (.cells cs.toArray T)) := by
  have h' := h.on ((Below.refl _ _).alloc (Nat.le_refl _) (.cells cs.toArray T))
  refine ⟨h'.rdr, h'.fr, fun x hx => ?_, ?_, h.rl, h.tl⟩
  · rw [List.mem_append, List.mem_singleton] at hx
    rcases hx with hx | rfl
    · exact h'.each x hx
    · exact ⟨row_new w cs, h.fr.size⟩
  · rw [List.map_append, List.nodup_append]
    refine ⟨h.nd, by simp, fun a ha b hb e => ?_⟩
    obtain ⟨x, hx, rfl⟩ := List.mem_map.1 ha
    simp at hb; subst hb
    have := (h.each x hx).1.lt
    omega
theorem LSt.call (h : LSt rb tb z o W rows ts w) (hr : RdrAt w' rb tb z r o) (hF : Fr (· = rb) w.heap.size w w') : LSt rb tb z o W rows r w' :=
  ⟨hr, h.fr.trans (hF.mono h.fr.size), fun x hx => ⟨(h.each x hx).1.fr hF (h.each x hx).1.lt (by have := (h.each x hx).2; have := h.rl; omega), (h.each x hx).2⟩, h.nd, h.rl, h.tl⟩
theorem LSt.row (h : LSt rb tb z o W rows ts w) {x : Lrow} (hx : x ∈ rows) : Row x.2.1 w x.1 x.2.2 := (h.each x hx).1
theorem LSt.ge (h : LSt rb tb z o W rows ts w) {x : Lrow} (hx : x ∈ rows) : W.heap.size ≤ x.1 := (h.each x hx).2
theorem LSt.store (h : LSt rb tb z o W (pre ++ (g, T, cs) :: post) ts w) (hR : Row T w' g cs') (hF : ∀ B, Fr (· = g) B w w') : LSt rb tb z o W (pre ++ (g, T, cs') :: post) ts w' := by
  have hg := h.ge (x := (g, T, cs)) (by simp)
  have hrl := h.rl; have htl := h.tl
  have hn := h.nd
  simp only [List.map_append, List.map_cons] at hn
  refine ⟨rdr_fr h.rdr (by simp only at hg; omega) (by simp only at hg; omega) hF, h.fr.trans (Fr.of ((hF W.heap.size).below (Nat.le_refl _) fun k hk e => by simp only at hg; omega)), fun x hx => ?_, by simpa using hn, hrl, htl⟩
  have hx' : x = (g, T, cs') ∨ x ∈ pre ∨ x ∈ post := by simp at hx; rcases hx with h | h | h <;> simp [h]
  rcases hx' with rfl | hx'
  · exact ⟨hR, hg⟩
  · have hm : x ∈ pre ++ (g, T, cs) :: post := by simp; rcases hx' with h | h <;> simp [h]
    have hne : x.1 ≠ g := fun e => by
      rw [List.nodup_append] at hn
      rcases hx' with hp | hp
      · exact hn.2.2 x.1 (List.mem_map_of_mem hp) g (by simp) e
      · have := (List.nodup_cons.1 hn.2.1).1
        exact this (e ▸ List.mem_map_of_mem hp)
    exact ⟨(h.each x hm).1.fr (hF (w.heap.size)) (h.each x hm).1.lt hne, (h.each x hm).2⟩
end
def HeadQ (R : Ans (Tm × Nat)) (rb tb z o : Nat) (W : World) (e : Ending) (w' : World) : Prop := match R with
  | .ok t r => e = .returned (.tuple #[t.1.val, .int .i64 (t.2 : Nat)]) ∧ RdrAt w' rb tb z r o ∧ Fr (· = rb) W.heap.size W w'
  | .no a k => e = .panicked [{ v := faultP a k, recovered := false }] ∧ Fr (· = rb) W.heap.size W w'
section
variable {W W' : World} {rb tb z o : Nat} {ts : List Tk}
end
end Go.Proofs.YtdolhlbkhhnpmaaDoor

/-
  Package parse: structs that lie in blocks of their own, read and written whole.
-/
import Derived.Test.YtahljmddnfldlaaGreatDoorPrsB
import Derived.Deep.MidRow
namespace Go.Proofs.YtahljmddnfldlaaGreatDoor
open Go.RowKit FloM ValM Go.Shelf
set_option linter.unusedVariables false
set_option linter.unusedSimpArgs false
section
variable {P : Program} {T : TypeId} {g : Nat}
theorem row_sets : ∀ (vs old pre post : List Value) (w : World), old.length = vs.length → Row T w g (pre ++ old ++ post) → Row T (w.setCells g pre.length vs) g (pre ++ vs ++ post)
  | [], old, pre, post, w, hl, h => by
    obtain rfl : old = [] := List.eq_nil_of_length_eq_zero hl
    exact h
  | v :: vs, [], pre, post, w, hl, h => by simp at hl
  | v :: vs, u :: old, pre, post, w, hl, h => by
    have h1 : Row T w g (pre ++ u :: (old ++ post)) := by simpa using h
    have h2 := Row.set h1 v
    have h3 := row_sets vs old (pre ++ [v]) post (w.setCell ⟨g, pre.length, none⟩ v) (by simpa using hl) (by simpa using h2)
    rw [World.setCells]
    simpa using h3
theorem fr_sets (g : Nat) : ∀ (vs : List Value) (o : Nat) (w : World) (B : Nat), Fr (· = g) B w (w.setCells g o vs)
  | [], o, w, B => Fr.refl _ _ _
  | v :: vs, o, w, B => by
    rw [World.setCells]
    exact (fr_set w g o v B).trans (fr_sets g vs (o + 1) _ B)
theorem size_sets (g : Nat) : ∀ (vs : List Value) (o : Nat) (w : World), (w.setCells g o vs).heap.size = w.heap.size
  | [], o, w => rfl
  | v :: vs, o, w => by
    rw [World.setCells, size_sets g vs (o + 1)]
    simp [World.setCell]
theorem run_storeVar_any (w : World) (b o : Nat) (ty : TypeId) (v : Value) (ht : w.there b o v.cells.size) (hi : (P.info? ty).map (·.size) = some v.cells.size) (h1 : v.cells.all (·.oneCell') = true) :
    (storeVar ty ⟨b, o, none⟩ v).run P w = .ok () (w.setCells b o v.cells.toList) := by
  have := run_storeCells_cells (P := P) b o v.cells.toList 0 w (fun j hj => by simpa using (ht j (by simpa using hj)).1) (fun j hj => by simpa using (ht j (by simpa using hj)).2)
    (fun v hv => (Array.all_eq_true_iff_forall_mem.1 h1) v (by simpa using hv))
  cases hq : P.info? ty with
  | none => simp [hq] at hi
  | some i =>
    have hs : v.cells.size = i.size := by simp [hq] at hi; omega
    simp only [Nat.add_zero] at this
    simp [storeVar, sizeOf, typeInfo, hq, hs, this]
/-- A struct is read out of the middle of a block. -/
theorem wpList_loadR {ops : Array Oper} {rest : List Oper} {op : Oper} {a : Act} {w : World} {Q : Exit → Act → World → Prop} (hgd : op.guard = none) (ty : TypeId) (x : Operand) (ho : op.op = .load ty x)
    (g o : Nat) (hx : a.eval x = .pointer (some ⟨g, o, none⟩)) {T : TypeId} {pre mid post : List Value} (hg : Row T w g (pre ++ mid ++ post)) (hpo : pre.length = o) {d : TypeDesc}
    (hu : P.underlying ty = some d) (hd : d.isRow = true) (hi : (P.info? ty).map (·.size) = some mid.length)
    (h : wpList P ops Q rest (a.put op.dst (.agg mid.toArray)) w) : wpList P ops Q (op :: rest) a w :=
  wpList_load_mid hgd ty x ho g o hx mid d (fun j v hv => by
    have hj := (List.getElem?_eq_some_iff.1 hv).1
    rw [hg.cell, ← hpo, List.append_assoc, List.getElem?_append_right (by omega), List.getElem?_append_left (by omega), Nat.add_sub_cancel_left]
    exact hv) hu hd hi h
/-- A value is written into the middle of a block. -/
theorem wpList_storeR {ops : Array Oper} {rest : List Oper} {op : Oper} {a : Act} {w : World} {Q : Exit → Act → World → Prop} (hgd : op.guard = none) (ty : TypeId) (x y : Operand) (ho : op.op = .store ty x y)
    (g o : Nat) (hx : a.eval x = .pointer (some ⟨g, o, none⟩)) (v : Value) (hy : a.eval y = v) (vs : List Value) (hv : v.cells.toList = vs) {T : TypeId} {pre old post : List Value} (hg : Row T w g (pre ++ old ++ post)) (hpo : pre.length = o) (hl : old.length = vs.length)
    (hi : (P.info? ty).map (·.size) = some vs.length) (h1 : vs.all (·.oneCell') = true)
    (h : ∀ w', Row T w' g (pre ++ vs ++ post) → (∀ B, Fr (· = g) B w w') → w'.heap.size = w.heap.size → wpList P ops Q rest (a.put op.dst undef) w') : wpList P ops Q (op :: rest) a w := by
  have hvs : v.cells.size = vs.length := by rw [← hv]; simp
  have hth : w.there g o v.cells.size := fun j hj => by
    rw [hg.cell, ← hpo]
    refine ⟨?_, hg.frozen _⟩
    rw [List.append_assoc, List.getElem?_append_right (by omega), List.getElem?_append_left (by omega), Nat.add_sub_cancel_left, List.getElem?_eq_getElem (by omega)]
    rfl
  refine wpList_plain hgd fun K hK => ?_
  unfold Oper.wp execOp
  simp only [ho, hx, hy, Instr.storeAt, Instr.sureAddr, Sem.run_bind, Sem.run_pure, Result.andThen_ok, run_storeVar_any w g o ty v hth (by rw [hvs]; exact hi) (by rw [← hv] at h1; simpa using h1)]
  refine hK _ _ (h _ ?_ (fun B => fr_sets g _ _ _ _) (size_sets g _ _ _))
  rw [hv, ← hpo]
  exact row_sets vs old pre post w hl hg
end
/-- A row stays while other blocks are written. -/
theorem Row.fr {T : TypeId} {W W' : World} {g B : Nat} {cs : List Value} {X : Nat → Prop} (h : Row T W g cs) (hF : Fr X B W W') (hg : g < B) (hx : ¬ X g) : Row T W' g cs := (hF.block g hg hx).trans h
end Go.Proofs.YtahljmddnfldlaaGreatDoor

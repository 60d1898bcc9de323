/-
  Contracts of slices.Clone, Grow and Concat, at each type that is used.
-/
import Derived.Test.YtojanokicfeghaaBtMem
import Derived.Lib.AppendZeros
import Derived.Maps.AppendAt
namespace Go.Proofs.Ytojanokicfeghaa
open Go.RowKit FloM ValM
set_option linter.unusedVariables false

/-! ### append of cells that lie somewhere -/
section
variable {P : Program} {w : World}
/-- append(v, a..): v a row of the call's own, a cells that lie somewhere, nil too. -/
theorem run_appC (w : World) (base : Nat) (t ty E : TypeId) (i0 : TypeInfo) (z : Value) (bytes : Nat) (ht : P.underlying t = some (.slice E)) (hi : P.info? E = some i0) (hz : i0.zero = some z) (hs : i0.size = 1) (hb : i0.bytes = bytes) (hzs : z.cells.size = 1) (hby : bytes ≤ 32)
    (v : Value) (n : Nat) (xs : List Value) (hown : w.ownsRow base E 1 v n xs) (A : Option Addr) (c : Nat) (l : List Value) (hr : RdC w A l) (h1 : ∀ u ∈ l, u.oneCell' = true) (hn : n + l.length ≤ 1000000) (hbase : base ≤ w.heap.size) :
    ∃ v' w', (Builtin.append_ #[t, t] ty #[v, .slice A l.length c]).run P w = .ok v' w' ∧ w'.ownsRow base E 1 v' (n + l.length) (xs ++ l) ∧ w.grownBy w' v.ownBlock ∧ (v'.ownBlock = v.ownBlock ∨ v'.ownBlock = some w.heap.size) := by
  have main : ∀ (ad : Addr), (∀ j u, l[j]? = some u → w.cell? (ad.add j) = some u) → ∃ v' w', (Builtin.append_ #[t, t] ty #[v, .slice (some ad) l.length c]).run P w = .ok v' w' ∧ w'.ownsRow base E 1 v' (n + l.length) (xs ++ l) ∧ w.grownBy w' v.ownBlock ∧ (v'.ownBlock = v.ownBlock ∨ v'.ownBlock = some w.heap.size) := by
    intro ad hnews
    obtain ⟨v', w', g1, g2, g3, _, g5⟩ := run_append_own_at (P := P) w base t ty E i0 z 1 bytes ht hi hz hs hb hzs (by omega) v n xs hown ad l.length c l (by omega) hnews h1 (by unfold maxLen; omega) (Nat.le_trans (Nat.mul_le_mul hn hby) (by omega)) hbase
    exact ⟨v', w', g1, g2, g3, g5⟩
  cases l with
  | nil =>
    cases A with
    | some ad => exact main ad (fun j u hu => by simp at hu)
    | none =>
      refine ⟨v, w, ?_, by simpa using hown, ⟨rfl, rfl, rfl, Nat.le_refl _, fun _ _ _ => rfl⟩, .inl rfl⟩
      rcases hown.2 with ⟨rfl, rfl⟩ | ⟨g, cap, cur, rfl, _, _, hnc, _⟩
      · simp [Builtin.append_, run_underlying ht, sizeOf, typeInfo, hi, Builtin.lenOf, Builtin.firstCells]
      · simp [Builtin.append_, run_underlying ht, sizeOf, typeInfo, hi, Builtin.lenOf, Builtin.firstCells, hnc, storeCells]
  | cons x r =>
    obtain ⟨b, o, rfl, _⟩ := hr 0 x rfl
    exact main ⟨b, o, none⟩ hr.news
theorem wpList_appC {w : World} {ops : Array Oper} {rest : List Oper} {o : Oper} {a : Act} {Q : Exit → Act → World → Prop} (hgd : o.guard = none) (s x : Operand) (t : TypeId)
    (ho : o.op = .call { callee := .builtin .append, args := #[s, x], argTypes := #[t, t] })
    (base : Nat) (E : TypeId) (i0 : TypeInfo) (z : Value) (bytes : Nat) (ht : P.underlying t = some (.slice E)) (hi : P.info? E = some i0) (hz : i0.zero = some z) (hs : i0.size = 1) (hb : i0.bytes = bytes) (hzs : z.cells.size = 1) (hby : bytes ≤ 32)
    (A' : Option Addr) (n c' : Nat) (xs : List Value) (hsv : a.eval s = .slice A' n c') (hown : w.ownsRow base E 1 (.slice A' n c') n xs) (A : Option Addr) (c m : Nat) (l : List Value) (hm : l.length = m) (hx : a.eval x = .slice A m c) (hr : RdC w A l) (h1 : ∀ u ∈ l, u.oneCell' = true) (hn : n + m ≤ 1000000) (hbase : base ≤ w.heap.size)
    (h : ∀ A2 c2 w', w'.ownsRow base E 1 (.slice A2 (n + m) c2) (n + m) (xs ++ l) → w.grownBy w' (Value.slice A' n c').ownBlock → wpList P ops Q rest (a.put o.dst (.slice A2 (n + m) c2)) w') : wpList P ops Q (o :: rest) a w := by
  refine wpList_plain hgd fun K hK => ?_
  subst hm
  obtain ⟨v', w', hrun, h2, h3, h4⟩ := run_appC (P := P) w base t o.type E i0 z bytes ht hi hz hs hb hzs hby _ n xs hown A c l hr h1 hn hbase
  obtain ⟨A2, c2, rfl⟩ := own_form h2
  unfold Oper.wp execOp
  simp only [ho, resolve, invoke, builtin, Sem.run_bind, Sem.run_pure, Result.andThen_ok, List.map_toArray, List.map_cons, List.map_nil, hsv, hx, hrun]
  exact hK _ _ (h A2 c2 w' h2 h3)
end
theorem own_made1 (w : World) (E : TypeId) : (w.alloc (.cells #[] E)).ownsRow w.heap.size E 1 (.slice (some ⟨w.heap.size, 0, none⟩) 0 0) 0 [] := World.ownsRow_made w #[] 0 (Nat.le_refl _) (Nat.zero_le _) rfl
theorem info_tup : (Try.prog.info? 23).map (fun i => (i.zero, i.size, i.bytes)) = some (some (.slice none 0 0), 1, 24) := by kernel_rfl
theorem info_ptr : (Try.prog.info? 76).map (fun i => (i.zero, i.size, i.bytes)) = some (some (.pointer none), 1, 8) := by kernel_rfl
theorem own_froz {w : World} {base size : Nat} {e : TypeId} {A : Option Addr} {c n : Nat} {xs : List Value} (h : w.ownsRow base e size (.slice A n c) n xs) : ∀ a, A = some a → ∀ j, w.frozen? ⟨a.block, j, none⟩ = false := fun a ha j => by
  rcases h.2 with ⟨e, _⟩ | ⟨g, cap, cur, e, _, hg, _⟩
  · injection e with e _ _; rw [e] at ha; cases ha
  · injection e with e _ _; rw [e] at ha; cases ha
    simp [World.frozen?, hg]
/-- Cells in memory of the call's own. -/
def SaysC (cs : List Value) (w : World) (e : Ending) (w' : World) : Prop := ∃ (A : Option Addr) (c : Nat), e = .returned (.slice A cs.length c) ∧ RdC w' A cs ∧ (∀ a, A = some a → w.heap.size ≤ a.block) ∧ cs.length ≤ c ∧ c ≤ maxLen ∧ (∀ a, A = some a → ∀ j, w'.frozen? ⟨a.block, j, none⟩ = false) ∧ Below w.heap.size w w'
end Go.Proofs.Ytojanokicfeghaa

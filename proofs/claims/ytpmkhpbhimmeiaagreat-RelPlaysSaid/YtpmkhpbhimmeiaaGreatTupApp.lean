/-
  Values that came in, appended to a row of the call's own, wherever they lie (nil too); the contract of TupleAhead's own function.
-/
import Derived.Test.YtpmkhpbhimmeiaaGreatTupOwn
import Derived.Maps.AppendAt
import Derived.Deep.Slices
namespace Go.Proofs.YtpmkhpbhimmeiaaGreat
open Go.RowKit FloM ValM
set_option linter.unusedVariables false

theorem vcells_get : ∀ {l : List V} {j : Nat} {u : Value}, (vcells l)[j]? = some u → ∃ v, l[j / 3]? = some v ∧ [Value.int .i64 v.k, .int .i64 v.n, .string v.s][j % 3]? = some u
  | [], j, u, h => by simp [vcells] at h
  | v :: l, j, u, h => by
    have e : vcells (v :: l) = [.int .i64 v.k, .int .i64 v.n, .string v.s] ++ vcells l := rfl
    rw [e] at h
    by_cases hj : j < 3
    · rw [List.getElem?_append_left (by simpa using hj)] at h
      exact ⟨v, by rw [Nat.div_eq_of_lt hj]; rfl, by rw [Nat.mod_eq_of_lt hj]; exact h⟩
    · rw [List.getElem?_append_right (by simp; omega)] at h
      obtain ⟨u', h1, h2⟩ := vcells_get h
      simp only [List.length_cons, List.length_nil] at h1 h2
      refine ⟨u', ?_, ?_⟩
      · rw [show j / 3 = (j - 3) / 3 + 1 by omega, List.getElem?_cons_succ]; exact h1
      · rw [show j % 3 = (j - 3) % 3 by omega]; exact h2
theorem rdV_news {w : World} {b o : Nat} {l : List V} (h : RdV w (some ⟨b, o, none⟩) l) : ∀ j u, (vcells l)[j]? = some u → w.cell? ((⟨b, o, none⟩ : Addr).add j) = some u := by
  intro j u hu
  obtain ⟨v, hv, hj⟩ := vcells_get hu
  obtain ⟨b', o', e, _, c0, c1, c2⟩ := h _ v hv
  injection e with e; injection e with e1 e2 _; subst e1 e2
  have hadd : (⟨b, o, none⟩ : Addr).add j = ⟨b, o + j, none⟩ := by unfold Addr.add; split <;> simp_all
  rw [hadd]
  have hm : j % 3 = 0 ∨ j % 3 = 1 ∨ j % 3 = 2 := by omega
  rcases hm with hm | hm | hm <;> rw [hm] at hj
  · rw [show o + j = o + j / 3 * 3 by omega, c0]; simpa using hj
  · rw [show o + j = o + j / 3 * 3 + 1 by omega, c1]; simpa using hj
  · rw [show o + j = o + j / 3 * 3 + 2 by omega, c2]; simpa using hj
theorem vcells_cell (l : List V) : ∀ u ∈ vcells l, u.oneCell' = true := by
  intro u hu
  simp only [vcells, List.mem_flatMap, List.mem_cons, List.not_mem_nil, or_false] at hu
  obtain ⟨v, _, rfl | rfl | rfl⟩ := hu <;> rfl
theorem run_app_some (w : World) (base : Nat) (ty : TypeId) (v : Value) (n : Nat) (xs : List Value) (hown : w.ownsRow base 69 3 v n xs) (ad : Addr) (c : Nat) (l : List V) (hnews : ∀ j u, (vcells l)[j]? = some u → w.cell? (ad.add j) = some u) (hn : n + l.length ≤ 1000) (hbase : base ≤ w.heap.size) :
    ∃ v' w', (Builtin.append_ #[25, 25] ty #[v, .slice (some ad) l.length c]).run Tryz.prog w = .ok v' w' ∧ w'.ownsRow base 69 3 v' (n + l.length) (xs ++ vcells l) ∧ w.grownBy w' v.ownBlock ∧ (v'.ownBlock = v.ownBlock ∨ v'.ownBlock = some w.heap.size) := by
  obtain ⟨i, hi, hz, hs, hb⟩ := info_parts info_val
  obtain ⟨v', w', h1, h2, h3, _, h5⟩ := run_append_own_at (P := Tryz.prog) w base 25 ty 69 i _ 3 32 Tryz.underlying25 hi hz hs hb rfl (by omega) v n xs hown ad l.length c (vcells l) (vcells_len l) hnews (vcells_cell l) (by unfold maxLen; omega) (by omega) hbase
  exact ⟨v', w', h1, h2, h3, h5⟩
theorem run_app_none (w : World) (base : Nat) (ty : TypeId) (v : Value) (n : Nat) (xs : List Value) (hown : w.ownsRow base 69 3 v n xs) (c : Nat) :
    (Builtin.append_ #[25, 25] ty #[v, .slice none 0 c]).run Tryz.prog w = .ok v w := by
  obtain ⟨i, hi, hz, hs, hb⟩ := info_parts info_val
  rcases hown.2 with ⟨rfl, rfl⟩ | ⟨g, cap, cur, rfl, _, _, hnc, _⟩
  · simp [Builtin.append_, run_underlying Tryz.underlying25, sizeOf, typeInfo, hi, Builtin.lenOf, Builtin.firstCells]
  · simp [Builtin.append_, run_underlying Tryz.underlying25, sizeOf, typeInfo, hi, Builtin.lenOf, Builtin.firstCells, hnc, storeCells]
/-- append(v, a..): v a row of the call's own, a values that came in. -/
theorem run_app (w : World) (base : Nat) (ty : TypeId) (v : Value) (n : Nat) (xs : List Value) (hown : w.ownsRow base 69 3 v n xs) (A : Option Addr) (c : Nat) (l : List V) (hr : RdV w A l) (hn : n + l.length ≤ 1000) (hbase : base ≤ w.heap.size) :
    ∃ v' w', (Builtin.append_ #[25, 25] ty #[v, .slice A l.length c]).run Tryz.prog w = .ok v' w' ∧ w'.ownsRow base 69 3 v' (n + l.length) (xs ++ vcells l) ∧ w.grownBy w' v.ownBlock ∧ (v'.ownBlock = v.ownBlock ∨ v'.ownBlock = some w.heap.size) := by
  cases l with
  | nil =>
    cases A with
    | some ad => exact run_app_some w base ty v n xs hown ad c [] (fun j u hu => by simp [vcells] at hu) hn hbase
    | none => exact ⟨v, w, run_app_none w base ty v n xs hown c, by simpa [vcells] using hown, ⟨rfl, rfl, rfl, Nat.le_refl _, fun _ _ _ => rfl⟩, .inl rfl⟩
  | cons x r =>
    obtain ⟨b, o, rfl, _⟩ := hr 0 x rfl
    exact run_app_some w base ty v n xs hown ⟨b, o, none⟩ c (x :: r) (rdV_news hr) hn hbase
theorem wpList_app {w : World} {ops : Array Oper} {rest : List Oper} {o : Oper} {a : Act} {Q : Exit → Act → World → Prop} (hgd : o.guard = none) (s x : Operand)
    (ho : o.op = .call { callee := .builtin .append, args := #[s, x], argTypes := #[25, 25] })
    (base : Nat) (v : Value) (n : Nat) (xs : List Value) (hs : a.eval s = v) (hown : w.ownsRow base 69 3 v n xs) (A : Option Addr) (c : Nat) (l : List V) (hx : a.eval x = .slice A l.length c) (hr : RdV w A l) (hn : n + l.length ≤ 1000) (hbase : base ≤ w.heap.size)
    (h : ∀ v' w', w'.ownsRow base 69 3 v' (n + l.length) (xs ++ vcells l) → w.grownBy w' v.ownBlock → (v'.ownBlock = v.ownBlock ∨ v'.ownBlock = some w.heap.size) → wpList Tryz.prog ops Q rest (a.put o.dst v') w') : wpList Tryz.prog ops Q (o :: rest) a w := by
  refine wpList_plain hgd fun K hK => ?_
  obtain ⟨v', w', hrun, h2, h3, h4⟩ := run_app w base o.type v n xs hown A c l hr hn hbase
  unfold Oper.wp execOp
  simp only [ho, resolve, invoke, builtin, Sem.run_bind, Sem.run_pure, Result.andThen_ok, List.map_toArray, List.map_cons, List.map_nil, hs, hx, hrun]
  exact hK _ _ (h v' w' h2 h3 h4)

/-- The same, in lists: the row holds k, l comes behind it, and m is both. -/
theorem wpList_appV {w : World} {ops : Array Oper} {rest : List Oper} {o : Oper} {a : Act} {Q : Exit → Act → World → Prop} (hgd : o.guard = none) (s x : Operand)
    (ho : o.op = .call { callee := .builtin .append, args := #[s, x], argTypes := #[25, 25] })
    (base : Nat) (A' : Option Addr) (c' : Nat) (k l m : List V) (hm : k ++ l = m) (hs : a.eval s = .slice A' k.length c') (hown : w.ownsRow base 69 3 (.slice A' k.length c') k.length (vcells k)) (A : Option Addr) (c : Nat) (hx : a.eval x = .slice A l.length c) (hr : RdV w A l) (hn : k.length + l.length ≤ 1000) (hbase : base ≤ w.heap.size)
    (h : ∀ A2 c2 w', w'.ownsRow base 69 3 (.slice A2 m.length c2) m.length (vcells m) → w.grownBy w' (Value.slice A' k.length c').ownBlock → wpList Tryz.prog ops Q rest (a.put o.dst (.slice A2 m.length c2)) w') : wpList Tryz.prog ops Q (o :: rest) a w := by
  refine wpList_app hgd s x ho base _ k.length (vcells k) hs hown A c l hx hr hn hbase fun v' w' h2 h3 _ => ?_
  subst hm
  rw [← vcells_app, ← List.length_append] at h2
  obtain ⟨A2, c2, rfl⟩ := own_form h2
  exact h A2 c2 w' h2 h3
theorem own_made0 (w : World) : (w.alloc (.cells #[] 69)).ownsRow w.heap.size 69 3 (.slice (some ⟨w.heap.size, 0, none⟩) ([] : List V).length 0) ([] : List V).length (vcells []) := World.ownsRow_made w #[] 0 (Nat.le_refl _) (Nat.zero_le _) rfl
end Go.Proofs.YtpmkhpbhimmeiaaGreat

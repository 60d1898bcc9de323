/-
  Package rel, for the law of parts: the tuples that have a value of their own in some columns, one part for each such value, are all (mathematics over lists).
-/
import Derived.Test.YtfdhkldgenkobaaRelB
namespace Go.Proofs.Ytfdhkldgenkobaa
open Go.RowKit FloM ValM Go.Shelf
set_option linter.unusedVariables false
set_option linter.unusedSimpArgs false
instance decV : DecidableEq V := fun a b => decidable_of_iff (a.k = b.k ∧ a.n = b.n ∧ a.s = b.s) ⟨fun ⟨h1, h2, h3⟩ => by cases a; cases b; simp only at h1 h2 h3; subst h1 h2 h3; rfl, fun h => by subst h; exact ⟨rfl, rfl, rfl⟩⟩
theorem countP_or {α : Type} {p q : α → Bool} : ∀ {l : List α}, (∀ x ∈ l, ¬ (p x = true ∧ q x = true)) → l.countP (fun x => p x || q x) = l.countP p + l.countP q
  | [], _ => rfl
  | x :: l, h => by
    have ih := countP_or (p := p) (q := q) (l := l) fun y hy => h y (List.mem_cons_of_mem _ hy)
    have hx := h x List.mem_cons_self
    rw [List.countP_cons, List.countP_cons, List.countP_cons, ih]
    cases hp : p x <;> cases hq : q x <;> simp [hp, hq] at hx ⊢ <;> omega
section
variable {n : Nat} {H M : List (List V)} {cols : List Int}
/-- The values that the first k tuples have in the columns. -/
def keysL (cols : List Int) (M : List (List V)) (k : Nat) : List (List V) := (M.take k).map fun u => pickL u cols
def gotN (cols : List Int) (M : List (List V)) (k : Nat) : Nat := M.countP fun t => decide (pickL t cols ∈ keysL cols M k)
theorem gotN_zero : gotN cols M 0 = 0 := by unfold gotN keysL; simp
theorem gotN_all : gotN cols M M.length = M.length := by
  unfold gotN
  rw [List.countP_eq_length]
  intro t ht
  rw [decide_eq_true_eq, keysL, List.take_of_length_le (Nat.le_refl _)]
  exact List.mem_map.2 ⟨t, ht, rfl⟩
theorem keysL_snoc {k : Nat} {x : List V} (hx : M[k]? = some x) : keysL cols M (k + 1) = keysL cols M k ++ [pickL x cols] := by
  unfold keysL; rw [take_snoc' hx, List.map_append]; rfl
theorem gotN_old {k : Nat} {x : List V} (hx : M[k]? = some x) (h : pickL x cols ∈ keysL cols M k) : gotN cols M (k + 1) = gotN cols M k := by
  unfold gotN
  rw [keysL_snoc hx]
  congr 1; funext t
  rw [decide_eq_decide, List.mem_append, List.mem_singleton]
  exact ⟨fun e => e.elim id fun e => e ▸ h, .inl⟩
theorem gotN_new {k : Nat} {x : List V} (hx : M[k]? = some x) (h : pickL x cols ∉ keysL cols M k) : gotN cols M (k + 1) = gotN cols M k + M.countP (fun t => decide (pickL t cols = pickL x cols)) := by
  unfold gotN
  rw [keysL_snoc hx, ← countP_or]
  · congr 1; funext t
    rw [Bool.eq_iff_iff, Bool.or_eq_true, decide_eq_true_eq, decide_eq_true_eq, decide_eq_true_eq, List.mem_append, List.mem_singleton]
  · rintro t _ ⟨h1, h2⟩
    rw [decide_eq_true_eq] at h1 h2
    exact h (h2 ▸ h1)
theorem find_count {x : List V} (hd : distB n cols = true) (hl : (pickL x cols).length = cols.length) : (findL n cols (pickL x cols) H).length = (puts (upto n) H).countP fun t => decide (pickL t cols = pickL x cols) := by
  rw [findL_yes hl.symm hd, foundL, List.countP_eq_length_filter]
  congr 1; congr 1; funext t
  rw [Bool.eq_iff_iff, beq_iff_eq, ord_zero, decide_eq_true_eq]
theorem pick_short {t : List V} : ∀ {p : List Int}, (∃ c ∈ p, inR t.length c = false) → (pickL t p).length < p.length
  | [], h => by obtain ⟨c, hc, _⟩ := h; cases hc
  | d :: p, h => by
    cases hd : inR t.length d with
    | false => rw [pickL_skip hd]; have := List.length_filterMap_le (col t) p; simp only [pickL, List.length_cons]; omega
    | true =>
      obtain ⟨v, _, hv⟩ := col_some hd
      rw [pickL_take hv, List.length_cons, List.length_cons]
      have := pick_short (t := t) (p := p) (by
        obtain ⟨c, hc, hi⟩ := h
        rcases List.mem_cons.1 hc with rfl | hc
        · rw [hd] at hi; cases hi
        · exact ⟨c, hc, hi⟩)
      omega
theorem pick_le (t : List V) (p : List Int) : (pickL t p).length ≤ p.length := List.length_filterMap_le _ _
/-- What has been counted when k tuples were looked at. -/
def manyL (n : Nat) (cols : List Int) (M : List (List V)) (k : Nat) : Nat := if distB n cols = true then gotN cols M k else 0
theorem manyL_old {k : Nat} {x : List V} (hx : M[k]? = some x) (h : pickL x cols ∈ keysL cols M k) : manyL n cols M (k + 1) = manyL n cols M k := by unfold manyL; rw [gotN_old hx h]
theorem manyL_new {k : Nat} {x : List V} (hM : M = puts (upto n) H) (hx : M[k]? = some x) (hl : (pickL x cols).length = cols.length) (h : pickL x cols ∉ keysL cols M k) : manyL n cols M (k + 1) = manyL n cols M k + (findL n cols (pickL x cols) H).length := by
  unfold manyL
  cases hd : distB n cols with
  | false => rw [if_neg (by simp), if_neg (by simp), findL_no hd]; rfl
  | true => rw [if_pos rfl, if_pos rfl, find_count hd hl, gotN_new hx h, hM]
theorem manyL_le (k : Nat) : manyL n cols M k ≤ M.length := by
  unfold manyL; split
  · exact List.countP_le_length
  · exact Nat.zero_le _
theorem find_short {vals : List V} (h : cols.length ≠ vals.length) : findL n cols vals H = [] := by unfold findL; rw [if_neg (fun e => h e.1)]
end
end Go.Proofs.Ytfdhkldgenkobaa

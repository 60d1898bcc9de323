/-
  Parameters that are slices of tuples, opened to lists.
-/
import Derived.Test.YtpmkhpbhimmeiaaGreatTupOpen
import Derived.Test.YtpmkhpbhimmeiaaGreatBtRefL
namespace Go.Proofs.YtpmkhpbhimmeiaaGreat
open Go.RowKit Go.ChangeShapes Go.WideShapes Go.ChangeAt Go.Joins Go.Deep Go.ChangeMaps
set_option linter.unusedVariables false
section
variable {H : Type} {enc : TypeId × Value → H} {w : World} {base : Nat} {spare : Nat → Bool} {held : Bool}
theorem vals_trod {fuel : Nat} {cs : List Value} {x : DataW H × List MemPlace} (hf : DataW.trod enc Tryz.prog w base spare held fuel 25 cs = some x) :
    ∃ (A : Option Addr) (c : Nat) (l : List V), cs = [.slice A l.length c] ∧ RdV w A l ∧ l.length ≤ maxLen ∧ l.length ≤ c := by
  rcases open_slice Tryz.underlying25 hf with ⟨hcs, _⟩ | ⟨a, len, cap, m, n, D, Pl, hcs, _, hl, hm, hmm, _, hi⟩
  · exact ⟨none, 0, [], by simpa using hcs, RdV.nil, Nat.zero_le _, Nat.le_refl _⟩
  · have hC : Tryz.prog.cellsOf 69 = 3 := by kernel_rfl
    have hlm : len ≤ m := by rw [hmm]; split <;> omega
    obtain ⟨f, hff⟩ := choose_lt (p := fun i (u : V) => (∀ j x, [Value.int .i64 u.k, .int .i64 u.n, .string u.s][j]? = some x → w.cell? (a.add (i * 3 + j)) = some x) ∧ Fits u.n ∧ u.s.size ≤ maxLen) (n := len) (fun i hin => by
      obtain ⟨cs', hc, ht'⟩ := hi i (by omega)
      rw [hC] at hc
      obtain ⟨_, hcl, hat⟩ := World.cells?_some hc
      obtain ⟨u, rfl, h1, h2⟩ := cells_val hcl ht'
      refine ⟨u, fun j x hj => ?_, h1, h2⟩
      have := hat j (by simpa using (List.getElem?_eq_some_iff.1 hj).1)
      rw [Go.Deep.add_add] at this
      rw [this, hj])
    refine ⟨some a, cap, (List.range len).map f, by simpa using hcs, fun i v hv => ?_, by simpa using Nat.le_trans hl hm, by simpa using hl⟩
    rw [List.getElem?_map, Option.map_eq_some_iff] at hv
    obtain ⟨j, hj, rfl⟩ := hv
    obtain ⟨hlj, hj⟩ := List.getElem?_eq_some_iff.1 hj
    rw [List.getElem_range] at hj; subst hj
    rw [List.length_range] at hlj
    have h0 := (hff i hlj).1 0 _ rfl
    have h1 := (hff i hlj).1 1 _ rfl
    have h2 := (hff i hlj).1 2 _ rfl
    have hsp : a.spot = none := by
      have := (hff 0 (by omega)).1 0 _ rfl
      exact World.cell?_spot (by simpa [Addr.add] using this)
    rw [add_spot hsp] at h0 h1 h2
    obtain ⟨ab, ao, asp⟩ := a
    simp only at hsp; subst hsp
    exact ⟨ab, ao, rfl, cell_lt h0, h0, h1, h2⟩
instance : Inhabited Sl := ⟨⟨none, 0, []⟩⟩
/-- A parameter of type [][]api.Value reads as a list of tuples. -/
theorem open_tups {v : Value} {d : DataW H} {p : List MemPlace} (hok : ∃ A n c, v = .slice A n c) (h : DataW.Trod enc Tryz.prog w base spare held 23 v d p) :
    ∃ (A : Option Addr) (c : Nat) (xs : List Sl), v = .slice A xs.length c ∧ RdL w A xs ∧ xs.length ≤ maxLen ∧ xs.length ≤ c := by
  obtain ⟨A0, n0, c0, rfl⟩ := hok
  obtain ⟨fuel, hf⟩ := h
  rcases open_slice Tryz.underlying23 hf with ⟨hcs, _⟩ | ⟨a, len, cap, m, n, D, Pl, hcs, _, hl, hm, hmm, _, hi⟩
  · simp [Value.cells] at hcs
    obtain ⟨rfl, rfl, rfl⟩ := hcs
    exact ⟨none, 0, [], rfl, RdL.nil, Nat.zero_le _, Nat.le_refl _⟩
  · simp [Value.cells] at hcs
    obtain ⟨rfl, rfl, rfl⟩ := hcs
    have hC : Tryz.prog.cellsOf 25 = 1 := by kernel_rfl
    have hlm : n0 ≤ m := by rw [hmm]; split <;> omega
    obtain ⟨f, hff⟩ := choose_lt (p := fun i (u : Sl) => w.cell? (a.add i) = some u.val ∧ RdV w u.A u.l ∧ u.l.length ≤ maxLen) (n := n0) (fun i hin => by
      obtain ⟨cs', hc, ht'⟩ := hi i (by omega)
      rw [hC] at hc
      obtain ⟨_, hcl, hat⟩ := World.cells?_some hc
      obtain ⟨A, c, l, rfl, h1, h2, _⟩ := vals_trod ht'
      refine ⟨⟨A, c, l⟩, ?_, h1, h2⟩
      have := hat 0 (by simp)
      rw [Go.Deep.add_add] at this
      simpa [Sl.val] using this)
    refine ⟨some a, c0, (List.range n0).map f, by simp, ⟨fun i u hu => ?_, fun x hx => ?_⟩, by simpa using Nat.le_trans hl hm, by simpa using hl⟩
    · rw [List.getElem?_map, List.getElem?_map, Option.map_eq_some_iff] at hu
      obtain ⟨y, hy, rfl⟩ := hu
      rw [Option.map_eq_some_iff] at hy
      obtain ⟨j, hj, rfl⟩ := hy
      obtain ⟨hlj, hj⟩ := List.getElem?_eq_some_iff.1 hj
      rw [List.getElem_range] at hj; subst hj
      rw [List.length_range] at hlj
      have h0 := (hff i hlj).1
      have hsp : a.spot = none := by
        have := (hff 0 (by omega)).1
        exact World.cell?_spot (by simpa [Addr.add] using this)
      rw [add_spot hsp] at h0
      obtain ⟨ab, ao, asp⟩ := a
      simp only at hsp; subst hsp
      exact ⟨ab, ao, rfl, cell_lt h0, h0⟩
    · rw [List.mem_map] at hx
      obtain ⟨i, hi', rfl⟩ := hx
      exact (hff i (List.mem_range.1 hi')).2
end
end Go.Proofs.YtpmkhpbhimmeiaaGreat

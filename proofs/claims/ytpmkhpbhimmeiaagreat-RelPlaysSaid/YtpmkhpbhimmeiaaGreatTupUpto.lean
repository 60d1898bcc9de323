/-
  All columns in order: plain mathematics.
-/
import Derived.Test.YtpmkhpbhimmeiaaGreatTupOrd
namespace Go.Proofs.YtpmkhpbhimmeiaaGreat
open Go.RowKit FloM ValM
set_option linter.unusedVariables false

theorem upto_at (n i : Nat) : (upto n)[i]? = if i < n then some (i : Int) else none := by
  unfold upto; rw [List.getElem?_map]
  by_cases h : i < n
  · rw [List.getElem?_range h, if_pos h]; rfl
  · rw [if_neg h, List.getElem?_eq_none (by simpa using h)]; rfl
theorem pick_none {t : List V} : ∀ {p : List Int}, (∀ x ∈ p, inR t.length x = false) → pickL t p = []
  | [], _ => rfl
  | x :: p, h => by rw [pickL_skip (h x (List.mem_cons_self ..))]; exact pick_none fun y hy => h y (List.mem_cons_of_mem _ hy)
theorem pick_upto (t : List V) (n : Nat) (h : t.length ≤ n) : pickL t (upto n) = t := by
  have e : upto n = upto t.length ++ (List.range (n - t.length)).map fun i => ((t.length + i : Nat) : Int) := by
    apply List.ext_getElem?
    intro i
    rw [upto_at]
    by_cases h1 : i < t.length
    · rw [List.getElem?_append_left (by rw [upto_len]; exact h1), upto_at, if_pos h1, if_pos (by omega)]
    · rw [List.getElem?_append_right (by rw [upto_len]; omega), upto_len, List.getElem?_map]
      by_cases h2 : i < n
      · rw [if_pos h2, List.getElem?_range (by omega)]; simp; omega
      · rw [if_neg h2, List.getElem?_eq_none (by simp; omega)]; rfl
  rw [e, pickL_app, pick_none (p := (List.range (n - t.length)).map _) (by
    intro x hx
    rw [List.mem_map] at hx
    obtain ⟨i, _, rfl⟩ := hx
    exact inR_not.2 (by omega)), List.append_nil]
  have hin : ∀ x ∈ upto t.length, inR t.length x = true := fun x hx => upto_mem.1 hx
  apply List.ext_getElem?
  intro i
  rw [pick_at hin, upto_at]
  by_cases h1 : i < t.length
  · rw [if_pos h1]; simp
  · rw [if_neg h1, List.getElem?_eq_none (by omega)]; rfl
theorem ord_behind (t a b : List V) : ordV (t ++ a) (t ++ b) = ordV a b := by rw [ord_app t t a b rfl, if_pos (ord_self t)]
theorem ord_front (t a : List V) : ordV t (t ++ a) = if a = [] then 0 else -1 := by
  have := ord_behind t [] a
  rw [List.append_nil] at this
  rw [this]
  cases a with
  | nil => rfl
  | cons x a => rfl
end Go.Proofs.YtpmkhpbhimmeiaaGreat

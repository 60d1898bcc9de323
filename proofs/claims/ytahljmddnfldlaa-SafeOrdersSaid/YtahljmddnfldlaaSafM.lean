/-
  Layer 11: names in order, each once; which literals are ready; in which order they are taken. Plain mathematics.
-/
import Derived.Sort.KeysCollected
namespace Go.Proofs.Ytahljmddnfldlaa
open Go Go.Maps
set_option linter.unusedVariables false
set_option linter.unusedSimpArgs false
abbrev Nm := List UInt8
/-! ### Names in order -/
def addStep (s : Nm) (a : List Nm × Bool) (x : Nm) : List Nm × Bool :=
  let b := if a.2 = false ∧ s ≤ x then (a.1 ++ [s], true) else a
  if x = s then b else (b.1 ++ [x], b.2)
def addLoop (s : Nm) (l : List Nm) : List Nm × Bool := l.foldl (addStep s) ([], false)
def addN (l : List Nm) (s : Nm) : List Nm := if (addLoop s l).2 then (addLoop s l).1 else (addLoop s l).1 ++ [s]
def namesL (S : List Nm) : List Nm := S.foldl addN []
def Rising (l : List Nm) : Prop := l.Pairwise (· < ·)
theorem nm_lt_irrefl (a : Nm) : ¬ a < a := List.lt_irrefl a
theorem nm_lt_trans {a b c : Nm} (h : a < b) (g : b < c) : a < c := List.lt_trans h g
theorem nm_lt_of_le_ne {a b : Nm} (h : a ≤ b) (g : a ≠ b) : a < b := by
  rcases Decidable.em (a < b) with h1 | h1
  · exact h1
  · exact absurd (List.le_antisymm h (List.not_lt.1 h1)) g
theorem nm_not_le {a b : Nm} (h : ¬ a ≤ b) : b < a := by
  rcases Decidable.em (b < a) with h1 | h1
  · exact h1
  · exact absurd (List.not_lt.1 h1) h
theorem nm_lt_of_le_lt {a b c : Nm} (h : a ≤ b) (g : b < c) : a < c := by
  rcases Decidable.em (a = b) with e | e
  · exact e ▸ g
  · exact nm_lt_trans (nm_lt_of_le_ne h e) g
theorem nm_ne_of_lt {a b : Nm} (h : a < b) : a ≠ b := fun e => nm_lt_irrefl b (e ▸ h)
theorem addLoop_snoc (s : Nm) (l : List Nm) (x : Nm) : addLoop s (l ++ [x]) = addStep s (addLoop s l) x := by simp [addLoop, List.foldl_append]
def insN (s : Nm) : Bool → List Nm → List Nm
  | _, [] => []
  | d, x :: r => (if d = false ∧ s ≤ x then [s] else []) ++ (if x = s then [] else [x]) ++ insN s (d || decide (s ≤ x)) r
theorem addFold (s : Nm) : ∀ (l acc : List Nm) (d : Bool), l.foldl (addStep s) (acc, d) = (acc ++ insN s d l, d || l.any (fun x => decide (s ≤ x)))
  | [], acc, d => by simp [insN]
  | x :: r, acc, d => by
    rw [List.foldl_cons]
    have e : addStep s (acc, d) x = (acc ++ ((if d = false ∧ s ≤ x then [s] else []) ++ (if x = s then [] else [x])), d || decide (s ≤ x)) := by
      unfold addStep
      by_cases h1 : d = false <;> by_cases h2 : s ≤ x <;> by_cases h3 : x = s <;> simp [h1, h2, h3]
    rw [e, addFold s r]
    simp [insN, List.append_assoc, Bool.or_assoc]
theorem insN_mem (s y : Nm) : ∀ (l : List Nm) (d : Bool), y ∈ insN s d l ↔ (y ∈ l ∧ y ≠ s) ∨ (y = s ∧ d = false ∧ ∃ x ∈ l, s ≤ x)
  | [], d => by simp [insN]
  | x :: r, d => by
    unfold insN
    rw [List.mem_append, List.mem_append, insN_mem s y r]
    by_cases h1 : d = false <;> by_cases h2 : s ≤ x <;> by_cases h3 : x = s <;> by_cases h4 : y = s <;> by_cases h5 : y = x <;> simp_all
theorem insN_true (s : Nm) : ∀ l : List Nm, insN s true l = l.filter (fun x => decide (x ≠ s))
  | [] => rfl
  | x :: r => by
    unfold insN
    rw [Bool.true_or, insN_true s r]
    by_cases h : x = s <;> simp [h]
theorem insN_rising (s : Nm) : ∀ (l : List Nm), Rising l → Rising (insN s false l)
  | [], _ => List.Pairwise.nil
  | x :: r, h => by
    obtain ⟨h1, h2⟩ := List.pairwise_cons.1 h
    unfold insN
    by_cases hs : s ≤ x
    · have e : (false || decide (s ≤ x)) = true := by simp [hs]
      rw [e, insN_true, if_pos ⟨rfl, hs⟩]
      have hr : Rising (r.filter (fun x => decide (x ≠ s))) := List.Pairwise.sublist List.filter_sublist h2
      by_cases hx : x = s
      · rw [if_pos hx]
        exact List.pairwise_cons.2 ⟨fun y hy => hx ▸ h1 y (List.mem_filter.1 hy).1, hr⟩
      · rw [if_neg hx]
        refine List.pairwise_cons.2 ⟨fun y hy => ?_, List.pairwise_cons.2 ⟨fun y hy => h1 y (List.mem_filter.1 hy).1, hr⟩⟩
        rcases List.mem_cons.1 hy with rfl | hy
        · exact nm_lt_of_le_ne hs (fun e => hx e.symm)
        · exact nm_lt_of_le_lt hs (h1 y (List.mem_filter.1 hy).1)
    · have hlt := nm_not_le hs
      have e : (false || decide (s ≤ x)) = false := by simp [hs]
      rw [e, if_neg (fun g => hs g.2), if_neg (nm_ne_of_lt hlt)]
      refine List.pairwise_cons.2 ⟨fun y hy => ?_, insN_rising s r h2⟩
      rcases (insN_mem s y r false).1 hy with ⟨hy, _⟩ | ⟨rfl, _⟩
      · exact h1 y hy
      · exact hlt
theorem addLoop_eq (s : Nm) (l : List Nm) : addLoop s l = (insN s false l, l.any (fun x => decide (s ≤ x))) := by
  unfold addLoop; rw [addFold]; simp
theorem addN_mem (l : List Nm) (s y : Nm) : y ∈ addN l s ↔ y = s ∨ y ∈ l := by
  unfold addN
  rw [addLoop_eq]
  by_cases h : l.any (fun x => decide (s ≤ x)) = true
  · simp only [h, if_true]
    rw [insN_mem]
    have hx : ∃ x ∈ l, s ≤ x := by simpa using h
    by_cases h4 : y = s
    · simp [h4, hx]
    · simp [h4]
  · simp only [h, if_false, Bool.false_eq_true]
    rw [List.mem_append, insN_mem]
    have hx : ¬ ∃ x ∈ l, s ≤ x := by simpa using h
    by_cases h4 : y = s
    · simp [h4]
    · simp [h4]
theorem addN_rising {l : List Nm} (h : Rising l) (s : Nm) : Rising (addN l s) := by
  unfold addN
  rw [addLoop_eq]
  by_cases hd : l.any (fun x => decide (s ≤ x)) = true
  · simp only [hd, if_true]
    exact insN_rising s l h
  · simp only [hd, if_false, Bool.false_eq_true]
    refine List.pairwise_append.2 ⟨insN_rising s l h, List.pairwise_singleton _ _, fun a ha b hb => ?_⟩
    have hx : ∀ x ∈ l, ¬ s ≤ x := by simpa using hd
    obtain rfl : b = s := by simpa using hb
    rcases (insN_mem b a l false).1 ha with ⟨ha, _⟩ | ⟨_, _, x, hxl, hle⟩
    · exact nm_not_le (hx a ha)
    · exact absurd hle (hx x hxl)
theorem rising_nil : Rising [] := List.Pairwise.nil
theorem fold_rising : ∀ (S l : List Nm), Rising l → Rising (S.foldl addN l)
  | [], l, h => h
  | s :: S, l, h => fold_rising S _ (addN_rising h s)
theorem fold_mem (y : Nm) : ∀ (S l : List Nm), y ∈ S.foldl addN l ↔ y ∈ S ∨ y ∈ l
  | [], l => by simp
  | s :: S, l => by
    rw [List.foldl_cons, fold_mem y S, addN_mem]
    simp only [List.mem_cons]
    constructor
    · rintro (h | h | h)
      · exact .inl (.inr h)
      · exact .inl (.inl h)
      · exact .inr h
    · rintro ((h | h) | h)
      · exact .inr (.inl h)
      · exact .inl h
      · exact .inr (.inr h)
theorem namesL_rising (S : List Nm) : Rising (namesL S) := fold_rising S [] rising_nil
theorem namesL_mem (S : List Nm) (y : Nm) : y ∈ namesL S ↔ y ∈ S := by unfold namesL; rw [fold_mem]; simp
theorem Rising.nodup {l : List Nm} (h : Rising l) : l.Nodup := List.Pairwise.imp (fun h => nm_ne_of_lt h) h
theorem rising_ext {l m : List Nm} (hl : Rising l) (hm : Rising m) (h : ∀ y, y ∈ l ↔ y ∈ m) : l = m := by
  refine List.Perm.eq_of_pairwise (le := fun a b => a < b) (fun a b _ _ h1 h2 => absurd (nm_lt_trans h1 h2) (nm_lt_irrefl a)) hl hm ?_
  exact (List.perm_ext_iff_of_nodup hl.nodup hm.nodup).2 h
theorem namesL_of {l S : List Nm} (hl : Rising l) (h : ∀ y, y ∈ l ↔ y ∈ S) : l = namesL S := rising_ext hl (namesL_rising S) fun y => by rw [h, namesL_mem]
theorem namesL_congr {S T : List Nm} (h : ∀ y, y ∈ S ↔ y ∈ T) : namesL S = namesL T := namesL_of (namesL_rising S) fun y => by rw [namesL_mem, h]
theorem namesL_self {l : List Nm} (h : Rising l) : namesL l = l := (namesL_of h fun _ => Iff.rfl).symm
theorem namesL_snoc (S : List Nm) (s : Nm) : namesL (S ++ [s]) = addN (namesL S) s := by simp [namesL, List.foldl_append]
/-- What is sorted by merging, of a list without repeats. -/
theorem merge_rising {ss l : List Nm} (hp : ss.Perm l) (hl : Rising l) : ss.mergeSort (fun x y => decide (x ≤ y)) = l := by
  rw [Go.mergeSort_of_perm hp]
  refine List.mergeSort_of_pairwise (List.Pairwise.imp (fun {a b} h => ?_) hl)
  have : a ≤ b := List.le_of_lt h
  simpa using this
end Go.Proofs.Ytahljmddnfldlaa

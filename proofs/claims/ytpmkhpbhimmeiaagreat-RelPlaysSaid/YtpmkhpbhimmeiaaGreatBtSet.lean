/-
  Plain mathematics of a tree: what Put makes of the list of its tuples, what From tells of it.
-/
import Derived.Test.YtpmkhpbhimmeiaaGreatBtTell
import Derived.Test.YtpmkhpbhimmeiaaGreatBtDrop
namespace Go.Proofs.YtpmkhpbhimmeiaaGreat
open Go.RowKit FloM ValM
set_option linter.unusedVariables false
set_option linter.unusedSimpArgs false

def insS (p : List Int) (a : List V) : List (List V) → List (List V)
  | [] => [a]
  | z :: M => if cmpC p z a = -1 then z :: insS p a M else if cmpC p z a = 0 then z :: M else a :: z :: M
def inS (p : List Int) (a : List V) (M : List (List V)) : Bool := M.any fun z => cmpC p z a == 0
def SortS (p : List Int) (M : List (List V)) : Prop := M.Pairwise fun x y => cmpC p x y = -1
theorem inS_iff {p : List Int} {a : List V} {M : List (List V)} : inS p a M = true ↔ ∃ z ∈ M, cmpC p z a = 0 := by
  unfold inS; rw [List.any_eq_true]; simp
theorem inS_not {p : List Int} {a : List V} {M : List (List V)} : inS p a M = false ↔ ∀ z ∈ M, cmpC p z a ≠ 0 := by
  unfold inS; rw [List.any_eq_false]; simp
theorem ins_parts {p : List Int} {a : List V} : ∀ {L1 L2 : List (List V)}, (∀ z ∈ L1, cmpC p z a = -1) → (∀ z ∈ L2, cmpC p z a = 1) → insS p a (L1 ++ L2) = L1 ++ a :: L2
  | [], [], _, _ => rfl
  | [], z :: L2, _, h => by simp [insS, h z (List.mem_cons_self ..)]
  | z :: L1, L2, h1, h2 => by
    have ih := ins_parts (L1 := L1) (fun y hy => h1 y (List.mem_cons_of_mem _ hy)) h2
    simp [insS, h1 z (List.mem_cons_self ..), ih]
theorem cmpC_eq_r {p : List Int} {a b c : List V} (h : cmpC p b c = 0) : cmpC p a b = cmpC p a c := by
  unfold cmpC at *; rw [(ord_zero _ _).1 h]
theorem cmpC_eq_l {p : List Int} {a b c : List V} (h : cmpC p a b = 0) : cmpC p a c = cmpC p b c := by
  unfold cmpC at *; rw [(ord_zero _ _).1 h]
theorem cmpC_self (p : List Int) (a : List V) : cmpC p a a = 0 := ord_self _
theorem ins_same {p : List Int} {a : List V} : ∀ {M : List (List V)}, SortS p M → inS p a M = true → insS p a M = M
  | [], _, h => by simp [inS] at h
  | z :: M, hs, h => by
    have hs2 := List.pairwise_cons.1 hs
    obtain ⟨w, hw, h0⟩ := inS_iff.1 h
    rw [insS]
    rcases List.mem_cons.1 hw with rfl | hw
    · rw [if_neg (by omega), if_pos h0]
    · have h1 := hs2.1 w hw
      rw [cmpC_eq_r h0] at h1
      rw [if_pos h1, ins_same hs2.2 (inS_iff.2 ⟨w, hw, h0⟩)]
theorem ins_mem {p : List Int} {a x : List V} : ∀ {M : List (List V)}, inS p a M = false → (x ∈ insS p a M ↔ x = a ∨ x ∈ M)
  | [], _ => by simp [insS]
  | z :: M, h => by
    have h2 := inS_not.1 h
    have ih := ins_mem (x := x) (inS_not.2 fun y hy => h2 y (List.mem_cons_of_mem _ hy))
    rw [insS]
    split
    · rw [List.mem_cons, ih, List.mem_cons]
      constructor
      · rintro (h | h | h) <;> simp [h]
      · rintro (h | h | h) <;> simp [h]
    · rw [if_neg (h2 z (List.mem_cons_self ..)), List.mem_cons]
theorem ins_sortS {p : List Int} {a : List V} : ∀ {M : List (List V)}, SortS p M → SortS p (insS p a M)
  | [], _ => List.pairwise_singleton _ _
  | z :: M, hs => by
    have hs2 := List.pairwise_cons.1 hs
    rw [insS]
    split
    · rename_i h1
      refine List.pairwise_cons.2 ⟨fun y hy => ?_, ins_sortS hs2.2⟩
      by_cases hi : inS p a M = true
      · rw [ins_same hs2.2 hi] at hy; exact hs2.1 y hy
      · rcases (ins_mem (by simpa using hi)).1 hy with rfl | hy
        · exact h1
        · exact hs2.1 y hy
    · split
      · exact hs
      · rename_i h1 h0
        have h3 : cmpC p a z = -1 := by rw [cmpC_anti]; rcases cmpC_rng p z a with e | e | e <;> omega
        refine List.pairwise_cons.2 ⟨fun y hy => ?_, hs⟩
        rcases List.mem_cons.1 hy with rfl | hy
        · exact h3
        · exact cmpC_lt h3 (hs2.1 y hy)
/-- Two lists in order with the same members are one. -/
theorem sort_ext {p : List Int} : ∀ {M N : List (List V)}, SortS p M → SortS p N → (∀ x, x ∈ M ↔ x ∈ N) → M = N
  | [], [], _, _, _ => rfl
  | [], z :: N, _, _, h => by have := (h z).2 (List.mem_cons_self ..); cases this
  | z :: M, [], _, _, h => by have := (h z).1 (List.mem_cons_self ..); cases this
  | y :: M, z :: N, hM, hN, h => by
    have hM2 := List.pairwise_cons.1 hM
    have hN2 := List.pairwise_cons.1 hN
    have hyz : y = z := by
      rcases List.mem_cons.1 ((h y).1 (List.mem_cons_self ..)) with e | hy
      · exact e
      · rcases List.mem_cons.1 ((h z).2 (List.mem_cons_self ..)) with e | hz
        · exact e.symm
        · have h1 := hM2.1 z hz
          have h2 := hN2.1 y hy
          rw [cmpC_anti] at h2; omega
    subst hyz
    have hno : ∀ {K : List (List V)}, (∀ x ∈ K, cmpC p y x = -1) → y ∉ K := fun hk hm => by
      have := hk y hm; rw [cmpC_self] at this; omega
    refine congrArg _ (sort_ext hM2.2 hN2.2 fun x => ?_)
    constructor
    · intro hx
      rcases List.mem_cons.1 ((h x).1 (List.mem_cons_of_mem _ hx)) with rfl | hx'
      · exact absurd hx (hno hM2.1)
      · exact hx'
    · intro hx
      rcases List.mem_cons.1 ((h x).2 (List.mem_cons_of_mem _ hx)) with rfl | hx'
      · exact absurd hx (hno hN2.1)
      · exact hx'
/-- By a permutation, of tuples of its length, none but itself is not told apart. -/
theorem cmpC_zero {p : List Int} {a b : List V} (hp : permB p = true) (ha : a.length = p.length) (hb : b.length = p.length) : cmpC p a b = 0 ↔ a = b := by
  unfold cmpC; rw [ord_zero]; exact pick_inj hp ha hb
theorem inS_mem {p : List Int} {a : List V} {M : List (List V)} (hp : permB p = true) (ha : a.length = p.length) (hM : ∀ x ∈ M, x.length = p.length) : inS p a M = true ↔ a ∈ M := by
  rw [inS_iff]
  constructor
  · rintro ⟨z, hz, h0⟩
    rw [(cmpC_zero hp (hM z hz) ha).1 h0] at hz; exact hz
  · exact fun h => ⟨a, h, cmpC_self p a⟩

/-! ### All that is put -/
def putM (p : List Int) (a : List V) (M : List (List V)) : List (List V) := if a.length = p.length then insS p a M else M
def puts (p : List Int) (l : List (List V)) : List (List V) := l.foldl (fun M a => putM p a M) []
structure FitS (p : List Int) (M : List (List V)) : Prop where
  sort : SortS p M
  lens : ∀ x ∈ M, x.length = p.length
theorem FitS.nil (p : List Int) : FitS p [] := ⟨List.Pairwise.nil, fun _ h => by cases h⟩
theorem FitS.put {p : List Int} {M : List (List V)} (h : FitS p M) (a : List V) : FitS p (putM p a M) := by
  unfold putM; split
  · rename_i ha
    refine ⟨ins_sortS h.sort, fun x hx => ?_⟩
    by_cases hi : inS p a M = true
    · rw [ins_same h.sort hi] at hx; exact h.lens x hx
    · rcases (ins_mem (by simpa using hi)).1 hx with rfl | hx
      · exact ha
      · exact h.lens x hx
  · exact h
theorem put_mem {p : List Int} {M : List (List V)} (hp : permB p = true) (h : FitS p M) {a x : List V} : x ∈ putM p a M ↔ (x = a ∧ a.length = p.length) ∨ x ∈ M := by
  unfold putM; split
  · rename_i ha
    by_cases hi : inS p a M = true
    · rw [ins_same h.sort hi]
      have := (inS_mem hp ha h.lens).1 hi
      constructor
      · exact .inr
      · rintro (⟨rfl, _⟩ | h)
        · exact this
        · exact h
    · rw [ins_mem (by simpa using hi)]; simp [ha]
  · rename_i ha; simp [ha]
theorem puts_snoc (p : List Int) (l : List (List V)) (a : List V) : puts p (l ++ [a]) = putM p a (puts p l) := by unfold puts; rw [List.foldl_append]; rfl
theorem puts_fold_fit (p : List Int) : ∀ (l : List (List V)) (M : List (List V)), FitS p M → FitS p (l.foldl (fun M a => putM p a M) M)
  | [], M, h => h
  | a :: l, M, h => puts_fold_fit p l _ (h.put a)
theorem puts_fit (p : List Int) (l : List (List V)) : FitS p (puts p l) := puts_fold_fit p l [] (FitS.nil p)
theorem puts_fold_mem {p : List Int} (hp : permB p = true) {x : List V} : ∀ (l : List (List V)) (M : List (List V)), FitS p M → (x ∈ l.foldl (fun M a => putM p a M) M ↔ (x ∈ l ∧ x.length = p.length) ∨ x ∈ M)
  | [], M, h => by simp
  | a :: l, M, h => by
    rw [List.foldl_cons, puts_fold_mem hp l _ (h.put a), put_mem hp h, List.mem_cons]
    constructor
    · rintro (⟨h, h'⟩ | ⟨rfl, h⟩ | h)
      · exact .inl ⟨.inr h, h'⟩
      · exact .inl ⟨.inl rfl, h⟩
      · exact .inr h
    · rintro (⟨rfl | h, h'⟩ | h)
      · exact .inr (.inl ⟨rfl, h'⟩)
      · exact .inl ⟨h, h'⟩
      · exact .inr (.inr h)
theorem puts_mem {p : List Int} (hp : permB p = true) {x : List V} (l : List (List V)) : x ∈ puts p l ↔ x ∈ l ∧ x.length = p.length := by
  unfold puts; rw [puts_fold_mem hp l [] (FitS.nil p)]; simp
theorem ins_len (p : List Int) (a : List V) : ∀ M : List (List V), (insS p a M).length ≤ M.length + 1
  | [] => by simp [insS]
  | z :: M => by
    have := ins_len p a M
    rw [insS]; split
    · simp; omega
    · split <;> simp
theorem put_len (p : List Int) (a : List V) (M : List (List V)) : (putM p a M).length ≤ M.length + 1 := by
  unfold putM; split
  · exact ins_len p a M
  · omega
theorem puts_fold_len (p : List Int) : ∀ (l M : List (List V)), (l.foldl (fun M a => putM p a M) M).length ≤ M.length + l.length
  | [], M => by simp
  | a :: l, M => by
    have h1 := puts_fold_len p l (putM p a M)
    have h2 := put_len p a M
    rw [List.foldl_cons, List.length_cons]; omega
theorem puts_len (p : List Int) (l : List (List V)) : (puts p l).length ≤ l.length := by have := puts_fold_len p l []; simpa [puts] using this
theorem ins_new_len (p : List Int) (a : List V) : ∀ M : List (List V), inS p a M = false → (insS p a M).length = M.length + 1
  | [], _ => by simp [insS]
  | z :: M, h => by
    have h2 := inS_not.1 h
    have := ins_new_len p a M (inS_not.2 fun y hy => h2 y (List.mem_cons_of_mem _ hy))
    rw [insS]; split
    · simp; omega
    · rw [if_neg (h2 z (List.mem_cons_self ..))]; simp

/-! ### What begins with some values -/
def beg (p : List Int) (hd : List V) (M : List (List V)) : List (List V) := M.filter fun x => ordV (pickL x (p.take hd.length)) hd == 0
theorem tw_dW {c : List Int} {a : List V} : ∀ {L : List Sl}, WS c L → tw c a ((dW c a L).map Sl.l) = (L.map Sl.l).filter fun x => cmpC c x a == 0
  | [], _ => rfl
  | z :: L, h => by
    have h2 := List.pairwise_cons.1 h
    rcases cmpC_rng c z.l a with e | e | e
    · have ih := tw_dW (a := a) h2.2
      rw [show dW c a (z :: L) = dW c a L by unfold dW; rw [List.dropWhile_cons]; simp [e], ih, List.map_cons, List.filter_cons]
      simp [e]
    · rw [dW_id (C := z :: L) (ws_tail (t := z) h (by omega)), List.map_cons, List.filter_cons]
      simp only [tw, List.takeWhile_cons, e, BEq.rfl, if_true]
      congr 1
      -- all that follows is not less: it is alike, then it is greater
      have hge : ∀ z' ∈ L, cmpC c z'.l a ≠ -1 := fun z' hz' => ws_tail (t := z) h (by omega) z' (List.mem_cons_of_mem _ hz')
      have hd := tw_dW (a := a) h2.2
      rw [dW_id hge] at hd
      exact hd
    · rw [dW_id (C := z :: L) (ws_tail (t := z) h (by omega)), List.map_cons, List.filter_cons]
      simp only [tw, List.takeWhile_cons, e, show ((1 : Int) == 0) = false from rfl]
      have hgt : ∀ z' ∈ L, cmpC c z'.l a ≠ 0 := fun z' hz' h0 => by
        have h1 := h2.1 z' hz'
        rw [cmpC_eq_r h0] at h1; omega
      have : (L.map Sl.l).filter (fun x => cmpC c x a == 0) = [] := by
        rw [List.filter_eq_nil_iff]; intro x hx
        obtain ⟨z', hz', rfl⟩ := List.mem_map.1 hx
        simpa using hgt z' hz'
      rw [this]; rfl
theorem ws_take {p : List Int} (n : Nat) {L : List Sl} (hp : permB p = true) (hl : ∀ x ∈ L, x.l.length = p.length) (hs : Sorted p L) : WS (p.take n) L := by
  unfold WS
  refine List.Pairwise.imp_of_mem (fun {x y} hx hy h => ?_) hs
  have e := pick_head (a := x.l) (b := y.l) (p := p) (perm_in hp (hl x hx)) (perm_in hp (hl y hy)) n
  unfold cmpC at *
  rw [e] at h
  split at h <;> omega
end Go.Proofs.YtpmkhpbhimmeiaaGreat

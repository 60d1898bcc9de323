/-
  Layer 11: in which order what has needs is taken: of whatever bears names and is ready or not. Plain mathematics.
-/
import Derived.Test.YtahljmddnfldlaaSafM
namespace Go.Proofs.Ytahljmddnfldlaa
open Go Go.Maps
set_option linter.unusedVariables false
set_option linter.unusedSimpArgs false
theorem nat_nodup_len : ∀ (l m : List Nat), l.Nodup → (∀ x ∈ l, x ∈ m) → l.length ≤ m.length
  | [], m, _, _ => Nat.zero_le _
  | a :: l, m, h, hs => by
    obtain ⟨h1, h2⟩ := List.pairwise_cons.1 h
    have ha : a ∈ m := hs a (by simp)
    have := nat_nodup_len l (m.erase a) h2 (fun x hx => (List.mem_erase_of_ne (fun e => h1 x hx e.symm)).2 (hs x (by simp [hx])))
    rw [List.length_erase_of_mem ha] at this
    have hp : 0 < m.length := List.length_pos_of_mem ha
    simp only [List.length_cons]; omega
section
variable {α : Type} (vs : α → List Nm) (rd : α → List Nm → Bool)
def rdAt (body : List α) (S : List Nm) (i : Nat) : Bool := match body[i]? with | some x => rd x S | none => false
def vsAt (body : List α) (i : Nat) : List Nm := match body[i]? with | some x => vs x | none => []
def nextI (body : List α) (t : List Nat) (S : List Nm) : Option Nat := (List.range body.length).find? fun i => !decide (i ∈ t) && rdAt rd body S i
def orderL (body : List α) : Nat → List Nat → List Nm → Option (List Nat × List Nm)
  | 0, t, S => some (t, S)
  | n + 1, t, S => match nextI rd body t S with
    | none => none
    | some i => orderL body n (t ++ [i]) (S ++ vsAt vs body i)
def ordL (body : List α) (S : List Nm) : Option (List Nat × List Nm) := orderL vs rd body body.length [] S
def Mono : Prop := ∀ x S T, (∀ y, y ∈ S → y ∈ T) → rd x S = true → rd x T = true
variable {vs rd}
theorem nextI_some {body : List α} {t : List Nat} {S : List Nm} {i : Nat} (h : nextI rd body t S = some i) : i < body.length ∧ i ∉ t ∧ rdAt rd body S i = true := by
  have h1 := List.find?_some h
  have h2 := List.mem_of_find?_eq_some h
  simp only [Bool.and_eq_true, Bool.not_eq_true', decide_eq_false_iff_not] at h1
  exact ⟨List.mem_range.1 h2, h1.1, h1.2⟩
theorem nextI_none {body : List α} {t : List Nat} {S : List Nm} (h : nextI rd body t S = none) (i : Nat) (hi : i < body.length) (ht : i ∉ t) : rdAt rd body S i = false := by
  have := List.find?_eq_none.1 h i (List.mem_range.2 hi)
  simpa [ht] using this
theorem nextI_congr {body : List α} {t : List Nat} {S T : List Nm} (h : ∀ i, rdAt rd body S i = rdAt rd body T i) : nextI rd body t S = nextI rd body t T := by
  unfold nextI
  congr 1
  funext i
  rw [h i]
theorem mono_congr (hm : Mono rd) {S T : List Nm} (h : ∀ y, y ∈ S ↔ y ∈ T) (body : List α) (i : Nat) : rdAt rd body S i = rdAt rd body T i := by
  unfold rdAt
  cases hb : body[i]? with
  | none => rfl
  | some x =>
    have e : ∀ a b : Bool, (a = true ↔ b = true) → a = b := by decide
    exact e _ _ ⟨hm x S T fun y => (h y).1, hm x T S fun y => (h y).2⟩
/-- The order hangs on which names are bound alone. -/
theorem orderL_congr (hm : Mono rd) {body : List α} : ∀ (n : Nat) (t : List Nat) (S T : List Nm), (∀ y, y ∈ S ↔ y ∈ T) →
    (orderL vs rd body n t S = none ↔ orderL vs rd body n t T = none) ∧ ∀ l U, orderL vs rd body n t S = some (l, U) → ∃ V, orderL vs rd body n t T = some (l, V) ∧ ∀ y, y ∈ U ↔ y ∈ V
  | 0, t, S, T, h => ⟨by simp [orderL], fun l U e => by simp only [orderL, Option.some.injEq, Prod.mk.injEq] at e ⊢; exact ⟨T, ⟨e.1, rfl⟩, fun y => e.2 ▸ h y⟩⟩
  | n + 1, t, S, T, h => by
    unfold orderL
    rw [nextI_congr (mono_congr hm h body)]
    cases hn : nextI rd body t T with
    | none => exact ⟨by simp, fun l U e => by simp at e⟩
    | some i => exact orderL_congr hm n (t ++ [i]) _ _ fun y => by simp [h y]
/-- What an order that is told has. -/
structure Good (vs : α → List Nm) (rd : α → List Nm → Bool) (body : List α) (S : List Nm) (l : List Nat) : Prop where
  lt : ∀ i ∈ l, i < body.length
  nd : l.Nodup
  rd : ∀ k i, l[k]? = some i → rdAt rd body (S ++ (l.take k).flatMap (vsAt vs body)) i = true
theorem Good.snoc {body : List α} {S : List Nm} {l : List Nat} {i : Nat} (h : Good vs rd body S l) (hi : i < body.length) (hn : i ∉ l) (hr : rdAt rd body (S ++ l.flatMap (vsAt vs body)) i = true) : Good vs rd body S (l ++ [i]) where
  lt := fun j hj => by
    rcases List.mem_append.1 hj with hj | hj
    · exact h.lt j hj
    · rw [List.mem_singleton.1 hj]; exact hi
  nd := List.nodup_append.2 ⟨h.nd, by simp, fun a ha b hb e => hn (by rw [List.mem_singleton.1 hb] at e; exact e ▸ ha)⟩
  rd := fun k j hj => by
    rcases Nat.lt_or_ge k l.length with hk | hk
    · rw [List.getElem?_append_left hk] at hj
      rw [List.take_append_of_le_length (Nat.le_of_lt hk)]
      exact h.rd k j hj
    · rw [List.getElem?_append_right hk] at hj
      have hk0 : k - l.length = 0 := by
        rcases Nat.eq_zero_or_pos (k - l.length) with e | e
        · exact e
        · rw [List.getElem?_eq_none (by simp; omega)] at hj; cases hj
      rw [hk0] at hj
      obtain rfl : i = j := by simpa using hj
      have : k = l.length := by omega
      subst this
      rw [List.take_append_of_le_length (Nat.le_refl _), List.take_length]
      exact hr
theorem orderL_good {body : List α} {S0 : List Nm} : ∀ (n : Nat) (t : List Nat) (l : List Nat) (U : List Nm), Good vs rd body S0 t → orderL vs rd body n t (S0 ++ t.flatMap (vsAt vs body)) = some (l, U) →
    Good vs rd body S0 l ∧ U = S0 ++ l.flatMap (vsAt vs body) ∧ l.length = t.length + n
  | 0, t, l, U, hg, e => by
    simp only [orderL, Option.some.injEq, Prod.mk.injEq] at e
    obtain ⟨rfl, rfl⟩ := e
    exact ⟨hg, rfl, rfl⟩
  | n + 1, t, l, U, hg, e => by
    unfold orderL at e
    cases hn : nextI rd body t (S0 ++ t.flatMap (vsAt vs body)) with
    | none => rw [hn] at e; cases e
    | some i =>
      rw [hn] at e
      obtain ⟨h1, h2, h3⟩ := nextI_some hn
      have e2 : S0 ++ t.flatMap (vsAt vs body) ++ vsAt vs body i = S0 ++ (t ++ [i]).flatMap (vsAt vs body) := by simp
      simp only [e2] at e
      obtain ⟨g1, g2, g3⟩ := orderL_good n (t ++ [i]) l U (hg.snoc h1 h2 h3) e
      exact ⟨g1, g2, by rw [g3]; simp; omega⟩
theorem ordL_good {body : List α} {S : List Nm} {l : List Nat} {U : List Nm} (h : ordL vs rd body S = some (l, U)) : Good vs rd body S l ∧ U = S ++ l.flatMap (vsAt vs body) ∧ l.length = body.length := by
  have := orderL_good (S0 := S) body.length [] l U ⟨by simp, by simp, by simp⟩ (by simpa [ordL] using h)
  simpa using this
theorem Good.all {body : List α} {S : List Nm} {l : List Nat} (h : Good vs rd body S l) (hl : l.length = body.length) (i : Nat) (hi : i < body.length) : i ∈ l := by
  rcases Decidable.em (i ∈ l) with h1 | h1
  · exact h1
  · have := nat_nodup_len (i :: l) (List.range body.length) (List.pairwise_cons.2 ⟨fun x hx e => h1 (e ▸ hx), h.nd⟩) (fun x hx => by
      rcases List.mem_cons.1 hx with rfl | hx
      · exact List.mem_range.2 hi
      · exact List.mem_range.2 (h.lt x hx))
    simp at this; omega
theorem vsAt_mem {body : List α} {i : Nat} {y : Nm} : y ∈ vsAt vs body i ↔ ∃ x, body[i]? = some x ∧ y ∈ vs x := by
  unfold vsAt
  cases h : body[i]? with
  | none => simp
  | some x => simp
theorem flat_mem {body : List α} {l : List Nat} {y : Nm} : y ∈ l.flatMap (vsAt vs body) ↔ ∃ i ∈ l, ∃ x, body[i]? = some x ∧ y ∈ vs x := by
  rw [List.mem_flatMap]
  constructor
  · rintro ⟨i, hi, h⟩; exact ⟨i, hi, vsAt_mem.1 h⟩
  · rintro ⟨i, hi, h⟩; exact ⟨i, hi, vsAt_mem.2 h⟩
/-- Behind an order all names are bound. -/
theorem ordL_mem {body : List α} {S : List Nm} {l : List Nat} {U : List Nm} (h : ordL vs rd body S = some (l, U)) (y : Nm) : y ∈ U ↔ y ∈ S ∨ ∃ x ∈ body, y ∈ vs x := by
  obtain ⟨hg, rfl, hl⟩ := ordL_good h
  rw [List.mem_append, flat_mem]
  refine or_congr Iff.rfl ⟨?_, ?_⟩
  · rintro ⟨i, _, x, hx, hy⟩; exact ⟨x, List.mem_of_getElem? hx, hy⟩
  · rintro ⟨x, hx, hy⟩
    obtain ⟨i, hi, e⟩ := List.mem_iff_getElem.1 hx
    exact ⟨i, hg.all hl i hi, x, by rw [List.getElem?_eq_getElem hi, e], hy⟩
/-- Names by which nothing goes on. -/
def Stuck (vs : α → List Nm) (rd : α → List Nm → Bool) (body : List α) (S T : List Nm) : Prop := (∀ y, y ∈ S → y ∈ T) ∧ (∀ x ∈ body, rd x T = true → ∀ y ∈ vs x, y ∈ T) ∧ ∃ x ∈ body, rd x T = false
theorem Stuck.more {body body' : List α} {S S' T : List Nm} (h : Stuck vs rd body S T) (hb : ∀ x, x ∈ body ↔ x ∈ body') (hs : ∀ y, y ∈ S' → y ∈ S) : Stuck vs rd body' S' T :=
  ⟨fun y hy => h.1 y (hs y hy), fun x hx => h.2.1 x ((hb x).2 hx), by obtain ⟨x, hx, e⟩ := h.2.2; exact ⟨x, (hb x).1 hx, e⟩⟩
theorem orderL_stuck (hm : Mono rd) {body : List α} {S0 : List Nm} : ∀ (n : Nat) (t : List Nat), Good vs rd body S0 t → t.length + n = body.length → orderL vs rd body n t (S0 ++ t.flatMap (vsAt vs body)) = none → ∃ T, Stuck vs rd body S0 T
  | 0, t, hg, hl, e => by simp [orderL] at e
  | n + 1, t, hg, hl, e => by
    unfold orderL at e
    cases hn : nextI rd body t (S0 ++ t.flatMap (vsAt vs body)) with
    | some i =>
      rw [hn] at e
      obtain ⟨h1, h2, h3⟩ := nextI_some hn
      have e2 : S0 ++ t.flatMap (vsAt vs body) ++ vsAt vs body i = S0 ++ (t ++ [i]).flatMap (vsAt vs body) := by simp
      simp only [e2] at e
      exact orderL_stuck hm n (t ++ [i]) (hg.snoc h1 h2 h3) (by simp; omega) e
    | none =>
      refine ⟨S0 ++ t.flatMap (vsAt vs body), fun y hy => List.mem_append.2 (.inl hy), fun x hx hr y hy => ?_, ?_⟩
      · obtain ⟨i, hi, ex⟩ := List.mem_iff_getElem.1 hx
        have hx' : body[i]? = some x := by rw [List.getElem?_eq_getElem hi, ex]
        rcases Decidable.em (i ∈ t) with ht | ht
        · exact List.mem_append.2 (.inr (flat_mem.2 ⟨i, ht, x, hx', hy⟩))
        · have := nextI_none hn i hi ht
          unfold rdAt at this
          rw [hx'] at this
          simp only at this
          rw [hr] at this; cases this
      · have hex : ∃ i, i < body.length ∧ i ∉ t := by
          rcases Classical.em (∃ i, i < body.length ∧ i ∉ t) with h | h
          · exact h
          · have := nat_nodup_len (List.range body.length) t List.nodup_range (fun x hx => by
              rcases Decidable.em (x ∈ t) with h1 | h1
              · exact h1
              · exact absurd ⟨x, List.mem_range.1 hx, h1⟩ h)
            simp at this; omega
        obtain ⟨i, hi, ht⟩ := hex
        have := nextI_none hn i hi ht
        unfold rdAt at this
        rw [List.getElem?_eq_getElem hi] at this
        exact ⟨body[i], List.getElem_mem hi, this⟩
theorem ordL_stuck (hm : Mono rd) {body : List α} {S : List Nm} (h : ordL vs rd body S = none) : ∃ T, Stuck vs rd body S T :=
  orderL_stuck hm body.length [] ⟨by simp, by simp, by simp⟩ (by simp) (by simpa [ordL] using h)
theorem stuck_none (hm : Mono rd) {body : List α} {S T : List Nm} (h : Stuck vs rd body S T) : ordL vs rd body S = none := by
  cases e : ordL vs rd body S with
  | none => rfl
  | some r =>
    obtain ⟨l, U⟩ := r
    obtain ⟨hg, _, hl⟩ := ordL_good e
    have key : ∀ k, k ≤ l.length → ∀ y, y ∈ S ++ (l.take k).flatMap (vsAt vs body) → y ∈ T := by
      intro k
      induction k with
      | zero => intro _ y hy; exact h.1 y (by simpa using hy)
      | succ k ih =>
        intro hk y hy
        obtain ⟨i, hi⟩ : ∃ i, l[k]? = some i := ⟨_, List.getElem?_eq_getElem (by omega)⟩
        have e3 : l.take (k + 1) = l.take k ++ [i] := by rw [List.take_add_one, hi]; rfl
        rw [e3, List.flatMap_append, ← List.append_assoc] at hy
        rcases List.mem_append.1 hy with hy | hy
        · exact ih (by omega) y hy
        · have hr := hg.rd k i hi
          simp only [List.flatMap_cons, List.flatMap_nil, List.append_nil] at hy
          obtain ⟨x, hx, hyx⟩ := vsAt_mem.1 hy
          unfold rdAt at hr
          rw [hx] at hr
          exact h.2.1 x (List.mem_of_getElem? hx) (hm x _ _ (ih (by omega)) hr) y hyx
    obtain ⟨x, hx, hf⟩ := h.2.2
    obtain ⟨i, hi, ex⟩ := List.mem_iff_getElem.1 hx
    obtain ⟨k, hk, ek⟩ := List.mem_iff_getElem.1 (hg.all hl i hi)
    have hr := hg.rd k i (by rw [List.getElem?_eq_getElem hk, ek])
    unfold rdAt at hr
    rw [List.getElem?_eq_getElem hi, ex] at hr
    rw [hm x _ _ (key k (by omega)) hr] at hf
    cases hf
/-- Whether there is an order hangs neither on how they stand nor, but for the worse, on what is bound at first. -/
theorem ordL_more (hm : Mono rd) {body body' : List α} {S S' : List Nm} (hb : ∀ x, x ∈ body' ↔ x ∈ body) (hs : ∀ y, y ∈ S → y ∈ S') (h : ordL vs rd body' S' = none) : ordL vs rd body S = none := by
  obtain ⟨T, hT⟩ := ordL_stuck hm h
  exact stuck_none hm (hT.more hb hs)
theorem find_range {n k : Nat} {p : Nat → Bool} (hk : k < n) (hp : p k = true) (h : ∀ i, i < k → p i = false) : (List.range n).find? p = some k := by
  rw [List.find?_eq_some_iff_getElem]
  refine ⟨hp, k, by simpa using hk, by simp, fun j hj => by simp [h j hj]⟩
theorem orderL_range {body : List α} {S0 : List Nm} (h : ∀ k, k < body.length → rdAt rd body (S0 ++ (List.range k).flatMap (vsAt vs body)) k = true) : ∀ (n k : Nat), k + n = body.length →
    orderL vs rd body n (List.range k) (S0 ++ (List.range k).flatMap (vsAt vs body)) = some (List.range body.length, S0 ++ (List.range body.length).flatMap (vsAt vs body))
  | 0, k, e => by
    obtain rfl : k = body.length := by omega
    rfl
  | n + 1, k, e => by
    unfold orderL
    have hn : nextI rd body (List.range k) (S0 ++ (List.range k).flatMap (vsAt vs body)) = some k := find_range (by omega) (by rw [h k (by omega)]; simp) (fun i hi => by simp [hi])
    rw [hn]
    have e2 : S0 ++ (List.range k).flatMap (vsAt vs body) ++ vsAt vs body k = S0 ++ (List.range (k + 1)).flatMap (vsAt vs body) := by simp [List.range_succ]
    have e3 : List.range k ++ [k] = List.range (k + 1) := List.range_succ.symm
    simp only [e2, e3]
    exact orderL_range h n (k + 1) (by omega)
/-- What stands in its order stays so. -/
theorem ordL_again {body : List α} {S : List Nm} {l : List Nat} {U : List Nm} (h : ordL vs rd body S = some (l, U)) (body' : List α) (hb : ∀ k : Nat, body'[k]? = (l[k]?).bind (fun i => body[i]?)) : ∃ V, ordL vs rd body' S = some (List.range body'.length, V) ∧ body'.length = l.length := by
  obtain ⟨hg, _, hl⟩ := ordL_good h
  have hlen : body'.length = l.length := by
    have h1 : ∀ k, k < l.length → k < body'.length := fun k hk => by
      have := hb k
      rw [List.getElem?_eq_getElem hk, Option.bind_some, List.getElem?_eq_getElem (hg.lt _ (List.getElem_mem hk))] at this
      exact (List.getElem?_eq_some_iff.1 this).1
    have h2 : ∀ k, k < body'.length → k < l.length := fun k hk => by
      rcases Nat.lt_or_ge k l.length with h | h
      · exact h
      · have := hb k
        rw [List.getElem?_eq_none h, List.getElem?_eq_getElem hk] at this
        cases this
    rcases Nat.lt_trichotomy body'.length l.length with h | h | h
    · have := h1 _ h; omega
    · exact h
    · have := h2 _ h; omega
  have hv : ∀ k i, l[k]? = some i → vsAt vs body' k = vsAt vs body i := fun k i hk => by unfold vsAt; rw [hb k, hk]; rfl
  have hf : ∀ k, k ≤ l.length → (List.range k).flatMap (vsAt vs body') = (l.take k).flatMap (vsAt vs body) := by
    intro k
    induction k with
    | zero => intro _; simp
    | succ k ih =>
      intro hk
      obtain ⟨i, hi⟩ : ∃ i, l[k]? = some i := ⟨_, List.getElem?_eq_getElem (by omega)⟩
      have e3 : l.take (k + 1) = l.take k ++ [i] := by rw [List.take_add_one, hi]; rfl
      rw [List.range_succ, List.flatMap_append, ih (by omega), e3, List.flatMap_append]
      simp [hv k i hi]
  refine ⟨S ++ (List.range body'.length).flatMap (vsAt vs body'), ?_, hlen⟩
  have := orderL_range (vs := vs) (rd := rd) (body := body') (S0 := S) (fun k hk => by
    obtain ⟨i, hi⟩ : ∃ i, l[k]? = some i := ⟨_, List.getElem?_eq_getElem (by omega)⟩
    rw [hf k (by omega)]
    have := hg.rd k i hi
    unfold rdAt at this ⊢
    rw [hb k, hi]
    exact this) body'.length 0 (by omega)
  simpa [ordL] using this
end
end Go.Proofs.Ytahljmddnfldlaa

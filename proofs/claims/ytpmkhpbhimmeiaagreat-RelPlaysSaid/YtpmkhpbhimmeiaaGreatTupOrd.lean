/-
  The order of tuples, and picking by permutations: plain mathematics.
-/
import Derived.Test.YtpmkhpbhimmeiaaGreatTupMem
import Derived.Test.YtpmkhpbhimmeiaaGreatValOrd
namespace Go.Proofs.YtpmkhpbhimmeiaaGreat
open Go.RowKit FloM ValM
set_option linter.unusedVariables false

/-! ### The order of tuples -/
theorem ord_anti : ∀ a b : List V, ordV b a = -ordV a b
  | [], [] => rfl
  | [], _ :: _ => rfl
  | _ :: _, [] => rfl
  | x :: a, y :: b => by
    unfold ordV
    have h := cmpV_anti x y
    by_cases hz : cmpV x y = 0
    · rw [if_pos hz, if_pos (by omega)]; exact ord_anti a b
    · rw [if_neg hz, if_neg (by omega)]; exact h
theorem cmp_eq {x y : V} (h : cmpV x y = 0) : x = y := by
  rcases cmpV_cases x y with ⟨_, e⟩ | ⟨e, _⟩ | ⟨e, _⟩
  · exact e
  · omega
  · omega
theorem cmp_self (x : V) : cmpV x x = 0 := by have := cmpV_anti x x; omega
theorem ord_zero : ∀ a b : List V, ordV a b = 0 ↔ a = b
  | [], [] => by simp [ordV]
  | [], _ :: _ => by simp [ordV]
  | _ :: _, [] => by simp [ordV]
  | x :: a, y :: b => by
    unfold ordV
    by_cases hz : cmpV x y = 0
    · rw [if_pos hz, ord_zero a b, cmp_eq hz]; simp
    · rw [if_neg hz]
      constructor
      · intro h; exact absurd h hz
      · intro h; injection h with h _; subst h; exact absurd (cmp_self x) hz
theorem ord_trans : ∀ a b c : List V, ordV a b ≤ 0 → ordV b c ≤ 0 → ordV a c ≤ 0
  | [], _, [], _, _ => by simp [ordV]
  | [], _, _ :: _, _, _ => by simp [ordV]
  | _ :: _, [], _, h, _ => by simp [ordV] at h
  | _ :: _, _ :: _, [], _, h => by simp [ordV] at h
  | x :: a, y :: b, z :: c, h1, h2 => by
    unfold ordV at *
    by_cases e1 : cmpV x y = 0
    · have := cmp_eq e1; subst this
      rw [if_pos e1] at h1
      by_cases e2 : cmpV x z = 0
      · rw [if_pos e2] at h2 ⊢; exact ord_trans a b c h1 h2
      · rw [if_neg e2] at h2 ⊢; exact h2
    · rw [if_neg e1] at h1
      by_cases e2 : cmpV y z = 0
      · have := cmp_eq e2; subst this
        rw [if_neg e1]; exact h1
      · rw [if_neg e2] at h2
        have h3 := cmpV_trans x y z h1 h2
        by_cases e3 : cmpV x z = 0
        · exfalso
          have := cmp_eq e3; subst this
          have := cmpV_anti x y
          omega
        · rw [if_neg e3]; exact h3

theorem ord_range : ∀ a b : List V, ordV a b = -1 ∨ ordV a b = 0 ∨ ordV a b = 1
  | [], [] => .inr (.inl rfl)
  | [], _ :: _ => .inl rfl
  | _ :: _, [] => .inr (.inr rfl)
  | x :: a, y :: b => by
    unfold ordV
    by_cases hz : cmpV x y = 0
    · rw [if_pos hz]; exact ord_range a b
    · rw [if_neg hz]
      rcases cmpV_cases x y with ⟨e, _⟩ | ⟨e, _⟩ | ⟨e, _⟩
      · exact absurd e hz
      · exact .inl e
      · exact .inr (.inr e)

theorem ord_app : ∀ (a b x y : List V), a.length = b.length → ordV (a ++ x) (b ++ y) = if ordV a b = 0 then ordV x y else ordV a b
  | [], [], x, y, _ => by simp [ordV]
  | [], _ :: _, _, _, h => by simp at h
  | _ :: _, [], _, _, h => by simp at h
  | u :: a, v :: b, x, y, h => by
    have ih := ord_app a b x y (by simpa using h)
    rw [List.cons_append, List.cons_append]
    by_cases hz : cmpV u v = 0
    · rw [ordV_same hz, ordV_same hz]; exact ih
    · rw [ordV_other hz, ordV_other hz, if_neg hz]
theorem ord_self (a : List V) : ordV a a = 0 := (ord_zero a a).2 rfl

/-! ### Picking by a permutation -/
theorem pick_at {t : List V} : ∀ {p : List Int}, (∀ x ∈ p, inR t.length x = true) → ∀ i : Nat, (pickL t p)[i]? = (p[i]?).bind fun c => t[c.toNat]?
  | [], _, i => by simp [pickL]
  | x :: p, h, i => by
    obtain ⟨v, hv, hc⟩ := col_some (h x (List.mem_cons_self ..))
    rw [pickL_take hc]
    cases i with
    | zero => simp [hv]
    | succ i => simpa using pick_at (fun y hy => h y (List.mem_cons_of_mem _ hy)) i
theorem perm_in {p : List Int} (hp : permB p = true) {n : Nat} (hn : n = p.length) : ∀ x ∈ p, inR n x = true := by subst hn; exact (perm_iff.1 hp).1
theorem pick_perm_len {t : List V} : ∀ {p : List Int}, (∀ x ∈ p, inR t.length x = true) → (pickL t p).length = p.length
  | [], _ => rfl
  | x :: p, h => by
    obtain ⟨v, hv, hc⟩ := col_some (h x (List.mem_cons_self ..))
    rw [pickL_take hc, List.length_cons, List.length_cons, pick_perm_len fun y hy => h y (List.mem_cons_of_mem _ hy)]
theorem perm_place {p : List Int} (hp : permB p = true) {i : Nat} (hi : i < p.length) : ∃ k, p[k]? = some (i : Int) ∧ p.idxOf (i : Int) = k := by
  obtain ⟨k, hk⟩ := List.mem_iff_getElem?.1 (perm_mem hp hi)
  exact ⟨k, hk, idxOf_at (perm_iff.1 hp).2 hk⟩
theorem pick_inj {a b : List V} {p : List Int} (hp : permB p = true) (ha : a.length = p.length) (hb : b.length = p.length) : pickL a p = pickL b p ↔ a = b := by
  constructor
  · intro h
    apply List.ext_getElem?
    intro i
    by_cases hi : i < p.length
    · obtain ⟨k, hk, _⟩ := perm_place hp hi
      have h1 := pick_at (perm_in hp ha) k
      have h2 := pick_at (perm_in hp hb) k
      rw [hk] at h1 h2
      rw [h, h2] at h1
      simpa using h1.symm
    · rw [List.getElem?_eq_none (by omega), List.getElem?_eq_none (by omega)]
  · rintro rfl; rfl
theorem inv_len {p : List Int} (hp : permB p = true) : (invL p).length = p.length := by unfold invL; rw [if_pos hp]; simp
theorem inv_at {p : List Int} (hp : permB p = true) {i : Nat} (hi : i < p.length) : (invL p)[i]? = some (idxI p i) := by
  unfold invL; rw [if_pos hp, List.getElem?_map, List.getElem?_range hi]; rfl
/-- Where p has c at place k, what undoes it has k at place c. -/
theorem inv_put {p : List Int} (hp : permB p = true) {k : Nat} {c : Int} (h : p[k]? = some c) : (invL p)[c.toNat]? = some (k : Int) := by
  have hr := inR_iff.1 ((perm_iff.1 hp).1 c (List.mem_of_getElem? h))
  rw [inv_at hp (by omega)]
  unfold idxI
  rw [show ((c.toNat : Nat) : Int) = c by omega, idxOf_at (perm_iff.1 hp).2 h]
theorem inv_get {p : List Int} (hp : permB p = true) {i : Nat} (hi : i < p.length) : ∃ k : Nat, (invL p)[i]? = some (k : Int) ∧ p[k]? = some (i : Int) := by
  obtain ⟨k, hk, e⟩ := perm_place hp hi
  exact ⟨k, by rw [inv_at hp hi]; unfold idxI; rw [e], hk⟩
theorem inv_perm {p : List Int} (hp : permB p = true) : permB (invL p) = true := by
  rw [perm_has, inv_len hp]
  intro x hx
  have hx' := inR_iff.1 hx
  have hk := List.getElem?_eq_getElem (show x.toNat < p.length by omega)
  have := List.mem_of_getElem? (inv_put hp hk)
  rwa [show ((x.toNat : Nat) : Int) = x by omega] at this
theorem inv_inv {p : List Int} (hp : permB p = true) : invL (invL p) = p := by
  have hq := inv_perm hp
  apply List.ext_getElem?
  intro i
  by_cases hi : i < p.length
  · rw [inv_at hq (by rw [inv_len hp]; exact hi)]
    have hx := List.getElem?_eq_getElem hi
    have hr := inR_iff.1 ((perm_iff.1 hp).1 _ (List.mem_of_getElem? hx))
    rw [hx]
    congr 1
    unfold idxI
    rw [idxOf_at (perm_iff.1 hq).2 (inv_put hp hx)]
    omega
  · rw [List.getElem?_eq_none (by rw [inv_len hq, inv_len hp]; omega), List.getElem?_eq_none (by omega)]
theorem inv_bad {p : List Int} (hp : permB p = false) : invL p = [] := by unfold invL; rw [hp]; rfl
theorem pick_back {t : List V} {p : List Int} (hp : permB p = true) (ht : t.length = p.length) : pickL (pickL t p) (invL p) = t := by
  have hin := perm_in hp ht
  have hlen := pick_perm_len hin
  have hq := perm_in (inv_perm hp) (n := (pickL t p).length) (by rw [hlen, inv_len hp])
  apply List.ext_getElem?
  intro i
  by_cases hi : i < p.length
  · obtain ⟨k, hk, hpk⟩ := inv_get hp hi
    rw [pick_at hq, hk, Option.bind_some, Int.toNat_natCast, pick_at hin, hpk]; simp
  · rw [List.getElem?_eq_none (by rw [pick_perm_len hq, inv_len hp]; omega), List.getElem?_eq_none (by omega)]
theorem pick_forth {t : List V} {p : List Int} (hp : permB p = true) (ht : t.length = p.length) : pickL (pickL t (invL p)) p = t := by
  have := pick_back (t := t) (inv_perm hp) (by rw [inv_len hp]; exact ht)
  rwa [inv_inv hp] at this
theorem pick_head {a b : List V} {p : List Int} (ha : ∀ x ∈ p, inR a.length x = true) (hb : ∀ x ∈ p, inR b.length x = true) (n : Nat) :
    ordV (pickL a p) (pickL b p) = if ordV (pickL a (p.take n)) (pickL b (p.take n)) = 0 then ordV (pickL a (p.drop n)) (pickL b (p.drop n)) else ordV (pickL a (p.take n)) (pickL b (p.take n)) := by
  have e := List.take_append_drop n p
  have h1 := pick_perm_len (t := a) (p := p.take n) fun x hx => ha x (List.mem_of_mem_take hx)
  have h2 := pick_perm_len (t := b) (p := p.take n) fun x hx => hb x (List.mem_of_mem_take hx)
  conv => lhs; rw [← e, pickL_app, pickL_app]
  exact ord_app _ _ _ _ (by rw [h1, h2])
end Go.Proofs.YtpmkhpbhimmeiaaGreat

/-
  Package parse: what comes of a path, and of parentheses: plain mathematics.
-/
import Derived.Test.YtahljmddnfldlaaGreatDoorPrsM
import Derived.Test.YtahljmddnfldlaaGreatDoorLexG
namespace Go.Proofs.YtahljmddnfldlaaGreatDoor
open FloM ValM
set_option linter.unusedVariables false
set_option linter.unusedSimpArgs false
/-! ### Tokens of a text -/
def TokOk (t : Tk) : Prop := t.t ≠ [] ∧ (t.k = 1 → t.t ≠ [40] ∧ t.t ≠ [41])
theorem one_mark {c : UInt8} (h1 : lowC c = false) (h2 : uppC c = false) (h3 : c.toNat ≠ 35) (h4 : digC c = false) (h5 : c.toNat ≠ 45) (hm : markC c = true) {r : List UInt8} (ht : two (c :: r) = false) : firstL (c :: r) = some (4, 1) := by
  have e : measL (c :: r) = (4, 1) := by
    rw [meas_mrk h1 h2 h3 h4 (fun h => absurd h h5), mark_one ht, if_pos hm]
  unfold firstL
  rw [e]; rfl
theorem first_open (r : List UInt8) : firstL (40 :: r) = some (4, 1) := one_mark (by decide) (by decide) (by decide) (by decide) (by decide) (by decide) (by cases r <;> simp [two])
theorem first_close (r : List UInt8) : firstL (41 :: r) = some (4, 1) := one_mark (by decide) (by decide) (by decide) (by decide) (by decide) (by decide) (by cases r <;> simp [two])
theorem tok_ok {l : List UInt8} {a : Nat} {ts : List Tk} (h : toksL a l = .good ts) : ∀ t ∈ ts, TokOk t := fun t ht => by
  have h1 := toks_each _ a l (Nat.le_refl _) ts h t ht
  refine ⟨fun e => ?_, fun hk => ⟨fun e => ?_, fun e => ?_⟩⟩
  · rw [e] at h1
    have := first_pos h1
    simp at this
  · rw [e, first_open] at h1
    injection h1 with h1; injection h1 with h1 _; omega
  · rw [e, first_close] at h1
    injection h1 with h1; injection h1 with h1 _; omega
/-! ### How many ( are open -/
def dst (q : Nat × Nat) (t : Tk) : Nat × Nat := if t.t = [40] then (q.1 + 1, max q.2 (q.1 + 1)) else if t.t = [41] then (q.1 - 1, q.2) else q
def deepL (ts : List Tk) : Nat := (ts.foldl dst (0, 0)).2
def Nest (k : Nat) (u : List Tk) : Prop := ∀ o m, ∃ m', u.foldl dst (o, m) = (o, m') ∧ m' ≤ max m (o + k)
theorem Nest.nil (k : Nat) : Nest k [] := fun o m => ⟨m, rfl, by omega⟩
theorem Nest.app {k : Nat} {u v : List Tk} (h : Nest k u) (g : Nest k v) : Nest k (u ++ v) := fun o m => by
  obtain ⟨m1, e1, l1⟩ := h o m
  obtain ⟨m2, e2, l2⟩ := g o m1
  exact ⟨m2, by rw [List.foldl_append, e1, e2], by omega⟩
theorem Nest.one {k : Nat} {t : Tk} (h : t.t ≠ [40]) (g : t.t ≠ [41]) : Nest k [t] := fun o m => ⟨m, by simp [dst, h, g], by omega⟩
theorem Nest.par {k : Nat} {u : List Tk} {a b : Tk} (h : Nest k u) (ha : a.t = [40]) (hb : b.t = [41]) : Nest (k + 1) (a :: (u ++ [b])) := fun o m => by
  obtain ⟨m1, e1, l1⟩ := h (o + 1) (max m (o + 1))
  refine ⟨m1, ?_, by omega⟩
  have e2 : dst (o, m) a = (o + 1, max m (o + 1)) := by unfold dst; rw [if_pos ha]
  have e3 : dst (o + 1, m1) b = (o, m1) := by unfold dst; rw [if_neg (by rw [hb]; decide), if_pos hb]; rfl
  rw [List.foldl_cons, List.foldl_append, e2, e1, List.foldl_cons, e3]; rfl
/-! ### Steps as they must stand -/
def stF (n : Nat) (s : St) : Option Nat :=
  if (decide (s.l = []) != decide (2 < s.k)) = true then none
  else if s.k = 1 ∨ s.k = 2 then some (n + 1) else if s.k = 3 ∨ s.k = 4 then (if n < 2 then none else some (n - 1)) else if n < 1 then none else some n
def okF : Nat → List St → Option Nat
  | n, [] => some n
  | n, s :: r => (stF n s).bind fun m => okF m r
theorem ok_app (n : Nat) (a b : List St) : okF n (a ++ b) = (okF n a).bind fun m => okF m b := by
  induction a generalizing n with
  | nil => rfl
  | cons s a ih =>
    simp only [List.cons_append, okF]
    cases stF n s with
    | none => rfl
    | some m => exact ih m
def PostOk (s : List St) : Prop := ∀ n, okF n s = some (n + 1)
theorem PostOk.unary {s : List St} {k : Nat} (h : PostOk s) (hk : 4 < k) : PostOk (s ++ [⟨k, []⟩]) := fun n => by
  rw [ok_app, h n]
  simp only [Option.bind, okF]
  unfold stF
  rw [if_neg (by simp; omega), if_neg (by simp only; omega), if_neg (by simp only; omega), if_neg (by omega)]
theorem PostOk.binary {s u : List St} {k : Nat} (h : PostOk s) (g : PostOk u) (hk : k = 3 ∨ k = 4) : PostOk (s ++ u ++ [⟨k, []⟩]) := fun n => by
  rw [ok_app, ok_app, h n]
  simp only [Option.bind]
  rw [g (n + 1)]
  simp only [okF]
  unfold stF
  rw [if_neg (by simp; omega), if_neg (by simp only; omega), if_pos (by simp only; omega), if_neg (by omega)]
  rfl
theorem PostOk.leaf {k : Nat} {l : List UInt8} (hl : l ≠ []) (hk : k = 1 ∨ k = 2) : PostOk [⟨k, l⟩] := fun n => by
  simp only [okF]
  unfold stF
  rw [if_neg (by simp [hl]; omega), if_pos (by simp only; omega)]
  rfl
def NestOk (k : Nat) (f : Ps (List St)) : Prop := ∀ z ts s r, (∀ t ∈ ts, TokOk t) → f z ts = .ok s r → ∃ u, ts = u ++ r ∧ Nest k u ∧ PostOk s
theorem stars_nest {k : Nat} : ∀ (ts : List Tk) (acc : List St), PostOk acc → ∃ u, ts = u ++ (starsL acc ts).2 ∧ Nest k u ∧ PostOk (starsL acc ts).1
  | [], acc, h => ⟨[], rfl, Nest.nil _, h⟩
  | t :: r, acc, h => by
    unfold starsL
    split
    · rename_i j hj
      have hjk : 4 < j ∧ t.t ≠ [40] ∧ t.t ≠ [41] := by
        unfold starK at hj
        split at hj
        · rename_i e; injection hj with hj; rw [e]; exact ⟨by omega, by decide, by decide⟩
        split at hj
        · rename_i e; injection hj with hj; rw [e]; exact ⟨by omega, by decide, by decide⟩
        split at hj
        · rename_i e; injection hj with hj; rw [e]; exact ⟨by omega, by decide, by decide⟩
        · cases hj
      obtain ⟨u, e, h1, h2⟩ := stars_nest (k := k) r (acc ++ [⟨j, []⟩]) (h.unary hjk.1)
      exact ⟨t :: u, by rw [List.cons_append, ← e], by exact (Nest.one hjk.2.1 hjk.2.2).app h1, h2⟩
    · exact ⟨[], rfl, Nest.nil _, h⟩
theorem NestOk.part {k : Nat} {op : Ps (List St)} (h : NestOk k op) : NestOk k (partP op) := fun z ts s r ht e => by
  obtain ⟨a, r', e1, e2⟩ := bind_ok e
  obtain ⟨u, e3, h1, h2⟩ := h z ts a r' ht e1
  obtain ⟨v, e4, h3, h4⟩ := stars_nest (k := k) r' a h2
  cases e2
  exact ⟨u ++ v, by rw [List.append_assoc, ← e4, e3], h1.app h3, h4⟩
theorem seqL_nest {k : Nat} {m : List UInt8} {j : Nat} {op : Ps (List St)} (h : NestOk k op) (hm : m ≠ [] ∧ m ≠ [40] ∧ m ≠ [41]) (hj : j = 3 ∨ j = 4) {z : Nat} : ∀ (n : Nat) (acc : List St) (ts : List Tk) (s : List St) (r : List Tk), (∀ t ∈ ts, TokOk t) → PostOk acc → seqL m j op z n acc ts = .ok s r → ∃ u, ts = u ++ r ∧ Nest k u ∧ PostOk s
  | 0, acc, ts, s, r, ht, ha, e => by cases e; exact ⟨[], rfl, Nest.nil _, ha⟩
  | n + 1, acc, ts, s, r, ht, ha, e => by
    unfold seqL at e
    split at e
    · rename_i hh
      obtain ⟨t, q, rfl⟩ : ∃ t q, ts = t :: q := ⟨_, _, hd_tail hh hm.1⟩
      simp only [hdT] at hh
      simp only [List.tail_cons] at e
      obtain ⟨a, r', e1, e2⟩ := bind_ok e
      have htq : ∀ x ∈ q, TokOk x := fun x hx => ht x (List.mem_cons_of_mem _ hx)
      obtain ⟨u, e3, h1, h2⟩ := h z _ a r' htq e1
      have htr : ∀ x ∈ r', TokOk x := fun x hx => htq x (by rw [e3]; exact List.mem_append_right _ hx)
      obtain ⟨v, e4, h3, h4⟩ := seqL_nest h hm hj n _ r' s r htr (ha.binary h2 hj) e2
      refine ⟨t :: (u ++ v), by rw [e3, e4]; simp, ?_, h4⟩
      exact (Nest.one (by rw [hh]; exact hm.2.1) (by rw [hh]; exact hm.2.2)).app (h1.app h3)
    · cases e; exact ⟨[], rfl, Nest.nil _, ha⟩
theorem NestOk.sequ {k : Nat} {m : List UInt8} {j : Nat} {op : Ps (List St)} (h : NestOk k op) (hm : m ≠ [] ∧ m ≠ [40] ∧ m ≠ [41]) (hj : j = 3 ∨ j = 4) : NestOk k (sequP m j op) := fun z ts s r ht e => by
  obtain ⟨a, r', e1, e2⟩ := bind_ok e
  obtain ⟨u, e3, h1, h2⟩ := h z ts a r' ht e1
  have htr : ∀ x ∈ r', TokOk x := fun x hx => ht x (by rw [e3]; exact List.mem_append_right _ hx)
  obtain ⟨v, e4, h3, h4⟩ := seqL_nest h hm hj _ _ _ _ _ htr h2 e2
  exact ⟨u ++ v, by rw [List.append_assoc, ← e4, e3], h1.app h3, h4⟩
def NestI (k : Nat) (inner : Option (Ps (List St))) : Prop := ∀ f, inner = some f → ∃ j, k = j + 1 ∧ NestOk j f
theorem pred_tok {t : Tk} (h : predT t = true) : t.k = 1 ∧ keyL t.t = false := by
  unfold predT at h
  simp only [Bool.and_eq_true, beq_iff_eq, Bool.not_eq_true'] at h
  exact h
theorem NestOk.oper {k : Nat} {inner : Option (Ps (List St))} (h : NestI k inner) : NestOk k (operP inner) := fun z ts s r ht e => by
  unfold operP at e
  split at e
  · rename_i hh
    obtain ⟨t, q, rfl⟩ : ∃ t q, ts = t :: q := ⟨_, _, hd_tail hh (by simp)⟩
    simp only [hdT] at hh
    simp only [List.tail_cons] at e
    cases inner with
    | none => cases e
    | some f =>
      obtain ⟨j, rfl, hf⟩ := h f rfl
      obtain ⟨a, r1, e1, e2⟩ := bind_ok e
      obtain ⟨t2, r2, e3, e4⟩ := bind_ok e2
      obtain ⟨u, e5, h1, h2⟩ := hf z _ a r1 (fun x hx => ht x (List.mem_cons_of_mem _ hx)) e1
      obtain ⟨e6, h6⟩ := need_len e3
      cases e4
      refine ⟨t :: (u ++ [t2]), by rw [e5, e6]; simp, h1.par hh ?_, h2⟩
      unfold isX at h6; exact beq_iff_eq.1 h6
  · split at e
    · rename_i hh
      obtain ⟨t, q, rfl⟩ : ∃ t q, ts = t :: q := ⟨_, _, hd_tail hh (by simp)⟩
      simp only [hdT] at hh
      simp only [List.tail_cons] at e
      obtain ⟨t2, r1, e1, e2⟩ := bind_ok e
      obtain ⟨e3, h3⟩ := need_len e1
      have hp := pred_tok h3
      have hok := ht t2 (by rw [e3]; simp)
      cases e2
      refine ⟨[t, t2], by rw [e3]; rfl, ?_, PostOk.leaf hok.1 (.inr rfl)⟩
      exact (Nest.one (k := k) (by rw [hh]; decide) (by rw [hh]; decide)).app (Nest.one (hok.2 hp.1).1 (hok.2 hp.1).2)
    · obtain ⟨t2, r1, e1, e2⟩ := bind_ok e
      obtain ⟨e3, h3⟩ := need_len e1
      have hp := pred_tok h3
      have hok := ht t2 (by rw [e3]; simp)
      cases e2
      exact ⟨[t2], by rw [e3]; rfl, Nest.one (hok.2 hp.1).1 (hok.2 hp.1).2, PostOk.leaf hok.1 (.inl rfl)⟩
theorem NestOk.path {k : Nat} {inner : Option (Ps (List St))} (h : NestI k inner) : NestOk k (pathB inner) := fun z ts s r ht e => by
  obtain ⟨a, r1, e1, e2⟩ := bind_ok e
  have h1 := (((NestOk.oper h).part.sequ (m := [47]) (j := 3) (by decide) (.inl rfl)).sequ (m := [124]) (j := 4) (by decide) (.inr rfl)) z ts a r1 ht e1
  split at e2
  · cases e2
  · cases e2; exact h1
theorem nestI : ∀ k, NestI k (innerP k)
  | 0 => fun f e => by cases e
  | k + 1 => fun f e => by
    cases e
    rw [pathP_eq]
    exact ⟨k, rfl, NestOk.path (nestI k)⟩
theorem path_nest (k : Nat) : NestOk k (pathP k) := by rw [pathP_eq]; exact NestOk.path (nestI k)
theorem path_few {k z : Nat} {ts r : List Tk} {s : List St} (h : pathP k z ts = .ok s r) : s.length ≤ 100 := by
  rw [pathP_eq] at h
  obtain ⟨a, r1, e1, e2⟩ := bind_ok h
  split at e2
  · cases e2
  · cases e2; omega
theorem whole_ok {α : Type} {f : Ps α} {z : Nat} {ts r : List Tk} {x : α} (h : wholeP f z ts = .ok x r) : f z ts = .ok x [] := by
  obtain ⟨a, r1, e1, e2⟩ := bind_ok h
  cases r1 with
  | nil => cases e2; exact e1
  | cons t r1 => cases e2
/-! ### A name in parentheses -/
theorem toks_mark {c : UInt8} {r : List UInt8} (hs : sepC c = false) (h : firstL (c :: r) = some (4, 1)) (a : Nat) : toksL a (c :: r) = (toksL (a + 1) r).pre ⟨4, [c], a⟩ := by
  have h0 : spanL sepC (c :: r) = 0 := span_no hs
  have := toks_more (a := a) (l := c :: r) (k := 4) (n := 1) (by rw [h0]; exact h)
  rw [h0] at this
  exact this
end Go.Proofs.YtahljmddnfldlaaGreatDoor

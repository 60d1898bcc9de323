/-
  Package parse: what comes of a path, and of parentheses: plain mathematics.
-/
import Derived.Test.YtdolhlbkhhnpmaaDoorPrsM
import Derived.Test.YtdolhlbkhhnpmaaDoorLexG
namespace Go.Proofs.YtdolhlbkhhnpmaaDoor
open FloM ValM
set_option linter.unusedVariables false
set_option linter.unusedSimpArgs false
/-! ### Tokens of a text -/
def TokOk (t : Tk) : Prop := t.t ≠ [] ∧ (t.k = 1 → t.t ≠ [40] ∧ t.t ≠ [41])
theorem one_mark {c : UInt8} (h1 : lowC c = false) (h2 : uppC c = false) (h3 : c.toNat ≠ 35) (h4 : digC c = false) (h5 : c.toNat ≠ 45) (hm : markC c = true) {r : List UInt8} (ht : two (c :: r) = false) : firstL (c :: r) = some (4, 1) := by
  have e : measL (c :: r) = (4, 1) := by
    rw [meas_mrk h1 h2 h3 h4 (fun h => absurd h h5), mark_one ht, if_pos hm]
  unfold firstL
  rw [e]; rfl
theorem first_open (r : List UInt8) : firstL (40 :: r) = some (4, 1) := one_mark (by decide) (by decide) (by decide) (by decide) (by decide) (by decide) (by cases r <;> simp [two])
theorem first_close (r : List UInt8) : firstL (41 :: r) = some (4, 1) := one_mark (by decide) (by decide) (by decide) (by decide) (by decide) (by decide) (by cases r <;> simp [two])
theorem tok_ok {l : List UInt8} {a : Nat} {ts : List Tk} (h : toksL a l = .good ts) : ∀ t ∈ ts, TokOk t := fun t ht => by
  have h1 := toks_each _ a l (Nat.le_refl _) ts h t ht
  refine ⟨fun e => ?_, fun hk => ⟨fun e => ?_, fun e => ?_⟩⟩
  · rw [e] at h1
    have := first_pos h1
    simp at this
  · rw [e, first_open] at h1
    injection h1 with h1; injection h1 with h1 _; omega
  · rw [e, first_close] at h1
    injection h1 with h1; injection h1 with h1 _; omega
/-! ### How many ( are open -/
def dst (q : Nat × Nat) (t : Tk) : Nat × Nat := if t.t = [40] then (q.1 + 1, max q.2 (q.1 + 1)) else if t.t = [41] then (q.1 - 1, q.2) else q
def deepL (ts : List Tk) : Nat := (ts.foldl dst (0, 0)).2
def Nest (k : Nat) (u : List Tk) : Prop := ∀ o m, ∃ m', u.foldl dst (o, m) = (o, m') ∧ m' ≤ max m (o + k)
theorem Nest.nil (k : Nat) : Nest k [] := fun o m => ⟨m, rfl, by omega⟩
theorem Nest.app {k : Nat} {u v : List Tk} (h : Nest k u) (g : Nest k v) : Nest k (u ++ v) := fun o m => by
  obtain ⟨m1, e1, l1⟩ := h o m
  obtain ⟨m2, e2, l2⟩ := g o m1
  exact ⟨m2, by rw [List.foldl_append, e1, e2], by omega⟩
theorem Nest.one {k : Nat} {t : Tk} (h : t.t ≠ [40]) (g : t.t ≠ [41]) : Nest k [t] := fun o m => ⟨m, by simp [dst, h, g], by omega⟩
theorem Nest.par {k : Nat} {u : List Tk} {a b : Tk} (h : Nest k u) (ha : a.t = [40]) (hb : b.t = [41]) : Nest (k + 1) (a :: (u ++ [b])) := fun o m => by
  obtain ⟨m1, e1, l1⟩ := h (o + 1) (max m (o + 1))
  refine ⟨m1, ?_, by omega⟩
  have e2 : dst (o, m) a = (o + 1, max m (o + 1)) := by unfold dst; rw [if_pos ha]
  have e3 : dst (o + 1, m1) b = (o, m1) := by unfold dst; rw [if_neg (by rw [hb]; decide), if_pos hb]; rfl
  rw [List.foldl_cons, List.foldl_append, e2, e1, List.foldl_cons, e3]; rfl
/-! ### Steps as they must stand -/
def stF (n : Nat) (s : St) : Option Nat :=
  if (decide (s.l = []) != decide (2 < s.k)) = true then none
  else if s.k = 1 ∨ s.k = 2 then some (n + 1) else if s.k = 3 ∨ s.k = 4 then (if n < 2 then none else some (n - 1)) else if n < 1 then none else some n
def okF : Nat → List St → Option Nat
  | n, [] => some n
  | n, s :: r => (stF n s).bind fun m => okF m r
theorem ok_app (n : Nat) (a b : List St) : okF n (a ++ b) = (okF n a).bind fun m => okF m b := by
  induction a generalizing n with
  | nil => rfl
  | cons s a ih =>
    simp only [List.cons_append, okF]
    cases stF n s with
    | none => rfl
    | some m => exact ih m
def PostOk (s : List St) : Prop := ∀ n, okF n s = some (n + 1)
theorem PostOk.unary {s : List St} {k : Nat} (h : PostOk s) (hk : 4 < k) : PostOk (s ++ [⟨k, []⟩]) := fun n => by
  rw [ok_app, h n]
  simp only [Option.bind, okF]
  unfold stF
  rw [if_neg (by simp; omega), if_neg (by simp only; omega), if_neg (by simp only; omega), if_neg (by omega)]
theorem PostOk.binary {s u : List St} {k : Nat} (h : PostOk s) (g : PostOk u) (hk : k = 3 ∨ k = 4) : PostOk (s ++ u ++ [⟨k, []⟩]) := fun n => by
  rw [ok_app, ok_app, h n]
  simp only [Option.bind]
  rw [g (n + 1)]
  simp only [okF]
  unfold stF
  rw [if_neg (by simp; omega), if_neg (by simp only; omega), if_pos (by simp only; omega), if_neg (by omega)]
  rfl
theorem PostOk.leaf {k : Nat} {l : List UInt8} (hl : l ≠ []) (hk : k = 1 ∨ k = 2) : PostOk [⟨k, l⟩] := fun n => by
  simp only [okF]
  unfold stF
  rw [if_neg (by simp [hl]; omega), if_pos (by simp only; omega)]
  rfl
def NestOk (k : Nat) (f : Ps (List St)) : Prop := ∀ z ts s r, (∀ t ∈ ts, TokOk t) → f z ts = .ok s r → ∃ u, ts = u ++ r ∧ Nest k u ∧ PostOk s
theorem stars_nest {k : Nat} : ∀ (ts : List Tk) (acc : List St), PostOk acc → ∃ u, ts = u ++ (starsL acc ts).2 ∧ Nest k u ∧ PostOk (starsL acc ts).1
  | [], acc, h => ⟨[], rfl, Nest.nil _, h⟩
  | t :: r, acc, h => by
    unfold starsL
    split
    · rename_i j hj
      have hjk : 4 < j ∧ t.t ≠ [40] ∧ t.t ≠ [41] := by
        unfold starK at hj
        split at hj
        · rename_i e; injection hj with hj; rw [e]; exact ⟨by omega, by decide, by decide⟩
        split at hj
        · rename_i e; injection hj with hj; rw [e]; exact ⟨by omega, by decide, by decide⟩
        split at hj
        · rename_i e; injection hj with hj; rw [e]; exact ⟨by omega, by decide, by decide⟩
        · cases hj
      obtain ⟨u, e, h1, h2⟩ := stars_nest (k := k) r (acc ++ [⟨j, []⟩]) (h.unary hjk.1)
      exact ⟨t :: u, by rw [List.cons_append, ← e], by exact (Nest.one hjk.2.1 hjk.2.2).app h1, h2⟩
    · exact ⟨[], rfl, Nest.nil _, h⟩
theorem NestOk.part {k : Nat} {op : Ps (List St)} (h : NestOk k op) : NestOk k (partP op) := fun z ts s r ht e => by
  obtain ⟨a, r', e1, e2⟩ := bind_ok e
  obtain ⟨u, e3, h1, h2⟩ := h z ts a r' ht e1
  obtain ⟨v, e4, h3, h4⟩ := stars_nest (k := k) r' a h2
  cases e2
  exact ⟨u ++ v, by rw [List.append_assoc, ← e4, e3], h1.app h3, h4⟩
theorem seqL_nest {k : Nat} {m : List UInt8} {j : Nat} {op : Ps (List St)} (h : NestOk k op) (hm : m ≠ [] ∧ m ≠ [40] ∧ m ≠ [41]) (hj : j = 3 ∨ j = 4) {z : Nat} : ∀ (n : Nat) (acc : List St) (ts : List Tk) (s : List St) (r : List Tk), (∀ t ∈ ts, TokOk t) → PostOk acc → seqL m j op z n acc ts = .ok s r → ∃ u, ts = u ++ r ∧ Nest k u ∧ PostOk s
  | 0, acc, ts, s, r, ht, ha, e => by cases e; exact ⟨[], rfl, Nest.nil _, ha⟩
  | n + 1, acc, ts, s, r, ht, ha, e => by
    unfold seqL at e
    split at e
    · rename_i hh
      obtain ⟨t, q, rfl⟩ : ∃ t q, ts = t :: q := ⟨_, _, hd_tail hh hm.1⟩
      simp only [hdT] at hh
      simp only [List.tail_cons] at e
      obtain ⟨a, r', e1, e2⟩ := bind_ok e
      have htq : ∀ x ∈ q, TokOk x := fun x hx => ht x (List.mem_cons_of_mem _ hx)
      obtain ⟨u, e3, h1, h2⟩ := h z _ a r' htq e1
      have htr : ∀ x ∈ r', TokOk x := fun x hx => htq x (by rw [e3]; exact List.mem_append_right _ hx)
      obtain ⟨v, e4, h3, h4⟩ := seqL_nest h hm hj n _ r' s r htr (ha.binary h2 hj) e2
      refine ⟨t :: (u ++ v), by rw [e3, e4]; simp, ?_, h4⟩
      exact (Nest.one (by rw [hh]; exact hm.2.1) (by rw [hh]; exact hm.2.2)).app (h1.app h3)
    · cases e; exact ⟨[], rfl, Nest.nil _, ha⟩
theorem NestOk.sequ {k : Nat} {m : List UInt8} {j : Nat} {op : Ps (List St)} (h : NestOk k op) (hm : m ≠ [] ∧ m ≠ [40] ∧ m ≠ [41]) (hj : j = 3 ∨ j = 4) : NestOk k (sequP m j op) := fun z ts s r ht e => by
  obtain ⟨a, r', e1, e2⟩ := bind_ok e
  obtain ⟨u, e3, h1, h2⟩ := h z ts a r' ht e1
  have htr : ∀ x ∈ r', TokOk x := fun x hx => ht x (by rw [e3]; exact List.mem_append_right _ hx)
  obtain ⟨v, e4, h3, h4⟩ := seqL_nest h hm hj _ _ _ _ _ htr h2 e2
  exact ⟨u ++ v, by rw [List.append_assoc, ← e4, e3], h1.app h3, h4⟩
def NestI (k : Nat) (inner : Option (Ps (List St))) : Prop := ∀ f, inner = some f → ∃ j, k = j + 1 ∧ NestOk j f
theorem pred_tok {t : Tk} (h : predT t = true) : t.k = 1 ∧ keyL t.t = false := by
  unfold predT at h
  simp only [Bool.and_eq_true, beq_iff_eq, Bool.not_eq_true'] at h
  exact h
theorem NestOk.oper {k : Nat} {inner : Option (Ps (List St))} (h : NestI k inner) : NestOk k (operP inner) := fun z ts s r ht e => by
  unfold operP at e
  split at e
  · rename_i hh
    obtain ⟨t, q, rfl⟩ : ∃ t q, ts = t :: q := ⟨_, _, hd_tail hh (by simp)⟩
    simp only [hdT] at hh
    simp only [List.tail_cons] at e
    cases inner with
    | none => cases e
    | some f =>
      obtain ⟨j, rfl, hf⟩ := h f rfl
      obtain ⟨a, r1, e1, e2⟩ := bind_ok e
      obtain ⟨t2, r2, e3, e4⟩ := bind_ok e2
      obtain ⟨u, e5, h1, h2⟩ := hf z _ a r1 (fun x hx => ht x (List.mem_cons_of_mem _ hx)) e1
      obtain ⟨e6, h6⟩ := need_len e3
      cases e4
      refine ⟨t :: (u ++ [t2]), by rw [e5, e6]; simp, h1.par hh ?_, h2⟩
      unfold isX at h6; exact beq_iff_eq.1 h6
  · split at e
    · rename_i hh
      obtain ⟨t, q, rfl⟩ : ∃ t q, ts = t :: q := ⟨_, _, hd_tail hh (by simp)⟩
      simp only [hdT] at hh
      simp only [List.tail_cons] at e
      obtain ⟨t2, r1, e1, e2⟩ := bind_ok e
      obtain ⟨e3, h3⟩ := need_len e1
      have hp := pred_tok h3
      have hok := ht t2 (by rw [e3]; simp)
      cases e2
      refine ⟨[t, t2], by rw [e3]; rfl, ?_, PostOk.leaf hok.1 (.inr rfl)⟩
      exact (Nest.one (k := k) (by rw [hh]; decide) (by rw [hh]; decide)).app (Nest.one (hok.2 hp.1).1 (hok.2 hp.1).2)
    · obtain ⟨t2, r1, e1, e2⟩ := bind_ok e
      obtain ⟨e3, h3⟩ := need_len e1
      have hp := pred_tok h3
      have hok := ht t2 (by rw [e3]; simp)
      cases e2
      exact ⟨[t2], by rw [e3]; rfl, Nest.one (hok.2 hp.1).1 (hok.2 hp.1).2, PostOk.leaf hok.1 (.inl rfl)⟩
theorem NestOk.path {k : Nat} {inner : Option (Ps (List St))} (h : NestI k inner) : NestOk k (pathB inner) := fun z ts s r ht e => by
  obtain ⟨a, r1, e1, e2⟩ := bind_ok e
  have h1 := (((NestOk.oper h).part.sequ (m := [47]) (j := 3) (by decide) (.inl rfl)).sequ (m := [124]) (j := 4) (by decide) (.inr rfl)) z ts a r1 ht e1
  split at e2
  · cases e2
  · cases e2; exact h1
theorem nestI : ∀ k, NestI k (innerP k)
  | 0 => fun f e => by cases e
  | k + 1 => fun f e => by
    cases e
    rw [pathP_eq]
    exact ⟨k, rfl, NestOk.path (nestI k)⟩
theorem path_nest (k : Nat) : NestOk k (pathP k) := by rw [pathP_eq]; exact NestOk.path (nestI k)
theorem path_few {k z : Nat} {ts r : List Tk} {s : List St} (h : pathP k z ts = .ok s r) : s.length ≤ 100 := by
  rw [pathP_eq] at h
  obtain ⟨a, r1, e1, e2⟩ := bind_ok h
  split at e2
  · cases e2
  · cases e2; omega
/-- A text's path; or where it is wrong, and the error. -/
def pathS (z : Nat) (R : Rs) : Ans (List St) := match R with
  | .bad n => .no n 2
  | .good ts => wholeP (pathP 32) z ts
theorem whole_ok {α : Type} {f : Ps α} {z : Nat} {ts r : List Tk} {x : α} (h : wholeP f z ts = .ok x r) : f z ts = .ok x [] := by
  obtain ⟨a, r1, e1, e2⟩ := bind_ok h
  cases r1 with
  | nil => cases e2; exact e1
  | cons t r1 => cases e2
theorem paths_good {z : Nat} {R : Rs} {s : List St} {r : List Tk} (h : pathS z R = .ok s r) (hR : ∀ ts, R = .good ts → ∀ t ∈ ts, TokOk t) : ∃ ts, R = .good ts ∧ pathP 32 z ts = .ok s [] ∧ PostOk s ∧ s.length ≤ 100 ∧ deepL ts ≤ 32 := by
  cases R with
  | bad n => cases h
  | good ts =>
    have h1 := whole_ok h
    obtain ⟨u, e, h2, h3⟩ := path_nest 32 z ts s [] (hR ts rfl) h1
    refine ⟨ts, rfl, h1, h3, path_few h1, ?_⟩
    rw [List.append_nil] at e; subst e
    obtain ⟨m, e1, e2⟩ := h2 0 0
    unfold deepL; rw [e1]; simpa using e2
/-! ### A name in parentheses -/
def opens : Nat → Nat → List Tk
  | _, 0 => []
  | a, n + 1 => ⟨4, [40], a⟩ :: opens (a + 1) n
def closes : Nat → Nat → List Tk
  | _, 0 => []
  | a, n + 1 => ⟨4, [41], a⟩ :: closes (a + 1) n
theorem toks_mark {c : UInt8} {r : List UInt8} (hs : sepC c = false) (h : firstL (c :: r) = some (4, 1)) (a : Nat) : toksL a (c :: r) = (toksL (a + 1) r).pre ⟨4, [c], a⟩ := by
  have h0 : spanL sepC (c :: r) = 0 := span_no hs
  have := toks_more (a := a) (l := c :: r) (k := 4) (n := 1) (by rw [h0]; exact h)
  rw [h0] at this
  exact this
theorem toks_closes : ∀ (n a : Nat), toksL a (List.replicate n 41) = .good (closes a n)
  | 0, a => toks_end rfl
  | n + 1, a => by
    rw [List.replicate_succ, toks_mark (by decide) (first_close _), toks_closes n (a + 1)]; rfl
theorem low_nest {c : UInt8} (hc : c = 97 ∨ c = 98 ∨ c = 99) (n a : Nat) : toksL a (c :: List.replicate n 41) = .good (⟨1, [c], a⟩ :: closes (a + 1) n) := by
  have hl : lowC c = true := by rcases hc with rfl | rfl | rfl <;> decide
  have hw : wordC c = true := by rcases hc with rfl | rfl | rfl <;> decide
  have hs : sepC c = false := by rcases hc with rfl | rfl | rfl <;> decide
  have hn : okL 1 [c] = true := by rcases hc with rfl | rfl | rfl <;> decide
  have h0 : spanL sepC (c :: List.replicate n 41) = 0 := span_no hs
  have h1 : spanL wordC (c :: List.replicate n 41) = 1 := by
    rw [span_yes hw]
    cases n with
    | zero => rfl
    | succ n => rw [List.replicate_succ, span_no (by decide)]
  have hf : firstL (c :: List.replicate n 41) = some (1, 1) := by
    have e : measL (c :: List.replicate n 41) = (1, 1) := by rw [meas_low hl, h1]
    unfold firstL; rw [e]; exact if_pos hn
  have := toks_more (a := a) (l := c :: List.replicate n 41) (k := 1) (n := 1) (by rw [h0]; exact hf)
  rw [h0] at this
  rw [this]
  simp only [Nat.add_zero, Nat.zero_add, List.drop_succ_cons, List.drop_zero, List.take_succ_cons, List.take_zero]
  rw [toks_closes]; rfl
theorem toks_nest {c : UInt8} (hc : c = 97 ∨ c = 98 ∨ c = 99) (m : Nat) : ∀ (n a : Nat), toksL a (List.replicate n 40 ++ c :: List.replicate m 41) = .good (opens a n ++ ⟨1, [c], a + n⟩ :: closes (a + n + 1) m)
  | 0, a => low_nest hc m a
  | n + 1, a => by
    rw [List.replicate_succ, List.cons_append, toks_mark (by decide) (first_open _), toks_nest hc m n (a + 1), show a + 1 + n = a + (n + 1) by omega]; rfl
theorem key_abc {c : UInt8} (hc : c = 97 ∨ c = 98 ∨ c = 99) : keyL [c] = false := by rcases hc with rfl | rfl | rfl <;> decide
/-- No mark of a path follows. -/
def Calm4 (l : List UInt8) : Prop := starK l = none ∧ l ≠ [47] ∧ l ≠ [124]
theorem calm_path {inner : Option (Ps (List St))} {z : Nat} {ts r : List Tk} {s : List St} (h : operP inner z ts = .ok s r) (hr : Calm4 (hdT z r).t) (hl : s.length ≤ 100) : pathB inner z ts = .ok s r := by
  have h1 : partP (operP inner) z ts = .ok s r := by
    unfold partP; rw [h]
    simp only [Ans.bind]
    cases r with
    | nil => rfl
    | cons t r => have := hr.1; simp only [hdT] at this; unfold starsL; rw [this]
  have h2 : altP inner z ts = .ok s r := by
    unfold altP sequP; rw [h1]
    simp only [Ans.bind]
    unfold many seqL; rw [if_neg hr.2.1]
  unfold pathB sequP; rw [h2]
  simp only [Ans.bind]
  unfold many seqL; rw [if_neg hr.2.2]
  simp only [Ans.bind]
  rw [if_neg (by omega)]
theorem bad_path {inner : Option (Ps (List St))} {z a k : Nat} {ts : List Tk} (h : operP inner z ts = .no a k) : pathB inner z ts = .no a k := by
  have h1 : partP (operP inner) z ts = .no a k := by unfold partP; rw [h]; rfl
  have h2 : altP inner z ts = .no a k := by unfold altP sequP; rw [h1]; rfl
  unfold pathB sequP; rw [h2]; rfl
theorem calm_close {z a n : Nat} {r : List Tk} (hr : Calm4 (hdT z r).t) : Calm4 (hdT z (closes a n ++ r)).t := by
  cases n with
  | zero => exact hr
  | succ n => exact (show Calm4 [41] from ⟨by decide, by decide, by decide⟩)
theorem path_in {c : UInt8} (hc : c = 97 ∨ c = 98 ∨ c = 99) (z : Nat) : ∀ (n k a b e : Nat) (r : List Tk), n ≤ k → Calm4 (hdT z r).t → pathP k z (opens a n ++ ⟨1, [c], b⟩ :: (closes e n ++ r)) = .ok [⟨1, [c]⟩] r
  | 0, k, a, b, e, r, hn, hr => by
    rw [pathP_eq]
    refine calm_path ?_ hr (by simp)
    have hp : predT ⟨1, [c], b⟩ = true := by unfold predT; rw [key_abc hc]; rfl
    have h1 : ¬ (hdT z (⟨1, [c], b⟩ :: r)).t = [40] := by simp only [hdT]; rcases hc with rfl | rfl | rfl <;> decide
    have h2 : ¬ (hdT z (⟨1, [c], b⟩ :: r)).t = [94] := by simp only [hdT]; rcases hc with rfl | rfl | rfl <;> decide
    show operP _ z (⟨1, [c], b⟩ :: r) = _
    unfold operP
    rw [if_neg h1, if_neg h2]
    unfold needP; simp only; rw [if_pos hp]; rfl
  | n + 1, 0, a, b, e, r, hn, hr => by omega
  | n + 1, k + 1, a, b, e, r, hn, hr => by
    rw [pathP_eq]
    refine calm_path ?_ hr (by simp)
    have ih := path_in hc z n k (a + 1) b e (⟨4, [41], e + n⟩ :: r) (by omega) (show Calm4 [41] from ⟨by decide, by decide, by decide⟩)
    have hcl : ∀ (n e : Nat), closes e (n + 1) = closes e n ++ [⟨4, [41], e + n⟩] := by
      intro n
      induction n with
      | zero => intro e; rfl
      | succ n ihn =>
        intro e
        have := ihn (e + 1)
        show (⟨4, [41], e⟩ : Tk) :: closes (e + 1) (n + 1) = _
        rw [this, show e + 1 + n = e + (n + 1) by omega]; rfl
    have hts : opens a (n + 1) ++ ⟨1, [c], b⟩ :: (closes e (n + 1) ++ r) = ⟨4, [40], a⟩ :: (opens (a + 1) n ++ ⟨1, [c], b⟩ :: (closes e n ++ ⟨4, [41], e + n⟩ :: r)) := by
      rw [hcl]
      show (⟨4, [40], a⟩ : Tk) :: _ = _
      simp
    rw [hts]
    unfold operP
    rw [if_pos (show (hdT z ((⟨4, [40], a⟩ : Tk) :: _)).t = [40] from rfl)]
    show ((pathP k z _).bind _) = _
    rw [List.tail_cons, ih]
    rfl
theorem path_out {z : Nat} : ∀ (n k a : Nat) (r : List Tk), k < n → pathP k z (opens a n ++ r) = .no (a + k) 3
  | 0, k, a, r, h => by omega
  | n + 1, 0, a, r, h => by
    rw [pathP_eq]
    refine bad_path ?_
    show operP none z (⟨4, [40], a⟩ :: _) = _
    unfold operP
    rw [if_pos (show (hdT z ((⟨4, [40], a⟩ : Tk) :: _)).t = [40] from rfl)]; rfl
  | n + 1, k + 1, a, r, h => by
    rw [pathP_eq]
    refine bad_path ?_
    show operP (some (pathP k)) z (⟨4, [40], a⟩ :: (opens (a + 1) n ++ r)) = _
    unfold operP
    rw [if_pos (show (hdT z ((⟨4, [40], a⟩ : Tk) :: _)).t = [40] from rfl)]
    simp only [List.tail_cons]
    rw [path_out n k (a + 1) r (by omega)]
    simp only [Ans.bind]
    rw [show a + 1 + k = a + (k + 1) by omega]
theorem deep_opens : ∀ (n a o m : Nat), o ≤ m → (opens a n).foldl dst (o, m) = (o + n, max m (o + n))
  | 0, a, o, m, h => by
    show (o, m) = (o + 0, max m (o + 0))
    rw [Nat.add_zero, Nat.max_eq_left h]
  | n + 1, a, o, m, h => by
    show (opens (a + 1) n).foldl dst (o + 1, max m (o + 1)) = _
    rw [deep_opens n (a + 1) (o + 1) _ (by omega), Prod.mk.injEq]
    exact ⟨by omega, by omega⟩
theorem deep_closes : ∀ (n a o m : Nat), (closes a n).foldl dst (o, m) = (o - n, m)
  | 0, a, o, m => rfl
  | n + 1, a, o, m => by
    show (closes (a + 1) n).foldl dst (o - 1, m) = _
    rw [deep_closes n (a + 1), Nat.sub_sub, Nat.add_comm 1 n]
theorem deep_in {c : UInt8} (hc : c = 97 ∨ c = 98 ∨ c = 99) (n a b e : Nat) : deepL (opens a n ++ ⟨1, [c], b⟩ :: closes e n) = n := by
  unfold deepL
  rw [List.foldl_append, deep_opens n a 0 0 (Nat.le_refl _), List.foldl_cons]
  have e1 : dst (0 + n, max 0 (0 + n)) ⟨1, [c], b⟩ = (n, n) := by
    unfold dst
    simp only
    rw [if_neg (by rcases hc with rfl | rfl | rfl <;> decide), if_neg (by rcases hc with rfl | rfl | rfl <;> decide), Prod.mk.injEq]
    exact ⟨by omega, by omega⟩
  rw [e1, deep_closes]
end Go.Proofs.YtdolhlbkhhnpmaaDoor

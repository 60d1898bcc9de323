/-
  The tokens of values, terms and lists in a text: plain mathematics.
-/
import Derived.Test.YtahljmddnfldlaaGreatDoorShwPm
import Derived.Test.YtahljmddnfldlaaGreatDoorValG
import Derived.Test.YtahljmddnfldlaaGreatDoorShwTx
import Derived.Test.YtahljmddnfldlaaGreatDoorShwLit
import Derived.Test.YtahljmddnfldlaaGreatDoorShwPw
namespace Go.Proofs.YtahljmddnfldlaaGreatDoor
open FloM ValM
set_option linter.unusedVariables false
set_option linter.unusedSimpArgs false
/-! ### Values -/
theorem hexdig_name {b : Nat} {c : UInt8} (h : isDig b c = true) : nameC c = true := by
  have := (isDig_iff b c).1 h
  simp [nameC, lowC, digC]
  omega
theorem allDig_name {b : Nat} : ∀ {l : List UInt8}, allDig b l = true → l.all nameC = true
  | [], _ => rfl
  | c :: r, h => by
    unfold allDig at h
    rw [List.all_cons, Bool.and_eq_true] at h
    rw [List.all_cons, hexdig_name h.1, allDig_name (b := b) (l := r) h.2]; rfl
theorem dig_of {c : UInt8} (h : isDig 10 c = true) : digC c = true := by
  have := (isDig_iff 10 c).1 h
  simp [digC]; omega
theorem val_shape {v : V} (h : rightV v = true) : (v.k = 3 ∧ nameL (textV v) = true) ∨ (v.k ≠ 3 ∧ ((∃ r, textV v = 35 :: r ∧ r.all nameC = true) ∨ (∃ c r, textV v = c :: r ∧ digC c = true ∧ r.all nameC = true) ∨ (∃ d s, textV v = 45 :: d :: s ∧ digC d = true ∧ (d :: s).all nameC = true))) := by
  unfold textV
  rw [h]
  simp only [if_true]
  by_cases h1 : v.k = 1
  · refine .inr ⟨by omega, ?_⟩
    rw [if_pos h1]
    rcases Int.lt_trichotomy v.n 0 with hn | hn | hn
    · obtain ⟨c, r, e, _, ha, _⟩ := intTextL_neg v.n hn
      have ha' := allDig_name ha
      unfold allDig at ha
      rw [List.all_cons, Bool.and_eq_true] at ha
      exact .inr (.inr ⟨c, r, e, dig_of ha.1, ha'⟩)
    · rw [hn]
      exact .inr (.inl ⟨48, [], by simp [intTextL, digs_zero, padTo], by decide, rfl⟩)
    · obtain ⟨c, r, e, hd, _, ha, _⟩ := intTextL_pos v.n hn
      have ha' := allDig_name ha
      rw [List.all_cons, Bool.and_eq_true] at ha'
      exact .inr (.inl ⟨c, r, e, dig_of hd, ha'.2⟩)
  · rw [if_neg h1]
    by_cases h2 : v.k = 2
    · refine .inr ⟨by omega, .inl ?_⟩
      rw [if_pos h2]
      exact ⟨_, rfl, allDig_name (num_pad 16 16 _ (.inr rfl)).2⟩
    · rw [if_neg h2]
      unfold rightV at h
      rw [if_neg h1, if_neg h2] at h
      split at h
      · rename_i h3
        rw [Bool.and_eq_true] at h
        exact .inl ⟨h3, h.2⟩
      · cases h
def valK (v : V) : Nat := if v.k = 3 then 1 else 3
theorem stop_span {r : List UInt8} (hr : StopP r) : ∀ c y, r = c :: y → nameC c = false := fun c y e => (hr c y e).1
theorem toks_first {l r : List UInt8} {k : Nat} (hk : k ≠ 4) (hne : l ≠ []) (hm : measL (l ++ r) = (k, l.length)) (ho : okL k l = true) (a : Nat) : toksL a (l ++ r) = (toksL (a + l.length) r).lay [⟨k, l, a⟩] := by
  have h0 : spanL sepC (l ++ r) = 0 := sep0 hm hk
  have hf : firstL (l ++ r) = some (k, l.length) := by
    unfold firstL
    rw [hm, if_pos (by simp only; rw [List.take_left]; exact ho)]
  have := toks_more (a := a) (l := l ++ r) (k := k) (n := l.length) (by rw [h0]; exact hf)
  rw [h0] at this
  rw [this, ← pre_lay]
  simp only [Nat.add_zero, Nat.zero_add, List.drop_zero]
  rw [List.take_left, List.drop_left]
theorem toks_val {v : V} (h : rightV v = true) (hn : -9223372036854775808 ≤ v.n ∧ v.n < 9223372036854775808) {r : List UInt8} (hr : StopP r) (a : Nat) : toksL a (textV v ++ r) = (toksL (a + (textV v).length) r).lay [⟨valK v, textV v, a⟩] := by
  rcases val_shape h with ⟨hk, hl⟩ | ⟨hk, hs⟩
  · unfold valK; rw [if_pos hk]
    exact toks_name hl hr a
  · unfold valK; rw [if_neg hk]
    have hread := read_text v h hn
    have hok : okL 3 (textV v) = true := by show (readV (bs (textV v))).isSome = true; rw [hread]; rfl
    generalize textV v = l at *
    clear hread
    rcases hs with ⟨s, rfl, ha⟩ | ⟨c, s, rfl, hc, ha⟩ | ⟨d, s, rfl, hd, ha⟩
    · refine toks_first (by decide) (by simp) ?_ hok a
      rw [List.cons_append, meas_hsh (by decide), span_eq (stop_span hr) ha, List.length_cons]; congr 1; omega
    · refine toks_first (by decide) (by simp) ?_ hok a
      rw [List.cons_append, meas_dig hc, span_eq (stop_span hr) ha, List.length_cons]; congr 1; omega
    · refine toks_first (by decide) (by simp) ?_ hok a
      rw [List.cons_append, List.cons_append, meas_min (by decide) hd, ← List.cons_append, span_eq (stop_span hr) ha]; congr 1; simp only [List.length_cons]; omega
theorem toks_varb {l r : List UInt8} (hl : varL l = true) (hr : StopP r) (a : Nat) : toksL a (l ++ r) = (toksL (a + l.length) r).lay [⟨2, l, a⟩] := by
  cases l with
  | nil => rw [varL_nil] at hl; cases hl
  | cons c s =>
    have h1 := hl
    rw [varL_cons] at h1
    simp only [Bool.and_eq_true] at h1
    refine toks_first (k := 2) (by decide) (by simp) ?_ hl a
    rw [List.cons_append, meas_upp h1.1.1, ← List.cons_append, span_eq (stop_span hr) h1.1.2]
end Go.Proofs.YtahljmddnfldlaaGreatDoor
namespace Go.Proofs.YtahljmddnfldlaaGreatDoor
open Go.RowKit FloM ValM Go.Shelf
set_option linter.unusedVariables false
set_option linter.unusedSimpArgs false
/-- A piece of text that is read as something, where what comes next is as it must be. -/
def RdT {α β : Type} (item : Ps α) (tx : β → List UInt8) (g : β → α) (fol : List UInt8 → Prop) (x : β) : Prop := ∀ a, ∃ T, (∀ r, StopP r → toksL a (tx x ++ r) = (toksL (a + (tx x).length) r).lay T) ∧ (∀ z r, fol (hdT z r).t → item z (T ++ r) = .ok (g x) r)
theorem RdT.weak {α β : Type} {item : Ps α} {tx : β → List UInt8} {g : β → α} {fol fol' : List UInt8 → Prop} {x : β} (h : RdT item tx g fol x) (hf : ∀ t, fol' t → fol t) : RdT item tx g fol' x := fun a => by
  obtain ⟨T, h1, h2⟩ := h a
  exact ⟨T, h1, fun z r hr => h2 z r (hf _ hr)⟩
theorem toks_space (a : Nat) (r : List UInt8) : toksL a (32 :: r) = toksL (a + 1) r := by
  have h : spanL sepC (32 :: r) = spanL sepC r + 1 := span_yes (by decide)
  rw [toks_skip a (32 :: r), toks_skip (a + 1) r, h, List.drop_succ_cons]
  congr 1; omega
theorem first_one {c : UInt8} (hc : c = 44 ∨ c = 46 ∨ c = 40 ∨ c = 41) (r : List UInt8) : firstL (c :: r) = some (4, 1) := by
  rcases hc with rfl | rfl | rfl | rfl <;> exact one_mark (by decide) (by decide) (by decide) (by decide) (by decide) (by decide) (by cases r <;> simp [two])
theorem toks_one1 {c : UInt8} (hc : c = 44 ∨ c = 46 ∨ c = 40 ∨ c = 41) (r : List UInt8) (a : Nat) : toksL a (c :: r) = (toksL (a + 1) r).lay [⟨4, [c], a⟩] := by
  rw [← pre_lay]
  exact toks_mark (by rcases hc with rfl | rfl | rfl | rfl <;> decide) (first_one hc r) a
theorem stop_one {c : UInt8} (hc : c = 44 ∨ c = 46 ∨ c = 40 ∨ c = 41 ∨ c = 32 ∨ c = 10) (r : List UInt8) : StopP (c :: r) := fun d y e => by
  injection e with e _; subst e
  rcases hc with rfl | rfl | rfl | rfl | rfl | rfl <;> decide
/-! ### Terms -/
theorem textV_some {v : V} (h : textV v ≠ []) : rightV v = true := by
  cases hr : rightV v with
  | true => rfl
  | false => exact absurd (by unfold textV; rw [hr]; rfl) h
theorem rd_term {t : Tm} (h : termX t ≠ []) (ht : TmOk t) : RdT termP termX id (fun _ => True) t := fun a => by
  obtain ⟨v, x⟩ := t
  unfold termX at h ⊢
  by_cases hv : v = []
  · simp only at h ⊢
    rw [if_pos hv] at h ⊢
    have hr := textV_some h
    refine ⟨[⟨valK x, textV x, a⟩], fun r hs => toks_val hr ht.2.2 hs a, fun z r _ => ?_⟩
    have h1 : termT ⟨valK x, textV x, a⟩ = true := by unfold termT valK; split <;> rfl
    have h2 : termOf ⟨valK x, textV x, a⟩ = ⟨[], x⟩ := by
      unfold termOf
      rw [if_neg (by simp only; unfold valK; split <;> decide)]
      simp only
      rw [read_text x hr ht.2.2]; rfl
    show termP z (⟨valK x, textV x, a⟩ :: r) = _
    unfold termP needP
    simp only [h1, if_true, Ans.bind, h2, id]
    rw [hv]
  · simp only at h ⊢
    rw [if_neg hv] at h ⊢
    unfold varX at h ⊢
    simp only at h ⊢
    split at h
    · rename_i hc
      rw [if_pos hc]
      rw [Bool.and_eq_true, isV0_iff] at hc
      refine ⟨[⟨2, v, a⟩], fun r hs => toks_varb hc.1 hs a, fun z r _ => ?_⟩
      show termP z (⟨2, v, a⟩ :: r) = _
      unfold termP needP
      simp only [show termT ⟨2, v, a⟩ = true from rfl, if_true, Ans.bind, termOf, id]
      rw [hc.2]
    · exact absurd rfl h
/-! ### Lists -/
def folC (m : List UInt8) (t : List UInt8) : Prop := t = [44] ∨ t = m
theorem stop_tail {xs : List (List UInt8)} {r : List UInt8} (hr : StopP r) : StopP (Lib.joinTail [44, 32] xs ++ r) := by
  cases xs with
  | nil => exact hr
  | cons x xs => exact stop_one (by simp) _
theorem tail_cons (x : List UInt8) (xs : List (List UInt8)) : Lib.joinTail [44, 32] (x :: xs) = 44 :: 32 :: (x ++ Lib.joinTail [44, 32] xs) := by simp [Lib.joinTail]
theorem toks_comma (a : Nat) (r : List UInt8) : toksL a (44 :: 32 :: r) = (toksL (a + 2) r).lay [⟨4, [44], a⟩] := by
  rw [toks_one1 (by simp), toks_space]
section
variable {α β : Type} {item : Ps α} {tx : β → List UInt8} {g : β → α} {m : List UInt8} {most : Nat}
theorem tail_reads : ∀ (l : List β), (∀ x ∈ l, RdT item tx g (folC m) x) → ∀ a, ∃ T, (∀ r, StopP r → toksL a (Lib.joinTail [44, 32] (l.map tx) ++ r) = (toksL (a + (Lib.joinTail [44, 32] (l.map tx)).length) r).lay T) ∧
    (∀ z R, folC m (hdT z R).t → folC m (hdT z (T ++ R)).t) ∧ ∀ z R n acc, acc.length + l.length ≤ most → folC m (hdT z R).t → listL most item z (n + l.length) acc (T ++ R) = listL most item z n (acc ++ l.map g) R
  | [], _, a => ⟨[], fun r _ => by rw [lay_nil]; rfl, fun z R h => h, fun z R n acc _ _ => by simp⟩
  | x :: l, h, a => by
    obtain ⟨T1, a1, a2⟩ := h x (by simp) (a + 2)
    obtain ⟨T2, b1, b2, b3⟩ := tail_reads l (fun y hy => h y (by simp [hy])) (a + 2 + (tx x).length)
    refine ⟨⟨4, [44], a⟩ :: (T1 ++ T2), fun r hr => ?_, fun z R _ => .inl rfl, fun z R n acc hm hR => ?_⟩
    · rw [List.map_cons, tail_cons]
      have e1 : 44 :: 32 :: (tx x ++ Lib.joinTail [44, 32] (l.map tx)) ++ r = 44 :: 32 :: (tx x ++ (Lib.joinTail [44, 32] (l.map tx) ++ r)) := by simp
      rw [e1, toks_comma, a1 _ (stop_tail hr), b1 r hr, lay_lay, lay_lay]
      have e2 : a + 2 + (tx x).length + (Lib.joinTail [44, 32] (l.map tx)).length = a + (44 :: 32 :: (tx x ++ Lib.joinTail [44, 32] (l.map tx))).length := by simp; omega
      rw [e2]; simp
    · have e1 : n + (x :: l).length = (n + l.length) + 1 := by simp; omega
      rw [e1]
      simp only [List.length_cons] at hm
      conv => lhs; unfold listL
      have e2 : (⟨4, [44], a⟩ :: (T1 ++ T2) ++ R : List Tk) = ⟨4, [44], a⟩ :: (T1 ++ (T2 ++ R)) := by simp
      rw [e2]
      have hh : (hdT z (⟨4, [44], a⟩ :: (T1 ++ (T2 ++ R)))).t = [44] := rfl
      have hne : ¬ (acc.length = most ∧ termT (hdT z (T1 ++ (T2 ++ R))) = true) := fun h => by have := h.1; omega
      rw [if_pos hh, List.tail_cons, if_neg hne, a2 z (T2 ++ R) (b2 z R hR)]
      simp only [Ans.bind]
      rw [b3 z R n (acc ++ [g x]) (by simp; omega) hR]
      simp
theorem listL_end (hm : m ≠ [44]) {z : Nat} {r : List Tk} (hr : (hdT z r).t = m) (n : Nat) (acc : List α) : listL most item z n acc r = .ok acc r := by
  cases n with
  | zero => rfl
  | succ n => unfold listL; rw [if_neg (by rw [hr]; exact hm)]
/-- A list, read back; the last of it may want to stand last. -/
theorem list_reads (hm : m ≠ [44]) (hmost : most ≤ 1000) (l : List β) (y : β) (hl : ∀ x ∈ l, RdT item tx g (folC m) x) (hy : RdT item tx g (· = m) y) (hn : l.length + 1 ≤ most) (a : Nat) :
    ∃ T, (∀ r, StopP r → toksL a (Lib.join ((l ++ [y]).map tx) [44, 32] ++ r) = (toksL (a + (Lib.join ((l ++ [y]).map tx) [44, 32]).length) r).lay T) ∧ ∀ z r, (hdT z r).t = m → listP most item z (T ++ r) = .ok ((l ++ [y]).map g) r := by
  cases l with
  | nil =>
    obtain ⟨T, a1, a2⟩ := hy a
    refine ⟨T, fun r hr => ?_, fun z r hr => ?_⟩
    · rw [List.nil_append, List.map_singleton, Lib.join_one]; exact a1 r hr
    · unfold listP
      generalize many = n
      rw [a2 z r hr]
      simp only [Ans.bind, List.nil_append, List.map_singleton]
      exact listL_end hm hr n _
  | cons x l =>
    obtain ⟨T1, a1, a2⟩ := hl x (by simp) a
    obtain ⟨T2, b1, b2, b3⟩ := tail_reads (most := most) l (fun w hw => hl w (by simp [hw])) (a + (tx x).length)
    obtain ⟨T3, c1, c2⟩ := hy (a + (tx x).length + (Lib.joinTail [44, 32] (l.map tx)).length + 2)
    have hj : Lib.join ((x :: l ++ [y]).map tx) [44, 32] = tx x ++ (Lib.joinTail [44, 32] (l.map tx) ++ 44 :: 32 :: tx y) := by
      have : (x :: l ++ [y]).map tx = tx x :: (l.map tx ++ [tx y]) := by simp
      rw [this, Lib.join_cons]
      congr 1
      unfold Lib.joinTail
      simp
    refine ⟨T1 ++ (T2 ++ ⟨4, [44], a + (tx x).length + (Lib.joinTail [44, 32] (l.map tx)).length⟩ :: T3), fun r hr => ?_, fun z r hr => ?_⟩
    · rw [hj]
      have e1 : tx x ++ (Lib.joinTail [44, 32] (l.map tx) ++ 44 :: 32 :: tx y) ++ r = tx x ++ (Lib.joinTail [44, 32] (l.map tx) ++ 44 :: 32 :: (tx y ++ r)) := by simp
      rw [e1, a1 _ (stop_tail (stop_one (by simp) _)), b1 _ (stop_one (by simp) _), toks_comma, c1 r hr, lay_lay, lay_lay, lay_lay]
      have e2 : a + (tx x).length + (Lib.joinTail [44, 32] (l.map tx)).length + 2 + (tx y).length = a + (tx x ++ (Lib.joinTail [44, 32] (l.map tx) ++ 44 :: 32 :: tx y)).length := by simp; omega
      rw [e2]; simp
    · simp only [List.length_cons] at hn
      unfold listP
      obtain ⟨n, hN⟩ : ∃ n, many = (n + 1) + l.length := ⟨20010 - 1 - l.length, by unfold many; omega⟩
      rw [hN]
      generalize a + (tx x).length + (Lib.joinTail [44, 32] (l.map tx)).length = q at *
      have e1 : T1 ++ (T2 ++ ⟨4, [44], q⟩ :: T3) ++ r = T1 ++ (T2 ++ ⟨4, [44], q⟩ :: (T3 ++ r)) := by simp
      have hq : folC m (hdT z (⟨4, [44], q⟩ :: (T3 ++ r))).t := .inl rfl
      rw [e1, a2 z _ (b2 z _ hq)]
      simp only [Ans.bind]
      rw [b3 z _ (n + 1) [g x] (by simp; omega) hq]
      conv => lhs; unfold listL
      have hh : (hdT z (⟨4, [44], q⟩ :: (T3 ++ r))).t = [44] := rfl
      have hne : ¬ (([g x] ++ l.map g).length = most ∧ termT (hdT z (T3 ++ r)) = true) := fun h => by have := h.1; simp at this; omega
      rw [if_pos hh, List.tail_cons, if_neg hne, c2 z r hr]
      simp only [Ans.bind]
      rw [listL_end hm hr]
      simp
end
end Go.Proofs.YtahljmddnfldlaaGreatDoor
namespace Go.Proofs.YtahljmddnfldlaaGreatDoor
open Go.RowKit FloM ValM Go.Shelf
set_option linter.unusedVariables false
set_option linter.unusedSimpArgs false
theorem pred_parts {l : List UInt8} (h : predL l = true) : nameL l = true ∧ keyL l = false := by
  unfold predL at h
  simp only [Bool.and_eq_true, Bool.not_eq_true'] at h
  exact h
theorem pred_tokT {l : List UInt8} (h : predL l = true) (a : Nat) : predT ⟨1, l, a⟩ = true := by simp [predT, (pred_parts h).2]
/-- An atom read back: its first token is its predicate, and ( comes next if anything of it does. -/
def RdA {α : Type} (arg : Ps α) (tx : List UInt8) (p : List UInt8) (l : List α) : Prop := ∀ a, ∃ T, (∀ r, StopP r → toksL a (tx ++ r) = (toksL (a + tx.length) r).lay (⟨1, p, a⟩ :: T)) ∧
  (∀ z r, (hdT z r).t ≠ [40] → atomB arg z (⟨1, p, a⟩ :: T ++ r) = .ok (p, l) r) ∧ (T = [] ∨ ∃ t S, T = t :: S ∧ t.t = [40])
theorem atom_none {α : Type} {arg : Ps α} {p : List UInt8} (hp : predL p = true) : RdA arg p p [] := fun a => by
  refine ⟨[], fun r hr => toks_name (pred_parts hp).1 hr a, fun z r hr => ?_, .inl rfl⟩
  show atomB arg z (⟨1, p, a⟩ :: r) = _
  unfold atomB needP
  simp only [pred_tokT hp, if_true, Ans.bind]
  rw [if_neg hr]
theorem atom_args {α β : Type} {arg : Ps α} {tx : β → List UInt8} {g : β → α} {p : List UInt8} (hp : predL p = true) (l : List β) (y : β) (hl : ∀ x ∈ l, RdT arg tx g (folC [41]) x) (hy : RdT arg tx g (· = [41]) y) (hn : l.length + 1 ≤ 8) :
    RdA arg (p ++ [40] ++ Lib.join ((l ++ [y]).map tx) [44, 32] ++ [41]) p ((l ++ [y]).map g) := fun a => by
  obtain ⟨T, a1, a2⟩ := list_reads (m := [41]) (by decide) (most := 8) (by decide) l y hl hy hn (a + p.length + 1)
  generalize Lib.join ((l ++ [y]).map tx) [44, 32] = J at *
  refine ⟨⟨4, [40], a + p.length⟩ :: (T ++ [⟨4, [41], a + p.length + 1 + J.length⟩]), fun r hr => ?_, fun z r hr => ?_, .inr ⟨_, _, rfl, rfl⟩⟩
  · have e1 : p ++ [40] ++ J ++ [41] ++ r = p ++ 40 :: (J ++ 41 :: r) := by simp
    rw [e1, toks_name (pred_parts hp).1 (stop_one (by simp) _), toks_one1 (by simp), a1 _ (stop_one (by simp) _), toks_one1 (by simp), lay_lay, lay_lay, lay_lay]
    have e2 : a + p.length + 1 + J.length + 1 = a + (p ++ [40] ++ J ++ [41]).length := by simp; omega
    rw [e2]; simp
  · have e1 : (⟨1, p, a⟩ :: (⟨4, [40], a + p.length⟩ :: (T ++ [⟨4, [41], a + p.length + 1 + J.length⟩])) ++ r : List Tk) = ⟨1, p, a⟩ :: ⟨4, [40], a + p.length⟩ :: (T ++ ⟨4, [41], a + p.length + 1 + J.length⟩ :: r) := by simp
    rw [e1]
    unfold atomB
    have h1 : needP predT z (⟨1, p, a⟩ :: ⟨4, [40], a + p.length⟩ :: (T ++ ⟨4, [41], a + p.length + 1 + J.length⟩ :: r)) = .ok ⟨1, p, a⟩ (⟨4, [40], a + p.length⟩ :: (T ++ ⟨4, [41], a + p.length + 1 + J.length⟩ :: r)) := by
      unfold needP; simp only [pred_tokT hp, if_true]
    rw [h1]
    simp only [Ans.bind]
    have h2 : (hdT z (⟨4, [40], a + p.length⟩ :: (T ++ ⟨4, [41], a + p.length + 1 + J.length⟩ :: r))).t = [40] := rfl
    rw [if_pos h2, List.tail_cons, a2 z _ rfl]
    simp only [Ans.bind, wantP, needP, isX, beq_self_eq_true, if_true]
theorem argsX_zero (a : List Tm) : argsX 0 a = a.map termX := by
  unfold argsX
  apply List.ext_getElem?
  intro i
  rw [List.getElem?_mapIdx, List.getElem?_map]
  cases a[i]? <;> simp [argX]
theorem argsX_snoc (fold : Int) (l : List Tm) (y : Tm) : argsX fold (l ++ [y]) = l.map termX ++ [argX fold 0 y] := by
  unfold argsX
  apply List.ext_getElem?
  intro i
  rw [List.getElem?_mapIdx]
  rcases Nat.lt_trichotomy i l.length with h | h | h
  · rw [List.getElem?_append_left h, List.getElem?_append_left (by rw [List.length_map]; exact h), List.getElem?_map, List.getElem?_eq_getElem h]
    simp only [Option.map_some, Option.some.injEq]
    unfold argX
    rw [if_neg (by simp; omega)]
  · subst h
    rw [List.getElem?_append_right (Nat.le_refl _), List.getElem?_append_right (by rw [List.length_map]; exact Nat.le_refl _), List.length_map]
    simp
  · rw [List.getElem?_eq_none (by simp; omega), List.getElem?_eq_none (by simp; omega)]; rfl
theorem headX_some {p : List UInt8} {a : List Tm} {fold : Int} (h : headX p a fold ≠ []) : a.length ≤ 8 ∧ [] ∉ argsX fold a ∧ predL p = true ∧ (a = [] → fold = 0) ∧ headX p a fold = if a = [] then p else p ++ [40] ++ joinA fold a ++ [41] := by
  unfold headX at h ⊢
  split at h
  · exact absurd rfl h
  · rename_i hc
    rw [if_neg hc]
    simp only [not_or, Bool.not_eq_false] at hc
    refine ⟨by omega, hc.2.1, hc.2.2, fun ha => ?_, ?_⟩
    · rw [if_pos ha] at h
      split at h
      · exact absurd rfl h
      · rename_i hf; exact Decidable.not_not.1 hf
    · split
      · rename_i ha
        rw [if_pos ha] at h
        split at h
        · exact absurd rfl h
        · rename_i hf; rw [if_neg hf]
      · rfl
theorem rd_atom {x : AmA} (h : atomX x ≠ []) (hok : AmOk x) : RdA termP (atomX x) x.p x.a := by
  unfold atomX at h ⊢
  obtain ⟨h8, hin, hp, _, e⟩ := headX_some h
  rw [e]
  by_cases ha : x.a = []
  · rw [if_pos ha, ha]; exact atom_none hp
  · rw [if_neg ha]
    obtain ⟨l, y, hly⟩ := snoc_one (l := x.a) (by have := List.length_pos_iff.2 ha; omega)
    unfold joinA
    rw [argsX_zero] at hin ⊢
    have hall : ∀ t ∈ x.a, RdT termP termX id (fun _ => True) t := fun t ht => rd_term (fun e0 => hin (List.mem_map.2 ⟨t, ht, e0⟩)) (hok.2 t ht)
    rw [hly] at hall h8 ⊢
    have h1 := atom_args (arg := termP) (tx := termX) (g := id) hp l y (fun t ht => (hall t (by simp [ht])).weak (fun _ _ => trivial)) ((hall y (by simp)).weak (fun _ _ => trivial)) (by simp at h8; omega)
    rw [List.map_id] at h1
    exact h1
/-! ### Heads -/
def g0 (t : Tm) : Tm × Nat := (t, 0)
theorem rd_head {t : Tm} (h : termX t ≠ []) (ht : TmOk t) : RdT headP termX g0 (folC [41]) t := fun a => by
  obtain ⟨T, h1, h2⟩ := rd_term h ht a
  refine ⟨T, h1, fun z r hr => ?_⟩
  unfold headP
  rw [h2 z r trivial]
  simp only [Ans.bind, id]
  rw [if_pos (.inr (by rcases hr with e | e <;> rw [e] <;> decide))]; rfl
theorem foldN_W {f : Int} (h : foldW f ≠ []) : foldN (foldW f) = f.toNat ∧ nameL (foldW f) = true ∧ 1 ≤ f ∧ f ≤ 5 := by
  unfold foldW at h ⊢
  by_cases h1 : f = 1
  · subst h1; exact ⟨by decide, by decide, by decide, by decide⟩
  by_cases h2 : f = 2
  · subst h2; exact ⟨by decide, by decide, by decide, by decide⟩
  by_cases h3 : f = 3
  · subst h3; exact ⟨by decide, by decide, by decide, by decide⟩
  by_cases h4 : f = 4
  · subst h4; exact ⟨by decide, by decide, by decide, by decide⟩
  by_cases h5 : f = 5
  · subst h5; exact ⟨by decide, by decide, by decide, by decide⟩
  rw [if_neg h1, if_neg h2, if_neg h3, if_neg h4, if_neg h5] at h
  exact absurd rfl h
theorem varX_some {t : Tm} (h : varX t ≠ []) : varX t = t.v ∧ varL t.v = true ∧ t.x = v0 := by
  unfold varX at h ⊢
  split at h
  · rename_i hc
    rw [if_pos hc]
    rw [Bool.and_eq_true, isV0_iff] at hc
    exact ⟨rfl, hc⟩
  · exact absurd rfl h
theorem wholeX_some {l : List (List UInt8)} (h : wholeX l ≠ []) : [] ∉ l ∧ wholeX l = l.flatten := by
  unfold wholeX at h ⊢
  split at h
  · exact absurd rfl h
  · rename_i hc; rw [if_neg hc]; exact ⟨hc, rfl⟩
theorem rd_fold {f : Int} {t : Tm} (hf : f ≠ 0) (h : argX f 0 t ≠ []) : RdT headP (argX f 0) (fun t => (t, f.toNat)) (· = [41]) t := fun a => by
  have e0 : argX f 0 t = wholeX [foldW f, [40], varX t, [41]] := by unfold argX; rw [if_pos ⟨rfl, hf⟩]
  rw [e0] at h ⊢
  obtain ⟨hin, e1⟩ := wholeX_some h
  rw [e1]
  have hw : foldW f ≠ [] := fun e => hin (by simp [e])
  have hv : varX t ≠ [] := fun e => hin (by simp [e])
  obtain ⟨f1, f2, f3, _⟩ := foldN_W hw
  obtain ⟨v1, v2, v3⟩ := varX_some hv
  rw [v1]
  generalize foldW f = W at *
  have ef : [W, [40], t.v, [41]].flatten = W ++ 40 :: (t.v ++ [41]) := by simp
  rw [ef]
  refine ⟨[⟨1, W, a⟩, ⟨4, [40], a + W.length⟩, ⟨2, t.v, a + W.length + 1⟩, ⟨4, [41], a + W.length + 1 + t.v.length⟩], fun r hr => ?_, fun z r hr => ?_⟩
  · have e2 : W ++ 40 :: (t.v ++ [41]) ++ r = W ++ 40 :: (t.v ++ 41 :: r) := by simp
    rw [e2, toks_name f2 (stop_one (by simp) _), toks_one1 (by simp), toks_varb v2 (stop_one (by simp) _), toks_one1 (by simp), lay_lay, lay_lay, lay_lay]
    have e3 : a + W.length + 1 + t.v.length + 1 = a + (W ++ 40 :: (t.v ++ [41])).length := by simp; omega
    rw [e3]; rfl
  · show headP z (⟨1, W, a⟩ :: ⟨4, [40], a + W.length⟩ :: ⟨2, t.v, a + W.length + 1⟩ :: ⟨4, [41], a + W.length + 1 + t.v.length⟩ :: r) = _
    unfold headP termP
    have h1 : needP termT z (⟨1, W, a⟩ :: ⟨4, [40], a + W.length⟩ :: ⟨2, t.v, a + W.length + 1⟩ :: ⟨4, [41], a + W.length + 1 + t.v.length⟩ :: r) = .ok ⟨1, W, a⟩ (⟨4, [40], a + W.length⟩ :: ⟨2, t.v, a + W.length + 1⟩ :: ⟨4, [41], a + W.length + 1 + t.v.length⟩ :: r) := rfl
    rw [h1]
    simp only [Ans.bind]
    have hc : ¬ (foldN (hdT z (⟨1, W, a⟩ :: ⟨4, [40], a + W.length⟩ :: ⟨2, t.v, a + W.length + 1⟩ :: ⟨4, [41], a + W.length + 1 + t.v.length⟩ :: r)).t = 0 ∨ (hdT z (⟨4, [40], a + W.length⟩ :: ⟨2, t.v, a + W.length + 1⟩ :: ⟨4, [41], a + W.length + 1 + t.v.length⟩ :: r)).t ≠ [40]) := by
      show ¬ (foldN W = 0 ∨ [40] ≠ [40])
      rw [f1]; simp; omega
    rw [if_neg hc]
    have h2 : (⟨4, [40], a + W.length⟩ :: ⟨2, t.v, a + W.length + 1⟩ :: ⟨4, [41], a + W.length + 1 + t.v.length⟩ :: r : List Tk).tail = ⟨2, t.v, a + W.length + 1⟩ :: ⟨4, [41], a + W.length + 1 + t.v.length⟩ :: r := rfl
    rw [h2]
    have h3 : needP varT z (⟨2, t.v, a + W.length + 1⟩ :: ⟨4, [41], a + W.length + 1 + t.v.length⟩ :: r) = .ok ⟨2, t.v, a + W.length + 1⟩ (⟨4, [41], a + W.length + 1 + t.v.length⟩ :: r) := rfl
    rw [h3]
    simp only
    have h4 : wantP [41] z (⟨4, [41], a + W.length + 1 + t.v.length⟩ :: r) = .ok ⟨4, [41], a + W.length + 1 + t.v.length⟩ r := rfl
    rw [h4]
    simp only
    rw [if_pos hr]
    show (Ans.ok ((⟨t.v, v0⟩ : Tm), foldN W) r : Ans (Tm × Nat)) = _
    rw [f1]
    obtain ⟨v, x⟩ := t
    simp only at v3 ⊢
    rw [v3]
def headGf (f : Int) : List Tm → List (Tm × Nat)
  | [] => []
  | [y] => [(y, f.toNat)]
  | t :: u :: r => (t, 0) :: headGf f (u :: r)
theorem headGf_snoc (f : Int) : ∀ (l : List Tm) (y : Tm), headGf f (l ++ [y]) = l.map g0 ++ [(y, f.toNat)]
  | [], y => rfl
  | [x], y => rfl
  | x :: u :: l, y => by
    have := headGf_snoc f (u :: l) y
    show (x, 0) :: headGf f (u :: l ++ [y]) = _
    rw [this]; rfl
theorem headGf_fst (f : Int) : ∀ l : List Tm, (headGf f l).map Prod.fst = l
  | [] => rfl
  | [y] => rfl
  | t :: u :: r => by have := headGf_fst f (u :: r); show t :: (headGf f (u :: r)).map Prod.fst = _; rw [this]
theorem headGf_last {f : Int} (hf : 0 ≤ f) : ∀ l : List Tm, (l = [] → f = 0) → (((headGf f l).getLast?.map Prod.snd).getD 0) = f.toNat
  | [], h => by rw [h rfl]; rfl
  | [y], _ => rfl
  | t :: u :: r, _ => by
    have := headGf_last hf (u :: r) (fun h => by cases h)
    show ((((t, 0) :: headGf f (u :: r)).getLast?.map Prod.snd).getD 0) = _
    have hne : headGf f (u :: r) ≠ [] := by cases r <;> simp [headGf]
    rw [List.getLast?_cons_of_ne_nil hne]; exact this
theorem rd_heads {p : List UInt8} {a : List Tm} {fold : Int} (h : headX p a fold ≠ []) (hok : ∀ t ∈ a, TmOk t) : RdA headP (headX p a fold) p (headGf fold a) ∧ 0 ≤ fold ∧ predL p = true ∧ (a = [] → fold = 0) := by
  obtain ⟨h8, hin, hp, hf0, e⟩ := headX_some h
  rw [e]
  by_cases ha : a = []
  · rw [if_pos ha, ha]
    exact ⟨atom_none hp, by rw [hf0 ha]; exact Int.le_refl _, hp, fun _ => hf0 ha⟩
  · rw [if_neg ha]
    obtain ⟨l, y, rfl⟩ := snoc_one (l := a) (by have := List.length_pos_iff.2 ha; omega)
    unfold joinA
    rw [argsX_snoc] at hin ⊢
    rw [headGf_snoc]
    have hl : ∀ t ∈ l, RdT headP termX g0 (folC [41]) t := fun t ht => rd_head (fun e0 => hin (by simp; exact .inl ⟨t, ht, e0⟩)) (hok t (by simp [ht]))
    have hy0 : argX fold 0 y ≠ [] := fun e0 => hin (by simp [e0])
    by_cases hf : fold = 0
    · subst hf
      have e1 : argX 0 0 y = termX y := by unfold argX; rw [if_neg (by simp)]
      rw [e1] at hy0 ⊢
      have h1 := atom_args (arg := headP) (tx := termX) (g := g0) hp l y hl ((rd_head hy0 (hok y (by simp))).weak (fun t ht => .inr ht)) (by simp at h8; omega)
      rw [List.map_append, List.map_singleton, List.map_append, List.map_singleton] at h1
      exact ⟨h1, Int.le_refl _, hp, hf0⟩
    · have hpos : 0 ≤ fold := by
        have e0 : argX fold 0 y = wholeX [foldW fold, [40], varX y, [41]] := by unfold argX; rw [if_pos ⟨rfl, hf⟩]
        rw [e0] at hy0
        have := (foldN_W (f := fold) (fun e => (wholeX_some hy0).1 (by simp [e]))).2.2.1
        omega
      -- the two kinds of arguments as one
      let tx : Tm × Bool → List UInt8 := fun x => if x.2 then argX fold 0 x.1 else termX x.1
      let g : Tm × Bool → Tm × Nat := fun x => if x.2 then (x.1, fold.toNat) else (x.1, 0)
      have h1 := atom_args (arg := headP) (tx := tx) (g := g) hp (l.map fun t => (t, false)) (y, true) (fun x hx => by
        obtain ⟨t, ht, rfl⟩ := List.mem_map.1 hx
        exact hl t ht) (rd_fold hf hy0) (by simp at h8 ⊢; omega)
      rw [List.map_append, List.map_singleton, List.map_append, List.map_singleton, List.map_map, List.map_map] at h1
      exact ⟨h1, hpos, hp, hf0⟩
end Go.Proofs.YtahljmddnfldlaaGreatDoor
namespace Go.Proofs.YtahljmddnfldlaaGreatDoor
open Go.RowKit FloM ValM Go.Shelf
set_option linter.unusedVariables false
set_option linter.unusedSimpArgs false
theorem one_term {t : Tm} (h : termX t ≠ []) (ht : TmOk t) (a : Nat) : ∃ k, (∀ r, StopP r → toksL a (termX t ++ r) = (toksL (a + (termX t).length) r).lay [⟨k, termX t, a⟩]) ∧ (∀ z r, termP z (⟨k, termX t, a⟩ :: r) = .ok t r) ∧ (t.v ≠ [] → k = 2) := by
  obtain ⟨v, x⟩ := t
  unfold termX at h ⊢
  by_cases hv : v = []
  · simp only at h ⊢
    rw [if_pos hv] at h ⊢
    have hr := textV_some h
    refine ⟨valK x, fun r hs => toks_val hr ht.2.2 hs a, fun z r => ?_, fun e => absurd hv e⟩
    have h1 : termT ⟨valK x, textV x, a⟩ = true := by unfold termT valK; split <;> rfl
    have h2 : termOf ⟨valK x, textV x, a⟩ = ⟨[], x⟩ := by
      unfold termOf
      rw [if_neg (by simp only; unfold valK; split <;> decide)]
      simp only
      rw [read_text x hr ht.2.2]; rfl
    unfold termP needP
    simp only [h1, if_true, Ans.bind, h2]
    rw [hv]
  · simp only at h ⊢
    rw [if_neg hv] at h ⊢
    obtain ⟨e, h1, h2⟩ := varX_some h
    rw [e]
    simp only at h1 h2 ⊢
    refine ⟨2, fun r hs => toks_varb h1 hs a, fun z r => ?_, fun _ => rfl⟩
    unfold termP needP
    simp only [show termT ⟨2, v, a⟩ = true from rfl, if_true, Ans.bind, termOf]
    rw [h2]
theorem one_var {t : Tm} (h : varX t ≠ []) (ht : TmOk t) (a : Nat) : (∀ r, StopP r → toksL a (varX t ++ r) = (toksL (a + (varX t).length) r).lay [⟨2, varX t, a⟩]) ∧ (∀ z r, termP z (⟨2, varX t, a⟩ :: r) = .ok t r) := by
  obtain ⟨e, h1, h2⟩ := varX_some h
  rw [e]
  refine ⟨fun r hs => toks_varb h1 hs a, fun z r => ?_⟩
  obtain ⟨v, x⟩ := t
  simp only at h2 ⊢
  unfold termP needP
  simp only [show termT ⟨2, v, a⟩ = true from rfl, if_true, Ans.bind, termOf]
  rw [h2]
/-! ### Marks -/
theorem first_mk {c : UInt8} {r : List UInt8} {n : Nat} (h1 : lowC c = false) (h2 : uppC c = false) (h3 : c.toNat ≠ 35) (h4 : digC c = false) (h5 : c.toNat ≠ 45) (hm : markL (c :: r) = n) (hn : 0 < n) : firstL (c :: r) = some (4, n) := by
  unfold firstL
  rw [meas_mrk h1 h2 h3 h4 (fun e => absurd e h5), hm, if_pos]
  obtain ⟨n, rfl⟩ : ∃ m, n = m + 1 := ⟨n - 1, by omega⟩
  unfold okL
  simp
theorem toks_mk {l r : List UInt8} {c : UInt8} (hl : ∃ y, l = c :: y) (hs : sepC c = false) (hf : firstL (l ++ r) = some (4, l.length)) (a : Nat) : toksL a (l ++ r) = (toksL (a + l.length) r).lay [⟨4, l, a⟩] := by
  obtain ⟨y, rfl⟩ := hl
  have h0 : spanL sepC ((c :: y) ++ r) = 0 := span_no hs
  have := toks_more (a := a) (l := (c :: y) ++ r) (k := 4) (n := (c :: y).length) (by rw [h0]; exact hf)
  rw [h0] at this
  rw [this, ← pre_lay]
  simp only [Nat.add_zero, Nat.zero_add, List.drop_zero]
  rw [List.take_left, List.drop_left]
theorem toks_cmp {o : List UInt8} (ho : o = [60] ∨ o = [60, 61] ∨ o = [61] ∨ o = [33, 61]) (r : List UInt8) (a : Nat) : toksL a (o ++ 32 :: r) = (toksL (a + o.length) (32 :: r)).lay [⟨4, o, a⟩] := by
  rcases ho with rfl | rfl | rfl | rfl
  · exact toks_mk (c := 60) ⟨_, rfl⟩ (by decide) (first_mk (by decide) (by decide) (by decide) (by decide) (by decide) (by rw [mark_one (by simp [two])]; decide) (by decide)) a
  · exact toks_mk (c := 60) ⟨_, rfl⟩ (by decide) (first_mk (by decide) (by decide) (by decide) (by decide) (by decide) (by unfold markL; rw [if_pos (by simp [two])]; rfl) (by decide)) a
  · exact toks_mk (c := 61) ⟨_, rfl⟩ (by decide) (first_mk (by decide) (by decide) (by decide) (by decide) (by decide) (by rw [mark_one (by simp [two])]; decide) (by decide)) a
  · exact toks_mk (c := 33) ⟨_, rfl⟩ (by decide) (first_mk (by decide) (by decide) (by decide) (by decide) (by decide) (by unfold markL; rw [if_pos (by simp [two])]; rfl) (by decide)) a
theorem toks_if (r : List UInt8) (a : Nat) : toksL a ([58, 45] ++ r) = (toksL (a + 2) r).lay [⟨4, [58, 45], a⟩] :=
  toks_mk (c := 58) ⟨_, rfl⟩ (by decide) (first_mk (by decide) (by decide) (by decide) (by decide) (by decide) (by unfold markL; rw [if_pos (by simp [two])]; rfl) (by decide)) a
theorem toks_ask (r : List UInt8) (a : Nat) : toksL a ([63, 45] ++ r) = (toksL (a + 2) r).lay [⟨4, [63, 45], a⟩] :=
  toks_mk (c := 63) ⟨_, rfl⟩ (by decide) (first_mk (by decide) (by decide) (by decide) (by decide) (by decide) (by unfold markL; rw [if_pos (by simp [two])]; rfl) (by decide)) a
theorem pred_mks {l : List UInt8} (h : predL l = true) : cmpT ⟨1, l, 0⟩ = false ∧ l ≠ [105, 115] ∧ l ≠ [110, 111, 116] ∧ l ≠ [119, 97, 108, 107] := by
  obtain ⟨hn, hk⟩ := pred_parts h
  refine ⟨?_, fun e => by rw [e] at hk; exact absurd hk (by decide), fun e => by rw [e] at hk; exact absurd hk (by decide), fun e => by rw [e] at hk; exact absurd hk (by decide)⟩
  have h1 : ∀ m : List UInt8, nameL m = false → l ≠ m := fun m hm e => by rw [e, hm] at hn; cases hn
  have a1 := h1 [60] (by decide); have a2 := h1 [60, 61] (by decide); have a3 := h1 [61] (by decide); have a4 := h1 [33, 61] (by decide)
  simp [cmpT, a1, a2, a3, a4]
theorem hd_cons (z : Nat) (t : Tk) (s : List Tk) : hdT z (t :: s) = t := rfl
/-! ### Literals -/
def ltOf (x : LtI) : Lt := ⟨x.k.toNat, x.m.am, x.o, x.a, x.b, x.c, x.p.map stN⟩
theorem blank_some {y : LtI} (h : blankB y = true) : y.m.p = [] ∧ y.m.a = [] ∧ y.o = [] ∧ y.a = tm0 ∧ y.b = tm0 ∧ y.c = tm0 ∧ y.p = [] := by
  unfold blankB at h
  simp only [Bool.and_eq_true, decide_eq_true_eq, isZ_iff] at h
  obtain ⟨⟨⟨⟨⟨⟨h1, h2⟩, h3⟩, h4⟩, h5⟩, h6⟩, h7⟩ := h
  exact ⟨h1, h2, h3, h4, h5, h6, h7⟩
theorem litX_some {x : LtI} (h : litX x ≠ []) : blankB (restL x) = true ∧ litT x ≠ [] ∧ litX x = litT x := by
  unfold litX at h ⊢
  split at h
  · rename_i hb; rw [if_pos hb]; exact ⟨hb, h, rfl⟩
  · exact absurd rfl h
theorem folC_dot {t : List UInt8} (h : folC [46] t) : t ≠ [40] ∧ t ≠ [105, 115] ∧ (t == [60] || (t == [60, 61] || (t == [61] || t == [33, 61]))) = false := by
  rcases h with rfl | rfl <;> exact ⟨by decide, by decide, by decide⟩
def LitR (x : LtI) : Prop := RdT litP litX ltOf (folC [46]) x
theorem lit_atom {p : List UInt8} {l : List Tm} {tx : List UInt8} (h : RdA termP tx p l) (a : Nat) : ∃ T, (∀ r, StopP r → toksL a (tx ++ r) = (toksL (a + tx.length) r).lay (⟨1, p, a⟩ :: T)) ∧ (∀ z r, folC [46] (hdT z r).t → atomP z (⟨1, p, a⟩ :: T ++ r) = .ok ⟨p, l⟩ r) ∧
    (∀ z r, folC [46] (hdT z r).t → cmpT (hdT z (T ++ r)) = false ∧ (hdT z (T ++ r)).t ≠ [105, 115]) := by
  obtain ⟨T, a1, a2, a3⟩ := h a
  refine ⟨T, a1, fun z r hr => ?_, fun z r hr => ?_⟩
  · unfold atomP
    rw [a2 z r (folC_dot hr).1]; rfl
  · rcases a3 with rfl | ⟨t, S, rfl, ht⟩
    · exact ⟨(folC_dot hr).2.2, (folC_dot hr).2.1⟩
    · constructor
      · show (t.t == [60] || (t.t == [60, 61] || (t.t == [61] || t.t == [33, 61]))) = false
        rw [ht]; decide
      · show t.t ≠ [105, 115]
        rw [ht]; decide
theorem lit_1 {x : LtI} (hk : x.k = 1) (h : litX x ≠ []) (hok : x.ok) : LitR x := fun a => by
  obtain ⟨hb, ht, e⟩ := litX_some h
  have er : restL x = { x with m := amZ } := by unfold restL; rw [if_pos (.inl hk)]
  have et : litT x = atomX x.m := by unfold litT; rw [if_pos hk]
  rw [er] at hb
  rw [et] at ht e
  rw [e]
  obtain ⟨_, _, b3, b4, b5, b6, b7⟩ := blank_some hb
  simp only at b3 b4 b5 b6 b7
  have hp := (headX_some ht).2.2.1
  obtain ⟨T, a1, a2, a3⟩ := lit_atom (rd_atom ht hok.1) a
  refine ⟨_, a1, fun z r hr => ?_⟩
  obtain ⟨c1, c2⟩ := a3 z r hr
  obtain ⟨n1, n2, n3, n4⟩ := pred_mks hp
  have e1 : (⟨1, x.m.p, a⟩ :: T ++ r : List Tk) = ⟨1, x.m.p, a⟩ :: (T ++ r) := rfl
  have a4 := a2 z r hr
  rw [e1] at a4 ⊢
  unfold litP
  rw [List.tail_cons, hd_cons, if_neg (show ¬ cmpT (hdT z (T ++ r)) = true by rw [c1]; decide), if_neg (show ¬ (varT ⟨1, x.m.p, a⟩ = true ∧ (hdT z (T ++ r)).t = [105, 115]) from fun h => c2 h.2), if_neg n3, if_neg n4, if_pos (pred_tokT hp a), a4]
  simp only [Ans.bind, ltOf, hk, b3, b4, b5, b6, b7]
  rfl
theorem lit_2 {x : LtI} (hk : x.k = 2) (h : litX x ≠ []) (hok : x.ok) : LitR x := fun a => by
  obtain ⟨hb, ht, e⟩ := litX_some h
  have er : restL x = { x with m := amZ } := by unfold restL; rw [if_pos (.inr hk)]
  have et : litT x = wholeX [[110, 111, 116, 32], atomX x.m] := by unfold litT; rw [if_neg (by omega), if_pos hk]
  rw [er] at hb
  rw [et] at ht e
  obtain ⟨hin, ew⟩ := wholeX_some ht
  have ha : atomX x.m ≠ [] := fun e => hin (by simp [e])
  rw [e, ew]
  obtain ⟨_, _, b3, b4, b5, b6, b7⟩ := blank_some hb
  simp only at b3 b4 b5 b6 b7
  have hp := (headX_some ha).2.2.1
  obtain ⟨T, a1, a2, a3⟩ := lit_atom (rd_atom ha hok.1) (a + 4)
  refine ⟨⟨1, [110, 111, 116], a⟩ :: ⟨1, x.m.p, a + 4⟩ :: T, fun r hr => ?_, fun z r hr => ?_⟩
  · have e1 : [[110, 111, 116, 32], atomX x.m].flatten ++ r = [110, 111, 116] ++ 32 :: (atomX x.m ++ r) := by simp
    rw [e1, toks_name (by decide) (stop_one (by simp) _), toks_space]
    show ((toksL (a + 4) (atomX x.m ++ r)).lay _) = _
    rw [a1 r hr, lay_lay]
    have e2 : a + 4 + (atomX x.m).length = a + [[110, 111, 116, 32], atomX x.m].flatten.length := by simp; omega
    rw [e2]; rfl
  · obtain ⟨n1, n2, n3, n4⟩ := pred_mks hp
    have e1 : (⟨1, [110, 111, 116], a⟩ :: ⟨1, x.m.p, a + 4⟩ :: T ++ r : List Tk) = ⟨1, [110, 111, 116], a⟩ :: (⟨1, x.m.p, a + 4⟩ :: T ++ r) := rfl
    have a4 := a2 z r hr
    rw [e1]
    unfold litP
    have c1 : cmpT (hdT z (⟨1, x.m.p, a + 4⟩ :: T ++ r)) = false := n1
    rw [List.tail_cons, if_neg (show ¬ cmpT (hdT z (⟨1, x.m.p, a + 4⟩ :: T ++ r)) = true by rw [c1]; decide), hd_cons, if_neg (show ¬ (varT ⟨1, [110, 111, 116], a⟩ = true ∧ (hdT z (⟨1, x.m.p, a + 4⟩ :: T ++ r)).t = [105, 115]) from fun h => by have := h.1; cases this), if_pos (show ([110, 111, 116] : List UInt8) = [110, 111, 116] from rfl)]
    have w1 : wantP [110, 111, 116] z (⟨1, [110, 111, 116], a⟩ :: (⟨1, x.m.p, a + 4⟩ :: T ++ r)) = .ok ⟨1, [110, 111, 116], a⟩ (⟨1, x.m.p, a + 4⟩ :: T ++ r) := rfl
    rw [w1]
    simp only [Ans.bind]
    rw [a4]
    simp only [ltOf, hk, b3, b4, b5, b6, b7]
    rfl
theorem cmpX_some {o : List UInt8} (h : cmpX o ≠ []) : cmpX o = o ∧ (o = [60] ∨ o = [60, 61] ∨ o = [61] ∨ o = [33, 61]) := by
  unfold cmpX at h ⊢
  split at h
  · rename_i hc; rw [if_pos hc]; exact ⟨rfl, hc⟩
  · exact absurd rfl h
theorem oprX_some {o : List UInt8} (h : oprX o ≠ []) : nameL (oprX o) = true ∧ opL (oprX o) = o ∧ o ≠ [] := by
  unfold oprX at h ⊢
  by_cases h1 : o = [43]
  · subst h1; exact ⟨by decide, by decide, by decide⟩
  by_cases h2 : o = [45]
  · subst h2; exact ⟨by decide, by decide, by decide⟩
  by_cases h3 : o = [42]
  · subst h3; exact ⟨by decide, by decide, by decide⟩
  rw [if_neg h1, if_neg h2, if_neg h3] at h
  exact absurd rfl h
theorem stop_sp (r : List UInt8) : StopP (32 :: r) := stop_one (by simp) r
theorem lit_3 {x : LtI} (hk : x.k = 3) (h : litX x ≠ []) (hok : x.ok) : LitR x := fun a => by
  obtain ⟨hb, ht, e⟩ := litX_some h
  have er : restL x = { x with a := tm0, o := [], b := tm0 } := by unfold restL; rw [if_neg (by omega), if_pos hk]
  have et : litT x = wholeX [termX x.a, [32], cmpX x.o, [32], termX x.b] := by unfold litT; rw [if_neg (by omega), if_neg (by omega), if_pos hk]
  rw [er] at hb
  rw [et] at ht e
  obtain ⟨hin, ew⟩ := wholeX_some ht
  have h1 : termX x.a ≠ [] := fun e => hin (by simp [e])
  have h2 : cmpX x.o ≠ [] := fun e => hin (by simp [e])
  have h3 : termX x.b ≠ [] := fun e => hin (by simp [e])
  obtain ⟨ec, ho⟩ := cmpX_some h2
  rw [e, ew, ec]
  obtain ⟨b1, b2, _, _, _, b6, b7⟩ := blank_some hb
  simp only at b1 b2 b6 b7
  obtain ⟨k1, s1, t1, _⟩ := one_term h1 hok.2.2.1 a
  obtain ⟨k2, s2, t2, _⟩ := one_term h3 hok.2.2.2.1 (a + (termX x.a).length + 1 + x.o.length + 1)
  refine ⟨[⟨k1, termX x.a, a⟩, ⟨4, x.o, a + (termX x.a).length + 1⟩, ⟨k2, termX x.b, a + (termX x.a).length + 1 + x.o.length + 1⟩], fun r hr => ?_, fun z r hr => ?_⟩
  · have e1 : [termX x.a, [32], x.o, [32], termX x.b].flatten ++ r = termX x.a ++ 32 :: (x.o ++ 32 :: (termX x.b ++ r)) := by simp
    rw [e1, s1 _ (stop_sp _), toks_space, toks_cmp ho, toks_space, s2 r hr, lay_lay, lay_lay]
    have e2 : a + (termX x.a).length + 1 + x.o.length + 1 + (termX x.b).length = a + [termX x.a, [32], x.o, [32], termX x.b].flatten.length := by simp; omega
    rw [e2]; rfl
  · show litP z (⟨k1, termX x.a, a⟩ :: ⟨4, x.o, a + (termX x.a).length + 1⟩ :: ⟨k2, termX x.b, a + (termX x.a).length + 1 + x.o.length + 1⟩ :: r) = _
    have hc : cmpT ⟨4, x.o, a + (termX x.a).length + 1⟩ = true := by unfold cmpT; simp only; rcases ho with e | e | e | e <;> rw [e] <;> rfl
    generalize a + (termX x.a).length + 1 + x.o.length + 1 = q at *
    generalize a + (termX x.a).length + 1 = q2 at *
    have hc2 : ∀ s, cmpT (hdT z (⟨4, x.o, q2⟩ :: s)) = true := fun _ => hc
    unfold litP
    rw [List.tail_cons, if_pos (hc2 _)]
    unfold compP
    rw [t1]
    simp only [Ans.bind]
    have w1 : needP cmpT z (⟨4, x.o, q2⟩ :: ⟨k2, termX x.b, q⟩ :: r) = .ok ⟨4, x.o, q2⟩ (⟨k2, termX x.b, q⟩ :: r) := by unfold needP; simp only [hc, if_true]
    rw [w1]
    simp only
    rw [t2]
    simp only [ltOf, hk, b6, b7, AmA.am, b1, b2]
    rfl
theorem lit_4 {x : LtI} (hk : x.k = 4) (h : litX x ≠ []) (hok : x.ok) : LitR x := fun a => by
  obtain ⟨hb, ht, e⟩ := litX_some h
  have er : restL x = { x with a := tm0, b := tm0, o := [], c := tm0 } := by unfold restL; rw [if_neg (by omega), if_neg (by omega), if_pos hk]
  have et : litT x = wholeX [varX x.a, [32, 105, 115, 32], termX x.b, [32], oprX x.o, [32], termX x.c] := by unfold litT; rw [if_neg (by omega), if_neg (by omega), if_neg (by omega), if_pos hk]
  rw [er] at hb
  rw [et] at ht e
  obtain ⟨hin, ew⟩ := wholeX_some ht
  have h1 : varX x.a ≠ [] := fun e => hin (by simp [e])
  have h2 : termX x.b ≠ [] := fun e => hin (by simp [e])
  have h3 : oprX x.o ≠ [] := fun e => hin (by simp [e])
  have h4 : termX x.c ≠ [] := fun e => hin (by simp [e])
  obtain ⟨o1, o2, o3⟩ := oprX_some h3
  rw [e, ew]
  obtain ⟨b1, b2, _, _, _, _, b7⟩ := blank_some hb
  simp only at b1 b2 b7
  obtain ⟨s1, t1⟩ := one_var h1 hok.2.2.1 a
  obtain ⟨k2, s2, t2, _⟩ := one_term h2 hok.2.2.2.1 (a + (varX x.a).length + 4)
  obtain ⟨k3, s3, t3, _⟩ := one_term h4 hok.2.2.2.2.1 (a + (varX x.a).length + 4 + (termX x.b).length + 1 + (oprX x.o).length + 1)
  refine ⟨[⟨2, varX x.a, a⟩, ⟨1, [105, 115], a + (varX x.a).length + 1⟩, ⟨k2, termX x.b, a + (varX x.a).length + 4⟩, ⟨1, oprX x.o, a + (varX x.a).length + 4 + (termX x.b).length + 1⟩, ⟨k3, termX x.c, a + (varX x.a).length + 4 + (termX x.b).length + 1 + (oprX x.o).length + 1⟩], fun r hr => ?_, fun z r hr => ?_⟩
  · have e1 : [varX x.a, [32, 105, 115, 32], termX x.b, [32], oprX x.o, [32], termX x.c].flatten ++ r = varX x.a ++ 32 :: ([105, 115] ++ 32 :: (termX x.b ++ 32 :: (oprX x.o ++ 32 :: (termX x.c ++ r)))) := by simp
    rw [e1, s1 _ (stop_sp _), toks_space, toks_name (by decide) (stop_sp _), toks_space]
    have e3 : a + (varX x.a).length + 1 + ([105, 115] : List UInt8).length + 1 = a + (varX x.a).length + 4 := by simp
    rw [e3, s2 _ (stop_sp _), toks_space, toks_name o1 (stop_sp _), toks_space, s3 r hr, lay_lay, lay_lay, lay_lay, lay_lay]
    have e2 : a + (varX x.a).length + 4 + (termX x.b).length + 1 + (oprX x.o).length + 1 + (termX x.c).length = a + [varX x.a, [32, 105, 115, 32], termX x.b, [32], oprX x.o, [32], termX x.c].flatten.length := by simp; omega
    rw [e2]; rfl
  · generalize a + (varX x.a).length + 4 + (termX x.b).length + 1 + (oprX x.o).length + 1 = q3 at *
    generalize a + (varX x.a).length + 4 + (termX x.b).length + 1 = q2 at *
    generalize a + (varX x.a).length + 4 = q1 at *
    generalize a + (varX x.a).length + 1 = q0 at *
    show litP z (⟨2, varX x.a, a⟩ :: ⟨1, [105, 115], q0⟩ :: ⟨k2, termX x.b, q1⟩ :: ⟨1, oprX x.o, q2⟩ :: ⟨k3, termX x.c, q3⟩ :: r) = _
    unfold litP
    rw [List.tail_cons, hd_cons, hd_cons, if_neg (show ¬ cmpT ⟨1, [105, 115], q0⟩ = true by simp [cmpT]), if_pos (show varT ⟨2, varX x.a, a⟩ = true ∧ ([105, 115] : List UInt8) = [105, 115] from ⟨rfl, rfl⟩)]
    unfold letP
    rw [t1]
    simp only [Ans.bind]
    have w1 : wantP [105, 115] z (⟨1, [105, 115], q0⟩ :: ⟨k2, termX x.b, q1⟩ :: ⟨1, oprX x.o, q2⟩ :: ⟨k3, termX x.c, q3⟩ :: r) = .ok ⟨1, [105, 115], q0⟩ (⟨k2, termX x.b, q1⟩ :: ⟨1, oprX x.o, q2⟩ :: ⟨k3, termX x.c, q3⟩ :: r) := rfl
    rw [w1]
    simp only
    rw [t2]
    simp only
    have ho : opT ⟨1, oprX x.o, q2⟩ = true := by unfold opT; rw [o2]; simpa using o3
    have w2 : needP opT z (⟨1, oprX x.o, q2⟩ :: ⟨k3, termX x.c, q3⟩ :: r) = .ok ⟨1, oprX x.o, q2⟩ (⟨k3, termX x.c, q3⟩ :: r) := by unfold needP; simp only [ho, if_true]
    rw [w2]
    simp only
    rw [t3]
    simp only [ltOf, hk, o2, b7, AmA.am, b1, b2]
    rfl
theorem lit_5 {x : LtI} (hk : x.k = 5) (h : litX x ≠ []) (hok : x.ok) : LitR x := fun a => by
  obtain ⟨hb, ht, e⟩ := litX_some h
  have er : restL x = { x with a := tm0, pA := none, pc := 0, p := [], b := tm0 } := by unfold restL; rw [if_neg (by omega), if_neg (by omega), if_neg (by omega), if_pos hk]
  have et : litT x = wholeX [[119, 97, 108, 107, 40], termX x.a, [44, 32], pathX deepT (x.p.map stN), [44, 32], termX x.b, [41]] := by unfold litT; rw [if_neg (by omega), if_neg (by omega), if_neg (by omega), if_neg (by omega), if_pos hk]
  rw [er] at hb
  rw [et] at ht e
  obtain ⟨hin, ew⟩ := wholeX_some ht
  have h1 : termX x.a ≠ [] := fun e => hin (by simp [e])
  have h2 : pathX deepT (x.p.map stN) ≠ [] := fun e => hin (by simp [e])
  have h3 : termX x.b ≠ [] := fun e => hin (by simp [e])
  obtain ⟨pe, g1, g2, g3, g4, g5⟩ := tree_path h2
  rw [e, ew, g5]
  obtain ⟨b1, b2, b3, _, _, b6, _⟩ := blank_some hb
  simp only at b1 b2 b3 b6
  obtain ⟨k1, s1, t1, _⟩ := one_term h1 hok.2.2.1 (a + 5)
  obtain ⟨k2, s2, t2, _⟩ := one_term h3 hok.2.2.2.1 (a + 5 + (termX x.a).length + 2 + pe.tx.length + 2)
  refine ⟨⟨1, [119, 97, 108, 107], a⟩ :: ⟨4, [40], a + 4⟩ :: ⟨k1, termX x.a, a + 5⟩ :: ⟨4, [44], a + 5 + (termX x.a).length⟩ :: (pe.tk (a + 5 + (termX x.a).length + 2) ++ [⟨4, [44], a + 5 + (termX x.a).length + 2 + pe.tx.length⟩, ⟨k2, termX x.b, a + 5 + (termX x.a).length + 2 + pe.tx.length + 2⟩, ⟨4, [41], a + 5 + (termX x.a).length + 2 + pe.tx.length + 2 + (termX x.b).length⟩]), fun r hr => ?_, fun z r hr => ?_⟩
  · have e1 : [[119, 97, 108, 107, 40], termX x.a, [44, 32], pe.tx, [44, 32], termX x.b, [41]].flatten ++ r = [119, 97, 108, 107] ++ 40 :: (termX x.a ++ 44 :: 32 :: (pe.tx ++ 44 :: 32 :: (termX x.b ++ 41 :: r))) := by simp
    rw [e1, toks_name (by decide) (stop_one (by simp) _), toks_one1 (by simp)]
    have e3 : a + ([119, 97, 108, 107] : List UInt8).length + 1 = a + 5 := rfl
    rw [e3, s1 _ (stop_one (by simp) _), toks_comma, toks_tree pe g1 _ _ (stop_one (by simp) _), toks_comma, s2 _ (stop_one (by simp) _), toks_one1 (by simp), lay_lay, lay_lay, lay_lay, lay_lay, lay_lay, lay_lay, lay_lay]
    have e2 : a + 5 + (termX x.a).length + 2 + pe.tx.length + 2 + (termX x.b).length + 1 = a + [[119, 97, 108, 107, 40], termX x.a, [44, 32], pe.tx, [44, 32], termX x.b, [41]].flatten.length := by simp; omega
    rw [e2]; simp
  · generalize a + 5 + (termX x.a).length + 2 + pe.tx.length + 2 + (termX x.b).length = q5 at *
    generalize a + 5 + (termX x.a).length + 2 + pe.tx.length + 2 = q4 at *
    generalize a + 5 + (termX x.a).length + 2 + pe.tx.length = q3 at *
    generalize a + 5 + (termX x.a).length + 2 = q2 at *
    generalize a + 5 + (termX x.a).length = q1 at *
    generalize a + 5 = q0 at *
    have e1 : (⟨1, [119, 97, 108, 107], a⟩ :: ⟨4, [40], a + 4⟩ :: ⟨k1, termX x.a, q0⟩ :: ⟨4, [44], q1⟩ :: (pe.tk q2 ++ [⟨4, [44], q3⟩, ⟨k2, termX x.b, q4⟩, ⟨4, [41], q5⟩]) ++ r : List Tk) = ⟨1, [119, 97, 108, 107], a⟩ :: ⟨4, [40], a + 4⟩ :: ⟨k1, termX x.a, q0⟩ :: ⟨4, [44], q1⟩ :: (pe.tk q2 ++ (⟨4, [44], q3⟩ :: ⟨k2, termX x.b, q4⟩ :: ⟨4, [41], q5⟩ :: r)) := by simp
    rw [e1]
    unfold litP
    rw [List.tail_cons, hd_cons, hd_cons, if_neg (show ¬ cmpT ⟨4, [40], a + 4⟩ = true by simp [cmpT]), if_neg (show ¬ (varT ⟨1, [119, 97, 108, 107], a⟩ = true ∧ ([40] : List UInt8) = [105, 115]) from fun h => by have := h.1; cases this), if_neg (show ¬ ([119, 97, 108, 107] : List UInt8) = [110, 111, 116] by decide), if_pos (show ([119, 97, 108, 107] : List UInt8) = [119, 97, 108, 107] from rfl)]
    unfold walkP
    have w1 : ∀ (m : List UInt8) (k q : Nat) (s : List Tk), wantP m z (⟨k, m, q⟩ :: s) = .ok ⟨k, m, q⟩ s := fun m k q s => by unfold wantP needP isX; simp
    rw [w1]
    simp only [Ans.bind]
    rw [w1]
    simp only
    rw [t1]
    simp only
    rw [w1]
    simp only
    rw [(reads_tree pe g1 32).whole g3 (by rw [g2]; exact g4) q2 (r := ⟨4, [44], q3⟩ :: ⟨k2, termX x.b, q4⟩ :: ⟨4, [41], q5⟩ :: r) rfl (by simp [hdT]) (by simp [hdT])]
    simp only
    rw [w1]
    simp only
    rw [t2]
    simp only
    rw [w1]
    simp only [ltOf, hk, b3, b6, AmA.am, b1, b2, g2]
    rfl
theorem lit_reads {x : LtI} (h : litX x ≠ []) (hok : x.ok) : LitR x := by
  by_cases h1 : x.k = 1
  · exact lit_1 h1 h hok
  by_cases h2 : x.k = 2
  · exact lit_2 h2 h hok
  by_cases h3 : x.k = 3
  · exact lit_3 h3 h hok
  by_cases h4 : x.k = 4
  · exact lit_4 h4 h hok
  by_cases h5 : x.k = 5
  · exact lit_5 h5 h hok
  · exact absurd (by unfold litX litT; rw [if_neg h1, if_neg h2, if_neg h3, if_neg h4, if_neg h5]; split <;> rfl) h
end Go.Proofs.YtahljmddnfldlaaGreatDoor
namespace Go.Proofs.YtahljmddnfldlaaGreatDoor
open Go.RowKit FloM ValM Go.Shelf
set_option linter.unusedVariables false
set_option linter.unusedSimpArgs false
def rlOf (x : RlI) : Rl := ⟨x.h.am, x.f.toNat, x.b.map ltOf⟩
def pgOf (x : PgI) : Pg := ⟨x.r.map rlOf, x.q.am⟩
theorem want9 (m : List UInt8) (z k q : Nat) (s : List Tk) : wantP m z (⟨k, m, q⟩ :: s) = .ok ⟨k, m, q⟩ s := by unfold wantP needP isX; simp
theorem ruleT_some {h : List UInt8} {ts : List (List UInt8)} (hr : ruleT h ts ≠ []) : ts.length ≤ 12 ∧ [] ∉ ts ∧ h ≠ [] ∧ ruleT h ts = if ts = [] then h ++ [46] else h ++ [32, 58, 45, 32] ++ joinB ts ++ [46] := by
  unfold ruleT at hr ⊢
  split at hr
  · exact absurd rfl hr
  · rename_i hc
    rw [if_neg hc]
    simp only [not_or] at hc
    exact ⟨by omega, hc.2.1, hc.2.2, rfl⟩
theorem rule_reads {x : RlI} (h : ruleX litX x ≠ []) (hok : x.ok) (a : Nat) : ∃ T, (∀ r, toksL a (ruleX litX x ++ r) = (toksL (a + (ruleX litX x).length) r).lay (⟨1, x.h.p, a⟩ :: T)) ∧ (∀ z r, ruleP z (⟨1, x.h.p, a⟩ :: T ++ r) = .ok (rlOf x) r) ∧ predL x.h.p = true := by
  unfold ruleX at h ⊢
  obtain ⟨h12, hin, hh, e⟩ := ruleT_some h
  rw [e]
  obtain ⟨hA, hf0, hp, hf1⟩ := rd_heads hh hok.1.2
  generalize headX x.h.p x.h.a x.f = HX at *
  have hlast := headGf_last hf0 x.h.a hf1
  have hfst := headGf_fst x.f x.h.a
  obtain ⟨T1, a1, a2, _⟩ := hA a
  by_cases hb : x.b = []
  · rw [if_pos (by rw [hb]; rfl)]
    refine ⟨T1 ++ [⟨4, [46], a + HX.length⟩], fun r => ?_, fun z r => ?_, hp⟩
    · have e1 : HX ++ [46] ++ r = HX ++ 46 :: r := by simp
      rw [e1, a1 _ (stop_one (by simp) _), toks_one1 (by simp), lay_lay]
      have e2 : a + HX.length + 1 = a + (HX ++ [46]).length := by simp; omega
      rw [e2]; rfl
    · have e1 : (⟨1, x.h.p, a⟩ :: (T1 ++ [⟨4, [46], a + HX.length⟩]) ++ r : List Tk) = ⟨1, x.h.p, a⟩ :: T1 ++ (⟨4, [46], a + HX.length⟩ :: r) := by simp
      rw [e1]
      unfold ruleP
      rw [a2 z (⟨4, [46], a + HX.length⟩ :: r) (show ([46] : List UInt8) ≠ [40] by decide)]
      simp only [Ans.bind]
      rw [hd_cons, if_neg (show ¬ ([46] : List UInt8) = [58, 45] by decide), want9]
      simp only [hlast, hfst, rlOf, AmA.am, hb, List.map_nil]
  · rw [if_neg (by simpa using hb)]
    obtain ⟨l, y, hly⟩ := snoc_one (l := x.b) (by have := List.length_pos_iff.2 hb; omega)
    unfold joinB
    rw [hly] at hin h12 ⊢
    have hall : ∀ t ∈ l ++ [y], LitR t := fun t ht => lit_reads (fun e0 => hin (List.mem_map.2 ⟨t, ht, e0⟩)) (hok.2.2 t (by rw [hly]; exact ht))
    obtain ⟨T2, b1, b2⟩ := list_reads (item := litP) (tx := litX) (g := ltOf) (m := [46]) (most := 12) (by decide) (by decide) l y (fun t ht => hall t (by simp [ht])) ((hall y (by simp)).weak (fun t ht => .inr ht)) (by simp at h12; omega) (a + HX.length + 4)
    generalize Lib.join ((l ++ [y]).map litX) [44, 32] = J at *
    refine ⟨T1 ++ ⟨4, [58, 45], a + HX.length + 1⟩ :: (T2 ++ [⟨4, [46], a + HX.length + 4 + J.length⟩]), fun r => ?_, fun z r => ?_, hp⟩
    · have e1 : HX ++ [32, 58, 45, 32] ++ J ++ [46] ++ r = HX ++ 32 :: ([58, 45] ++ 32 :: (J ++ 46 :: r)) := by simp
      rw [e1, a1 _ (stop_sp _), toks_space, toks_if, toks_space]
      show Rs.lay _ (Rs.lay _ (toksL (a + HX.length + 4) (J ++ 46 :: r))) = _
      rw [b1 _ (stop_one (by simp) _), toks_one1 (by simp), lay_lay, lay_lay, lay_lay]
      have e2 : a + HX.length + 4 + J.length + 1 = a + (HX ++ [32, 58, 45, 32] ++ J ++ [46]).length := by simp; omega
      rw [e2]; simp
    · have e1 : (⟨1, x.h.p, a⟩ :: (T1 ++ ⟨4, [58, 45], a + HX.length + 1⟩ :: (T2 ++ [⟨4, [46], a + HX.length + 4 + J.length⟩])) ++ r : List Tk) = ⟨1, x.h.p, a⟩ :: T1 ++ (⟨4, [58, 45], a + HX.length + 1⟩ :: (T2 ++ ⟨4, [46], a + HX.length + 4 + J.length⟩ :: r)) := by simp
      rw [e1]
      unfold ruleP
      rw [a2 z (⟨4, [58, 45], a + HX.length + 1⟩ :: (T2 ++ ⟨4, [46], a + HX.length + 4 + J.length⟩ :: r)) (show ([58, 45] : List UInt8) ≠ [40] by decide)]
      simp only [Ans.bind]
      rw [hd_cons, if_pos (show ([58, 45] : List UInt8) = [58, 45] from rfl), List.tail_cons, b2 z _ rfl]
      simp only
      rw [want9]
      simp only [hlast, hfst, rlOf, AmA.am, hly]
theorem toks_nl (a : Nat) (r : List UInt8) : toksL a (10 :: r) = toksL (a + 1) r := by
  have h : spanL sepC (10 :: r) = spanL sepC r + 1 := span_yes (by decide)
  rw [toks_skip a (10 :: r), toks_skip (a + 1) r, h, List.drop_succ_cons]
  congr 1; omega
theorem line_some {x : RlI} (h : lineX litX x ≠ []) : ruleX litX x ≠ [] ∧ lineX litX x = ruleX litX x ++ [10] := by
  unfold lineX at h ⊢
  obtain ⟨h1, h2⟩ := wholeX_some h
  exact ⟨fun e => h1 (by simp [e]), by rw [h2]; simp⟩
theorem rules_reads : ∀ (l : List RlI), (∀ x ∈ l, lineX litX x ≠ [] ∧ x.ok) → ∀ a, ∃ T, (∀ r, toksL a ((l.map (lineX litX)).flatten ++ r) = (toksL (a + (l.map (lineX litX)).flatten.length) r).lay T) ∧
    ∀ z R n acc, acc.length + l.length ≤ 200 → predT (hdT z R) = false → rulesL z (n + l.length) acc (T ++ R) = rulesL z n (acc ++ l.map rlOf) R
  | [], _, a => ⟨[], fun r => by rw [lay_nil]; rfl, fun z R n acc _ _ => by simp⟩
  | x :: l, h, a => by
    obtain ⟨h1, h2⟩ := line_some (h x (by simp)).1
    obtain ⟨T1, a1, a2, hp⟩ := rule_reads h1 (h x (by simp)).2 a
    obtain ⟨T2, b1, b2⟩ := rules_reads l (fun y hy => h y (by simp [hy])) (a + (ruleX litX x).length + 1)
    refine ⟨⟨1, x.h.p, a⟩ :: T1 ++ T2, fun r => ?_, fun z R n acc hm hR => ?_⟩
    · rw [List.map_cons, List.flatten_cons, h2]
      have e1 : ruleX litX x ++ [10] ++ (l.map (lineX litX)).flatten ++ r = ruleX litX x ++ 10 :: ((l.map (lineX litX)).flatten ++ r) := by simp
      rw [e1, a1, toks_nl, b1, lay_lay]
      have e2 : a + (ruleX litX x).length + 1 + (l.map (lineX litX)).flatten.length = a + (ruleX litX x ++ [10] ++ (l.map (lineX litX)).flatten).length := by simp; omega
      rw [e2]
    · simp only [List.length_cons] at hm
      have e1 : n + (x :: l).length = (n + l.length) + 1 := by simp; omega
      have e2 : (⟨1, x.h.p, a⟩ :: T1 ++ T2 ++ R : List Tk) = ⟨1, x.h.p, a⟩ :: T1 ++ (T2 ++ R) := by simp
      rw [e1, e2]
      have a3 := a2 z (T2 ++ R)
      have hh : hdT z (⟨1, x.h.p, a⟩ :: T1 ++ (T2 ++ R)) = ⟨1, x.h.p, a⟩ := rfl
      conv => lhs; unfold rulesL
      rw [hh, if_pos (pred_tokT hp a), if_neg (show ¬ acc.length = 200 by omega), a3]
      simp only [Ans.bind]
      rw [b2 z R n (acc ++ [rlOf x]) (by simp; omega) hR]
      simp
theorem rulesL_end {z : Nat} {R : List Tk} (h : predT (hdT z R) = false) (n : Nat) (acc : List Rl) : rulesL z n acc R = .ok acc R := by
  cases n with
  | zero => rfl
  | succ n => unfold rulesL; rw [if_neg (by rw [h]; decide)]
theorem text_some {ts : List (List UInt8)} {q : List UInt8} (h : textT ts q ≠ []) : ts.length ≤ 200 ∧ [] ∉ ts ∧ q ≠ [] ∧ ts.flatten.length + q.length ≤ 20000 ∧ textT ts q = ts.flatten ++ q := by
  unfold textT at h ⊢
  split at h
  · exact absurd rfl h
  · rename_i hc
    rw [if_neg hc]
    simp only [not_or] at hc
    exact ⟨by omega, hc.2.1, hc.2.2.1, by omega, rfl⟩
/-- A program's text is read as the program. -/
theorem prog_reads {x : PgI} (h : textX litX x ≠ []) (hok : x.ok) : ∃ T, toksL 0 (textX litX x) = .good T ∧ (∀ z, wholeP progP z T = .ok (pgOf x) []) ∧ (textX litX x).length ≤ 20000 := by
  unfold textX at h ⊢
  obtain ⟨h200, hin, hq, hlen, e⟩ := text_some h
  rw [e]
  unfold queryX at hq ⊢
  obtain ⟨hqi, eq⟩ := wholeX_some hq
  have ha : atomX x.q ≠ [] := fun e => hqi (by simp [e])
  obtain ⟨T1, a1, a2⟩ := rules_reads x.r (fun y hy => ⟨fun e0 => hin (List.mem_map.2 ⟨y, hy, e0⟩), hok.1 y hy⟩) 0
  unfold queryX at hlen
  rw [eq] at hlen ⊢
  generalize (x.r.map (lineX litX)).flatten = F at *
  obtain ⟨T2, b1, b2, _⟩ := rd_atom ha hok.2 (0 + F.length + 3)
  rw [List.length_map] at h200
  refine ⟨T1 ++ ⟨4, [63, 45], 0 + F.length⟩ :: (⟨1, x.q.p, 0 + F.length + 3⟩ :: T2 ++ [⟨4, [46], 0 + F.length + 3 + (atomX x.q).length⟩]), ?_, fun z => ?_, by rw [List.length_append]; exact hlen⟩
  · have e1 : F ++ [[63, 45, 32], atomX x.q, [46, 10]].flatten = F ++ ([63, 45] ++ 32 :: (atomX x.q ++ 46 :: [10])) := by simp
    rw [e1, a1, toks_ask, toks_space]
    show Rs.lay _ (Rs.lay _ (toksL (0 + F.length + 3) (atomX x.q ++ 46 :: [10]))) = _
    rw [b1 _ (stop_one (by simp) _), toks_one1 (by simp), toks_nl, toks_end (l := []) rfl, lay_lay, lay_lay, lay_lay]
    simp [Rs.lay]
  · unfold wholeP progP
    obtain ⟨n, hN⟩ : ∃ n, many = n + x.r.length := ⟨20010 - x.r.length, by unfold many; omega⟩
    rw [hN]
    have hR : predT (hdT z (⟨4, [63, 45], 0 + F.length⟩ :: (⟨1, x.q.p, 0 + F.length + 3⟩ :: T2 ++ [⟨4, [46], 0 + F.length + 3 + (atomX x.q).length⟩]))) = false := rfl
    rw [a2 z _ n [] (by simp; omega) hR, rulesL_end hR]
    simp only [Ans.bind]
    rw [want9]
    simp only
    unfold atomP
    have e2 : (⟨1, x.q.p, 0 + F.length + 3⟩ :: T2 ++ [⟨4, [46], 0 + F.length + 3 + (atomX x.q).length⟩] : List Tk) = ⟨1, x.q.p, 0 + F.length + 3⟩ :: T2 ++ (⟨4, [46], 0 + F.length + 3 + (atomX x.q).length⟩ :: []) := by simp
    rw [b2 z [⟨4, [46], 0 + F.length + 3 + (atomX x.q).length⟩] (show ([46] : List UInt8) ≠ [40] by decide)]
    simp only [Ans.bind]
    rw [want9]
    simp only [pgOf, AmA.am, List.nil_append]
end Go.Proofs.YtahljmddnfldlaaGreatDoor

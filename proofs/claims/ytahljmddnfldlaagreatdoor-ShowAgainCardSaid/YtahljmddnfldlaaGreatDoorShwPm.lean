/-
  Package show, paths: a path's text by a stack of expressions, and by the document's own recursion from the end: plain mathematics.
-/
import Derived.Test.YtahljmddnfldlaaGreatDoorPrsM
import Derived.Test.YtahljmddnfldlaaGreatDoorPrsN
import Derived.Test.YtahljmddnfldlaaGreatDoorLexG
namespace Go.Proofs.YtahljmddnfldlaaGreatDoor
open FloM ValM
set_option linter.unusedVariables false
set_option linter.unusedSimpArgs false
def predL (l : List UInt8) : Bool := nameL l && !keyL l
theorem predL_ne {l : List UInt8} (h : predL l = true) : l ≠ [] := fun e => by rw [e] at h; simp [predL, name_nil] at h
/-- How many operands a step has; none: it is no step that may be. -/
def opN (s : St) : Option Nat :=
  if s.k = 1 ∨ s.k = 2 then (if predL s.l = true then some 0 else none)
  else if s.k = 5 ∨ s.k = 6 ∨ s.k = 7 then (if s.l = [] then some 1 else none)
  else if s.k = 3 ∨ s.k = 4 then (if s.l = [] then some 2 else none) else none
/-- The text of a path, and how tightly it holds: 0 a choice, 1 a sequence, 2 one alone. -/
abbrev Ex := List UInt8 × Nat
def inE (x : Ex) (least : Nat) : List UInt8 := if x.2 < least then [40] ++ x.1 ++ [41] else x.1
def e0 : Ex := ([], 0)
def combE (s : St) (a b : Ex) : Ex :=
  if s.k = 1 then (s.l, 2) else if s.k = 2 then ([94] ++ s.l, 2) else if s.k = 3 then (inE a 1 ++ [47] ++ inE b 2, 1) else if s.k = 4 then (inE a 0 ++ [124] ++ inE b 1, 0)
  else if s.k = 5 then (inE a 2 ++ [42], 2) else if s.k = 6 then (inE a 2 ++ [43], 2) else (inE a 2 ++ [63], 2)
/-- One step more. -/
def stepE (st : List Ex) (s : St) : Option (List Ex) := match opN s with
  | none => none
  | some n => if st.length < n then none else some (st.take (st.length - n) ++ [combE s ((st.drop (st.length - n)).headD e0) ((st.drop (st.length - n)).tail.headD e0)])
def runE : List Ex → List St → Option (List Ex)
  | st, [] => some st
  | st, s :: r => (stepE st s).bind fun st2 => runE st2 r
theorem run_app (st : List Ex) (a b : List St) : runE st (a ++ b) = (runE st a).bind fun st2 => runE st2 b := by
  induction a generalizing st with
  | nil => rfl
  | cons s a ih =>
    simp only [List.cons_append, runE]
    cases stepE st s with
    | none => rfl
    | some st2 => exact ih st2
theorem run_snoc (st : List Ex) (a : List St) (s : St) : runE st (a ++ [s]) = (runE st a).bind fun st2 => stepE st2 s := by
  rw [run_app]
  cases runE st a with
  | none => rfl
  | some st2 => simp only [Option.bind, runE]; cases stepE st2 s <;> rfl
def badS (x : St) : Bool := ((decide (x.k = 1) || decide (x.k = 2)) != decide (x.l ≠ [])) || (decide (x.l ≠ []) && !predL x.l) || (decide (x.k < 1) || decide (7 < x.k))
theorem opN_bad (x : St) : opN x = none ↔ badS x = true := by
  unfold opN badS
  by_cases h1 : x.k = 1 ∨ x.k = 2
  · rw [if_pos h1]
    have e1 : (decide (x.k = 1) || decide (x.k = 2)) = true := by simpa using h1
    have e2 : (decide (x.k < 1) || decide (7 < x.k)) = false := by simp; omega
    rw [e1, e2]
    cases hp : predL x.l with
    | true => have := predL_ne hp; simp [this]
    | false => by_cases hl : x.l = [] <;> simp [hl]
  · rw [if_neg h1]
    have e1 : (decide (x.k = 1) || decide (x.k = 2)) = false := by simp; omega
    rw [e1]
    by_cases h2 : x.k = 5 ∨ x.k = 6 ∨ x.k = 7
    · rw [if_pos h2]
      have e2 : (decide (x.k < 1) || decide (7 < x.k)) = false := by simp; omega
      rw [e2]
      by_cases hl : x.l = [] <;> simp [hl]
    · rw [if_neg h2]
      by_cases h3 : x.k = 3 ∨ x.k = 4
      · rw [if_pos h3]
        have e2 : (decide (x.k < 1) || decide (7 < x.k)) = false := by simp; omega
        rw [e2]
        by_cases hl : x.l = [] <;> simp [hl]
      · rw [if_neg h3]
        have e2 : (decide (x.k < 1) || decide (7 < x.k)) = true := by simp; omega
        rw [e2]; simp
theorem snoc_one {α : Type} {l : List α} (h : 1 ≤ l.length) : ∃ m x, l = m ++ [x] := by
  have hne : l ≠ [] := fun e => by rw [e] at h; simp at h
  exact ⟨l.dropLast, l.getLast hne, (List.dropLast_concat_getLast hne).symm⟩
theorem step_0 {st : List Ex} {x : St} (h : opN x = some 0) : stepE st x = some (st ++ [combE x e0 e0]) := by
  unfold stepE; rw [h]
  simp
theorem step_1 {st : List Ex} {x : St} {a : Ex} (h : opN x = some 1) : stepE (st ++ [a]) x = some (st ++ [combE x a e0]) := by
  unfold stepE; rw [h]
  simp
theorem step_2 {st : List Ex} {x : St} {a b : Ex} (h : opN x = some 2) : stepE (st ++ [a] ++ [b]) x = some (st ++ [combE x a b]) := by
  unfold stepE; rw [h]
  simp
theorem step_few {st : List Ex} {x : St} {n : Nat} (h : opN x = some n) (hl : st.length < n) : stepE st x = none := by
  unfold stepE; rw [h]; simp only; rw [if_pos hl]
theorem opN_cases {x : St} {n : Nat} (h : opN x = some n) : (n = 0 ∧ (x.k = 1 ∨ x.k = 2)) ∨ (n = 1 ∧ (x.k = 5 ∨ x.k = 6 ∨ x.k = 7)) ∨ (n = 2 ∧ (x.k = 3 ∨ x.k = 4)) := by
  unfold opN at h
  split at h
  · rename_i h1
    split at h
    · injection h with h; exact .inl ⟨h.symm, h1⟩
    · cases h
  · split at h
    · rename_i h1
      split at h
      · injection h with h; exact .inr (.inl ⟨h.symm, h1⟩)
      · cases h
    · split at h
      · rename_i h1
        split at h
        · injection h with h; exact .inr (.inr ⟨h.symm, h1⟩)
        · cases h
      · cases h
theorem not_bad {x : St} {n : Nat} (h : opN x = some n) : badS x = false := by
  cases hb : badS x with
  | false => rfl
  | true => rw [(opN_bad x).2 hb] at h; cases h
/-- A path's text, by the stack and by the recursion; how deep a text is nested is told by D. -/
def pathX (D : List UInt8 → Nat) (l : List St) : List UInt8 := if 100 < l.length then [] else match runE [] l with
  | some [e] => if 32 < D e.1 then [] else e.1
  | _ => []
end Go.Proofs.YtahljmddnfldlaaGreatDoor
namespace Go.Proofs.YtahljmddnfldlaaGreatDoor
open FloM ValM
set_option linter.unusedVariables false
set_option linter.unusedSimpArgs false
theorem pred_len {l : List UInt8} (h : predL l = true) : l.length ≤ 40 := by
  unfold predL at h
  simp only [Bool.and_eq_true] at h
  exact ((nameL_iff l).1 h.1).2.1
theorem good_label {x : St} (h : badS x = false) : x.l.length ≤ 40 := by
  by_cases hl : x.l = []
  · rw [hl]; simp
  · unfold badS at h
    simp only [Bool.or_eq_false_iff] at h
    have h2 := h.1.2
    simp only [ne_eq, hl, not_false_eq_true, decide_true, Bool.true_and, Bool.not_eq_false'] at h2
    exact pred_len h2
end Go.Proofs.YtahljmddnfldlaaGreatDoor
namespace Go.Proofs.YtahljmddnfldlaaGreatDoor
open FloM ValM
set_option linter.unusedVariables false
set_option linter.unusedSimpArgs false
/-- A path as a tree. -/
inductive PE where
  | leaf (b : Bool) (l : List UInt8)
  | un (k : Nat) (e : PE)
  | bin (k : Nat) (a b : PE)
def mkU (k : Nat) : UInt8 := if k = 5 then 42 else if k = 6 then 43 else 63
def PE.st : PE → List St
  | .leaf b l => [⟨if b then 2 else 1, l⟩]
  | .un k e => e.st ++ [⟨k, []⟩]
  | .bin k a b => a.st ++ b.st ++ [⟨k, []⟩]
def PE.hold : PE → Nat
  | .leaf _ _ => 2
  | .un _ _ => 2
  | .bin k _ _ => if k = 3 then 1 else 0
def PE.tx : PE → List UInt8
  | .leaf b l => if b then [94] ++ l else l
  | .un k e => inE (e.tx, e.hold) 2 ++ [mkU k]
  | .bin k a b => if k = 3 then inE (a.tx, a.hold) 1 ++ [47] ++ inE (b.tx, b.hold) 2 else inE (a.tx, a.hold) 0 ++ [124] ++ inE (b.tx, b.hold) 1
def PE.ex (e : PE) : Ex := (e.tx, e.hold)
def PE.good : PE → Prop
  | .leaf _ l => predL l = true
  | .un k e => (k = 5 ∨ k = 6 ∨ k = 7) ∧ e.good
  | .bin k a b => (k = 3 ∨ k = 4) ∧ a.good ∧ b.good
/-! ### The stack -/
theorem op_leaf (b : Bool) {l : List UInt8} (h : predL l = true) : opN ⟨if b then 2 else 1, l⟩ = some 0 := by cases b <;> simp [opN, h]
theorem op_un {k : Nat} (h : k = 5 ∨ k = 6 ∨ k = 7) : opN ⟨k, []⟩ = some 1 := by rcases h with rfl | rfl | rfl <;> rfl
theorem op_bin {k : Nat} (h : k = 3 ∨ k = 4) : opN ⟨k, []⟩ = some 2 := by rcases h with rfl | rfl <;> rfl
theorem comb_leaf (b : Bool) (l : List UInt8) : combE ⟨if b then 2 else 1, l⟩ e0 e0 = (PE.leaf b l).ex := by cases b <;> rfl
theorem comb_un {k : Nat} (h : k = 5 ∨ k = 6 ∨ k = 7) (e : PE) : combE ⟨k, []⟩ e.ex e0 = (PE.un k e).ex := by rcases h with rfl | rfl | rfl <;> rfl
theorem comb_bin {k : Nat} (h : k = 3 ∨ k = 4) (a b : PE) : combE ⟨k, []⟩ a.ex b.ex = (PE.bin k a b).ex := by rcases h with rfl | rfl <;> rfl
theorem run_tree : ∀ (e : PE) (st : List Ex), e.good → runE st e.st = some (st ++ [e.ex])
  | .leaf b l, st, h => by
    show runE st [⟨if b then 2 else 1, l⟩] = _
    unfold runE; rw [step_0 (op_leaf b h), comb_leaf]; rfl
  | .un k e, st, h => by
    show runE st (e.st ++ [⟨k, []⟩]) = _
    rw [run_snoc, run_tree e st h.2]
    simp only [Option.bind]
    rw [step_1 (op_un h.1), comb_un h.1]
  | .bin k a b, st, h => by
    show runE st (a.st ++ b.st ++ [⟨k, []⟩]) = _
    rw [run_snoc, run_app, run_tree a st h.2.1]
    simp only [Option.bind]
    rw [run_tree b _ h.2.2]
    simp only
    rw [step_2 (op_bin h.1), comb_bin h.1]
theorem step_tree {es : List PE} {s : St} {st2 : List Ex} (h : stepE (es.map PE.ex) s = some st2) (hg : ∀ e ∈ es, e.good) : ∃ es2 : List PE, st2 = es2.map PE.ex ∧ es2.flatMap PE.st = es.flatMap PE.st ++ [s] ∧ ∀ e ∈ es2, e.good := by
  cases ho : opN s with
  | none => unfold stepE at h; rw [ho] at h; cases h
  | some n =>
    have hfew : ¬ es.length < n := fun hl => by rw [step_few ho (by rwa [List.length_map])] at h; cases h
    obtain ⟨k, l⟩ := s
    rcases opN_cases ho with ⟨rfl, hk⟩ | ⟨rfl, hk⟩ | ⟨rfl, hk⟩
    · rw [step_0 ho] at h
      injection h with h
      simp only at hk
      have hp : predL l = true := by
        unfold opN at ho
        simp only at ho
        rw [if_pos hk] at ho
        split at ho
        · assumption
        · cases ho
      obtain ⟨b, rfl⟩ : ∃ b : Bool, k = if b then 2 else 1 := by
        rcases hk with rfl | rfl
        · exact ⟨false, rfl⟩
        · exact ⟨true, rfl⟩
      refine ⟨es ++ [.leaf b l], by rw [← h, comb_leaf]; simp, by simp [PE.st], fun e he => ?_⟩
      rw [List.mem_append, List.mem_singleton] at he
      rcases he with he | rfl
      · exact hg e he
      · exact hp
    · simp only at hk
      have hl0 : l = [] := by
        unfold opN at ho
        simp only at ho
        rw [if_neg (by omega), if_pos hk] at ho
        split at ho
        · assumption
        · cases ho
      subst hl0
      obtain ⟨m, a, rfl⟩ := snoc_one (l := es) (by omega)
      rw [List.map_append, List.map_singleton, step_1 ho] at h
      injection h with h
      refine ⟨m ++ [.un k a], by rw [← h, comb_un hk]; simp, by simp [PE.st], fun e he => ?_⟩
      rw [List.mem_append, List.mem_singleton] at he
      rcases he with he | rfl
      · exact hg e (by simp [he])
      · exact ⟨hk, hg a (by simp)⟩
    · simp only at hk
      have hl0 : l = [] := by
        unfold opN at ho
        simp only at ho
        rw [if_neg (by omega), if_neg (by omega), if_pos hk] at ho
        split at ho
        · assumption
        · cases ho
      subst hl0
      obtain ⟨m1, b, rfl⟩ := snoc_one (l := es) (by omega)
      obtain ⟨m, a, rfl⟩ := snoc_one (l := m1) (by simp at hfew; omega)
      rw [List.map_append, List.map_append, List.map_singleton, List.map_singleton, step_2 ho] at h
      injection h with h
      refine ⟨m ++ [.bin k a b], by rw [← h, comb_bin hk]; simp, by simp [PE.st], fun e he => ?_⟩
      rw [List.mem_append, List.mem_singleton] at he
      rcases he with he | rfl
      · exact hg e (by simp [he])
      · exact ⟨hk, hg a (by simp), hg b (by simp)⟩
theorem run_trees : ∀ (l : List St) (es : List PE) (st2 : List Ex), runE (es.map PE.ex) l = some st2 → (∀ e ∈ es, e.good) → ∃ es2 : List PE, st2 = es2.map PE.ex ∧ es2.flatMap PE.st = es.flatMap PE.st ++ l ∧ ∀ e ∈ es2, e.good
  | [], es, st2, h, hg => by injection h with h; exact ⟨es, h.symm, by simp, hg⟩
  | s :: l, es, st2, h, hg => by
    unfold runE at h
    cases hs : stepE (es.map PE.ex) s with
    | none => rw [hs] at h; cases h
    | some m =>
      rw [hs] at h
      simp only [Option.bind] at h
      obtain ⟨es1, rfl, e2, g1⟩ := step_tree hs hg
      obtain ⟨es2, e3, e4, g2⟩ := run_trees l es1 st2 h g1
      exact ⟨es2, e3, by rw [e4, e2]; simp, g2⟩
/-- Steps that leave one expression are a tree's. -/
theorem run_one {l : List St} {e : Ex} (h : runE [] l = some [e]) : ∃ t : PE, t.st = l ∧ t.ex = e ∧ t.good := by
  obtain ⟨es, e1, e2, hg⟩ := run_trees l [] [e] h (by simp)
  match es, e1 with
  | [t], e1 =>
    simp only [List.map_cons, List.map_nil, List.cons.injEq, and_true] at e1
    refine ⟨t, by simpa using e2, e1.symm, hg t (by simp)⟩
  | [], e1 => simp at e1
  | _ :: _ :: _, e1 => simp at e1
/-! ### Depth, tokens -/
def inD (d h least : Nat) : Nat := if h < least then d + 1 else d
def PE.dp : PE → Nat
  | .leaf _ _ => 0
  | .un _ e => inD e.dp e.hold 2
  | .bin k a b => if k = 3 then max (inD a.dp a.hold 1) (inD b.dp b.hold 2) else max (inD a.dp a.hold 0) (inD b.dp b.hold 1)
def inT (f : Nat → List Tk) (n h least a : Nat) : List Tk := if h < least then ⟨4, [40], a⟩ :: (f (a + 1) ++ [⟨4, [41], a + 1 + n⟩]) else f a
def PE.tk : PE → Nat → List Tk
  | .leaf b l, a => if b then [⟨4, [94], a⟩, ⟨1, l, a + 1⟩] else [⟨1, l, a⟩]
  | .un k e, a => inT e.tk e.tx.length e.hold 2 a ++ [⟨4, [mkU k], a + (inE e.ex 2).length⟩]
  | .bin k x y, a => if k = 3 then inT x.tk x.tx.length x.hold 1 a ++ ⟨4, [47], a + (inE x.ex 1).length⟩ :: inT y.tk y.tx.length y.hold 2 (a + (inE x.ex 1).length + 1)
    else inT x.tk x.tx.length x.hold 0 a ++ ⟨4, [124], a + (inE x.ex 0).length⟩ :: inT y.tk y.tx.length y.hold 1 (a + (inE x.ex 0).length + 1)
/-- What a path's text may be followed by. -/
def StopP (r : List UInt8) : Prop := ∀ c y, r = c :: y → nameC c = false ∧ c ≠ 45
theorem lay_lay (A B : List Tk) (R : Rs) : (R.lay B).lay A = R.lay (A ++ B) := by cases R <;> simp [Rs.lay]
theorem pre_lay (t : Tk) (R : Rs) : R.pre t = R.lay [t] := by cases R <;> rfl
theorem first_path {c : UInt8} (hc : c = 47 ∨ c = 124 ∨ c = 42 ∨ c = 43 ∨ c = 94 ∨ c = 41 ∨ c = 40) (r : List UInt8) : firstL (c :: r) = some (4, 1) := by
  rcases hc with rfl | rfl | rfl | rfl | rfl | rfl | rfl <;> exact one_mark (by decide) (by decide) (by decide) (by decide) (by decide) (by decide) (by cases r <;> simp [two])
theorem first_ask {r : List UInt8} (hr : StopP r) : firstL (63 :: r) = some (4, 1) := one_mark (by decide) (by decide) (by decide) (by decide) (by decide) (by decide) (by
  cases r with
  | nil => rfl
  | cons c y =>
    have := (hr c y rfl).2
    have h2 : c.toNat ≠ 45 := fun h => this (UInt8.toNat_inj.1 h)
    simp [two, h2])
theorem toks_path {c : UInt8} (hc : c = 47 ∨ c = 124 ∨ c = 42 ∨ c = 43 ∨ c = 94 ∨ c = 41 ∨ c = 40) (r : List UInt8) (a : Nat) : toksL a (c :: r) = (toksL (a + 1) r).lay [⟨4, [c], a⟩] := by
  rw [← pre_lay]
  exact toks_mark (by rcases hc with rfl | rfl | rfl | rfl | rfl | rfl | rfl <;> decide) (first_path hc r) a
theorem toks_unary {k : Nat} {r : List UInt8} (hr : StopP r) (a : Nat) : toksL a (mkU k :: r) = (toksL (a + 1) r).lay [⟨4, [mkU k], a⟩] := by
  unfold mkU
  split
  · exact toks_path (by simp) r a
  split
  · exact toks_path (by simp) r a
  · rw [← pre_lay]; exact toks_mark (by decide) (first_ask hr) a
theorem stop_mark {c : UInt8} (hc : c = 47 ∨ c = 124 ∨ c = 42 ∨ c = 43 ∨ c = 94 ∨ c = 41 ∨ c = 40 ∨ c = 63) (r : List UInt8) : StopP (c :: r) := fun d y e => by
  injection e with e _; subst e
  rcases hc with rfl | rfl | rfl | rfl | rfl | rfl | rfl | rfl <;> decide
theorem stop_unary (k : Nat) (r : List UInt8) : StopP (mkU k :: r) := by
  unfold mkU
  split
  · exact stop_mark (by simp) r
  split
  · exact stop_mark (by simp) r
  · exact stop_mark (by simp) r
theorem name_word {l : List UInt8} (h : nameL l = true) : l.all wordC = true := by
  have h3 := ((nameL_iff l).1 h).2.2
  clear h
  have : ∀ (l : List UInt8) (i : Nat), allAt i l = true → l.all wordC = true := by
    intro l
    induction l with
    | nil => intro i _; rfl
    | cons c r ih =>
      intro i h
      simp only [allAt, Bool.and_eq_true] at h
      rw [List.all_cons, ih _ h.2, Bool.and_true]
      have := (okAt_iff i c).1 h.1
      simp [wordC, lowC, digC]
      omega
  exact this l 0 h3
theorem toks_name {l r : List UInt8} (hl : nameL l = true) (hr : StopP r) (a : Nat) : toksL a (l ++ r) = (toksL (a + l.length) r).lay [⟨1, l, a⟩] := by
  have hne : l ≠ [] := fun e => by rw [e] at hl; simp [nameL] at hl
  obtain ⟨c, y, rfl⟩ : ∃ c y, l = c :: y := ⟨l.head hne, l.tail, (List.cons_head_tail hne).symm⟩
  have hlow : lowC c = true := by have := name_head hl; simp [lowC, this]
  have hw := name_word hl
  have hsep : sepC c = false := by
    cases hs : sepC c with
    | false => rfl
    | true => have := (sep_not hs).2.2.1; rw [hlow] at this; cases this
  have h0 : spanL sepC ((c :: y) ++ r) = 0 := span_no hsep
  have hm : measL ((c :: y) ++ r) = (1, (c :: y).length) := by
    rw [List.cons_append, meas_low hlow, ← List.cons_append, span_eq (fun d z e => ?_) hw]
    have := (hr d z e).1
    cases hd : wordC d with
    | false => rfl
    | true => rw [word_name hd] at this; cases this
  have hf : firstL ((c :: y) ++ r) = some (1, (c :: y).length) := by
    unfold firstL
    rw [hm, if_pos (by simp only; rw [List.take_left]; exact hl)]
  have := toks_more (a := a) (l := (c :: y) ++ r) (k := 1) (n := (c :: y).length) (by rw [h0]; exact hf)
  rw [h0] at this
  rw [this, ← pre_lay]
  simp only [Nat.add_zero, Nat.zero_add, List.drop_zero]
  rw [List.take_left, List.drop_left]
theorem toks_in {e : PE} {least : Nat} (ih : ∀ a r, StopP r → toksL a (e.tx ++ r) = (toksL (a + e.tx.length) r).lay (e.tk a)) (a : Nat) {r : List UInt8} (hr : StopP r) :
    toksL a (inE e.ex least ++ r) = (toksL (a + (inE e.ex least).length) r).lay (inT e.tk e.tx.length e.hold least a) := by
  unfold inE inT PE.ex
  by_cases h : e.hold < least
  · simp only
    rw [if_pos h, if_pos h]
    have e1 : [40] ++ e.tx ++ [41] ++ r = 40 :: (e.tx ++ 41 :: r) := by simp
    rw [e1, toks_path (by simp), ih (a + 1) (41 :: r) (stop_mark (by simp) r), toks_path (by simp), lay_lay, lay_lay]
    have e2 : a + 1 + e.tx.length + 1 = a + ([40] ++ e.tx ++ [41]).length := by simp; omega
    rw [e2]; simp
  · simp only
    rw [if_neg h, if_neg h]
    exact ih a r hr
/-- The tokens of a path's text, whatever follows. -/
theorem toks_tree : ∀ (e : PE), e.good → ∀ (a : Nat) (r : List UInt8), StopP r → toksL a (e.tx ++ r) = (toksL (a + e.tx.length) r).lay (e.tk a)
  | .leaf b l, h, a, r, hr => by
    have hn : nameL l = true := by have := h; unfold PE.good predL at this; simp only [Bool.and_eq_true] at this; exact this.1
    cases b with
    | false => exact toks_name hn hr a
    | true =>
      show toksL a (94 :: (l ++ r)) = _
      rw [toks_path (by simp), toks_name hn hr, lay_lay]
      show _ = (toksL (a + ([94] ++ l).length) r).lay _
      have e2 : a + 1 + l.length = a + ([94] ++ l).length := by simp; omega
      rw [e2]; rfl
  | .un k e, h, a, r, hr => by
    show toksL a (inE e.ex 2 ++ [mkU k] ++ r) = _
    rw [List.append_assoc, toks_in (toks_tree e h.2) a (r := [mkU k] ++ r) (stop_unary k r)]
    show ((toksL _ (mkU k :: r)).lay _) = _
    rw [toks_unary hr, lay_lay]
    have e2 : a + (inE e.ex 2).length + 1 = a + (PE.un k e).tx.length := by show _ = a + (inE e.ex 2 ++ [mkU k]).length; simp; omega
    rw [e2]; rfl
  | .bin k x y, h, a, r, hr => by
    rcases h.1 with rfl | rfl
    · show toksL a (inE x.ex 1 ++ [47] ++ inE y.ex 2 ++ r) = _
      have e1 : inE x.ex 1 ++ [47] ++ inE y.ex 2 ++ r = inE x.ex 1 ++ 47 :: (inE y.ex 2 ++ r) := by simp
      rw [e1, toks_in (toks_tree x h.2.1) a (stop_mark (by simp) _), toks_path (by simp), toks_in (toks_tree y h.2.2) _ hr, lay_lay, lay_lay]
      have e2 : a + (inE x.ex 1).length + 1 + (inE y.ex 2).length = a + (PE.bin 3 x y).tx.length := by show _ = a + (inE x.ex 1 ++ [47] ++ inE y.ex 2).length; simp; omega
      rw [e2]
      show _ = Rs.lay (inT x.tk x.tx.length x.hold 1 a ++ _ :: _) _
      simp
    · show toksL a (inE x.ex 0 ++ [124] ++ inE y.ex 1 ++ r) = _
      have e1 : inE x.ex 0 ++ [124] ++ inE y.ex 1 ++ r = inE x.ex 0 ++ 124 :: (inE y.ex 1 ++ r) := by simp
      rw [e1, toks_in (toks_tree x h.2.1) a (stop_mark (by simp) _), toks_path (by simp), toks_in (toks_tree y h.2.2) _ hr, lay_lay, lay_lay]
      have e2 : a + (inE x.ex 0).length + 1 + (inE y.ex 1).length = a + (PE.bin 4 x y).tx.length := by show _ = a + (inE x.ex 0 ++ [124] ++ inE y.ex 1).length; simp; omega
      rw [e2]
      show _ = Rs.lay (inT x.tk x.tx.length x.hold 0 a ++ _ :: _) _
      simp
end Go.Proofs.YtahljmddnfldlaaGreatDoor
namespace Go.Proofs.YtahljmddnfldlaaGreatDoor
open FloM ValM
set_option linter.unusedVariables false
set_option linter.unusedSimpArgs false
theorem stars_none {z : Nat} {acc : List St} {r : List Tk} (h : starK (hdT z r).t = none) : starsL acc r = (acc, r) := by
  cases r with
  | nil => rfl
  | cons t r => unfold starsL; simp only [hdT] at h; rw [h]
theorem star_mk {k : Nat} (h : k = 5 ∨ k = 6 ∨ k = 7) : starK [mkU k] = some k := by rcases h with rfl | rfl | rfl <;> rfl
theorem seq_none {m : List UInt8} {j z : Nat} {op : Ps (List St)} {acc : List St} {r : List Tk} (h : (hdT z r).t ≠ m) (n : Nat) : seqL m j op z n acc r = .ok acc r := by
  cases n with
  | zero => rfl
  | succ n => unfold seqL; rw [if_neg h]
/-- Read at each of the three levels, where so many ( may be open. -/
structure Reads (k : Nat) (e : PE) : Prop where
  part : e.hold = 2 → e.dp ≤ k → e.st.length ≤ 100 → ∀ z a r, partP (operP (innerP k)) z (e.tk a ++ r) = .ok (starsL e.st r).1 (starsL e.st r).2
  alt : 1 ≤ e.hold → e.dp ≤ k → e.st.length ≤ 100 → ∃ n, many ≤ n + e.st.length ∧ ∀ z a r, starK (hdT z r).t = none → altP (innerP k) z (e.tk a ++ r) = seqL [47] 3 (partP (operP (innerP k))) z n e.st r
  path : e.dp ≤ k → e.st.length ≤ 100 → ∃ n, many ≤ n + e.st.length ∧ ∀ z a r, starK (hdT z r).t = none → (hdT z r).t ≠ [47] → sequP [124] 4 (altP (innerP k)) z (e.tk a ++ r) = seqL [124] 4 (altP (innerP k)) z n e.st r
theorem Reads.whole {k : Nat} {e : PE} (h : Reads k e) (hd : e.dp ≤ k) (hl : e.st.length ≤ 100) {z : Nat} (a : Nat) {r : List Tk} (h1 : starK (hdT z r).t = none) (h2 : (hdT z r).t ≠ [47]) (h3 : (hdT z r).t ≠ [124]) :
    pathP k z (e.tk a ++ r) = .ok e.st r := by
  obtain ⟨n, _, hn⟩ := h.path hd hl
  rw [pathP_eq]
  unfold pathB
  rw [hn z a r h1 h2, seq_none h3]
  simp only [Ans.bind]
  rw [if_neg (by omega)]
theorem read_paren {k : Nat} {e : PE} (ih : ∀ j, Reads j e) (hd : e.dp + 1 ≤ k) (hl : e.st.length ≤ 100) (z a b p : Nat) (r : List Tk) :
    operP (innerP k) z (⟨4, [40], p⟩ :: (e.tk a ++ [⟨4, [41], b⟩]) ++ r) = .ok e.st r := by
  obtain ⟨j, rfl⟩ : ∃ j, k = j + 1 := ⟨k - 1, by omega⟩
  have e1 : (⟨4, [40], p⟩ :: (e.tk a ++ [⟨4, [41], b⟩]) ++ r : List Tk) = ⟨4, [40], p⟩ :: (e.tk a ++ ⟨4, [41], b⟩ :: r) := by simp
  rw [e1]
  unfold operP
  simp only [hdT, ↓reduceIte, List.tail_cons, innerP]
  rw [(ih j).whole (z := z) (by omega) hl a (r := ⟨4, [41], b⟩ :: r) rfl (by simp [hdT]) (by simp [hdT])]
  simp only [Ans.bind, wantP, needP, isX, beq_self_eq_true, if_true]
theorem read_part {k : Nat} {e : PE} (ih : ∀ j, Reads j e) (hd : inD e.dp e.hold 2 ≤ k) (hh : e.hold ≤ 2) (hl : e.st.length ≤ 100) (z a n : Nat) (r : List Tk) :
    partP (operP (innerP k)) z (inT e.tk n e.hold 2 a ++ r) = .ok (starsL e.st r).1 (starsL e.st r).2 := by
  unfold inD at hd
  unfold inT
  by_cases h : e.hold < 2
  · rw [if_pos h] at hd
    rw [if_pos h]
    unfold partP
    rw [read_paren ih hd hl]
    rfl
  · rw [if_neg h] at hd
    rw [if_neg h]
    exact (ih k).part (by omega) hd hl z a r
theorem read_alt {k : Nat} {e : PE} (ih : ∀ j, Reads j e) (hd : inD e.dp e.hold 1 ≤ k) (hh : e.hold ≤ 2) (hl : e.st.length ≤ 100) (n : Nat) :
    ∃ m, many ≤ m + e.st.length ∧ ∀ z a r, starK (hdT z r).t = none → altP (innerP k) z (inT e.tk n e.hold 1 a ++ r) = seqL [47] 3 (partP (operP (innerP k))) z m e.st r := by
  unfold inD at hd
  by_cases h : e.hold < 1
  · rw [if_pos h] at hd
    refine ⟨many, by omega, fun z a r hr => ?_⟩
    unfold altP sequP
    have e1 : partP (operP (innerP k)) z (inT e.tk n e.hold 1 a ++ r) = .ok e.st r := by
      unfold inT
      rw [if_pos h]
      unfold partP
      rw [read_paren ih hd hl]
      simp only [Ans.bind]
      rw [stars_none hr]
    rw [e1]; simp only [Ans.bind]
  · rw [if_neg h] at hd
    obtain ⟨m, h1, h2⟩ := (ih k).alt (by omega) hd hl
    refine ⟨m, h1, fun z a r hr => ?_⟩
    unfold inT
    rw [if_neg h]
    exact h2 z a r hr
theorem hold_le : ∀ e : PE, e.hold ≤ 2
  | .leaf _ _ => Nat.le_refl _
  | .un _ _ => Nat.le_refl _
  | .bin k _ _ => by show (if k = 3 then 1 else 0) ≤ 2; split <;> omega
/-- What reads as a part reads as a sequence; what reads as a sequence reads as a choice. -/
theorem alt_of_part {k : Nat} {e : PE} (h : ∀ z a r, partP (operP (innerP k)) z (e.tk a ++ r) = .ok (starsL e.st r).1 (starsL e.st r).2) (z a : Nat) {r : List Tk} (hr : starK (hdT z r).t = none) :
    altP (innerP k) z (e.tk a ++ r) = seqL [47] 3 (partP (operP (innerP k))) z many e.st r := by
  unfold altP sequP
  have e1 : partP (operP (innerP k)) z (e.tk a ++ r) = .ok e.st r := by rw [h, stars_none hr]
  rw [e1]; simp only [Ans.bind]
theorem path_of_alt {k n : Nat} {e : PE} (h : ∀ z a r, starK (hdT z r).t = none → altP (innerP k) z (e.tk a ++ r) = seqL [47] 3 (partP (operP (innerP k))) z n e.st r) (z a : Nat) {r : List Tk} (hr : starK (hdT z r).t = none) (hs : (hdT z r).t ≠ [47]) :
    sequP [124] 4 (altP (innerP k)) z (e.tk a ++ r) = seqL [124] 4 (altP (innerP k)) z many e.st r := by
  conv => lhs; unfold sequP
  rw [h z a r hr, seq_none hs]; simp only [Ans.bind]
theorem reads_part {k : Nat} {e : PE} (h2 : e.hold = 2) (h : e.dp ≤ k → e.st.length ≤ 100 → ∀ z a r, partP (operP (innerP k)) z (e.tk a ++ r) = .ok (starsL e.st r).1 (starsL e.st r).2) : Reads k e :=
  ⟨fun _ => h, fun _ hd hl => ⟨many, by omega, fun z a r hr => alt_of_part (h hd hl) z a hr⟩, fun hd hl => ⟨many, by omega, fun z a r hr hs => path_of_alt (fun z a r hr => alt_of_part (h hd hl) z a hr) z a hr hs⟩⟩
theorem reads_tree : ∀ (e : PE), e.good → ∀ k, Reads k e
  | .leaf b l, h, k => by
    have hp : predL l = true := h
    unfold predL at hp
    simp only [Bool.and_eq_true, Bool.not_eq_true'] at hp
    refine reads_part rfl fun _ _ z a r => ?_
    have hpt : ∀ p, predT ⟨1, l, p⟩ = true := fun p => by simp [predT, hp.2]
    have hne : l ≠ [40] ∧ l ≠ [94] := ⟨fun e => by rw [e] at hp; simp [nameL, allAt, okAt, lower, digit] at hp, fun e => by rw [e] at hp; simp [nameL, allAt, okAt, lower, digit] at hp⟩
    cases b with
    | true =>
      show partP (operP (innerP k)) z (⟨4, [94], a⟩ :: ⟨1, l, a + 1⟩ :: r) = _
      unfold partP operP
      simp only [hdT, List.tail_cons, needP, hpt, if_true, Ans.bind, PE.st, ↓reduceIte]
      rfl
    | false =>
      show partP (operP (innerP k)) z (⟨1, l, a⟩ :: r) = _
      unfold partP operP
      simp only [hdT, hne.1, hne.2, if_false, needP, hpt, if_true, Ans.bind]
      rfl
  | .un j e, h, k => by
    have ih := reads_tree e h.2
    refine reads_part rfl fun hd hl z a r => ?_
    have hl2 : e.st.length ≤ 100 := by simp [PE.st] at hl; omega
    show partP (operP (innerP k)) z (inT e.tk e.tx.length e.hold 2 a ++ [⟨4, [mkU j], _⟩] ++ r) = _
    rw [List.append_assoc, read_part ih hd (hold_le e) hl2]
    have e1 : ∀ p, starsL e.st ([⟨4, [mkU j], p⟩] ++ r) = starsL (PE.un j e).st r := fun p => by
      show starsL e.st (⟨4, [mkU j], p⟩ :: r) = _
      conv => lhs; unfold starsL
      simp only
      rw [star_mk h.1]; rfl
    rw [e1]
  | .bin j x y, h, k => by
    have ihx := reads_tree x h.2.1
    have ihy := reads_tree y h.2.2
    have hlen : ∀ {n}, (PE.bin j x y).st.length ≤ n → x.st.length + y.st.length + 1 ≤ n := fun hl => by simp [PE.st] at hl; omega
    have hle : (PE.bin j x y).st.length = x.st.length + y.st.length + 1 := by simp [PE.st]; omega
    rcases h.1 with rfl | rfl
    · have main : (PE.bin 3 x y).dp ≤ k → (PE.bin 3 x y).st.length ≤ 100 → ∃ n, many ≤ n + (PE.bin 3 x y).st.length ∧ ∀ z a r, starK (hdT z r).t = none → altP (innerP k) z ((PE.bin 3 x y).tk a ++ r) = seqL [47] 3 (partP (operP (innerP k))) z n (PE.bin 3 x y).st r := fun hd hl => by
        have hl2 := hlen hl
        have hd2 : max (inD x.dp x.hold 1) (inD y.dp y.hold 2) ≤ k := hd
        obtain ⟨m, h1, h2⟩ := read_alt ihx (by omega) (hold_le x) (by omega) (k := k) x.tx.length
        obtain ⟨n, rfl⟩ : ∃ n, m = n + 1 := ⟨m - 1, by unfold many at h1; omega⟩
        refine ⟨n, by rw [hle]; omega, fun z a r hr => ?_⟩
        show altP (innerP k) z (inT x.tk x.tx.length x.hold 1 a ++ (⟨4, [47], _⟩ :: inT y.tk y.tx.length y.hold 2 _) ++ r) = _
        rw [List.append_assoc, h2 z a _ rfl]
        conv => lhs; unfold seqL
        simp only [List.cons_append, hdT, ↓reduceIte, List.tail_cons]
        rw [read_part ihy (by omega) (hold_le y) (by omega), stars_none hr]
        simp only [Ans.bind, PE.st]
      refine ⟨fun h => by simp [PE.hold] at h, fun _ => main, fun hd hl => ?_⟩
      obtain ⟨n, h1, h2⟩ := main hd hl
      exact ⟨many, by omega, fun z a r hr hs => path_of_alt h2 z a hr hs⟩
    · refine ⟨fun h => by simp [PE.hold] at h, fun h => by simp [PE.hold] at h, fun hd hl => ?_⟩
      have hl2 := hlen hl
      have hd2 : max (inD x.dp x.hold 0) (inD y.dp y.hold 1) ≤ k := hd
      have hd3 : inD x.dp x.hold 0 = x.dp := by unfold inD; rw [if_neg (by omega)]
      obtain ⟨m, h1, h2⟩ := (ihx k).path (by omega) (by omega)
      obtain ⟨m2, _, g2⟩ := read_alt ihy (by omega) (hold_le y) (by omega) (k := k) y.tx.length
      obtain ⟨n, rfl⟩ : ∃ n, m = n + 1 := ⟨m - 1, by unfold many at h1; omega⟩
      refine ⟨n, by rw [hle]; omega, fun z a r hr hs => ?_⟩
      have e0 : inT x.tk x.tx.length x.hold 0 a = x.tk a := by unfold inT; rw [if_neg (by omega)]
      show sequP [124] 4 (altP (innerP k)) z (inT x.tk x.tx.length x.hold 0 a ++ (⟨4, [124], _⟩ :: inT y.tk y.tx.length y.hold 1 _) ++ r) = _
      rw [e0, List.append_assoc, h2 z a _ rfl (by simp [hdT])]
      conv => lhs; unfold seqL
      simp only [List.cons_append, hdT, ↓reduceIte, List.tail_cons]
      rw [g2 z _ r hr, seq_none hs]
      simp only [Ans.bind, PE.st]
/-! ### How deep -/
/-- Of so many tokens: how deep they are nested. -/
def Dp (d : Nat) (u : List Tk) : Prop := ∀ o m, o ≤ m → u.foldl dst (o, m) = (o, max m (o + d))
theorem Dp.nil : Dp 0 [] := fun o m h => by simp; omega
theorem Dp.app {d c : Nat} {u v : List Tk} (h : Dp d u) (g : Dp c v) : Dp (max d c) (u ++ v) := fun o m hm => by
  rw [List.foldl_append, h o m hm, g o _ (by omega)]
  congr 1; omega
theorem Dp.one {t : Tk} (h : t.t ≠ [40]) (g : t.t ≠ [41]) : Dp 0 [t] := fun o m hm => by
  simp [dst, h, g]; omega
theorem Dp.par {d : Nat} {u : List Tk} {a b : Tk} (h : Dp d u) (ha : a.t = [40]) (hb : b.t = [41]) : Dp (d + 1) (a :: (u ++ [b])) := fun o m hm => by
  rw [List.foldl_cons, List.foldl_append]
  have e1 : dst (o, m) a = (o + 1, max m (o + 1)) := by unfold dst; rw [if_pos ha]
  rw [e1, h _ _ (by omega)]
  simp only [List.foldl_cons, List.foldl_nil]
  unfold dst
  rw [if_neg (by rw [hb]; simp), if_pos hb]
  simp only [Nat.add_sub_cancel]
  congr 1; omega
theorem Dp.deep {d : Nat} {u : List Tk} (h : Dp d u) : deepL u = d := by unfold deepL; rw [h 0 0 (Nat.le_refl _)]; simp
theorem dp_in {e : PE} {d n h least : Nat} (hd : ∀ a, Dp d (e.tk a)) (a : Nat) : Dp (inD d h least) (inT e.tk n h least a) := by
  unfold inD inT
  split
  · exact (hd _).par rfl rfl
  · exact hd a
theorem max_zero (a : Nat) : max a 0 = a := by omega
theorem dp_tree : ∀ (e : PE), e.good → ∀ a, Dp e.dp (e.tk a)
  | .leaf b l, h, a => by
    have hp : predL l = true := h
    unfold predL at hp
    simp only [Bool.and_eq_true, Bool.not_eq_true'] at hp
    have h0 : l ≠ [40] := fun e => by rw [e] at hp; simp [nameL, allAt, okAt, lower, digit] at hp
    have h1 : l ≠ [41] := fun e => by rw [e] at hp; simp [nameL, allAt, okAt, lower, digit] at hp
    cases b with
    | true => exact (Dp.one (t := ⟨4, [94], a⟩) (by simp) (by simp)).app (Dp.one (t := ⟨1, l, a + 1⟩) h0 h1)
    | false => exact Dp.one (t := ⟨1, l, a⟩) h0 h1
  | .un k e, h, a => by
    have h1 := dp_in (n := e.tx.length) (h := e.hold) (least := 2) (dp_tree e h.2) a
    have h2 : Dp 0 [⟨4, [mkU k], a + (inE e.ex 2).length⟩] := Dp.one (by simp only; unfold mkU; split <;> (try split) <;> simp) (by simp only; unfold mkU; split <;> (try split) <;> simp)
    have h3 := h1.app h2
    rw [max_zero] at h3
    exact h3
  | .bin k x y, h, a => by
    rcases h.1 with rfl | rfl
    · have h1 := dp_in (n := x.tx.length) (h := x.hold) (least := 1) (dp_tree x h.2.1) a
      have h2 := dp_in (n := y.tx.length) (h := y.hold) (least := 2) (dp_tree y h.2.2) (a + (inE x.ex 1).length + 1)
      have h3 : Dp 0 [⟨4, [47], a + (inE x.ex 1).length⟩] := Dp.one (by simp) (by simp)
      have h4 := (h1.app h3).app h2
      rw [max_zero, List.append_assoc] at h4
      exact h4
    · have h1 := dp_in (n := x.tx.length) (h := x.hold) (least := 0) (dp_tree x h.2.1) a
      have h2 := dp_in (n := y.tx.length) (h := y.hold) (least := 1) (dp_tree y h.2.2) (a + (inE x.ex 0).length + 1)
      have h3 : Dp 0 [⟨4, [124], a + (inE x.ex 0).length⟩] := Dp.one (by simp) (by simp)
      have h4 := (h1.app h3).app h2
      rw [max_zero, List.append_assoc] at h4
      exact h4
/-- A path's text alone: its tokens, and how deep they are nested. -/
theorem toks_alone {e : PE} (h : e.good) : toksL 0 e.tx = .good (e.tk 0) := by
  have h1 := toks_tree e h 0 [] (fun c y e => by cases e)
  rw [List.append_nil, toks_end (l := []) rfl] at h1
  rw [h1]
  simp only [Rs.lay, List.append_nil]
theorem deep_tree {e : PE} (h : e.good) : deepL (e.tk 0) = e.dp := (dp_tree e h 0).deep
end Go.Proofs.YtahljmddnfldlaaGreatDoor
namespace Go.Proofs.YtahljmddnfldlaaGreatDoor
open FloM ValM
set_option linter.unusedVariables false
set_option linter.unusedSimpArgs false
/-- A token that is one by itself. -/
def TkG (t : Tk) : Prop := firstL t.t = some (t.k, t.t.length)
theorem TkG.name {t : Tk} (h : TkG t) (hk : t.k = 1) : nameL t.t = true := by
  have h2 := (first_iff h).2
  rw [List.take_length, hk] at h2
  exact h2
theorem name_not {l : List UInt8} (h : nameL l = true) : l ≠ [40] ∧ l ≠ [41] := ⟨fun e => by rw [e] at h; simp [nameL, allAt, okAt, lower, digit] at h, fun e => by rw [e] at h; simp [nameL, allAt, okAt, lower, digit] at h⟩
theorem inD_mono {d h a b : Nat} (hab : a ≤ b) : inD d h a ≤ inD d h b := by
  unfold inD
  split <;> split <;> omega
/-- What is read is a tree's steps; at that level its text is nested no deeper than what was read. -/
def Grows (least : Nat) (f : Ps (List St)) : Prop := ∀ z ts s r, (∀ t ∈ ts, TkG t) → f z ts = .ok s r → ∃ (u : List Tk) (e : PE) (d : Nat), ts = u ++ r ∧ e.good ∧ e.st = s ∧ Dp d u ∧ inD e.dp e.hold least ≤ d
theorem star_some {l : List UInt8} {k : Nat} (h : starK l = some k) : (k = 5 ∨ k = 6 ∨ k = 7) ∧ l ≠ [40] ∧ l ≠ [41] := by
  unfold starK at h
  split at h
  · rename_i e; injection h with h; exact ⟨by omega, by rw [e]; simp, by rw [e]; simp⟩
  split at h
  · rename_i e; injection h with h; exact ⟨by omega, by rw [e]; simp, by rw [e]; simp⟩
  split at h
  · rename_i e; injection h with h; exact ⟨by omega, by rw [e]; simp, by rw [e]; simp⟩
  · cases h
theorem stars_grow : ∀ (ts : List Tk) (e : PE) (d : Nat) (w : List Tk), e.good → Dp d w → inD e.dp e.hold 2 ≤ d → ∃ (u : List Tk) (e2 : PE), ts = u ++ (starsL e.st ts).2 ∧ e2.good ∧ e2.st = (starsL e.st ts).1 ∧ Dp d (w ++ u) ∧ inD e2.dp e2.hold 2 ≤ d
  | [], e, d, w, hg, hd, hi => ⟨[], e, rfl, hg, rfl, by rw [List.append_nil]; exact hd, hi⟩
  | t :: r, e, d, w, hg, hd, hi => by
    cases hs : starK t.t with
    | none =>
      have e1 : starsL e.st (t :: r) = (e.st, t :: r) := stars_none (z := 0) hs
      rw [e1]
      exact ⟨[], e, rfl, hg, rfl, by rw [List.append_nil]; exact hd, hi⟩
    | some k =>
      obtain ⟨hk, h0, h1⟩ := star_some hs
      have e1 : starsL e.st (t :: r) = starsL (PE.un k e).st r := by
        conv => lhs; unfold starsL
        rw [hs]; rfl
      rw [e1]
      have hd2 := hd.app (Dp.one h0 h1)
      rw [max_zero] at hd2
      obtain ⟨u, e2, a1, a2, a3, a4, a5⟩ := stars_grow r (.un k e) d (w ++ [t]) ⟨hk, hg⟩ hd2 (by
        have : inD (PE.un k e).dp (PE.un k e).hold 2 = (PE.un k e).dp := by unfold inD; rw [if_neg (by simp [PE.hold])]
        rw [this]; exact hi)
      exact ⟨t :: u, e2, by rw [a1]; simp [← a1], a2, a3, by rw [List.append_assoc] at a4; exact a4, a5⟩
theorem Grows.part {op : Ps (List St)} (h : Grows 2 op) : Grows 2 (partP op) := fun z ts s r ht e => by
  obtain ⟨a, r1, e1, e2⟩ := bind_ok e
  obtain ⟨u, t, d, b1, b2, b3, b4, b5⟩ := h z ts a r1 ht e1
  obtain ⟨v, t2, c1, c2, c3, c4, c5⟩ := stars_grow r1 t d u b2 b4 b5
  rw [b3] at c1 c3
  injection e2 with e2 e3
  subst e2 e3
  exact ⟨u ++ v, t2, d, by rw [b1]; conv => lhs; rw [c1]
                           rw [List.append_assoc], c2, c3, c4, c5⟩
/-- The two chains: of alternatives, and of what is one behind the other. -/
def Chain (j lo hi : Nat) : Prop := (j = 3 ∧ lo = 1 ∧ hi = 2) ∨ (j = 4 ∧ lo = 0 ∧ hi = 1)
theorem chain_dp {j lo hi : Nat} (h : Chain j lo hi) (a b : PE) : (PE.bin j a b).dp = max (inD a.dp a.hold lo) (inD b.dp b.hold hi) ∧ (PE.bin j a b).hold = lo ∧ (j = 3 ∨ j = 4) ∧ lo ≤ hi := by
  rcases h with ⟨rfl, rfl, rfl⟩ | ⟨rfl, rfl, rfl⟩
  · exact ⟨rfl, rfl, .inl rfl, by omega⟩
  · exact ⟨rfl, rfl, .inr rfl, by omega⟩
theorem seqL_grow {m : List UInt8} {j lo hi : Nat} {op : Ps (List St)} (h : Grows hi op) (hc : Chain j lo hi) (hm : m ≠ [] ∧ m ≠ [40] ∧ m ≠ [41]) {z : Nat} : ∀ (n : Nat) (e : PE) (d : Nat) (w ts : List Tk) (s : List St) (r : List Tk), (∀ t ∈ ts, TkG t) → e.good → Dp d w → inD e.dp e.hold lo ≤ d →
    seqL m j op z n e.st ts = .ok s r → ∃ (u : List Tk) (e2 : PE) (d2 : Nat), ts = u ++ r ∧ e2.good ∧ e2.st = s ∧ Dp d2 (w ++ u) ∧ inD e2.dp e2.hold lo ≤ d2
  | 0, e, d, w, ts, s, r, ht, hg, hd, hi, hs => by
    injection hs with h1 h2; subst h1 h2
    exact ⟨[], e, d, rfl, hg, rfl, by rw [List.append_nil]; exact hd, hi⟩
  | n + 1, e, d, w, ts, s, r, ht, hg, hd, hi, hs => by
    unfold seqL at hs
    split at hs
    · rename_i hh
      obtain ⟨t, q, rfl⟩ : ∃ t q, ts = t :: q := ⟨_, _, hd_tail hh hm.1⟩
      simp only [hdT] at hh
      simp only [List.tail_cons] at hs
      obtain ⟨a, r1, e1, e2⟩ := bind_ok hs
      obtain ⟨u1, t1, d1, b1, b2, b3, b4, b5⟩ := h z q a r1 (fun x hx => ht x (List.mem_cons_of_mem _ hx)) e1
      obtain ⟨c1, c2, c3, c4⟩ := chain_dp hc e t1
      subst b3
      have e3 : e.st ++ t1.st ++ [⟨j, []⟩] = (PE.bin j e t1).st := rfl
      rw [e3] at e2
      have hd2 := (hd.app (Dp.one (t := t) (by rw [hh]; exact hm.2.1) (by rw [hh]; exact hm.2.2))).app b4
      rw [max_zero] at hd2
      obtain ⟨u2, t2, d2, g1, g2, g3, g4, g5⟩ := seqL_grow h hc hm n (.bin j e t1) (max d d1) (w ++ [t] ++ u1) r1 s r (fun x hx => ht x (List.mem_cons_of_mem _ (by rw [b1]; exact List.mem_append_right _ hx))) ⟨c3, hg, b2⟩ hd2 (by
        have : inD (PE.bin j e t1).dp (PE.bin j e t1).hold lo = (PE.bin j e t1).dp := by unfold inD; rw [if_neg (by omega)]
        rw [this, c1]; omega) e2
      exact ⟨t :: (u1 ++ u2), t2, d2, by rw [b1, g1]; simp, g2, g3, by simpa using g4, g5⟩
    · injection hs with h1 h2; subst h1 h2
      exact ⟨[], e, d, rfl, hg, rfl, by rw [List.append_nil]; exact hd, hi⟩
theorem Grows.sequ {m : List UInt8} {j lo hi : Nat} {op : Ps (List St)} (h : Grows hi op) (hc : Chain j lo hi) (hm : m ≠ [] ∧ m ≠ [40] ∧ m ≠ [41]) : Grows lo (sequP m j op) := fun z ts s r ht e => by
  unfold sequP at e
  generalize many = n at e
  obtain ⟨a, r1, e1, e2⟩ := bind_ok e
  obtain ⟨u, t, d, b1, b2, b3, b4, b5⟩ := h z ts a r1 ht e1
  subst b3
  obtain ⟨u2, t2, d2, g1, g2, g3, g4, g5⟩ := seqL_grow h hc hm n t d u r1 s r (fun x hx => ht x (by rw [b1]; exact List.mem_append_right _ hx)) b2 b4 (Nat.le_trans (inD_mono (chain_dp hc t t).2.2.2) b5) e2
  exact ⟨u ++ u2, t2, d2, by rw [b1, g1]; simp, g2, g3, g4, g5⟩
def GrowsI (inner : Option (Ps (List St))) : Prop := ∀ f, inner = some f → Grows 0 f
theorem Grows.oper {inner : Option (Ps (List St))} (h : GrowsI inner) : Grows 2 (operP inner) := fun z ts s r ht e => by
  unfold operP at e
  split at e
  · rename_i hh
    obtain ⟨t, q, rfl⟩ : ∃ t q, ts = t :: q := ⟨_, _, hd_tail hh (by simp)⟩
    simp only [hdT] at hh
    simp only [List.tail_cons] at e
    cases inner with
    | none => cases e
    | some f =>
      obtain ⟨a, r1, e1, e2⟩ := bind_ok e
      obtain ⟨t2, r2, e3, e4⟩ := bind_ok e2
      obtain ⟨u, x, d, b1, b2, b3, b4, b5⟩ := h f rfl z _ a r1 (fun x hx => ht x (List.mem_cons_of_mem _ hx)) e1
      obtain ⟨e6, h6⟩ := need_len e3
      injection e4 with e4 e5
      subst e4 e5
      have h41 : t2.t = [41] := by unfold isX at h6; exact beq_iff_eq.1 h6
      refine ⟨t :: (u ++ [t2]), x, d + 1, by rw [b1, e6]; simp, b2, b3, b4.par hh h41, ?_⟩
      have h0 : inD x.dp x.hold 0 = x.dp := by unfold inD; rw [if_neg (by omega)]
      rw [h0] at b5
      unfold inD; split <;> omega
  · split at e
    · rename_i hh
      obtain ⟨t, q, rfl⟩ : ∃ t q, ts = t :: q := ⟨_, _, hd_tail hh (by simp)⟩
      simp only [hdT] at hh
      simp only [List.tail_cons] at e
      obtain ⟨t2, r1, e1, e2⟩ := bind_ok e
      obtain ⟨e3, h3⟩ := need_len e1
      have hp := pred_tok h3
      have hok := TkG.name (ht t2 (by rw [e3]; simp)) hp.1
      injection e2 with e4 e5
      subst e4 e5
      have hd := (Dp.one (t := t) (by rw [hh]; decide) (by rw [hh]; decide)).app (Dp.one (t := t2) (name_not hok).1 (name_not hok).2)
      exact ⟨[t, t2], .leaf true t2.t, 0, by rw [e3]; rfl, by show predL t2.t = true; unfold predL; rw [hok, hp.2]; rfl, rfl, hd, Nat.le_refl _⟩
    · obtain ⟨t2, r1, e1, e2⟩ := bind_ok e
      obtain ⟨e3, h3⟩ := need_len e1
      have hp := pred_tok h3
      have hok := TkG.name (ht t2 (by rw [e3]; simp)) hp.1
      injection e2 with e4 e5
      subst e4 e5
      exact ⟨[t2], .leaf false t2.t, 0, by rw [e3]; rfl, by show predL t2.t = true; unfold predL; rw [hok, hp.2]; rfl, rfl, Dp.one (name_not hok).1 (name_not hok).2, Nat.le_refl _⟩
theorem Grows.path {inner : Option (Ps (List St))} (h : GrowsI inner) : Grows 0 (pathB inner) := fun z ts s r ht e => by
  obtain ⟨a, r1, e1, e2⟩ := bind_ok e
  have h1 := (((Grows.oper h).part.sequ (m := [47]) (j := 3) (lo := 1) (.inl ⟨rfl, rfl, rfl⟩) (by decide)).sequ (m := [124]) (j := 4) (lo := 0) (.inr ⟨rfl, rfl, rfl⟩) (by decide)) z ts a r1 ht e1
  split at e2
  · cases e2
  · injection e2 with e4 e5; subst e4 e5; exact h1
theorem growsI : ∀ k, GrowsI (innerP k)
  | 0 => fun f e => by cases e
  | k + 1 => fun f e => by
    injection e with e
    subst e
    rw [pathP_eq]
    exact Grows.path (growsI k)
theorem path_grows (k : Nat) : Grows 0 (pathP k) := by rw [pathP_eq]; exact Grows.path (growsI k)
end Go.Proofs.YtahljmddnfldlaaGreatDoor

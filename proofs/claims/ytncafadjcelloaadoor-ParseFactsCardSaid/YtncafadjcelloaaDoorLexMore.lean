/-
  Plain mathematics of layer 7 (lex): texts with a separator between them, tokens that are moved on, tokens alone.
-/
import Derived.Test.YtncafadjcelloaaDoorLexFact
namespace Go.Proofs.YtncafadjcelloaaDoor
open Go.RowKit FloM ValM
set_option linter.unusedVariables false
set_option linter.unusedSimpArgs false

theorem toks_skip (a : Nat) (l : List UInt8) : toksL a l = toksL (a + spanL sepC l) (l.drop (spanL sepC l)) := by
  have h0 : spanL sepC (l.drop (spanL sepC l)) = 0 := by
    cases h : l.drop (spanL sepC l) with
    | nil => rfl
    | cons c r => exact span_no (span_next _ _ c r h)
  by_cases he : l.drop (spanL sepC l) = []
  · rw [toks_end he, toks_end (by rw [he]; rfl)]
  · cases hf : firstL (l.drop (spanL sepC l)) with
    | none => rw [toks_bad he hf, toks_bad (by rw [h0]; simpa using he) (by rw [h0]; simpa using hf), h0]; rfl
    | some o =>
      obtain ⟨k, n⟩ := o
      rw [toks_more hf, toks_more (a := a + spanL sepC l) (l := l.drop (spanL sepC l)) (k := k) (n := n) (by rw [h0]; simpa using hf), h0]
      simp [List.drop_drop]
def Tk.on (d : Nat) (t : Tk) : Tk := ⟨t.k, t.t, t.a + d⟩
def Rs.on (d : Nat) : Rs → Rs
  | .good l => .good (l.map (Tk.on d))
  | .bad n => .bad (n + d)
theorem on_pre (d : Nat) (t : Tk) (R : Rs) : (R.pre t).on d = (R.on d).pre (t.on d) := by cases R <;> rfl
theorem toks_on (d : Nat) : ∀ (m a : Nat) (l : List UInt8), l.length ≤ m → toksL (a + d) l = (toksL a l).on d := by
  intro m
  induction m with
  | zero =>
    intro a l hl
    have : l = [] := List.eq_nil_of_length_eq_zero (by omega)
    subst this
    rw [toks_end rfl, toks_end rfl]; rfl
  | succ m ih =>
    intro a l hl
    by_cases he : l.drop (spanL sepC l) = []
    · rw [toks_end he, toks_end he]; rfl
    · cases hf : firstL (l.drop (spanL sepC l)) with
      | none => rw [toks_bad he hf, toks_bad he hf]; simp only [Rs.on]; congr 1; omega
      | some o =>
        obtain ⟨k, n⟩ := o
        have hp := first_pos hf
        rw [toks_more hf, toks_more hf, on_pre, ← ih _ _ (by rw [List.length_drop] at hp ⊢; omega)]
        congr 1
        · simp only [Tk.on, Tk.mk.injEq, true_and]; omega
        · congr 1; omega
theorem toks_at (d : Nat) (l : List UInt8) : toksL d l = (toksL 0 l).on d := by
  have := toks_on d l.length 0 l (Nat.le_refl _)
  rwa [Nat.zero_add] at this
/-- What one begins with, and another text behind a separator. -/
def Rs.then (R : Rs) (S : Rs) : Rs := match R with
  | .good l => S.lay l
  | .bad n => .bad n
theorem pre_then (t : Tk) (R S : Rs) : (R.pre t).then S = (R.then S).pre t := by
  cases R <;> cases S <;> simp [Rs.pre, Rs.then, Rs.lay]
theorem toks_parts (c : UInt8) (hc : sepC c = true) (y : List UInt8) : ∀ (m a : Nat) (x : List UInt8), x.length ≤ m → toksL a (x ++ c :: y) = (toksL a x).then (toksL (a + x.length + 1) y) := by
  intro m
  induction m with
  | zero =>
    intro a x hx
    have : x = [] := List.eq_nil_of_length_eq_zero (by omega)
    subst this
    rw [toks_end (l := []) rfl, List.nil_append, toks_skip a, toks_skip (a + ([] : List UInt8).length + 1) y, span_yes hc, List.drop_succ_cons]
    simp only [Rs.then, lay_nil, List.length_nil]
    congr 1; omega
  | succ m ih =>
    intro a x hx
    by_cases he : x.drop (spanL sepC x) = []
    · have hall : spanL sepC x = x.length := by
        have h1 := span_le sepC x
        have h2 := congrArg List.length he
        rw [List.length_drop, List.length_nil] at h2; omega
      rw [toks_end he, toks_skip a, toks_skip (a + x.length + 1) y, span_app (span_full.1 hall), span_yes hc]
      simp only [Rs.then, lay_nil]
      congr 1
      · omega
      · rw [List.drop_append, List.drop_of_length_le (by omega), List.nil_append, show x.length + (spanL sepC y + 1) - x.length = spanL sepC y + 1 by omega, List.drop_succ_cons]
    · have hlt : spanL sepC x < x.length := by
        have h1 := span_le sepC x
        rcases Nat.lt_or_ge (spanL sepC x) x.length with h | h
        · exact h
        · exact absurd (List.drop_of_length_le h) he
      have hsp : spanL sepC (x ++ c :: y) = spanL sepC x := span_cut hlt
      have hdr : (x ++ c :: y).drop (spanL sepC (x ++ c :: y)) = x.drop (spanL sepC x) ++ c :: y := by
        rw [hsp, List.drop_append_of_le_length (by omega)]
      have hfs : firstL (x.drop (spanL sepC x) ++ c :: y) = firstL (x.drop (spanL sepC x)) := first_sep he fun d r e => by injection e with e _; rw [← e]; exact hc
      cases hf : firstL (x.drop (spanL sepC x)) with
      | none =>
        rw [toks_bad he hf, toks_bad (by rw [hdr]; simp) (by rw [hdr, hfs, hf]), hsp]; rfl
      | some o =>
        obtain ⟨k, n⟩ := o
        have hp := first_pos hf
        have hp2 := hp.2.1
        rw [List.length_drop] at hp2
        rw [toks_more hf, toks_more (k := k) (n := n) (by rw [hdr, hfs, hf]), pre_then]
        rw [hdr, hsp, List.take_append_of_le_length hp.2.1, List.drop_append_of_le_length (by omega), ih _ _ (by rw [List.length_drop]; omega), List.length_drop]
        congr 3; omega
/-- A text that is one token. -/
theorem toks_one {l : List UInt8} {k : Nat} (h : firstL l = some (k, l.length)) (a : Nat) : toksL a l = .good [⟨k, l, a⟩] := by
  have hp := first_pos h
  have h0 : spanL sepC l = 0 := by
    cases l with
    | nil => rfl
    | cons c r => exact span_no (first_head (by rw [h]; rfl))
  rw [toks_more (k := k) (n := l.length) (by rw [h0]; simpa using h), h0]
  simp only [List.drop_zero, Nat.add_zero, Nat.zero_add, List.take_length, List.drop_length]
  rw [toks_end rfl]; rfl
theorem one_toks {l : List UInt8} {t : Tk} (h : toksL 0 l = .good [t]) (ht : t.t = l) : firstL l = some (t.k, l.length) ∧ t.a = 0 := by
  by_cases he : l.drop (spanL sepC l) = []
  · rw [toks_end he] at h; cases h
  · cases hf : firstL (l.drop (spanL sepC l)) with
    | none => rw [toks_bad he hf] at h; cases h
    | some o =>
      obtain ⟨k, n⟩ := o
      have hp := first_pos hf
      rw [toks_more hf] at h
      cases hr : toksL (0 + spanL sepC l + n) (l.drop (spanL sepC l + n)) with
      | bad m => rw [hr] at h; cases h
      | good r =>
        rw [hr] at h
        simp only [Rs.pre, Rs.good.injEq, List.cons.injEq] at h
        obtain ⟨h1, h2⟩ := h
        have hlen : ((l.drop (spanL sepC l)).take n).length = l.length := by
          have := congrArg Tk.t h1
          simp only at this
          rw [this, ht]
        rw [List.length_take, List.length_drop] at hlen
        have hs0 : spanL sepC l = 0 := by
          have := hp.2.2; have := hp.1
          rw [List.length_drop] at *; omega
        rw [hs0, List.drop_zero] at hf
        have : n = l.length := by have := hp.2.1; rw [hs0] at this; simp at this; omega
        rw [this] at hf
        rw [← h1, hf, hs0]
        exact ⟨rfl, rfl⟩
/-- Each token alone is one. -/
theorem toks_each : ∀ (m a : Nat) (l : List UInt8), l.length ≤ m → ∀ ts, toksL a l = .good ts → ∀ t ∈ ts, firstL t.t = some (t.k, t.t.length) := by
  intro m
  induction m with
  | zero =>
    intro a l hl ts h t ht
    have : l = [] := List.eq_nil_of_length_eq_zero (by omega)
    subst this
    rw [toks_end rfl] at h
    injection h with h; subst h; cases ht
  | succ m ih =>
    intro a l hl ts h t ht
    by_cases he : l.drop (spanL sepC l) = []
    · rw [toks_end he] at h; injection h with h; subst h; cases ht
    · cases hf : firstL (l.drop (spanL sepC l)) with
      | none => rw [toks_bad he hf] at h; cases h
      | some o =>
        obtain ⟨k, n⟩ := o
        have hp := first_pos hf
        rw [toks_more hf] at h
        cases hr : toksL (a + spanL sepC l + n) (l.drop (spanL sepC l + n)) with
        | bad m => rw [hr] at h; cases h
        | good r =>
          rw [hr] at h
          simp only [Rs.pre, Rs.good.injEq] at h
          subst h
          rcases List.mem_cons.1 ht with rfl | ht
          · have := first_alone hf
            simp only
            rw [this, List.length_take, Nat.min_eq_left hp.2.1]
          · exact ih _ _ (by rw [List.length_drop] at hp ⊢; omega) r hr t ht
/-- There are no more tokens, and no longer ones, than the text is long. -/
def sumT (ts : List Tk) : Nat := (ts.map fun t => t.t.length + 1).sum
theorem toks_sum : ∀ (m a : Nat) (l : List UInt8), l.length ≤ m → ∀ ts, toksL a l = .good ts → sumT ts ≤ 2 * l.length := by
  intro m
  induction m with
  | zero =>
    intro a l hl ts h
    have : l = [] := List.eq_nil_of_length_eq_zero (by omega)
    subst this
    rw [toks_end rfl] at h
    injection h with h; subst h; simp [sumT]
  | succ m ih =>
    intro a l hl ts h
    by_cases he : l.drop (spanL sepC l) = []
    · rw [toks_end he] at h; injection h with h; subst h; simp [sumT]
    · cases hf : firstL (l.drop (spanL sepC l)) with
      | none => rw [toks_bad he hf] at h; cases h
      | some o =>
        obtain ⟨k, n⟩ := o
        have hp := first_pos hf
        rw [toks_more hf] at h
        cases hr : toksL (a + spanL sepC l + n) (l.drop (spanL sepC l + n)) with
        | bad m => rw [hr] at h; cases h
        | good r =>
          rw [hr] at h
          simp only [Rs.pre, Rs.good.injEq] at h
          subst h
          have := ih _ _ (by rw [List.length_drop] at hp ⊢; omega) r hr
          simp only [sumT, List.map_cons, List.sum_cons] at this ⊢
          rw [List.length_take, List.length_drop]
          rw [List.length_drop] at this hp
          omega
theorem toks_len {l : List UInt8} {ts : List Tk} {a : Nat} (h : toksL a l = .good ts) : ts.length ≤ 2 * l.length := by
  have := toks_sum _ _ _ (Nat.le_refl _) _ h
  have h2 : ∀ ts : List Tk, ts.length ≤ sumT ts := fun ts => by
    induction ts with
    | nil => simp
    | cons t ts ih => simp only [sumT, List.map_cons, List.sum_cons, List.length_cons] at ih ⊢; omega
  have := h2 ts; omega
/-! ### Tokens with a space between them -/
def joinL : List Tk → List UInt8
  | [] => []
  | t :: ts => match ts with
    | [] => t.t
    | _ :: _ => t.t ++ 32 :: joinL ts
theorem joinL_two (t u : Tk) (ts : List Tk) : joinL (t :: u :: ts) = t.t ++ 32 :: joinL (u :: ts) := rfl
theorem joinL_snoc : ∀ (ts : List Tk) (t : Tk), ts ≠ [] → joinL (ts ++ [t]) = joinL ts ++ 32 :: t.t
  | [], t, h => absurd rfl h
  | [u], t, _ => rfl
  | u :: v :: ts, t, _ => by
    have ih := joinL_snoc (v :: ts) t (by simp)
    rw [List.cons_append, List.cons_append, joinL_two, joinL_two, ← List.cons_append, ih, List.append_assoc]; rfl
theorem joinL_len : ∀ ts : List Tk, (joinL ts).length ≤ sumT ts
  | [] => by simp [joinL, sumT]
  | [t] => by simp [joinL, sumT]
  | t :: u :: ts => by
    have ih := joinL_len (u :: ts)
    rw [joinL_two]
    simp only [sumT, List.map_cons, List.sum_cons, List.length_append, List.length_cons] at ih ⊢; omega
theorem toks_join : ∀ ts : List Tk, (∀ t ∈ ts, firstL t.t = some (t.k, t.t.length)) → ∃ us, toksL 0 (joinL ts) = .good us ∧ us.length = ts.length ∧ ∀ (i : Nat) (t u : Tk), ts[i]? = some t → us[i]? = some u → u.k = t.k ∧ u.t = t.t
  | [], _ => ⟨[], by rw [joinL, toks_end rfl], rfl, fun i t u h => by simp at h⟩
  | [t], h => by
    refine ⟨[⟨t.k, t.t, 0⟩], toks_one (h t (List.mem_singleton.2 rfl)) 0, rfl, fun i a b ha hb => ?_⟩
    cases i with
    | zero => simp only [List.getElem?_cons_zero, Option.some.injEq] at ha hb; subst ha; subst hb; exact ⟨rfl, rfl⟩
    | succ i => simp at ha
  | t :: v :: ts, h => by
    obtain ⟨us, h1, h2, h3⟩ := toks_join (v :: ts) fun x hx => h x (List.mem_cons_of_mem _ hx)
    refine ⟨⟨t.k, t.t, 0⟩ :: us.map (Tk.on (0 + t.t.length + 1)), ?_, by simp [h2], fun i a b ha hb => ?_⟩
    · rw [joinL_two, toks_parts 32 (by decide) _ _ 0 _ (Nat.le_refl _), toks_one (h t List.mem_cons_self) 0, toks_at, h1]; rfl
    · cases i with
      | zero => simp only [List.getElem?_cons_zero, Option.some.injEq] at ha hb; subst ha; subst hb; exact ⟨rfl, rfl⟩
      | succ i =>
        rw [List.getElem?_cons_succ] at ha hb
        rw [List.getElem?_map] at hb
        cases hu : us[i]? with
        | none => rw [hu] at hb; cases hb
        | some u =>
          rw [hu] at hb; simp only [Option.map_some, Option.some.injEq] at hb; subst hb
          exact h3 i a u ha hu
end Go.Proofs.YtncafadjcelloaaDoor

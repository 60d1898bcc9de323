/-
  Plain mathematics of layer 4: trees of tuples as lists, shapes, what is put in.
-/
import Derived.Test.YtpmkhpbhimmeiaaGreatBtPlace
namespace Go.Proofs.YtpmkhpbhimmeiaaGreat
open Go.RowKit FloM ValM
set_option linter.unusedVariables false
set_option linter.unusedSimpArgs false

/-! ### Kids and tuples, one after the other -/
def weave {α : Type} : List (List α) → List α → List α
  | [], _ => []
  | f :: _, [] => f
  | f :: fs, t :: ts => f ++ t :: weave fs ts
def weaveH {α : Type} : List (List α) → List α → List α
  | f :: fs, t :: ts => f ++ t :: weaveH fs ts
  | _, _ => []
theorem weave_split {α : Type} : ∀ (i : Nat) (fs : List (List α)) (ts : List α), fs.length = ts.length + 1 → i ≤ ts.length → weave fs ts = weaveH (fs.take i) (ts.take i) ++ weave (fs.drop i) (ts.drop i)
  | 0, fs, ts, _, _ => by simp [weaveH]
  | i + 1, [], ts, h, _ => by simp at h
  | i + 1, f :: fs, [], _, h => by simp at h
  | i + 1, f :: fs, t :: ts, h, hi => by
    simp only [List.length_cons] at h hi
    simp only [List.take_succ_cons, List.drop_succ_cons, weave, weaveH]
    rw [weave_split i fs ts (by omega) (by omega)]; simp
theorem weave_drop {α : Type} {fs : List (List α)} {ts : List α} {i : Nat} {f : List α} (hf : fs[i]? = some f) : weave (fs.drop i) (ts.drop i) = f ++ (match ts[i]? with | none => [] | some t => t :: weave (fs.drop (i + 1)) (ts.drop (i + 1))) := by
  rw [drop_at hf]
  cases ht : ts[i]? with
  | none => rw [List.drop_of_length_le (List.getElem?_eq_none_iff.1 ht)]; simp [weave]
  | some t => rw [drop_at ht]; simp [weave]
/-- What lies behind the kid i: from the tuple i on. -/
def tailW {α : Type} (fs : List (List α)) (ts : List α) (i : Nat) : List α := match ts[i]? with | none => [] | some t => t :: weave (fs.drop (i + 1)) (ts.drop (i + 1))
theorem weave_at {α : Type} {fs : List (List α)} {ts : List α} {i : Nat} {f : List α} (hl : fs.length = ts.length + 1) (hf : fs[i]? = some f) : weave fs ts = weaveH (fs.take i) (ts.take i) ++ f ++ tailW fs ts i := by
  have hi : i < fs.length := (List.getElem?_eq_some_iff.1 hf).1
  rw [weave_split i fs ts hl (by omega), weave_drop hf, List.append_assoc]; rfl
def flat : Nat → Nd → List Sl
  | 0, .mk _ ts _ => ts
  | k + 1, .mk _ ts ks => weave (ks.map (flat k)) ts
theorem flat_zero (t : Nd) : flat 0 t = t.ts := by cases t; rfl
theorem flat_succ (k : Nat) (t : Nd) : flat (k + 1) t = weave (t.ks.map (flat k)) t.ts := by cases t; rfl
/-- The shape of a tree with k levels below its root. -/
def Sh : Nat → Nd → Prop
  | 0, .mk _ _ ks => ks = []
  | k + 1, .mk _ ts ks => ks.length = ts.length + 1 ∧ ∀ t ∈ ks, Sh k t ∧ 3 ≤ t.ts.length ∧ t.ts.length ≤ 6
theorem IsN.sh {X : Nat → Prop} {w : World} : ∀ {k : Nat} {t : Nd}, IsN X w k t → Sh k t
  | 0, .mk _ _ _, h => h.2
  | k + 1, .mk _ _ _, h => ⟨h.2.1, fun t ht => ⟨IsN.sh (h.2.2 t ht).1, (h.2.2 t ht).2⟩⟩
theorem weave_len {α : Type} {m : Nat} : ∀ (fs : List (List α)) (ts : List α), fs.length = ts.length + 1 → (∀ f ∈ fs, m ≤ f.length) → m * (ts.length + 1) + ts.length ≤ (weave fs ts).length
  | [], ts, h, _ => by simp at h
  | f :: fs, [], h, hm => by
    have := hm f (List.mem_cons_self ..)
    simp [weave]; exact this
  | f :: fs, t :: ts, h, hm => by
    simp only [List.length_cons] at h
    have h1 := hm f (List.mem_cons_self ..)
    have ih := weave_len fs ts (by omega) (fun g hg => hm g (List.mem_cons_of_mem _ hg))
    simp only [weave, List.length_append, List.length_cons]
    have : m * (ts.length + 1 + 1) = m * (ts.length + 1) + m := by rw [Nat.mul_add, Nat.mul_one]
    omega
/-- A tree whose root has n tuples has at least so many. -/
theorem flat_len : ∀ (k : Nat) (t : Nd), Sh k t → (t.ts.length + 1) * 4 ^ k ≤ (flat k t).length + 1
  | 0, .mk _ ts ks, _ => by simp [flat, Nd.ts]
  | k + 1, .mk b ts ks, h => by
    have hl := h.1
    have hm : ∀ f ∈ ks.map (flat k), 4 * 4 ^ k - 1 ≤ f.length := by
      intro f hf
      rw [List.mem_map] at hf
      obtain ⟨t, ht, rfl⟩ := hf
      have h1 := flat_len k t (h.2 t ht).1
      have h2 := (h.2 t ht).2.1
      have h3 : 4 * 4 ^ k ≤ (t.ts.length + 1) * 4 ^ k := Nat.mul_le_mul_right _ (by omega)
      omega
    have := weave_len (ks.map (flat k)) ts (by simpa using hl) hm
    rw [flat_succ]
    simp only [Nd.ts, Nd.ks]
    have hp : 0 < 4 ^ k := Nat.pow_pos (by omega)
    have e1 : (4 * 4 ^ k - 1) * (ts.length + 1) + (ts.length + 1) = (ts.length + 1) * 4 ^ (k + 1) := by
      rw [Nat.pow_succ, ← Nat.succ_mul, Nat.succ_eq_add_one, Nat.sub_add_cancel (by omega), Nat.mul_comm, Nat.mul_comm (4 ^ k) 4]
    omega

/-! ### A kid in another's place, a kid cut in two -/
theorem weave_cut {α : Type} : ∀ (i : Nat) (fs : List (List α)) (ts : List α) (x : α), fs.length = ts.length + 1 → ts[i]? = some x → weave fs ts = weave (fs.take (i + 1)) (ts.take i) ++ x :: weave (fs.drop (i + 1)) (ts.drop (i + 1))
  | _, [], ts, x, h, _ => by simp at h
  | i, f :: fs, [], x, _, h => by simp at h
  | 0, f :: fs, t :: ts, x, _, h => by
    simp only [List.getElem?_cons_zero, Option.some.injEq] at h; subst h
    simp [weave]
  | i + 1, f :: fs, t :: ts, x, h, hx => by
    simp only [List.length_cons] at h
    rw [List.getElem?_cons_succ] at hx
    simp only [List.take_succ_cons, List.drop_succ_cons, weave]
    rw [weave_cut i fs ts x (by omega) hx]
    cases fs with
    | nil => simp at h
    | cons g gs => simp
theorem tailW_succ {α : Type} (f : List α) (t : α) (fs : List (List α)) (ts : List α) (i : Nat) : tailW (f :: fs) (t :: ts) (i + 1) = tailW fs ts i := by
  unfold tailW; rw [List.getElem?_cons_succ, List.drop_succ_cons, List.drop_succ_cons]
theorem weave_set {α : Type} (g : List α) : ∀ (i : Nat) (fs : List (List α)) (ts : List α), fs.length = ts.length + 1 → i ≤ ts.length → weave (fs.set i g) ts = weaveH (fs.take i) (ts.take i) ++ g ++ tailW fs ts i
  | _, [], ts, h, _ => by simp at h
  | 0, f :: fs, [], h, _ => by simp [weave, weaveH, tailW]
  | 0, f :: fs, t :: ts, h, _ => by simp [weave, weaveH, tailW]
  | i + 1, f :: fs, [], h, hi => by simp at hi
  | i + 1, f :: fs, t :: ts, h, hi => by
    simp only [List.length_cons] at h hi
    rw [tailW_succ, List.set_cons_succ]
    simp only [List.take_succ_cons, weave, weaveH]
    rw [weave_set g i fs ts (by omega) (by omega)]; simp
theorem weave_ins {α : Type} (l r : List α) (x : α) : ∀ (i : Nat) (fs : List (List α)) (ts : List α), fs.length = ts.length + 1 → i ≤ ts.length → weave (fs.take i ++ l :: r :: fs.drop (i + 1)) (ts.take i ++ x :: ts.drop i) = weaveH (fs.take i) (ts.take i) ++ (l ++ x :: r) ++ tailW fs ts i
  | _, [], ts, h, _ => by simp at h
  | 0, f :: fs, [], h, _ => by
    simp only [List.length_cons, List.length_nil] at h
    have : fs = [] := List.eq_nil_of_length_eq_zero (by omega)
    subst this
    simp [weave, weaveH, tailW]
  | 0, f :: fs, t :: ts, h, _ => by simp [weave, weaveH, tailW]
  | i + 1, f :: fs, [], h, hi => by simp at hi
  | i + 1, f :: fs, t :: ts, h, hi => by
    simp only [List.length_cons] at h hi
    rw [tailW_succ]
    simp only [List.take_succ_cons, List.drop_succ_cons, List.cons_append, weave, weaveH]
    rw [weave_ins l r x i fs ts (by omega) (by omega)]; simp
/-- What lies ahead of the kid i, and behind it. -/
def headF (k : Nat) (t : Nd) (i : Nat) : List Sl := weaveH ((t.ks.map (flat k)).take i) (t.ts.take i)
def tailF (k : Nat) (t : Nd) (i : Nat) : List Sl := tailW (t.ks.map (flat k)) t.ts i
theorem flat_at {k : Nat} {t : Nd} {i : Nat} {u : Nd} (hl : t.ks.length = t.ts.length + 1) (hu : t.ks[i]? = some u) : flat (k + 1) t = headF k t i ++ flat k u ++ tailF k t i := by
  rw [flat_succ]; exact weave_at (by simpa using hl) (by simp [hu])
theorem flat_set {k b d : Nat} {ts : List Sl} {ks : List Nd} {i : Nat} (u : Nd) (hl : ks.length = ts.length + 1) (hi : i ≤ ts.length) : flat (k + 1) (.mk d ts (ks.set i u)) = headF k (.mk b ts ks) i ++ flat k u ++ tailF k (.mk b ts ks) i := by
  rw [flat_succ]; simp only [Nd.ts, Nd.ks, List.map_set]
  exact weave_set _ i _ _ (by simpa using hl) hi
theorem flat_ins {k b d : Nat} {ts : List Sl} {ks : List Nd} {i : Nat} (l r : Nd) (x : Sl) (hl : ks.length = ts.length + 1) (hi : i ≤ ts.length) : flat (k + 1) (.mk d (ts.take i ++ x :: ts.drop i) (ks.take i ++ l :: r :: ks.drop (i + 1))) = headF k (.mk b ts ks) i ++ (flat k l ++ x :: flat k r) ++ tailF k (.mk b ts ks) i := by
  rw [flat_succ]; simp only [Nd.ts, Nd.ks, List.map_append, List.map_cons, List.map_take, List.map_drop]
  exact weave_ins _ _ x i _ _ (by simpa using hl) hi
theorem flat_cut {b bl br : Nat} {x : Sl} {i : Nat} : ∀ {k : Nat} {ts : List Sl} {ks : List Nd}, Sh k (.mk b ts ks) → ts[i]? = some x → flat k (.mk b ts ks) = flat k (.mk bl (ts.take i) (ks.take (i + 1))) ++ x :: flat k (.mk br (ts.drop (i + 1)) (ks.drop (i + 1)))
  | 0, ts, ks, h, hx => by simp only [flat]; exact split_take hx
  | k + 1, ts, ks, h, hx => by
    rw [flat_succ, flat_succ, flat_succ]; simp only [Nd.ts, Nd.ks, List.map_take, List.map_drop]
    exact weave_cut i _ _ x (by simpa using h.1) hx

/-! ### The order of tuples by columns -/
theorem cmpC_anti (p : List Int) (a b : List V) : cmpC p b a = -cmpC p a b := ord_anti _ _
theorem cmpC_lt {p : List Int} {a b c : List V} (h1 : cmpC p a b = -1) (h2 : cmpC p b c = -1) : cmpC p a c = -1 := by
  have h := ord_trans _ _ _ (show cmpC p a b ≤ 0 by omega) (show cmpC p b c ≤ 0 by omega)
  rcases cmpC_rng p a c with e | e | e
  · exact e
  · have e' := (ord_zero _ _).1 e
    unfold cmpC at *
    rw [e'] at h1
    have := cmpC_anti p b c
    unfold cmpC at this
    omega
  · unfold cmpC at *; omega
theorem cmpC_gt {p : List Int} {a b c : List V} (h1 : cmpC p a b = 1) (h2 : cmpC p b c = -1) : cmpC p c b = 1 ∧ (cmpC p b c = -1) := ⟨by rw [cmpC_anti]; omega, h2⟩
/-- In order, each once. -/
def Sorted (p : List Int) (L : List Sl) : Prop := L.Pairwise fun x y => cmpC p x.l y.l = -1
/-- What is ahead of one that is less is less. -/
theorem sorted_head {p : List Int} {a : List V} {B : List Sl} {t : Sl} {C : List Sl} (h : Sorted p (B ++ t :: C)) (ht : cmpC p t.l a = -1) : ∀ z ∈ B, cmpC p z.l a = -1 := fun z hz =>
  cmpC_lt ((List.pairwise_append.1 h).2.2 z hz t (List.mem_cons_self ..)) ht
theorem sorted_tail {p : List Int} {a : List V} {t : Sl} {C : List Sl} (h : Sorted p (t :: C)) (ht : cmpC p t.l a = 1) : ∀ z ∈ t :: C, cmpC p z.l a = 1 := fun z hz => by
  rcases List.mem_cons.1 hz with rfl | hz
  · exact ht
  · have h1 := (List.pairwise_cons.1 h).1 z hz
    have h2 : cmpC p a t.l = -1 := by rw [cmpC_anti]; omega
    rw [cmpC_anti, cmpC_lt h2 h1]; rfl
theorem weaveH_last {α : Type} : ∀ (fs : List (List α)) (ts : List α) (x : α), fs.length = ts.length + 1 → ∃ B, weaveH fs (ts ++ [x]) = B ++ [x]
  | [], ts, x, h => by simp at h
  | [f], [], x, _ => ⟨f, by simp [weaveH]⟩
  | f :: g :: gs, [], x, h => by simp at h
  | f :: fs, t :: ts, x, h => by
    simp only [List.length_cons] at h
    obtain ⟨B, hB⟩ := weaveH_last fs ts x (by omega)
    exact ⟨f ++ t :: B, by simp [weaveH, hB]⟩
/-- Ahead of the kid where x belongs all is less, behind it all is greater. -/
theorem place_sides {p : List Int} {a : List V} {k b : Nat} {ts : List Sl} {ks : List Nd} {i : Nat} {u : Nd} (hl : ks.length = ts.length + 1) (hu : ks[i]? = some u) (hs : Sorted p (flat (k + 1) (.mk b ts ks))) (hp : PlaceP ts a p i false) :
    (∀ z ∈ headF k (.mk b ts ks) i, cmpC p z.l a = -1) ∧ (∀ z ∈ tailF k (.mk b ts ks) i, cmpC p z.l a = 1) := by
  rw [flat_at (t := .mk b ts ks) hl hu] at hs
  constructor
  · unfold headF at *
    simp only [Nd.ts, Nd.ks] at *
    cases i with
    | zero => intro z hz; simp [weaveH] at hz
    | succ i =>
      have hit : i < ts.length := by have := hp.le; omega
      have hx := List.getElem?_eq_getElem hit
      generalize ts[i] = x at hx
      have hl1 : cmpC p x.l a = -1 := hp.less x (by rw [take_snoc' hx]; simp)
      rw [take_snoc' hx] at hs ⊢
      obtain ⟨B, hB⟩ := weaveH_last ((ks.map (flat k)).take (i + 1)) (ts.take i) x (by simp; omega)
      rw [hB] at hs ⊢
      intro z hz
      rw [List.mem_append, List.mem_singleton] at hz
      rcases hz with hz | rfl
      · exact sorted_head (B := B) (t := x) (by rw [List.append_assoc, List.append_assoc] at hs; exact hs) hl1 z hz
      · exact hl1
  · unfold tailF tailW at *
    simp only [Nd.ts, Nd.ks] at *
    cases hx : ts[i]? with
    | none => intro z hz; simp at hz
    | some x =>
      rw [hx] at hs
      exact sorted_tail (List.pairwise_append.1 hs).2.1 (hp.not rfl x hx)
end Go.Proofs.YtpmkhpbhimmeiaaGreat

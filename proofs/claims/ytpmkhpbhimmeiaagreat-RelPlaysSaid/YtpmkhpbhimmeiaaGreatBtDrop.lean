/-
  Plain mathematics of layer 4: what is not before x.
-/
import Derived.Test.YtpmkhpbhimmeiaaGreatBtMath
namespace Go.Proofs.YtpmkhpbhimmeiaaGreat
open Go.RowKit FloM ValM
set_option linter.unusedVariables false
set_option linter.unusedSimpArgs false

def dW (p : List Int) (a : List V) (L : List Sl) : List Sl := L.dropWhile fun z => cmpC p z.l a == -1
/-- In order by these columns, not each once. -/
def WS (p : List Int) (L : List Sl) : Prop := L.Pairwise fun x y => cmpC p x.l y.l ≤ 0
theorem cmpC_le_lt {p : List Int} {a b c : List V} (h1 : cmpC p a b ≤ 0) (h2 : cmpC p b c = -1) : cmpC p a c = -1 := by
  rcases cmpC_rng p a b with e | e | e
  · exact cmpC_lt e h2
  · have e' := (ord_zero _ _).1 e
    unfold cmpC at *; rw [e']; exact h2
  · omega
theorem dW_head {p : List Int} {a : List V} {B C : List Sl} (h : ∀ z ∈ B, cmpC p z.l a = -1) : dW p a (B ++ C) = dW p a C := by
  unfold dW
  induction B with
  | nil => rfl
  | cons b B ih =>
    rw [List.cons_append, List.dropWhile_cons, h b (List.mem_cons_self ..)]
    simpa using ih (fun z hz => h z (List.mem_cons_of_mem _ hz))
theorem dW_id {p : List Int} {a : List V} {C : List Sl} (h : ∀ z ∈ C, cmpC p z.l a ≠ -1) : dW p a C = C := by
  unfold dW
  cases C with
  | nil => rfl
  | cons c C => rw [List.dropWhile_cons]; simp [h c (List.mem_cons_self ..)]
theorem dW_tail {p : List Int} {a : List V} : ∀ {B C : List Sl}, (∀ z ∈ C, cmpC p z.l a ≠ -1) → dW p a (B ++ C) = dW p a B ++ C
  | [], C, h => by simpa [dW] using dW_id h
  | b :: B, C, h => by
    have ih := dW_tail (B := B) h
    unfold dW at *
    rw [List.cons_append, List.dropWhile_cons, List.dropWhile_cons]
    split
    · exact ih
    · rfl
theorem ws_head {p : List Int} {a : List V} {B : List Sl} {t : Sl} {C : List Sl} (h : WS p (B ++ t :: C)) (ht : cmpC p t.l a = -1) : ∀ z ∈ B, cmpC p z.l a = -1 := fun z hz =>
  cmpC_le_lt ((List.pairwise_append.1 h).2.2 z hz t (List.mem_cons_self ..)) ht
theorem ws_tail {p : List Int} {a : List V} {t : Sl} {C : List Sl} (h : WS p (t :: C)) (ht : cmpC p t.l a ≠ -1) : ∀ z ∈ t :: C, cmpC p z.l a ≠ -1 := fun z hz => by
  rcases List.mem_cons.1 hz with rfl | hz
  · exact ht
  · intro e
    exact ht (cmpC_le_lt ((List.pairwise_cons.1 h).1 z hz) e)
theorem place_not {p : List Int} {a : List V} {ts : List Sl} {i : Nat} {f : Bool} (hp : PlaceP ts a p i f) {x : Sl} (hx : ts[i]? = some x) : cmpC p x.l a ≠ -1 := by
  cases f with
  | true => obtain ⟨y, hy, h0⟩ := hp.found rfl; rw [hx] at hy; cases hy; omega
  | false => have := hp.not rfl x hx; omega
theorem dW_leaf {p : List Int} {a : List V} {ts : List Sl} {i : Nat} {f : Bool} (hs : WS p ts) (hp : PlaceP ts a p i f) : dW p a ts = ts.drop i := by
  conv => lhs; rw [← List.take_append_drop i ts]
  rw [dW_head hp.less, dW_id]
  cases hx : ts[i]? with
  | none => rw [List.drop_of_length_le (List.getElem?_eq_none_iff.1 hx)]; intro z hz; cases hz
  | some x =>
    rw [drop_at hx]
    refine ws_tail ?_ (place_not hp hx)
    rw [← drop_at hx]
    exact (List.pairwise_append.1 (by rw [List.take_append_drop]; exact hs : List.Pairwise _ (ts.take i ++ ts.drop i))).2.1
theorem dW_node {p : List Int} {a : List V} {k b : Nat} {ts : List Sl} {ks : List Nd} {i : Nat} {f : Bool} {u : Nd} (hl : ks.length = ts.length + 1) (hu : ks[i]? = some u) (hs : WS p (flat (k + 1) (.mk b ts ks))) (hp : PlaceP ts a p i f) :
    dW p a (flat (k + 1) (.mk b ts ks)) = dW p a (flat k u) ++ tailF k (.mk b ts ks) i ∧ ∀ z ∈ tailF k (.mk b ts ks) i, cmpC p z.l a ≠ -1 := by
  rw [flat_at (t := .mk b ts ks) hl hu] at hs ⊢
  have h1 : ∀ z ∈ headF k (.mk b ts ks) i, cmpC p z.l a = -1 := by
    unfold headF at *
    simp only [Nd.ts, Nd.ks] at *
    cases i with
    | zero => intro z hz; simp [weaveH] at hz
    | succ i =>
      have hit : i < ts.length := by have := hp.le; omega
      have hx := List.getElem?_eq_getElem hit
      generalize ts[i] = x at hx
      have hl1 : cmpC p x.l a = -1 := hp.less x (by rw [take_snoc' hx]; simp)
      rw [take_snoc' hx] at hs ⊢
      obtain ⟨B, hB⟩ := weaveH_last ((ks.map (flat k)).take (i + 1)) (ts.take i) x (by simp; omega)
      rw [hB] at hs ⊢
      intro z hz
      rw [List.mem_append, List.mem_singleton] at hz
      rcases hz with hz | rfl
      · exact ws_head (B := B) (t := x) (by rw [List.append_assoc, List.append_assoc] at hs; exact hs) hl1 z hz
      · exact hl1
  have h2 : ∀ z ∈ tailF k (.mk b ts ks) i, cmpC p z.l a ≠ -1 := by
    unfold tailF tailW at *
    simp only [Nd.ts, Nd.ks] at *
    cases hx : ts[i]? with
    | none => intro z hz; simp at hz
    | some x =>
      rw [hx] at hs
      exact ws_tail (List.pairwise_append.1 hs).2.1 (place_not hp hx)
  exact ⟨by rw [List.append_assoc, dW_head h1, dW_tail h2], h2⟩
/-- What lies behind the kid i: the tuple i, the next kid, and what lies behind that. -/
theorem tailF_next {k b : Nat} {ts : List Sl} {ks : List Nd} {i : Nat} {x : Sl} {u : Nd} (hx : ts[i]? = some x) (hu : ks[i + 1]? = some u) : tailF k (.mk b ts ks) i = x :: (flat k u ++ tailF k (.mk b ts ks) (i + 1)) := by
  unfold tailF tailW
  simp only [Nd.ts, Nd.ks, hx]
  rw [weave_drop (f := flat k u) (by simp [hu])]
theorem tailF_last {k b : Nat} {ts : List Sl} {ks : List Nd} {i : Nat} (hi : ts.length ≤ i) : tailF k (.mk b ts ks) i = [] := by
  unfold tailF tailW
  simp only [Nd.ts, List.getElem?_eq_none hi]
end Go.Proofs.YtpmkhpbhimmeiaaGreat

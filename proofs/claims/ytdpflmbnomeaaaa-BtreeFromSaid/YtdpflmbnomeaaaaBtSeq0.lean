/-
  A range over an iterator without a variable, and a box that counts its rounds.
-/
import Derived.Test.YtdpflmbnomeaaaaBtMerge
namespace Go.Proofs.Ytdpflmbnomeaaaa
open Go.RowKit FloM ValM Go.Shelf
set_option linter.unusedVariables false
set_option linter.unusedSimpArgs false
theorem wpIn_seq0 {n : Nat} {g : Operand} {ps : Array Tmp} {body : Code} {Q : Exit → Act → World → Prop} {a : Act} {w w0 : World}
    {gf : Nat} {lb : Array Value} (hg : a.eval g = .func (.func gf) #[] lb) (eg : ∀ args w, (callFunc gf args).run Try.prog w = .ok (.enter gf args) w)
    {X : Nat → Prop} {n₀ : Nat} {L : List (List V)} (hseq : SeqR gf lb X n₀ L w0) (hb0 : Below w0.heap.size w0 w) (hn₀ : n₀ ≤ w.heap.size) (hps : ps.size = 1)
    (I : List Sl → World → Prop) (Ix : Code → List Sl → World → Prop) (hI : ∀ s A B, I s A → Calm w.heap.size A B → I s B) (hIx : ∀ c s A B, Ix c s A → Calm w.heap.size A B → Ix c s B) (h0 : I [] w)
    (hbody : ∀ (l : Nat) (pre : List Sl) (x : Sl) (W : World), w.heap.size ≤ l → I pre W → pre.map Sl.l ++ [x.l] <+: L → SlOk X W x → body.wpIn (Fence.wide.inRound l) 0 Try.prog (postR w.heap.size X n₀ I Ix (pre ++ [x]) W) { tmps := (ps.zip #[x.val]).foldl (fun t (p, v) => t.setIfInBounds p v) a.tmps, defers := [] } W)
    (hdone : ∀ (D : Nat) (xs : List Sl) (W : World), w.heap.size ≤ D → xs.map Sl.l = L → I xs W → W.heap[D]? = some (.deferred (some [])) → Q .normal { a with defers := { target := .collected D, args := #[] } :: a.defers } W)
    (hstop : ∀ (D : Nat) (c : Code) (pre : List Sl) (W : World), w.heap.size ≤ D → pre.map Sl.l <+: L → Ix c pre W → W.heap[D]? = some (.deferred (some [])) → c.wpIn Fence.wide n Try.prog Q { a with defers := { target := .collected D, args := #[] } :: a.defers } W) :
    (Code.rangeFunc g ps .skip body).wpIn Fence.wide n Try.prog Q a w :=
  wpIn_seq hg eg hseq hb0 hn₀ hps I Ix hI hIx h0 (fun x => { tmps := (ps.zip #[x.val]).foldl (fun t (p, v) => t.setIfInBounds p v) a.tmps, defers := [] })
    (fun l x W K hK => wpIn_skip hK) hbody hdone hstop
/-- The box at cb says how many rounds there were. -/
structure CountI (Wc : World) (cb n : Nat) (k : Nat) (W : World) : Prop where
  b : Below Wc.heap.size Wc W
  c : W.heap[cb]? = some (.cells #[.int .i64 (k : Nat)] 3 (0, 0))
  sz : n ≤ W.heap.size
section
variable {Wc W W' : World} {cb n k : Nat}
theorem CountI.calm (hn : Wc.heap.size ≤ n) (h : CountI Wc cb n k W) (hc : Calm n W W') : CountI Wc cb n k W' :=
  ⟨h.b.trans ((hc.below h.sz).mono hn), hc.same _ _ h.c (.inr rfl), Nat.le_trans h.sz hc.size⟩
theorem CountI.next {X : Nat → Prop} {n₀ B : Nat} (h : CountI Wc cb n k W) (hcb : Wc.heap.size ≤ cb) (hX : X cb) (hn : n₀ ≤ n) :
    KeepsFrom B W (W.setCell ⟨cb, 0, none⟩ (.int .i64 ((k : Int) + 1))) ∧ Fr X n₀ W (W.setCell ⟨cb, 0, none⟩ (.int .i64 ((k : Int) + 1))) ∧ KF W (W.setCell ⟨cb, 0, none⟩ (.int .i64 ((k : Int) + 1))) ∧ CountI Wc cb n (k + 1) (W.setCell ⟨cb, 0, none⟩ (.int .i64 ((k : Int) + 1))) := by
  have hf : Fr (· = cb) W.heap.size W (W.setCell ⟨cb, 0, none⟩ (.int .i64 ((k : Int) + 1))) := fr_set W cb 0 _ _
  have hc := h.c
  refine ⟨⟨hf.size, fun j o _ hj ho => ?_⟩, (hf.sub fun i _ hi => by subst hi; exact hX).mono (Nat.le_trans hn h.sz), fun j c z hj => ?_, h.b.trans (hf.below h.b.size fun i hi e => by omega), ?_, Nat.le_trans h.sz hf.size⟩
  · refine (hf.block j (Array.getElem?_eq_some_iff.1 hj).1 fun e => ?_).trans hj
    subst e; rw [hc] at hj; cases hj; cases ho
  · refine (hf.block j (Array.getElem?_eq_some_iff.1 hj).1 fun e => ?_).trans hj
    subst e; rw [hc] at hj; cases hj
  · have := heap_set' (w := W) (D := cb) (o := 0) (cs := [.int .i64 (k : Nat)]) (t := 3) (z := (0, 0)) (.int .i64 ((k : Int) + 1)) hc
    simp only [List.set_cons_zero] at this
    rw [show ((k : Int) + 1) = ((k + 1 : Nat) : Int) by omega] at this ⊢
    exact this
end
end Go.Proofs.Ytdpflmbnomeaaaa

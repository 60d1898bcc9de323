/-
  A range over an iterator of tuples, where the iterator tells its caller that each tuple that it hands over can be read, and which one it is.
-/
import Derived.Test.YtpmkhpbhimmeiaaGreatBtMem
import Derived.RangeFuncNested
import Derived.RangeFuncBound
import Derived.RangeFuncCalls
import Derived.RangeFuncLeaves
import Derived.Shelf.Abstract
import Derived.OwnWalkIn
import Derived.TacticsInMore
import Derived.LoopNIn
import Derived.LoopIn
namespace Go.Proofs.YtpmkhpbhimmeiaaGreat
open Go.RowKit FloM ValM
set_option linter.unusedVariables false

/-- What an iterator does between two rounds: new blocks; what lay below n, and all cells, lie as they lay. -/
structure Calm (n : Nat) (A B : World) : Prop where
  os : B.os = A.os
  tape : B.tape = A.tape
  output : B.output = A.output
  size : A.heap.size ≤ B.heap.size
  same : ∀ (k : Nat) (o : Obj), A.heap[k]? = some o → (k < n ∨ o.isCells = true) → B.heap[k]? = some o
section
variable {n m : Nat} {A B C : World}
theorem Calm.refl (n : Nat) (A : World) : Calm n A A := ⟨rfl, rfl, rfl, Nat.le_refl _, fun _ _ h _ => h⟩
theorem Calm.trans (h : Calm n A B) (k : Calm n B C) : Calm n A C := ⟨k.os.trans h.os, k.tape.trans h.tape, k.output.trans h.output, Nat.le_trans h.size k.size, fun i o hi hc => k.same i o (h.same i o hi hc) hc⟩
theorem Calm.mono (h : Calm n A B) (hm : m ≤ n) : Calm m A B := ⟨h.os, h.tape, h.output, h.size, fun k o hk hc => h.same k o hk (hc.imp_left fun hl => by omega)⟩
theorem Calm.of_below (h : Below A.heap.size A B) : Calm n A B := ⟨h.os, h.tape, h.output, h.size, fun k o hk _ => (h.block k (Array.getElem?_eq_some_iff.1 hk).1).trans hk⟩
theorem Calm.put {l : Nat} {o o' : Obj} (hl : A.heap[l]? = some o) (ho : o.isCells = false) (hn : n ≤ l) : Calm n A (A.putObj l o') :=
  ⟨rfl, rfl, rfl, by simp, fun k q hk hc => (World.putObj_heap_other (fun e => by
    subst e
    rw [hl] at hk; cases hk
    rcases hc with hc | hc
    · omega
    · rw [ho] at hc; cases hc)).trans hk⟩
theorem Calm.below (h : Calm n A B) (hn : n ≤ A.heap.size) : Below n A B := ⟨h.os, h.tape, h.output, h.size, fun k hk => by
  have hlt : k < A.heap.size := by omega
  have e := Array.getElem?_eq_getElem hlt
  rw [e]; exact h.same k _ e (.inl hk)⟩
theorem Calm.cell {a : Addr} {v : Value} (h : Calm n A B) (hc : A.cell? a = some v) : B.cell? a = some v := by
  obtain ⟨o, ho, hi⟩ := cells_of_cell hc
  exact (World.cell?_of_block ((h.same _ _ ho (.inr hi)).trans ho.symm)).trans hc
theorem Calm.rdC {D : Option Addr} {cs : List Value} (h : Calm n A B) (hr : RdC A D cs) : RdC B D cs := fun j u hu => by
  obtain ⟨b, o, e, hl, c⟩ := hr j u hu
  exact ⟨b, o, e, Nat.lt_of_lt_of_le hl h.size, h.cell c⟩
theorem Calm.rdV {D : Option Addr} {l : List V} (h : Calm n A B) (hr : RdV A D l) : RdV B D l := fun j u hu => by
  obtain ⟨b, o, e, hl, c0, c1, c2⟩ := hr j u hu
  exact ⟨b, o, e, Nat.lt_of_lt_of_le hl h.size, h.cell c0, h.cell c1, h.cell c2⟩
theorem Calm.slOk {X : Nat → Prop} {x : Sl} (h : Calm n A B) (hr : SlOk X A x) : SlOk X B x := ⟨h.rdV hr.rd, hr.off, hr.cap, fun a ha => by
  obtain ⟨c, z, hc⟩ := hr.ty a ha
  exact ⟨c, z, h.same _ _ hc (.inr rfl)⟩⟩
end

/-- Blocks that hold a function lie as they lay. -/
def KF (A B : World) : Prop := ∀ (b : Nat) (c : Array Value) (z : Nat × Nat), A.heap[b]? = some (.cells c 44 z) → B.heap[b]? = some (.cells c 44 z)
section
variable {A B C : World}
theorem KF.refl (A : World) : KF A A := fun _ _ _ h => h
theorem KF.trans (h : KF A B) (k : KF B C) : KF A C := fun b c z hb => k b c z (h b c z hb)
theorem KF.of_below (h : Below A.heap.size A B) : KF A B := fun b c z hb => (h.block b (Array.getElem?_eq_some_iff.1 hb).1).trans hb
theorem KF.calm {n : Nat} (h : Calm n A B) : KF A B := fun b c z hb => h.same b _ hb (.inr rfl)
end
theorem YieldAt.deep {m m' : Nat} {P : Program} {l : Nat} {args : Array Value} {W : World} {R : Ending → World → Prop} (h : YieldAt Fence.wide m P l args W R) : YieldAt Fence.wide m' P l args W R := by
  obtain ⟨fn, tmps, assign, body, hy, hR⟩ := h
  exact ⟨fn, tmps, assign, body, hy, hR.1, fun c cs _ => hR.2 c cs (fun d hd => by cases hd)⟩
theorem callsIn_deep {n m : Nat} {P : Program} {f : FuncId} {args : Array Value} {w : World} {R : Ending → World → Prop} (h : CallsIn Fence.wide n P f args w R) : CallsIn Fence.wide m P f args w R := callsIn_wide.2 (callsIn_wide.1 h)

/-- Behind l, whatever is no cells lies as it lay. -/
structure KN (l : Nat) (A B : World) : Prop where
  size : A.heap.size ≤ B.heap.size
  same : ∀ (k : Nat) (o : Obj), l < k → A.heap[k]? = some o → o.isCells = false → B.heap[k]? = some o
theorem KN.trans {l : Nat} {A B C : World} (h : KN l A B) (k : KN l B C) : KN l A C := ⟨Nat.le_trans h.size k.size, fun i o hl hi ho => k.same i o hl (h.same i o hl hi ho) ho⟩
theorem KN.of_below {l : Nat} {A B : World} (h : Below A.heap.size A B) : KN l A B := ⟨h.size, fun i o _ hi _ => (h.block i (Array.getElem?_eq_some_iff.1 hi).1).trans hi⟩
theorem KN.from {l : Nat} {A B : World} (h : KN l A B) {n : Nat} (hn : l < n) : KeepsFrom n A B := ⟨h.size, fun i o hi ha ho => h.same i o (by omega) ha ho⟩
/-- A round, as the iterator may call it. -/
def RoundPost (X : Nat → Prop) (n₀ : Nat) (l : Nat) (J Jx : List Sl → World → Prop) (xs : List Sl) (W1 : World) (e : Ending) (W' : World) : Prop :=
  (e = .returned (.bool true) ∧ J xs W' ∧ Fr X n₀ W1 W' ∧ KF W1 W' ∧ KN l W1 W') ∨ (e = .returned (.bool false) ∧ Jx xs W' ∧ KN l W1 W')
def RoundR (X : Nat → Prop) (n₀ : Nat) (L : List (List V)) (l : Nat) (J Jx : List Sl → World → Prop) : Prop :=
  ∀ (pre : List Sl) (x : Sl) (W1 : World), J pre W1 → pre.map Sl.l ++ [x.l] <+: L → SlOk X W1 x → YieldAt Fence.wide 0 Tryz.prog l #[x.val] W1 (RoundPost X n₀ l J Jx (pre ++ [x]) W1)
/-- The iterator g, with what it has captured, hands over tuples that read L, or the first ones of them. -/
def SeqR (g : Nat) (lb : Array Value) (X : Nat → Prop) (n₀ : Nat) (L : List (List V)) (w : World) : Prop :=
  ∀ (l : Nat) (J Jx : List Sl → World → Prop) (W : World), Below w.heap.size w W → l < W.heap.size →
    (∀ s A B, J s A → Calm W.heap.size A B → J s B) → (∀ s A B, Jx s A → Calm W.heap.size A B → Jx s B) → RoundR X n₀ L l J Jx → J [] W →
    CallsIn Fence.wide 0 Tryz.prog g (#[.func (.yield l) #[] #[]] ++ lb) W fun e W' => (∃ v, e = .returned v) ∧ ((∃ xs, xs.map Sl.l = L ∧ J xs W') ∨ (∃ pre, pre.map Sl.l <+: L ∧ Jx pre W'))
/-- How a round's body may be left. -/
def postR (B : Nat) (X : Nat → Prop) (n₀ : Nat) (I : List Sl → World → Prop) (Ix : Code → List Sl → World → Prop) (xs : List Sl) (W : World) : Exit → Act → World → Prop
  | .normal, _, W' => KeepsFrom B W W' ∧ Fr X n₀ W W' ∧ KF W W' ∧ I xs W'
  | .ret, _, W' => KeepsFrom B W W' ∧ Ix .ret xs W'
  | .exit id, _, W' => KeepsFrom B W W' ∧ Ix (.exit id) xs W'
  | _, _, _ => False
/-- A range over such an iterator. -/
theorem wpIn_seq {n : Nat} {g : Operand} {ps : Array Tmp} {assign body : Code} {Q : Exit → Act → World → Prop} {a : Act} {w w0 : World}
    {gf : Nat} {lb : Array Value} (hg : a.eval g = .func (.func gf) #[] lb) (eg : ∀ args w, (callFunc gf args).run Tryz.prog w = .ok (.enter gf args) w)
    {X : Nat → Prop} {n₀ : Nat} {L : List (List V)} (hseq : SeqR gf lb X n₀ L w0) (hb0 : Below w0.heap.size w0 w) (hn₀ : n₀ ≤ w.heap.size) (hps : ps.size = 1)
    (I : List Sl → World → Prop) (Ix : Code → List Sl → World → Prop) (hI : ∀ s A B, I s A → Calm w.heap.size A B → I s B) (hIx : ∀ c s A B, Ix c s A → Calm w.heap.size A B → Ix c s B) (h0 : I [] w) (a₁ : Sl → Act)
    (hassign : ∀ (l : Nat) (x : Sl) (W : World) (K : Act → World → Prop), K (a₁ x) W →
      assign.wpIn (Fence.wide.inRound l) 0 Tryz.prog (Exit.then K (fun _ _ _ => False)) { tmps := (ps.zip #[x.val]).foldl (fun t (p, v) => t.setIfInBounds p v) a.tmps, defers := [] } W)
    (hbody : ∀ (l : Nat) (pre : List Sl) (x : Sl) (W : World), w.heap.size ≤ l → I pre W → pre.map Sl.l ++ [x.l] <+: L → SlOk X W x → body.wpIn (Fence.wide.inRound l) 0 Tryz.prog (postR w.heap.size X n₀ I Ix (pre ++ [x]) W) (a₁ x) W)
    (hdone : ∀ (D : Nat) (xs : List Sl) (W : World), w.heap.size ≤ D → xs.map Sl.l = L → I xs W → W.heap[D]? = some (.deferred (some [])) → Q .normal { a with defers := { target := .collected D, args := #[] } :: a.defers } W)
    (hstop : ∀ (D : Nat) (c : Code) (pre : List Sl) (W : World), w.heap.size ≤ D → pre.map Sl.l <+: L → Ix c pre W → W.heap[D]? = some (.deferred (some [])) → c.wpIn Fence.wide n Tryz.prog Q { a with defers := { target := .collected D, args := #[] } :: a.defers } W) :
    (Code.rangeFunc g ps assign body).wpIn Fence.wide n Tryz.prog Q a w := by
  refine wpIn_rangeFunc fun fn hfn => ?_
  -- the loop's record, and the block for what the rounds put off
  have hD0 : w.heap.size ≤ w.heap.size := Nat.le_refl _
  let rec' : LoopState → Option Code → Loop := fun st pe => { state := st, pending := pe, fn, tmps := a.tmps, params := ps, assign, body, defers := w.heap.size }
  let W1 := (w.alloc (.deferred (some []))).alloc (.loop (rec' .ready none))
  have hW1 : Below w.heap.size w W1 := ((Below.refl _ w).alloc (Nat.le_refl _) _).alloc (by simp) _
  have hL1 : W1.heap[w.heap.size + 1]? = some (.loop (rec' .ready none)) := by
    have := World.alloc_heap_new (w.alloc (.deferred (some []))) (.loop (rec' .ready none)); rwa [World.size_alloc] at this
  have hK1 : W1.heap[w.heap.size]? = some (.deferred (some [])) := (Below.heap_alloc _ _ _ (by simp)).trans (World.alloc_heap_new w _)
  have hs1 : w.heap.size ≤ W1.heap.size := hW1.size
  refine ⟨w.heap.size + 1, [{ target := .collected w.heap.size, args := #[] }], W1, { target := .fn (.func gf) lb, args := #[.func (.yield (w.heap.size + 1)) #[] #[]] }, W1, gf,
    #[.func (.yield (w.heap.size + 1)) #[] #[]] ++ lb, W1, run_enterLoop_outer _ _ _ _ _, ?_, fun _ _ => trivial, ?_, (fun h => by cases h), ?_⟩
  · simp only [resolve, hg]; simp [go_sem]
  · simp [invoke, go_sem, eg]
  -- the caller's invariant, with the two blocks beside it
  have up : ∀ {A B : World}, Calm W1.heap.size A B → Calm w.heap.size A B := fun h => h.mono hs1
  have two : ∀ {A B : World} {k : Nat} {o : Obj}, k < W1.heap.size → Calm W1.heap.size A B → A.heap[k]? = some o → B.heap[k]? = some o := fun hk h ha => h.same _ _ ha (.inl hk)
  have l1 : w.heap.size + 1 < W1.heap.size := (Array.getElem?_eq_some_iff.1 hL1).1
  refine callsIn_deep ((hseq (w.heap.size + 1)
    (fun pre W => I pre W ∧ W.heap[w.heap.size + 1]? = some (.loop (rec' .ready none)) ∧ W.heap[w.heap.size]? = some (.deferred (some [])))
    (fun pre W => ∃ c, Ix c pre W ∧ W.heap[w.heap.size + 1]? = some (.loop (rec' .done (some c))) ∧ W.heap[w.heap.size]? = some (.deferred (some [])))
    W1 (hb0.trans (hW1.mono hb0.size)) l1
    (fun s A B hs hc => ⟨hI s A B hs.1 (up hc), two l1 hc hs.2.1, two (by omega) hc hs.2.2⟩)
    (fun s A B hs hc => by obtain ⟨c, h1, h2, h3⟩ := hs; exact ⟨c, hIx c s A B h1 (up hc), two l1 hc h2, two (by omega) hc h3⟩)
    ?_ ⟨hI _ _ _ h0 (Calm.of_below hW1), hL1, hK1⟩).mono ?_)
  · -- one round
    rintro pre x W ⟨hi, hl, hk⟩ hpre hok
    have hlt : w.heap.size + 1 < W.heap.size := (Array.getElem?_eq_some_iff.1 hl).1
    have hy := run_yield (P := Tryz.prog) (args := #[x.val]) hl (by rw [hps]; rfl)
    refine ⟨fn, _, assign, body, hy, roundIn_of_wpIn hfn (hassign _ x W _ ⟨_, run_beginRound hl rfl, ?_⟩)⟩
    have c2 : Calm w.heap.size W (W.putObj (w.heap.size + 1) (.loop { rec' .ready none with state := .busy })) := Calm.put hl rfl (by omega)
    have hl2 : (W.putObj (w.heap.size + 1) (.loop { rec' .ready none with state := .busy })).heap[w.heap.size + 1]? = some (.loop { rec' .ready none with state := .busy }) := World.putObj_heap_same hlt
    have hk2 : (W.putObj (w.heap.size + 1) (.loop { rec' .ready none with state := .busy })).heap[w.heap.size]? = some (.deferred (some [])) := (World.putObj_heap_other (by omega)).trans hk
    refine wpIn_mono (hbody _ pre x _ (by omega) (hI _ _ _ hi c2) hpre (c2.slOk hok)) ?_
    have fin : ∀ (jump : Option Code) (W3 : World), KeepsFrom w.heap.size (W.putObj (w.heap.size + 1) (.loop { rec' .ready none with state := .busy })) W3 →
        (Instr.endRound (w.heap.size + 1) jump).run Tryz.prog W3 = .ok (.bool jump.isNone) (W3.putObj (w.heap.size + 1) (.loop (rec' (if jump.isNone then .ready else .done) jump))) ∧
        Calm w.heap.size W3 (W3.putObj (w.heap.size + 1) (.loop (rec' (if jump.isNone then .ready else .done) jump))) ∧
        (W3.putObj (w.heap.size + 1) (.loop (rec' (if jump.isNone then .ready else .done) jump))).heap[w.heap.size + 1]? = some (.loop (rec' (if jump.isNone then .ready else .done) jump)) ∧
        (W3.putObj (w.heap.size + 1) (.loop (rec' (if jump.isNone then .ready else .done) jump))).heap[w.heap.size]? = some (.deferred (some [])) := fun jump W3 hk3 => by
      have hl3 := hk3.same _ _ (by omega) hl2 rfl
      exact ⟨run_endRound jump hl3, Calm.put hl3 rfl (by omega), World.putObj_heap_same (Array.getElem?_eq_some_iff.1 hl3).1, (World.putObj_heap_other (by omega)).trans (hk3.same _ _ (Nat.le_refl _) hk2 rfl)⟩
    have kn : ∀ (W3 : World) (o' : Obj), KeepsFrom w.heap.size (W.putObj (w.heap.size + 1) (.loop { rec' .ready none with state := .busy })) W3 → KN (w.heap.size + 1) W (W3.putObj (w.heap.size + 1) o') := fun W3 o' hk3 =>
      ⟨Nat.le_trans c2.size (Nat.le_trans hk3.size (by simp)), fun k o hlk hka ho => (World.putObj_heap_other (by omega)).trans (hk3.same k o (by omega) ((World.putObj_heap_other (by omega)).trans hka) ho)⟩
    rintro e a3 W3 hp
    cases e with
    | normal =>
      obtain ⟨hk3, hf3, hq3, hi3⟩ := hp
      obtain ⟨hr, c3, hl4, hk4⟩ := fin none W3 hk3
      have fr : ∀ {A B : World}, Calm w.heap.size A B → w.heap.size ≤ A.heap.size → Fr X n₀ A B := fun h hs => Fr.of ((h.below hs).mono hn₀)
      exact ⟨_, _, hr, .inl ⟨rfl, ⟨hI _ _ _ hi3 c3, hl4, hk4⟩, ((fr c2 (by omega)).trans hf3).trans (fr c3 (Nat.le_trans (show w.heap.size ≤ W.heap.size by omega) (Nat.le_trans c2.size hk3.size))), ((KF.calm c2).trans hq3).trans (KF.calm c3), kn W3 _ hk3⟩⟩
    | ret =>
      obtain ⟨hk3, hi3⟩ := hp
      obtain ⟨hr, c3, hl4, hk4⟩ := fin (some .ret) W3 hk3
      exact ⟨_, _, hr, .inr ⟨rfl, ⟨.ret, hIx _ _ _ _ hi3 c3, hl4, hk4⟩, kn W3 _ hk3⟩⟩
    | exit id =>
      obtain ⟨hk3, hi3⟩ := hp
      obtain ⟨hr, c3, hl4, hk4⟩ := fin (some (.exit id)) W3 hk3
      exact ⟨_, _, hr, .inr ⟨rfl, ⟨.exit id, hIx _ _ _ _ hi3 c3, hl4, hk4⟩, kn W3 _ hk3⟩⟩
    | goto t => exact hp.elim
    | panic ch => exact hp.elim
    | outgrown => exact hp.elim
  · -- behind the iterator
    rintro e W2 ⟨⟨v, rfl⟩, (⟨xs, hS, hi, hl, hk⟩ | ⟨pre, hSp, c, hi, hl, hk⟩)⟩
    · exact ⟨none, _, run_endLoop hl (by simp [rec']), hdone _ xs _ (Nat.le_refl _) hS (hI _ _ _ hi (Calm.put hl rfl (by omega))) ((World.putObj_heap_other (by omega)).trans hk)⟩
    · exact ⟨some c, _, run_endLoop hl (by simp [rec']), hstop _ c pre _ (Nat.le_refl _) hSp (hIx c _ _ _ hi (Calm.put hl rfl (by omega))) ((World.putObj_heap_other (by omega)).trans hk)⟩
end Go.Proofs.YtpmkhpbhimmeiaaGreat

/-
  An iterator of tuples that says, besides, that each tuple that it hands over lies in a new block of its own; what is gathered from it may be written.
-/
import Derived.Test.YtigfpniajjkjoaaBtUse
namespace Go.Proofs.Ytigfpniajjkjoaa
open Go.RowKit FloM ValM Go.Shelf
set_option linter.unusedVariables false
set_option linter.unusedSimpArgs false
attribute [local go_sem] Oper.semAt_some
/-- A tuple in a new block of its own, from its start on. -/
def FreshV (N : Nat) (w : World) (x : Sl) : Prop := x.l.length = 0 ∨ ∃ (g : Nat) (cs : Array Value), x.A = some ⟨g, 0, none⟩ ∧ N ≤ g ∧ w.heap[g]? = some (.cells cs 25 (0, 0)) ∧ x.l.length * 3 ≤ cs.size
theorem FreshV.mono {N M : Nat} {w : World} {x : Sl} (h : FreshV N w x) (hm : M ≤ N) : FreshV M w x := h.imp_right fun ⟨g, cs, e, hn, r⟩ => ⟨g, cs, e, Nat.le_trans hm hn, r⟩
theorem FreshV.same {N : Nat} {w w' : World} {x : Sl} (h : FreshV N w x) (hs : ∀ (g : Nat) (cs : Array Value), N ≤ g → w.heap[g]? = some (.cells cs 25 (0, 0)) → w'.heap[g]? = some (.cells cs 25 (0, 0))) : FreshV N w' x := h.imp_right fun ⟨g, cs, e, hn, hg, r⟩ => ⟨g, cs, e, hn, hs g cs hn hg, r⟩
theorem Calm.fresh {N n : Nat} {w w' : World} {x : Sl} (hc : Calm n w w') (h : FreshV N w x) : FreshV N w' x := h.same fun _ _ _ hg => hc.same _ _ hg (.inr rfl)
theorem FreshV.on {N : Nat} {w w' : World} {x : Sl} (h : FreshV N w x) (hb : Below w.heap.size w w') : FreshV N w' x := h.same fun _ _ _ hg => (hb.block _ (Array.getElem?_eq_some_iff.1 hg).1).trans hg
theorem FreshV.onF {X : Nat → Prop} {N : Nat} {w w' : World} {x : Sl} (h : FreshV N w x) (hb : Fr X w.heap.size w w') (hX : ∀ k, X k → k < N) : FreshV N w' x := h.same fun _ _ hn hg => (hb.block _ (Array.getElem?_eq_some_iff.1 hg).1 (fun hx => by have := hX _ hx; omega)).trans hg
theorem FreshV.own {w : World} {A : Option Addr} {c : Nat} {l : List V} {B : Nat} (h : w.ownsRow B 25 3 (.slice A l.length c) l.length (vcells l)) : FreshV B w ⟨A, c, l⟩ := by
  rcases Nat.eq_zero_or_pos l.length with e | e
  · exact .inl e
  · refine .inr ?_
    obtain ⟨g', cap', hv', hb', hlt'⟩ := h.form e
    rcases h.2 with ⟨_, h0⟩ | ⟨g, cap, cur, hv, hbg, hg, hnc, _, hcs, _⟩
    · omega
    · injection hv with hA _ hc
      subst hA
      injection hv' with hA' _ _
      injection hA' with hA'
      injection hA' with e1 _ _
      subst e1
      exact ⟨g, cur, rfl, hbg, hg, by simp only; omega⟩
set_option maxHeartbeats 1000000 in
theorem cloneN_any (A : Option Addr) (c : Nat) (l : List V) (w : World) (h : RdV w A l) (hl : l.length ≤ 1000) :
    Calls Try.prog 66 #[.slice A l.length c] w fun e w' => ∃ A' c', SaysW l w e w' A' c' ∧ FreshV w.heap.size w' ⟨A', c', l⟩ := by
  cases A with
  | none =>
    have hl0 : l = [] := by
      cases l with
      | nil => rfl
      | cons x r => obtain ⟨b, o, e, _⟩ := h 0 x rfl; cases e
    subst hl0
    go_enter Try.func66, Try.ntmps66
    go_wp2
    go_ret
    exact ⟨none, 0, ⟨rfl, RdV.nil, (fun a ha => by cases ha), Nat.le_refl _, (fun a ha => by cases ha), Below.refl _ _⟩, .inl rfl⟩
  | some a =>
    have HH := Lib.hid h; clear h
    have hB : Below w.heap.size w (w.alloc (.cells #[] 25)) := (Below.refl _ _).alloc (Nat.le_refl _) _
    go_enter Try.func66, Try.ntmps66
    go_wp2_with (at_builtin; refine wpList_appV rfl (.tmp 5) (.tmp 6) rfl w.heap.size _ 0 [] l l rfl rfl (own_made0 w) (some a) c rfl (HH.out.on hB) (by simp; omega) hB.size ?_; intro A3 c3 w3 ho3 hg3)
    go_ret
    exact ⟨A3, c3, ⟨rfl, own_rdV ho3, (fun a ha => by subst ha; exact own_base ho3 a.block rfl), (own_cap ho3).1, own_ty ho3, hB.grown hg3 hB.size (own_base (own_made0 w))⟩, FreshV.own ho3⟩
def RoundN (N : Nat) (X : Nat → Prop) (n₀ : Nat) (L : List (List V)) (l : Nat) (J Jx : List Sl → World → Prop) : Prop :=
  ∀ (pre : List Sl) (x : Sl) (W1 : World), J pre W1 → pre.map Sl.l ++ [x.l] <+: L → SlOk X W1 x → FreshV N W1 x → YieldAt Fence.wide 0 Try.prog l #[x.val] W1 (RoundPost X n₀ l J Jx (pre ++ [x]) W1)
def SeqN (N : Nat) (g : Nat) (lb : Array Value) (X : Nat → Prop) (n₀ : Nat) (L : List (List V)) (w : World) : Prop :=
  ∀ (l : Nat) (J Jx : List Sl → World → Prop) (W : World), Below w.heap.size w W → l < W.heap.size →
    (∀ s A B, J s A → Calm W.heap.size A B → J s B) → (∀ s A B, Jx s A → Calm W.heap.size A B → Jx s B) → RoundN N X n₀ L l J Jx → J [] W →
    CallsIn Fence.wide 0 Try.prog g (#[.func (.yield l) #[] #[]] ++ lb) W fun e W' => (∃ v, e = .returned v) ∧ ((∃ xs, xs.map Sl.l = L ∧ J xs W') ∨ (∃ pre, pre.map Sl.l <+: L ∧ Jx pre W'))
theorem wpIn_seqN {n : Nat} {g : Operand} {ps : Array Tmp} {assign body : Code} {Q : Exit → Act → World → Prop} {a : Act} {w w0 : World}
    {gf : Nat} {lb : Array Value} (hg : a.eval g = .func (.func gf) #[] lb) (eg : ∀ args w, (callFunc gf args).run Try.prog w = .ok (.enter gf args) w)
    {X : Nat → Prop} {n₀ : Nat} {L : List (List V)} {N : Nat} (hseq : SeqN N gf lb X n₀ L w0) (hb0 : Below w0.heap.size w0 w) (hn₀ : n₀ ≤ w.heap.size) (hps : ps.size = 1)
    (I : List Sl → World → Prop) (Ix : Code → List Sl → World → Prop) (hI : ∀ s A B, I s A → Calm w.heap.size A B → I s B) (hIx : ∀ c s A B, Ix c s A → Calm w.heap.size A B → Ix c s B) (h0 : I [] w) (a₁ : Sl → Act)
    (hassign : ∀ (l : Nat) (x : Sl) (W : World) (K : Act → World → Prop), K (a₁ x) W →
      assign.wpIn (Fence.wide.inRound l) 0 Try.prog (Exit.then K (fun _ _ _ => False)) { tmps := (ps.zip #[x.val]).foldl (fun t (p, v) => t.setIfInBounds p v) a.tmps, defers := [] } W)
    (hbody : ∀ (l : Nat) (pre : List Sl) (x : Sl) (W : World), w.heap.size ≤ l → I pre W → pre.map Sl.l ++ [x.l] <+: L → SlOk X W x → FreshV N W x → body.wpIn (Fence.wide.inRound l) 0 Try.prog (postR w.heap.size X n₀ I Ix (pre ++ [x]) W) (a₁ x) W)
    (hdone : ∀ (D : Nat) (xs : List Sl) (W : World), w.heap.size ≤ D → xs.map Sl.l = L → I xs W → W.heap[D]? = some (.deferred (some [])) → Q .normal { a with defers := { target := .collected D, args := #[] } :: a.defers } W)
    (hstop : ∀ (D : Nat) (c : Code) (pre : List Sl) (W : World), w.heap.size ≤ D → pre.map Sl.l <+: L → Ix c pre W → W.heap[D]? = some (.deferred (some [])) → c.wpIn Fence.wide n Try.prog Q { a with defers := { target := .collected D, args := #[] } :: a.defers } W) :
    (Code.rangeFunc g ps assign body).wpIn Fence.wide n Try.prog Q a w := by
  refine wpIn_rangeFunc fun fn hfn => ?_
  -- the loop's record, and the block for what the rounds put off
  have hD0 : w.heap.size ≤ w.heap.size := Nat.le_refl _
  let rec' : LoopState → Option Code → Loop := fun st pe => { state := st, pending := pe, fn, tmps := a.tmps, params := ps, assign, body, defers := w.heap.size }
  let W1 := (w.alloc (.deferred (some []))).alloc (.loop (rec' .ready none))
  have hW1 : Below w.heap.size w W1 := ((Below.refl _ w).alloc (Nat.le_refl _) _).alloc (by simp) _
  have hL1 : W1.heap[w.heap.size + 1]? = some (.loop (rec' .ready none)) := by
    have := World.alloc_heap_new (w.alloc (.deferred (some []))) (.loop (rec' .ready none)); rwa [World.size_alloc] at this
  have hK1 : W1.heap[w.heap.size]? = some (.deferred (some [])) := (Below.heap_alloc _ _ _ (by simp)).trans (World.alloc_heap_new w _)
  have hs1 : w.heap.size ≤ W1.heap.size := hW1.size
  refine ⟨w.heap.size + 1, [{ target := .collected w.heap.size, args := #[] }], W1, { target := .fn (.func gf) lb, args := #[.func (.yield (w.heap.size + 1)) #[] #[]] }, W1, gf,
    #[.func (.yield (w.heap.size + 1)) #[] #[]] ++ lb, W1, run_enterLoop_outer _ _ _ _ _, ?_, fun _ _ => trivial, ?_, (fun h => by cases h), ?_⟩
  · simp only [resolve, hg]; simp [go_sem]
  · simp [invoke, go_sem, eg]
  -- the caller's invariant, with the two blocks beside it
  have up : ∀ {A B : World}, Calm W1.heap.size A B → Calm w.heap.size A B := fun h => h.mono hs1
  have two : ∀ {A B : World} {k : Nat} {o : Obj}, k < W1.heap.size → Calm W1.heap.size A B → A.heap[k]? = some o → B.heap[k]? = some o := fun hk h ha => h.same _ _ ha (.inl hk)
  have l1 : w.heap.size + 1 < W1.heap.size := (Array.getElem?_eq_some_iff.1 hL1).1
  refine callsIn_deep ((hseq (w.heap.size + 1)
    (fun pre W => I pre W ∧ W.heap[w.heap.size + 1]? = some (.loop (rec' .ready none)) ∧ W.heap[w.heap.size]? = some (.deferred (some [])))
    (fun pre W => ∃ c, Ix c pre W ∧ W.heap[w.heap.size + 1]? = some (.loop (rec' .done (some c))) ∧ W.heap[w.heap.size]? = some (.deferred (some [])))
    W1 (hb0.trans (hW1.mono hb0.size)) l1
    (fun s A B hs hc => ⟨hI s A B hs.1 (up hc), two l1 hc hs.2.1, two (by omega) hc hs.2.2⟩)
    (fun s A B hs hc => by obtain ⟨c, h1, h2, h3⟩ := hs; exact ⟨c, hIx c s A B h1 (up hc), two l1 hc h2, two (by omega) hc h3⟩)
    ?_ ⟨hI _ _ _ h0 (Calm.of_below hW1), hL1, hK1⟩).mono ?_)
  · -- one round
    rintro pre x W ⟨hi, hl, hk⟩ hpre hok hfr
    have hlt : w.heap.size + 1 < W.heap.size := (Array.getElem?_eq_some_iff.1 hl).1
    have hy := run_yield (P := Try.prog) (args := #[x.val]) hl (by rw [hps]; rfl)
    refine ⟨fn, _, assign, body, hy, roundIn_of_wpIn hfn (hassign _ x W _ ⟨_, run_beginRound hl rfl, ?_⟩)⟩
    have c2 : Calm w.heap.size W (W.putObj (w.heap.size + 1) (.loop { rec' .ready none with state := .busy })) := Calm.put hl rfl (by omega)
    have hl2 : (W.putObj (w.heap.size + 1) (.loop { rec' .ready none with state := .busy })).heap[w.heap.size + 1]? = some (.loop { rec' .ready none with state := .busy }) := World.putObj_heap_same hlt
    have hk2 : (W.putObj (w.heap.size + 1) (.loop { rec' .ready none with state := .busy })).heap[w.heap.size]? = some (.deferred (some [])) := (World.putObj_heap_other (by omega)).trans hk
    refine wpIn_mono (hbody _ pre x _ (by omega) (hI _ _ _ hi c2) hpre (c2.slOk hok) (c2.fresh hfr)) ?_
    have fin : ∀ (jump : Option Code) (W3 : World), KeepsFrom w.heap.size (W.putObj (w.heap.size + 1) (.loop { rec' .ready none with state := .busy })) W3 →
        (Instr.endRound (w.heap.size + 1) jump).run Try.prog W3 = .ok (.bool jump.isNone) (W3.putObj (w.heap.size + 1) (.loop (rec' (if jump.isNone then .ready else .done) jump))) ∧
        Calm w.heap.size W3 (W3.putObj (w.heap.size + 1) (.loop (rec' (if jump.isNone then .ready else .done) jump))) ∧
        (W3.putObj (w.heap.size + 1) (.loop (rec' (if jump.isNone then .ready else .done) jump))).heap[w.heap.size + 1]? = some (.loop (rec' (if jump.isNone then .ready else .done) jump)) ∧
        (W3.putObj (w.heap.size + 1) (.loop (rec' (if jump.isNone then .ready else .done) jump))).heap[w.heap.size]? = some (.deferred (some [])) := fun jump W3 hk3 => by
      have hl3 := hk3.same _ _ (by omega) hl2 rfl
      exact ⟨run_endRound jump hl3, Calm.put hl3 rfl (by omega), World.putObj_heap_same (Array.getElem?_eq_some_iff.1 hl3).1, (World.putObj_heap_other (by omega)).trans (hk3.same _ _ (Nat.le_refl _) hk2 rfl)⟩
    have kn : ∀ (W3 : World) (o' : Obj), KeepsFrom w.heap.size (W.putObj (w.heap.size + 1) (.loop { rec' .ready none with state := .busy })) W3 → KN (w.heap.size + 1) W (W3.putObj (w.heap.size + 1) o') := fun W3 o' hk3 =>
      ⟨Nat.le_trans c2.size (Nat.le_trans hk3.size (by simp)), fun k o hlk hka ho => (World.putObj_heap_other (by omega)).trans (hk3.same k o (by omega) ((World.putObj_heap_other (by omega)).trans hka) ho)⟩
    rintro e a3 W3 hp
    cases e with
    | normal =>
      obtain ⟨hk3, hf3, hq3, hi3⟩ := hp
      obtain ⟨hr, c3, hl4, hk4⟩ := fin none W3 hk3
      have fr : ∀ {A B : World}, Calm w.heap.size A B → w.heap.size ≤ A.heap.size → Fr X n₀ A B := fun h hs => Fr.of ((h.below hs).mono hn₀)
      exact ⟨_, _, hr, .inl ⟨rfl, ⟨hI _ _ _ hi3 c3, hl4, hk4⟩, ((fr c2 (by omega)).trans hf3).trans (fr c3 (Nat.le_trans (show w.heap.size ≤ W.heap.size by omega) (Nat.le_trans c2.size hk3.size))), ((KF.calm c2).trans hq3).trans (KF.calm c3), kn W3 _ hk3⟩⟩
    | ret =>
      obtain ⟨hk3, hi3⟩ := hp
      obtain ⟨hr, c3, hl4, hk4⟩ := fin (some .ret) W3 hk3
      exact ⟨_, _, hr, .inr ⟨rfl, ⟨.ret, hIx _ _ _ _ hi3 c3, hl4, hk4⟩, kn W3 _ hk3⟩⟩
    | exit id =>
      obtain ⟨hk3, hi3⟩ := hp
      obtain ⟨hr, c3, hl4, hk4⟩ := fin (some (.exit id)) W3 hk3
      exact ⟨_, _, hr, .inr ⟨rfl, ⟨.exit id, hIx _ _ _ _ hi3 c3, hl4, hk4⟩, kn W3 _ hk3⟩⟩
    | goto t => exact hp.elim
    | panic ch => exact hp.elim
    | outgrown => exact hp.elim
  · -- behind the iterator
    rintro e W2 ⟨⟨v, rfl⟩, (⟨xs, hS, hi, hl, hk⟩ | ⟨pre, hSp, c, hi, hl, hk⟩)⟩
    · exact ⟨none, _, run_endLoop hl (by simp [rec']), hdone _ xs _ (Nat.le_refl _) hS (hI _ _ _ hi (Calm.put hl rfl (by omega))) ((World.putObj_heap_other (by omega)).trans hk)⟩
    · exact ⟨some c, _, run_endLoop hl (by simp [rec']), hstop _ c pre _ (Nat.le_refl _) hSp (hIx c _ _ _ hi (Calm.put hl rfl (by omega))) ((World.putObj_heap_other (by omega)).trans hk)⟩
theorem own_tyT {w : World} {B n c : Nat} {A : Option Addr} {t : TypeId} {k : Nat} {xs : List Value} (h : w.ownsRow B t k (.slice A n c) n xs) : ∀ a, A = some a → ∃ cs z, w.heap[a.block]? = some (.cells cs t z) := fun a ha => by
  subst ha
  rcases h.2 with ⟨e, _⟩ | ⟨g, cap, cur, e, hbg, hg, _⟩
  · cases e
  · injection e with e1
    injection e1 with e1
    subst e1
    exact ⟨cur, _, hg⟩
theorem ToldI.fresh {X : Nat → Prop} {w W w2 : World} {B N : Nat} {xs : List Sl} {x y : Sl} {A A2 : Option Addr} {c c2 : Nat} (h : ToldI X w B xs W A c) (hy : FreshV N W y) (hg : (W.alloc (.cells #[x.val] 32)).grownBy w2 (Value.slice A xs.length c).ownBlock) : FreshV N (w2.setCell ⟨B, 0, none⟩ (.slice A2 (xs.length + 1) c2)) y :=
  hy.same fun g cs _ hgg => by
    have hkl : g < W.heap.size := (Array.getElem?_eq_some_iff.1 hgg).1
    have hb : g ≠ B := fun e => by rw [e, h.box] at hgg; cases hgg
    have hr : (Value.slice A xs.length c).ownBlock ≠ some g := fun e => by
      rcases h.own.2 with ⟨e', _⟩ | ⟨g', cap, cur, e', hbg, hg', _⟩
      · rw [e'] at e; simp [Value.ownBlock] at e
      · rw [e'] at e
        have hgk : g' = g := by simpa [Value.ownBlock] using e
        subst hgk
        rw [hg'] at hgg; cases hgg
    rw [Below.heap_setCell _ _ _ _ (by simpa using hb), hg.block g (by simp; omega) (fun e => hr e.symm), Below.heap_alloc _ _ _ hkl]
    exact hgg
set_option maxRecDepth 20000 in
set_option maxHeartbeats 4000000 in
theorem appendSeqN_any {X : Nat → Prop} {n₀ : Nat} {L : List (List V)} {gf : Nat} {lb : Array Value} (w0 w : World) (eg : ∀ args w, (callFunc gf args).run Try.prog w = .ok (.enter gf args) w) {N : Nat} (hseq : SeqN N gf lb X n₀ L w0) (hb0 : Below w0.heap.size w0 w) (hn₀ : n₀ ≤ w.heap.size) (hL : L.length ≤ 1000000) (hX : ∀ k, X k → k < w.heap.size) :
    Calls Try.prog 52 #[.slice none 0 0, .func (.func gf) #[] lb] w fun e w' => ∃ A c xs, SaysT X L w e w' A c xs ∧ (∀ x ∈ xs, FreshV N w' x) ∧ ∀ a, A = some a → ∃ cs z, w'.heap[a.block]? = some (.cells cs 32 z) := by
  obtain ⟨i0, hi0, hz0, hz1, hz2⟩ := info_parts info_tup
  have HI := Lib.hid (And.intro hi0 (And.intro hz0 (And.intro hz1 hz2))); clear hi0 hz0 hz1 hz2
  have HSQ := Lib.hid hseq; have HX := Lib.hid hX; clear hseq hX
  refine (callsIn_wide (n := 3)).1 ?_
  refine callsIn_of_wp_marks Try.func52 rfl trivial ?_ rfl
  simp only [Try.ntmps52, List.size_toArray, List.length_cons, List.length_nil, Nat.reduceAdd, Nat.reduceSub, Array.replicate_succ, Array.replicate_zero, List.push_toArray, List.append_toArray, List.nil_append, List.cons_append]
  gi_wp2
  have hst := ToldI.start (X := X) w
  have hs : w.heap.size ≤ (w.alloc (.cells #[.slice none 0 0] 23)).heap.size := by simp
  refine wpIn_seqN (gf := gf) (lb := lb) rfl eg HSQ.out (hb0.trans (((Below.refl _ w).alloc (Nat.le_refl _) _).mono hb0.size)) (by simp; omega) rfl
    (fun pre W => ∃ A c, ToldI X w w.heap.size pre W A c ∧ ∀ x ∈ pre, FreshV N W x) (fun _ _ _ => False)
    (fun s A B h hc => by obtain ⟨A1, c1, h1, h2⟩ := h; exact ⟨A1, c1, h1.calm hs hc, fun x hx => hc.fresh (h2 x hx)⟩) (fun _ _ _ _ h _ => h) ⟨none, 0, hst, fun x hx => by cases hx⟩
    (fun x => { tmps := #[.slice none 0 0, .func (.func gf) #[] lb, .pointer (some ⟨w.heap.size, 0, none⟩), undef, .slice none 0 0, .slice x.A x.l.length x.c, .func (.func gf) #[] lb, .slice x.A x.l.length x.c, undef, undef, undef, undef, undef], defers := [] }) ?assign ?body ?done ?stop
  case assign =>
    intro l x W K hK
    gi_wp2
    exact hK
  case body =>
    rintro l pre x W hl ⟨A1, c1, hI, hfs⟩ hpre hok hfr
    have HFS := Lib.hid hfs; have HFR := Lib.hid hfr; clear hfs hfr
    obtain ⟨hi0, hz0, hz1, hz2⟩ := HI.out
    have hc := hI.cell.1; have hf := hI.cell.2
    have hn : pre.length + 1 ≤ 1000000 := by have := hpre.length_le; simp at this; omega
    have HII := Lib.hid hI; have HOK := Lib.hid hok; have HPR := Lib.hid hpre; clear hI hok hpre
    have hs3 : w.heap.size + 1 ≤ W.heap.size := by have := (Array.getElem?_eq_some_iff.1 HII.out.box).1; omega
    gi_wp2_with (gi_at_builtin; refine wpListIn_append_own _ rfl (.tmp 8) (.tmp 10) _ rfl (w.heap.size + 1) 32 i0 (.slice none 0 0) 1 24 Try.underlying23 hi0 hz0 hz1 hz2 rfl (by decide) (.slice A1 pre.length c1) pre.length (pre.map Sl.val) rfl (own_on HII.out.own ((Below.refl _ _).alloc (Nat.le_refl _) _)) ⟨W.heap.size, 0, none⟩ 1 1 [.slice x.A x.l.length x.c] rfl rfl (cell_one_new _ _ _) (by simp [Value.oneCell']) (by unfold maxLen; omega) (by omega) (by simp; omega) ?_; intro v' w2 ho' hg' _; obtain ⟨A2, c2, rfl⟩ := own_form ho'; have hq := ToldI.after (x := x) HII.out hg'; have hc2 := hq.1; have hf2 := hq.2; clear hq)
    obtain ⟨n1, n2, n3, n4⟩ := HII.out.next (Nat.le_refl _) HOK.out ho' hg'
    exact ⟨n2.from _, Fr.of (n4.mono hn₀), n3, A2, c2, by simpa using n1, fun y hy => by
      rw [List.mem_append, List.mem_singleton] at hy
      rcases hy with hy | rfl
      · exact HII.out.fresh (HFS.out y hy) hg'
      · exact HII.out.fresh HFR.out hg'⟩
  case done =>
    rintro D xs W hD hxs ⟨A1, c1, hI, hfs⟩ hK
    have hc := hI.cell.1
    gi_wp2
    refine ⟨by simp, .inl ⟨_, _, rfl, run_takeDeferred hK, ?_⟩⟩
    have hw : Calm w.heap.size W (W.putObj D (.deferred none)) := Calm.put hK rfl (by simp at hD; omega)
    have hl : xs.length = L.length := by rw [← hxs]; simp
    rw [hl]
    refine ⟨_, results_tmp rfl _ _ _, ?_⟩
    exact ⟨A1, c1, xs, hI.says HX.out hxs hw, fun x hx => hw.fresh (hfs x hx), own_tyT (own_calm hI.own hw)⟩
  case stop =>
    rintro D c pre W _ _ h _
    exact h.elim
set_option maxHeartbeats 1000000 in
theorem collectN_any {X : Nat → Prop} {n₀ : Nat} {L : List (List V)} {gf : Nat} {lb : Array Value} (w0 w : World) (eg : ∀ args w, (callFunc gf args).run Try.prog w = .ok (.enter gf args) w) {N : Nat} (hseq : SeqN N gf lb X n₀ L w0) (hb0 : Below w0.heap.size w0 w) (hn₀ : n₀ ≤ w.heap.size) (hL : L.length ≤ 1000000) (hX : ∀ k, X k → k < w.heap.size) :
    Calls Try.prog 31 #[.func (.func gf) #[] lb] w fun e w' => ∃ A c xs, SaysT X L w e w' A c xs ∧ (∀ x ∈ xs, FreshV N w' x) ∧ ∀ a, A = some a → ∃ cs z, w'.heap[a.block]? = some (.cells cs 32 z) := by
  have h := Lib.hid (appendSeqN_any w0 w eg hseq hb0 hn₀ hL hX); clear eg hseq hb0
  go_enter Try.func31, Try.ntmps31
  go_wp2_with (go_at_call 52; refine h.out.mono ?_; rintro e w1 ⟨A, c, xs, hs, hfs, hty⟩; have he := hs.val; subst he; replace hs := Lib.hid hs; replace hfs := Lib.hid hfs; replace hty := Lib.hid hty)
  go_ret
  exact ⟨A, c, xs, hs.out, hfs.out, hty.out⟩
set_option maxRecDepth 20000 in
set_option maxHeartbeats 8000000 in
theorem from_seqN {X : Nat → Prop} {g : Nat} {p : List Int} {L : List Sl} {o : Option (Nat × Nd)} {P : Option Addr} {cp : Nat} {q : Option Addr} {hd xl : List V} {B1 B2 B3 D : Nat} (w0 w : World) (h : TreeAt X w0 g p L o P cp q) (hc : FromC g P cp p hd w0 w B1 B2 B3 D xl) (hws : WS (p.take hd.length) L) (hX : ∀ k, X k → k < w0.heap.size) :
    SeqN w.heap.size 74 #[.pointer (some ⟨B1, 0, none⟩), .pointer (some ⟨B2, 0, none⟩), .pointer (some ⟨B3, 0, none⟩)] X w.heap.size (tw (p.take hd.length) xl ((dW (p.take hd.length) xl L).map Sl.l)) w := by
  intro l J Jx W hW hl hJ hJx hR h0
  have hT := h.on hc.b
  have hdd : ∀ k : Nat, (Fence.wide.depth.isSome = true → 1 ≤ k) := fun k h => by cases h
  have hmix : Try.prog.follows .mixedOrders = true := by kernel_rfl
  obtain ⟨W1, hW1⟩ : ∃ W1, W.alloc (.cells #[.func (.yield l) #[] #[]] 39) = W1 := ⟨_, rfl⟩
  have hb1 : Below W.heap.size W W1 := by rw [← hW1]; exact (Below.refl _ _).alloc (Nat.le_refl _) _
  have hwW : Below w.heap.size w W1 := hW.trans (hb1.mono hW.size)
  have lt : ∀ {B : Nat} {o : Obj}, w.heap[B]? = some o → B < w.heap.size := fun h => (Array.getElem?_eq_some_iff.1 h).1
  have cellOf : ∀ {B : Nat} {v : Value} {t : TypeId}, w.heap[B]? = some (.cells #[v] t (0, 0)) → W1.cell? ⟨B, 0, none⟩ = some v := fun hh => (keep hwW _ 0 (lt hh)).trans (by simp [World.cell?, hh])
  have m1 := cellOf hc.h1; have m2 := cellOf hc.h2; have m3 := cellOf hc.h3
  have mg := (keep hwW _ 1 hT.cells.2.2.2).trans hT.cells.2.1
  have H := Lib.hid h; have HC := Lib.hid hc; have HT := Lib.hid hT; have HWS := Lib.hid hws; have HJ := Lib.hid hJ; have HJX := Lib.hid hJx; have HR := Lib.hid hR; have H0 := Lib.hid h0; have HX := Lib.hid hX
  clear h hc hT hws hJ hJx hR h0 hX cellOf
  refine callsIn_deep (n := l) ?_
  refine callsIn_of_wp_marks Try.func74 rfl trivial ?_ rfl
  simp only [Try.ntmps74, List.size_toArray, List.length_cons, List.length_nil, Nat.reduceAdd, Nat.reduceSub, Array.replicate_succ, Array.replicate_zero, List.push_toArray, List.append_toArray, List.nil_append, List.cons_append]
  gi_wp2
  try rw [hW1]
  have HW1 := Lib.hid hW1; clear hW1
  refine wpIn_mono (Q := OnlyAt { tmps := #[.func (.yield l) #[] #[], .pointer (some ⟨B1, 0, none⟩), .pointer (some ⟨B2, 0, none⟩), .pointer (some ⟨B3, 0, none⟩), .pointer (some ⟨W.heap.size, 0, none⟩), undef, .pointer (some ⟨g, 0, none⟩), .pointer (some ⟨g, 0, none⟩), .pointer (some ⟨g, 1, none⟩), .pointer q,
      .slice (some ⟨D, 0, none⟩) p.length p.length, .slice P hd.length cp, .func (.func 97) #[] #[.pointer (some ⟨W1.heap.size, 0, none⟩), .pointer (some ⟨W1.heap.size + 1, 0, none⟩), .pointer (some ⟨W1.heap.size + 1 + 1, 0, none⟩)], undef, undef, undef, undef, undef, undef, undef, undef, undef, undef, undef, undef, undef], defers := [] }
    ((((W1.alloc (.cells #[.pointer q] 88)).alloc (.cells #[.slice (some ⟨D, 0, none⟩) p.length p.length] 32)).alloc (.cells #[.slice P hd.length cp] 55)).drew)) ?region (onlyAt_imp ?_)
  case region =>
    gi_region_with_o ((first | refine ⟨trivial, hdd _, ?_⟩ | refine ⟨hdd _, ?_⟩ | skip); gi_at_call 72; refine (callsIn_wide.2 (since_any _ _ _ _ ⟨_, rfl⟩ ⟨_, _, _, rfl⟩ ⟨_, _, _, rfl⟩)).mono ?_; rintro e w2 ⟨rfl, rfl⟩)
    all_goals exact ⟨rfl, rfl⟩
  gi_wp2
  obtain ⟨W2, hW2⟩ : ∃ W2, ((((W1.alloc (.cells #[.pointer q] 88)).alloc (.cells #[.slice (some ⟨D, 0, none⟩) p.length p.length] 32)).alloc (.cells #[.slice P hd.length cp] 55)).drew) = W2 := ⟨_, rfl⟩
  have hb2 : Below W1.heap.size W1 W2 := by rw [← hW2]; exact ((((Below.refl _ W1).alloc (Nat.le_refl _) _).alloc (by simp) _).alloc (by simp; omega) _).drew
  have hs2 : W2.heap.size = W1.heap.size + 3 := by rw [← hW2]; simp [heap_dr]
  have k1 : W2.cell? ⟨W1.heap.size, 0, none⟩ = some (.pointer q) := by rw [← hW2]; exact cell_box (by simp only [heap_al, heap_dr, Array.getElem?_push, Array.size_push]; repeat (first | rw [if_pos trivial] | rw [if_pos (by omega)] | rw [if_neg (by omega)]))
  have k2 : W2.cell? ⟨W1.heap.size + 1, 0, none⟩ = some (.slice (some ⟨D, 0, none⟩) p.length p.length) := by rw [← hW2]; exact cell_box (by simp only [heap_al, heap_dr, Array.getElem?_push, Array.size_push]; repeat (first | rw [if_pos trivial] | rw [if_pos (by omega)] | rw [if_neg (by omega)]))
  have k3 : W2.cell? ⟨W1.heap.size + 1 + 1, 0, none⟩ = some (.slice P hd.length cp) := by rw [← hW2]; exact cell_box (by simp only [heap_al, heap_dr, Array.getElem?_push, Array.size_push]; repeat (first | rw [if_pos trivial] | rw [if_pos (by omega)] | rw [if_neg (by omega)]))
  try rw [hW2]
  have HW2 := Lib.hid hW2; clear hW2
  have hlen : (p.take hd.length).length = hd.length := by
    have := congrArg List.length HC.out.pick
    have h2 : (pickL xl (p.take hd.length)).length ≤ (p.take hd.length).length := List.length_filterMap_le _ _
    rw [List.length_take] at *; omega
  have hwd : Below w.heap.size w W2 := hwW.trans (hb2.mono hwW.size)
  have hWs : W.heap.size ≤ W2.heap.size := Nat.le_trans hb1.size hb2.size
  have hrp : RdI w P (p.take hd.length) := fun i x hx => HT.out.rp i x (by rw [List.getElem?_take] at hx; split at hx <;> first | exact hx | cases hx)
  have hrx : RdV w (some ⟨D, 0, none⟩) xl := fun i v hv => by
    have y := vcells_at hv
    exact ⟨D, 0, rfl, (Array.getElem?_eq_some_iff.1 HC.out.hx).1, by simp [World.cell?, HC.out.hx, y.1], by simp [World.cell?, HC.out.hx, y.2.1], by simp [World.cell?, HC.out.hx, y.2.2]⟩
  have hoD : Off X (some ⟨D, 0, none⟩) := fun a ha hx => by cases ha; have := HX.out _ hx; have := HC.out.gD; simp only at *; omega
  have hseq := since_seq (X := X) (B1 := W1.heap.size) (B2 := W1.heap.size + 1) (B3 := W1.heap.size + 1 + 1) (some ⟨D, 0, none⟩) P p.length cp xl (p.take hd.length) w W2 o q (by have := HC.out.len; have := H.out.few; omega) (by have := H.out.few; rw [List.length_take]; omega) hrx hrp hoD H.out.offP HT.out.root (by rw [H.out.all]; intro x hx; rw [H.out.lens x hx]; have := H.out.few; omega) (by rw [H.out.all]; exact HWS.out) hwd (by omega) (by omega) (by omega) k1 (by rw [HC.out.len]; exact k2) (by rw [hlen]; exact k3)
  rw [H.out.all] at hseq
  have HSQ := Lib.hid hseq; have HRX := Lib.hid hrx; have HRP := Lib.hid hrp; clear hseq hrx hrp k1 k2 k3
  have hby : W2.heap[W.heap.size]? = some (.cells #[.func (.yield l) #[] #[]] 39 (0, 0)) := by
    rw [hb2.block _ (by rw [← HW1.out]; simp), ← HW1.out]; exact heap_alloc_new _ _
  have HBY := Lib.hid hby; clear hby
  refine wpIn_seq (gf := 97) (lb := #[.pointer (some ⟨W1.heap.size, 0, none⟩), .pointer (some ⟨W1.heap.size + 1, 0, none⟩), .pointer (some ⟨W1.heap.size + 1 + 1, 0, none⟩)]) rfl (enters_of Try.func97 (by kernel_rfl) rfl) HSQ.out (Below.refl _ _) hwd.size rfl
    (fun pre W' => ∃ pre', TellI X w l W.heap.size (p.take hd.length) xl J pre W' pre')
    (fun c pre W' => c = .ret ∧ ((∃ pre', pre'.map Sl.l = tw (p.take hd.length) xl ((dW (p.take hd.length) xl L).map Sl.l) ∧ J pre' W') ∨ (∃ pre', pre'.map Sl.l <+: tw (p.take hd.length) xl ((dW (p.take hd.length) xl L).map Sl.l) ∧ Jx pre' W')))
    (fun s A B h hc => by obtain ⟨pre', h1⟩ := h; exact ⟨pre', h1.calm HJ.out (hc.mono hWs) hW.size⟩)
    (fun c s A B h hc => by
      obtain ⟨e, h1 | h1⟩ := h
      · obtain ⟨pre', h2, h3⟩ := h1; exact ⟨e, .inl ⟨pre', h2, HJ.out _ _ _ h3 (hc.mono hWs)⟩⟩
      · obtain ⟨pre', h2, h3⟩ := h1; exact ⟨e, .inr ⟨pre', h2, HJX.out _ _ _ h3 (hc.mono hWs)⟩⟩)
    ⟨[], rfl, HJ.out _ _ _ H0.out (Calm.of_below (hb1.trans (hb2.mono hb1.size))), (fun y hy => by cases hy), Fr.of hwd, HBY.out⟩
    (fun x => { tmps := #[.func (.yield l) #[] #[], .pointer (some ⟨B1, 0, none⟩), .pointer (some ⟨B2, 0, none⟩), .pointer (some ⟨B3, 0, none⟩), .pointer (some ⟨W.heap.size, 0, none⟩), .slice x.A x.l.length x.c, .pointer (some ⟨g, 0, none⟩), .pointer (some ⟨g, 0, none⟩), .pointer (some ⟨g, 1, none⟩), .pointer q,
      .slice (some ⟨D, 0, none⟩) p.length p.length, .slice P hd.length cp, .func (.func 97) #[] #[.pointer (some ⟨W1.heap.size, 0, none⟩), .pointer (some ⟨W1.heap.size + 1, 0, none⟩), .pointer (some ⟨W1.heap.size + 1 + 1, 0, none⟩)], .slice x.A x.l.length x.c, undef, undef, undef, undef, undef, undef, undef, undef, undef, undef, undef, undef], defers := [] }) ?assign ?body ?done ?stop
  case assign =>
    intro l2 x W' K hK
    gi_wp2
    exact hK
  case body =>
    rintro l2 pre x Wb hl2 ⟨pre', hI⟩ hpre hok
    have hXB : ∀ B, w0.heap.size ≤ B → ¬ X B := fun B hB hx => by have := HX.out _ hx; omega
    have hxin : x.l.length ≤ 1000 := by
      have : x.l ∈ (dW (p.take hd.length) xl L).map Sl.l := hpre.subset (by simp)
      rw [List.mem_map] at this
      obtain ⟨y, hy, he⟩ := this
      have := H.out.lens y (List.dropWhile_sublist _ |>.subset hy)
      have := H.out.few
      rw [← he]; omega
    have b2 := (hI.fr.cell (o := 0) (lt HC.out.h2) (hXB _ HC.out.g2)).trans (cell_box HC.out.h2)
    have b3 := (hI.fr.cell (o := 0) (lt HC.out.h3) (hXB _ HC.out.g3)).trans (cell_box HC.out.h3)
    have by0 := cell_box hI.box
    have hbyl : W.heap.size < Wb.heap.size := (Array.getElem?_eq_some_iff.1 hI.box).1
    have HCMP : Hid (∀ W3, Below Wb.heap.size Wb W3 → Calls Try.prog 44 #[.slice x.A x.l.length x.c, .slice (some ⟨D, 0, none⟩) p.length p.length, .slice P hd.length cp] W3 (SaysI (cmpC (p.take hd.length) x.l xl) W3)) := Lib.hid (fun W3 h3 => by
      have := compareT_any x.A (some ⟨D, 0, none⟩) P x.c p.length cp x.l xl (p.take hd.length) W3 (hok.rd.on h3) ((HRX.out.onF hoD hI.fr).on h3) ((HRP.out.onF H.out.offP hI.fr).on h3) (by unfold maxLen; omega) (by have := HC.out.len; have := H.out.few; unfold maxLen; omega) (by have := H.out.few; rw [List.length_take]; unfold maxLen; omega)
      rw [HC.out.len, hlen] at this
      exact this)
    have HIH := Lib.hid hI; have HOK := Lib.hid hok; have HPR := Lib.hid hpre; clear hI hok hpre
    by_cases hz : cmpC (p.take hd.length) x.l xl = 0
    · have HZ := Lib.hid hz; clear hz
      have hs0 : w0.heap.size ≤ Wb.heap.size := Nat.le_trans HC.out.b.size HIH.out.fr.size
      have hpx : pre'.map Sl.l ++ [x.l] <+: tw (p.take hd.length) xl ((dW (p.take hd.length) xl L).map Sl.l) := by
        rw [HIH.out.same]; exact tw_more HPR.out HIH.out.zero HZ.out
      have HLAY : Hid (∀ (A4 : Option Addr) (c4 : Nat) (w4 : World), Below Wb.heap.size Wb w4 → SlOk X w4 ⟨A4, c4, x.l⟩ → FreshV w.heap.size w4 ⟨A4, c4, x.l⟩ → YieldAt Fence.wide 0 Try.prog l #[.slice A4 x.l.length c4] w4 (RoundPost X w.heap.size l J Jx (pre' ++ [⟨A4, c4, x.l⟩]) w4)) := Lib.hid (fun A4 c4 w4 h4 hk hk2 => HR.out pre' ⟨A4, c4, x.l⟩ w4 (HJ.out _ _ _ HIH.out.j (Calm.of_below h4)) hpx hk hk2)
      gi_wp2
      refine wpIn_mono (Q := NoPanic _) ?_ NoPanic.imp
      gi_region_with_o (first
        | ((first | refine ⟨trivial, rfl, ?_⟩ | refine ⟨rfl, ?_⟩ | skip); gi_at_call 44; refine (CallsIn.inRound l2 (callsIn_wide.2 (HCMP.out _ ?_))).mono ?_; (exact (Below.refl _ _).drew); rintro e w3 ⟨rfl, h3⟩; rw [HZ.out]; have h3 : Below Wb.heap.size Wb w3 := (Below.refl _ _).drew.trans h3; have by3 := (keep h3 _ 0 hbyl).trans by0)
        | ((first | refine ⟨trivial, rfl, ?_⟩ | refine ⟨rfl, ?_⟩ | skip); gi_at_call 66; refine (CallsIn.inRound l2 (callsIn_wide.2 (cloneN_any x.A x.c x.l _ (HOK.out.rd.on h3) hxin))).mono ?_; rintro e w4 ⟨A4, c4, hW4, hfr4⟩; have hE := hW4.val; subst hE; have h4 : Below Wb.heap.size Wb w4 := on h3 hW4.b; have by4 := (keep h4 _ 0 hbyl).trans by0; obtain ⟨fn, tmps, assign, body, hy, hRd⟩ := HLAY.out A4 c4 w4 h4 (hW4.ok (fun z hz => Nat.lt_of_lt_of_le (HX.out z hz) (Nat.le_trans hs0 h3.size))) (hfr4.mono (Nat.le_trans HIH.out.fr.size h3.size)); clear hfr4; replace hW4 := Lib.hid hW4)
        | ((first | refine ⟨trivial, rfl, ?_⟩ | refine ⟨rfl, ?_⟩ | skip); refine (hRd.mono (fun e w h => roundB h)).mono ?_; clear hRd; rintro e w5 ⟨bb, rfl, h5⟩))
      all_goals
        refine NoPanic.normal ?_
        have h45 : KeepsFrom (W1.heap.size + 3) Wb w5 := ((KN.of_below h4).trans h5.1).from (by have := hb1.size; omega)
        cases bb with
        | true =>
          obtain ⟨hJ5, hF5, hK5⟩ := h5.2.1 rfl
          have hf := (Fr.of (X := X) (h4.mono HIH.out.fr.size)).trans hF5
          have hk := (KF.of_below h4).trans hK5
          gi_wp2
          exact ⟨h45, hf, hk, pre' ++ [⟨A4, c4, x.l⟩], by simp [HIH.out.same], hJ5, fun y hy => by
            rw [List.map_append, List.mem_append] at hy
            rcases hy with hy | hy
            · exact HIH.out.zero y hy
            · have : y = x.l := by simpa using hy
              rw [this]; exact HZ.out, HIH.out.fr.trans hf, hk _ _ _ HIH.out.box⟩
        | false =>
          have hx5 := h5.2.2 rfl
          gi_wp2
          exact ⟨h45, rfl, .inr ⟨pre' ++ [⟨A4, c4, x.l⟩], by rw [List.map_append]; exact hpx, hx5⟩⟩
    · have hrng := cmpC_rng (p.take hd.length) x.l xl
      obtain ⟨r, hr⟩ : ∃ r, cmpC (p.take hd.length) x.l xl = r := ⟨_, rfl⟩
      have hst := tw_stop HPR.out HIH.out.zero hz
      have hr0 : (r != 0) = true := by rw [← hr]; simpa using hz
      have HRR := Lib.hid hr; have HST := Lib.hid hst; clear hz hrng hr hst
      gi_wp2
      refine wpIn_mono (Q := NoPanic _) ?_ NoPanic.imp
      gi_region_with_o (first
        | ((first | refine ⟨trivial, rfl, ?_⟩ | refine ⟨rfl, ?_⟩ | skip); gi_at_call 44; refine (CallsIn.inRound l2 (callsIn_wide.2 (HCMP.out _ ?_))).mono ?_; (exact (Below.refl _ _).drew); rintro e w3 ⟨rfl, h3⟩; rw [HRR.out]; have h3 : Below Wb.heap.size Wb w3 := (Below.refl _ _).drew.trans h3; have by3 := (keep h3 _ 0 hbyl).trans by0)
        | (refine ⟨fun _ h => (by cases h), ?_⟩)
        | (refine ⟨trivial, ?_⟩))
      all_goals
        refine NoPanic.normal ?_
        gi_wp2
        have hka : KeepsFrom (W1.heap.size + 3) Wb w3 := (KN.of_below h3 (l := 0)).from (by omega)
        have hkb : KeepsFrom W2.heap.size Wb w3 := by rw [hs2]; exact hka
        refine ⟨by first | exact hka | exact hkb, rfl, .inl ⟨pre', by rw [HIH.out.same, HST.out], HJ.out _ _ _ HIH.out.j (Calm.of_below h3)⟩⟩
  case done =>
    rintro Dd xs W' hD hxs ⟨pre', hI⟩ hK
    gi_wp2
    refine ⟨by simp, .inl ⟨_, _, rfl, run_takeDeferred hK, ?_⟩⟩
    have hcp := Calm.put (n := W.heap.size) (o' := .deferred none) hK rfl (Nat.le_trans hWs hD)
    refine ⟨_, results_none rfl _ _ _, ⟨_, rfl⟩, .inl ⟨pre', ?_, HJ.out _ _ _ hI.j hcp⟩⟩
    rw [hI.same, hxs, tw_all]
    rw [← hxs]; exact hI.zero
  case stop =>
    rintro Dd c pre W' hD hpx ⟨rfl, hI⟩ hK
    gi_wp2
    refine ⟨by simp, .inl ⟨_, _, rfl, run_takeDeferred hK, ?_⟩⟩
    have hcp := Calm.put (n := W.heap.size) (o' := .deferred none) hK rfl (Nat.le_trans hWs hD)
    refine ⟨_, results_none rfl _ _ _, ⟨_, rfl⟩, ?_⟩
    rcases hI with ⟨pre', h2, h3⟩ | ⟨pre', h2, h3⟩
    · exact .inl ⟨pre', h2, HJ.out _ _ _ h3 hcp⟩
    · exact .inr ⟨pre', h2, HJX.out _ _ _ h3 hcp⟩
theorem all_seqN {X : Nat → Prop} {g : Nat} {p : List Int} {L : List Sl} {o : Option (Nat × Nd)} {P : Option Addr} {cp : Nat} {q : Option Addr} {xl : List V} {B1 B2 B3 D : Nat} (w0 w : World) (h : TreeAt X w0 g p L o P cp q) (hc : FromC g P cp p [] w0 w B1 B2 B3 D xl) (hX : ∀ k, X k → k < w0.heap.size) :
    SeqN w.heap.size 74 #[.pointer (some ⟨B1, 0, none⟩), .pointer (some ⟨B2, 0, none⟩), .pointer (some ⟨B3, 0, none⟩)] X w.heap.size (L.map Sl.l) w := by
  have := from_seqN w0 w h hc (by rw [List.length_nil, List.take_zero]; exact ws_nil L) hX
  rw [List.length_nil, List.take_zero, tw_nil, dW_nil] at this
  exact this
def SaysQN (X : Nat → Prop) (M : List (List V)) (w : World) (e : Ending) (w' : World) : Prop :=
  ∃ gf lb, e = .returned (.func (.func gf) #[] lb) ∧ (∀ args w, (callFunc gf args).run Try.prog w = .ok (.enter gf args) w) ∧ SeqN w'.heap.size gf lb X w'.heap.size M w' ∧ Below w.heap.size w w'
theorem allN_any {X : Nat → Prop} {g : Nat} {p : List Int} {M : List (List V)} (w : World) (h : TreeS X w g p M) (hX : ∀ k, X k → k < w.heap.size) : Calls Try.prog 32 #[.pointer (some ⟨g, 0, none⟩)] w (SaysQN X M w) := by
  obtain ⟨L, o, P, cp, q, ht, rfl⟩ := h.ex
  refine (all_any w ht).mono ?_
  rintro e w' ⟨B1, B2, B3, D, xl, rfl, hc⟩
  exact ⟨_, _, rfl, enters_of Try.func74 (by kernel_rfl) rfl, all_seqN w w' ht hc hX, hc.b⟩
end Go.Proofs.Ytigfpniajjkjoaa

/-
  A tree while records change, and where more blocks may be written; contract of Merge.
-/
import Derived.Test.YtpmkhpbhimmeiaaGreatBtUse
namespace Go.Proofs.YtpmkhpbhimmeiaaGreat
open Go.RowKit FloM ValM Go.Shelf
set_option linter.unusedVariables false
set_option linter.unusedSimpArgs false
attribute [local go_sem] Oper.semAt_some

/-! ### More blocks that may be written -/
section
variable {X Y : Nat → Prop} {w : World}
theorem SlOk.more {x : Sl} (hY : ∀ k, Y k → X k ∨ w.heap.size ≤ k) (h : SlOk X w x) : SlOk Y w x := ⟨h.rd, fun a ha hy => by
  obtain ⟨c, z, hc⟩ := h.ty a ha
  have hl := (Array.getElem?_eq_some_iff.1 hc).1
  rcases hY _ hy with hx | hx
  · exact h.off a ha hx
  · omega, h.cap, h.ty⟩
theorem RdC.inHeap {A : Option Addr} {cs : List Value} (h : RdC w A cs) (hne : cs ≠ []) : ∀ a, A = some a → a.block < w.heap.size := fun a ha => by
  obtain ⟨u, r, rfl⟩ := List.exists_cons_of_ne_nil hne
  obtain ⟨b, o, e, hl, _⟩ := h 0 u rfl
  rw [ha] at e; cases e; exact hl
theorem off_more {A : Option Addr} (hY : ∀ k, Y k → X k ∨ w.heap.size ≤ k) (h : Off X A) (hin : ∀ a, A = some a → a.block < w.heap.size) : Off Y A := fun a ha hy => by
  rcases hY _ hy with hx | hx
  · exact h a ha hx
  · have := hin a ha; omega
theorem NodeAt.more {b : Nat} {ts : List Sl} {ps : List Value} {At : Option Addr} {ct : Nat} {Ak : Option Addr} {ck : Nat} (hY : ∀ k, Y k → X k ∨ w.heap.size ≤ k) (hne : ts ≠ []) (h : NodeAt X w b ts ps At ct Ak ck) : NodeAt Y w b ts ps At ct Ak ck :=
  ⟨h.lt, fun hy => by
    rcases hY _ hy with hx | hx
    · exact h.off hx
    · have := h.lt; omega, h.c0, h.c1, ⟨h.rt.rd, off_more hY h.rt.off (h.rt.rd.inHeap (by simpa using hne)), fun x hx => (h.rt.each x hx).more hY⟩, h.rk, fun hn => off_more hY (h.offk hn) (h.rk.inHeap hn), h.capt, h.capk, h.capt', h.capk'⟩
theorem IsN.more (hY : ∀ k, Y k → X k ∨ w.heap.size ≤ k) : ∀ {k : Nat} {t : Nd}, 1 ≤ t.ts.length → IsN X w k t → IsN Y w k t
  | 0, .mk b ts ks, h1, ⟨⟨At, ct, Ak, ck, h⟩, e⟩ => ⟨⟨At, ct, Ak, ck, h.more hY (List.length_pos_iff.1 h1)⟩, e⟩
  | k + 1, .mk b ts ks, h1, ⟨⟨At, ct, Ak, ck, h⟩, e, hk⟩ => ⟨⟨At, ct, Ak, ck, h.more hY (List.length_pos_iff.1 h1)⟩, e, fun t ht => ⟨IsN.more hY (by have := (hk t ht).2.1; omega) (hk t ht).1, (hk t ht).2⟩⟩
theorem TreeS.more {g : Nat} {p : List Int} {M : List (List V)} (hX : ∀ k, X k → Y k) (hY : ∀ k, Y k → X k ∨ w.heap.size ≤ k) (h : TreeS X w g p M) : TreeS Y w g p M := by
  obtain ⟨L, o, P, cp, q, h, e⟩ := h.ex
  refine ⟨L, o, P, cp, q, ⟨hX _ h.mem, h.blk, h.rp, off_more hY h.offP h.inP, h.inP, h.capP, h.capP', h.perm, h.few, ?_, h.all, h.sorted, h.lens, h.low, h.none, h.small⟩, e⟩
  have hr := h.root; have hl := h.low
  rcases o with _ | ⟨k, t⟩
  · exact hr
  · exact ⟨(RootAt.some hr).1, IsN.more hY (hl k t rfl).1 (RootAt.some hr).2⟩
end
/-! ### Records that change -/
section
variable {X : Nat → Prop} {n : Nat} {A B : World}
theorem Calm.rdI {D : Option Addr} {l : List Int} (h : Calm n A B) (hr : RdI A D l) : RdI B D l := fun j u hu => by
  obtain ⟨b, o, e, hl, c⟩ := hr j u hu
  exact ⟨b, o, e, Nat.lt_of_lt_of_le hl h.size, h.cell c⟩
theorem Calm.rdT {D : Option Addr} {xs : List Sl} (h : Calm n A B) (hr : RdT X A D xs) : RdT X B D xs := ⟨h.rdC hr.rd, hr.off, fun x hx => h.slOk (hr.each x hx)⟩
theorem NodeAt.calm {b : Nat} {ts : List Sl} {ps : List Value} {At : Option Addr} {ct : Nat} {Ak : Option Addr} {ck : Nat} (hc : Calm n A B) (h : NodeAt X A b ts ps At ct Ak ck) : NodeAt X B b ts ps At ct Ak ck :=
  ⟨Nat.lt_of_lt_of_le h.lt hc.size, h.off, hc.cell h.c0, hc.cell h.c1, hc.rdT h.rt, hc.rdC h.rk, h.offk, h.capt, h.capk, h.capt', h.capk'⟩
theorem IsN.calm (hc : Calm n A B) : ∀ {k : Nat} {t : Nd}, IsN X A k t → IsN X B k t
  | 0, .mk b ts ks, ⟨⟨At, ct, Ak, ck, h⟩, e⟩ => ⟨⟨At, ct, Ak, ck, h.calm hc⟩, e⟩
  | k + 1, .mk b ts ks, ⟨⟨At, ct, Ak, ck, h⟩, e, hk⟩ => ⟨⟨At, ct, Ak, ck, h.calm hc⟩, e, fun t ht => ⟨IsN.calm hc (hk t ht).1, (hk t ht).2⟩⟩
theorem TreeS.calm {g : Nat} {p : List Int} {M : List (List V)} (hc : Calm n A B) (h : TreeS X A g p M) : TreeS X B g p M := by
  obtain ⟨L, o, P, cp, q, h, e⟩ := h.ex
  refine ⟨L, o, P, cp, q, ⟨h.mem, hc.same _ _ h.blk (.inr rfl), hc.rdI h.rp, h.offP, fun a ha => Nat.lt_of_lt_of_le (h.inP a ha) hc.size, h.capP, h.capP', h.perm, h.few, ?_, h.all, h.sorted, h.lens, h.low, h.none, h.small⟩, e⟩
  have hr := h.root
  rcases o with _ | ⟨k, t⟩
  · exact hr
  · exact ⟨(RootAt.some hr).1, (RootAt.some hr).2.calm hc⟩
end
/-! ### How many are new -/
def mergeM (p : List Int) (M l : List (List V)) : List (List V) := l.foldl (fun M a => putM p a M) M
theorem mergeM_snoc (p : List Int) (M l : List (List V)) (a : List V) : mergeM p M (l ++ [a]) = putM p a (mergeM p M l) := by unfold mergeM; rw [List.foldl_append]; rfl
theorem mergeM_len (p : List Int) (M l : List (List V)) : (mergeM p M l).length ≤ M.length + l.length := puts_fold_len p l M
theorem mergeM_fit {p : List Int} {M : List (List V)} (l : List (List V)) (h : FitS p M) : FitS p (mergeM p M l) := puts_fold_fit p l M h
theorem putM_len {p : List Int} {M : List (List V)} (h : FitS p M) (a : List V) : (putM p a M).length = M.length + (if putB p a M = true then 1 else 0) := by
  unfold putM putB
  by_cases ha : a.length = p.length
  · rw [if_pos ha, decide_eq_true ha, Bool.true_and]
    cases hi : inS p a M with
    | true => rw [ins_same h.sort hi]; simp
    | false => rw [ins_new_len p a M hi]; simp
  · rw [if_neg ha, decide_eq_false ha]; simp
/-- Between two rounds. -/
structure MergeI (X : Nat → Prop) (w : World) (g n : Nat) (p : List Int) (M : List (List V)) (pre : List Sl) (W : World) : Prop where
  t : TreeS X W g p (mergeM p M (pre.map Sl.l))
  fr : Fr (· = g) w.heap.size w W
  sz : n ≤ W.heap.size
  box : W.heap[w.heap.size]? = some (.cells #[.pointer (some ⟨g, 0, none⟩)] 70 (0, 0))
  cnt : ∃ c : Nat, W.heap[w.heap.size + 1]? = some (.cells #[.int .i64 (c : Nat)] 3 (0, 0)) ∧ M.length + c = (mergeM p M (pre.map Sl.l)).length
section
variable {X : Nat → Prop} {w W W' : World} {g n : Nat} {p : List Int} {M : List (List V)} {pre : List Sl} {x : Sl}
theorem MergeI.calm (hn : w.heap.size ≤ n) (h : MergeI X w g n p M pre W) (hc : Calm n W W') : MergeI X w g n p M pre W' := by
  have hb := hc.below h.sz
  obtain ⟨c, h1, h2⟩ := h.cnt
  exact ⟨h.t.calm hc, h.fr.trans (Fr.of (hb.mono hn)), Nat.le_trans h.sz hc.size, hc.same _ _ h.box (.inr rfl), c, hc.same _ _ h1 (.inr rfl), h2⟩
theorem TreeS.obj (h : TreeS X W g p M) : ∃ cs, W.heap[g]? = some (.cells cs 107 (0, 0)) := by
  obtain ⟨L, o, P, cp, q, h, e⟩ := h.ex; exact ⟨_, h.blk⟩
/-- Behind a round: the tree and the count have changed. -/
theorem round_keeps {B cb : Nat} {W'' : World} {cs : Array Value} (ht : ∃ cs, W.heap[g]? = some (.cells cs 107 (0, 0))) (hcb : W.heap[cb]? = some (.cells cs 3 (0, 0))) (hs : W.heap.size ≤ W''.heap.size) (hb : ∀ k, k < W.heap.size → k ≠ g → k ≠ cb → W''.heap[k]? = W.heap[k]?) : KeepsFrom B W W'' ∧ KF W W'' := by
  obtain ⟨ds, hd⟩ := ht
  refine ⟨⟨hs, fun k o _ hk ho => ?_⟩, fun k c z hk => ?_⟩
  · have hl := (Array.getElem?_eq_some_iff.1 hk).1
    refine (hb k hl (fun e => ?_) (fun e => ?_)).trans hk
    · subst e; rw [hd] at hk; cases hk; cases ho
    · subst e; rw [hcb] at hk; cases hk; cases ho
  · have hl := (Array.getElem?_eq_some_iff.1 hk).1
    refine (hb k hl (fun e => ?_) (fun e => ?_)).trans hk
    · subst e; rw [hd] at hk; cases hk
    · subst e; rw [hcb] at hk; cases hk
theorem TreeS.sub {Y : Nat → Prop} (hXY : ∀ b, X b → Y b) (hg : X g) (h : TreeS Y W g p M) : TreeS X W g p M := by
  obtain ⟨L, o, P, cp, q, h, e⟩ := h.ex
  refine ⟨L, o, P, cp, q, ⟨hg, h.blk, h.rp, fun a ha hx => h.offP a ha (hXY _ hx), h.inP, h.capP, h.capP', h.perm, h.few, ?_, h.all, h.sorted, h.lens, h.low, h.none, h.small⟩, e⟩
  have hr := h.root
  rcases o with _ | ⟨k, t⟩
  · exact hr
  · exact ⟨(RootAt.some hr).1, IsN.sub hXY (RootAt.some hr).2⟩
theorem MergeI.same (h : MergeI X w g n p M pre W) (hb : putB p x.l (mergeM p M (pre.map Sl.l)) = false) (ht : TreeS X W' g p (putM p x.l (mergeM p M (pre.map Sl.l)))) (hF : Fr (· = g) W.heap.size W W') (hg : g < w.heap.size) : MergeI X w g n p M (pre ++ [x]) W' := by
  obtain ⟨c, h1, h2⟩ := h.cnt
  have hl := putM_len (h.t.fit) x.l
  rw [hb] at hl
  have hl1 := (Array.getElem?_eq_some_iff.1 h1).1
  have e : mergeM p M ((pre ++ [x]).map Sl.l) = putM p x.l (mergeM p M (pre.map Sl.l)) := by rw [List.map_append, List.map_cons, List.map_nil, mergeM_snoc]
  refine ⟨by rw [e]; exact ht, h.fr.trans (hF.mono h.fr.size), Nat.le_trans h.sz hF.size, (hF.block _ (by omega) (by omega)).trans h.box, c, (hF.block _ hl1 (by omega)).trans h1, by rw [e, hl]; simpa using h2⟩
theorem MergeI.more (h : MergeI X w g n p M pre W) {c : Nat} (hc : W.heap[w.heap.size + 1]? = some (.cells #[.int .i64 (c : Nat)] 3 (0, 0))) (hm : M.length + c = (mergeM p M (pre.map Sl.l)).length) (hcX : X (w.heap.size + 1)) (hb : putB p x.l (mergeM p M (pre.map Sl.l)) = true) (ht : TreeS X W' g p (putM p x.l (mergeM p M (pre.map Sl.l)))) (hF : Fr (· = g) W.heap.size W W') (hg : g < w.heap.size) (hsm : c < 1000000) :
    MergeI X w g n p M (pre ++ [x]) (W'.setCell ⟨w.heap.size + 1, 0, none⟩ (.int .i64 ((c : Int) + 1))) := by
  have hl := putM_len (h.t.fit) x.l
  rw [hb] at hl
  have hl1 := (Array.getElem?_eq_some_iff.1 hc).1
  have hs := hF.size
  have e : mergeM p M ((pre ++ [x]).map Sl.l) = putM p x.l (mergeM p M (pre.map Sl.l)) := by rw [List.map_append, List.map_cons, List.map_nil, mergeM_snoc]
  have hfs : Fr (· = w.heap.size + 1) W'.heap.size W' (W'.setCell ⟨w.heap.size + 1, 0, none⟩ (.int .i64 ((c : Int) + 1))) := fr_set W' _ 0 _ _
  have hc' := (hF.block _ hl1 (by omega)).trans hc
  refine ⟨by rw [e]; exact ht.other hcX (by omega) hfs, ?_, ?_, ?_, c + 1, ?_, ?_⟩
  · have h1 := h.fr.trans (hF.mono h.fr.size)
    refine h1.trans ⟨rfl, rfl, rfl, hfs.size, fun k hk _ => hfs.block k (by have := h.fr.size; omega) (by omega)⟩
  · exact Nat.le_trans h.sz (Nat.le_trans hs hfs.size)
  · exact (hfs.block _ (by omega) (by omega)).trans ((hF.block _ (by omega) (by omega)).trans h.box)
  · have := heap_set' (w := W') (D := w.heap.size + 1) (o := 0) (cs := [.int .i64 (c : Nat)]) (t := 3) (z := (0, 0)) (.int .i64 ((c : Int) + 1)) hc'
    simp only [List.set_cons_zero] at this
    rw [show ((c : Int) + 1) = ((c + 1 : Nat) : Int) by omega] at this ⊢
    exact this
  · rw [e, hl]; simp; omega
end
set_option maxRecDepth 20000 in
set_option maxHeartbeats 8000000 in
theorem merge_any {X : Nat → Prop} {g : Nat} {p : List Int} {M M2 : List (List V)} (ov : Option Addr) (w : World) (h : TreeS X w g p M) (hX : ∀ i, X i → i < w.heap.size) (hM : M.length + M2.length < 100000) (hl2 : ∀ x ∈ M2, x.length ≤ 1000)
    (hall : ∀ W, Below w.heap.size w W → w.heap.size + 1 < W.heap.size → Calls Tryz.prog 46 #[.pointer ov] W (SaysQ (fun k => X k ∨ k = w.heap.size + 1) M2 W)) :
    Calls Tryz.prog 141 #[.pointer (some ⟨g, 0, none⟩), .pointer ov] w fun e w' => ∃ c : Nat, e = .returned (.int .i64 (c : Nat)) ∧ M.length + c = (mergeM p M M2).length ∧ TreeS X w' g p (mergeM p M M2) ∧ Fr (· = g) w.heap.size w w' := by
  have hg := h.lt
  have H := Lib.hid h; have HX := Lib.hid hX; have HALL := Lib.hid hall; have HL2 := Lib.hid hl2
  clear h hX hall hl2
  have hdd : ∀ k : Nat, (Fence.wide.depth.isSome = true → 1 ≤ k) := fun k h => by cases h
  refine (callsIn_wide (n := 3)).1 ?_
  refine callsIn_of_wp_marks Tryz.func141 rfl trivial ?_ rfl
  simp only [Tryz.ntmps141, List.size_toArray, List.length_cons, List.length_nil, Nat.reduceAdd, Nat.reduceSub, Array.replicate_succ, Array.replicate_zero, List.push_toArray, List.append_toArray, List.nil_append, List.cons_append]
  have hB2 : Below w.heap.size w ((w.alloc (.cells #[.pointer (some ⟨g, 0, none⟩)] 70)).alloc (.cells #[.int .i64 0] 3)) := ((Below.refl _ _).alloc (Nat.le_refl _) _).alloc (by simp) _
  have hsz2 : w.heap.size + 1 < ((w.alloc (.cells #[.pointer (some ⟨g, 0, none⟩)] 70)).alloc (.cells #[.int .i64 0] 3)).heap.size := by simp
  gi_wp2_with ((first | refine ⟨trivial, hdd _, ?_⟩ | refine ⟨trivial, ?_⟩ | skip); gi_at_call 46; refine (callsIn_wide.2 (HALL.out _ hB2 hsz2)).mono ?_; rintro e w3 ⟨gf, lb, rfl, hen, hq, hb⟩; replace hq := Lib.hid hq; replace hen := Lib.hid hen)
  have hb3 : Below w.heap.size w w3 := hB2.trans (hb.mono hB2.size)
  have hs3 : w.heap.size + 1 < w3.heap.size := Nat.lt_of_lt_of_le hsz2 hb.size
  have ht3 : TreeS (fun k => X k ∨ k = w.heap.size + 1) w3 g p M := (H.out.more (Y := fun k => X k ∨ k = w.heap.size + 1) (fun k h => .inl h) (fun k h => h.imp_right fun e => by omega)).on hb3
  have h0 : MergeI (fun k => X k ∨ k = w.heap.size + 1) w g w3.heap.size p M [] w3 :=
    ⟨ht3, Fr.of hb3, Nat.le_refl _, (hb.block _ (by omega)).trans ((Below.heap_alloc _ _ _ (by simp)).trans (heap_alloc_new _ _)), 0, (hb.block _ (by omega)).trans (by have := World.alloc_heap_new (w.alloc (.cells #[.pointer (some ⟨g, 0, none⟩)] 70)) (.cells #[.int .i64 0] 3); rw [World.size_alloc] at this; exact this), by simp [mergeM]⟩
  have hsw : w.heap.size ≤ w3.heap.size := by omega
  have H0 := Lib.hid h0; clear h0 ht3
  refine wpIn_seq (gf := gf) (lb := lb) rfl hen.out hq.out (Below.refl _ _) (Nat.le_refl _) rfl
    (fun pre W => MergeI (fun k => X k ∨ k = w.heap.size + 1) w g w3.heap.size p M pre W) (fun _ _ _ => False)
    (fun s A B h hc => h.calm hsw hc) (fun _ _ _ _ h _ => h) H0.out
    (fun x => { tmps := #[.pointer (some ⟨g, 0, none⟩), .pointer ov, .pointer (some ⟨w.heap.size, 0, none⟩), undef, .int .i64 0, .pointer (some ⟨w.heap.size + 1, 0, none⟩), .slice x.A x.l.length x.c, undef, undef, .pointer ov, .func (.func gf) #[] lb, .slice x.A x.l.length x.c, undef, undef, undef, undef, undef, undef, undef, undef, undef, undef], defers := [] }) ?assign ?body ?done ?stop
  case assign =>
    intro l x W K hK
    gi_wp2
    exact hK
  case body =>
    rintro l pre x W hl hI hpre hok
    have hn : pre.length + 1 ≤ M2.length := by have := hpre.length_le; simpa using this
    have hxl : x.l.length ≤ 1000 := HL2.out _ (hpre.subset (by simp))
    obtain ⟨c, hc, hm⟩ := hI.cnt
    have hml := mergeM_len p M (pre.map Sl.l)
    rw [List.length_map] at hml
    have hsW : w.heap.size + 1 < W.heap.size := (Array.getElem?_eq_some_iff.1 hc).1
    have hXW : ∀ i, (X i ∨ i = w.heap.size + 1) → i < W.heap.size := fun i hi => by
      rcases hi with hi | rfl
      · have := HX.out i hi; omega
      · exact hsW
    have hp := putS_any x.A x.c x.l W hI.t hok.rd (by omega) hXW
    have cb := cell_box' hI.box
    have cc := cell_box' hc
    obtain ⟨bq, hbq⟩ : ∃ bq, putB p x.l (mergeM p M (pre.map Sl.l)) = bq := ⟨_, rfl⟩
    rw [hbq] at hp
    have HPP := Lib.hid hp; have HI := Lib.hid hI; have HBQ := Lib.hid hbq; have HC := Lib.hid hc; have HM := Lib.hid hm; have HXW := Lib.hid hXW
    have hcs : c < 1000000 := by omega
    clear hp hI hok hbq hc hm hpre hXW
    have frX : ∀ (B : Nat) (W1 W2 : World), Fr (· = g) B W1 W2 → Fr (fun k => X k ∨ k = w.heap.size + 1) B W1 W2 := fun _ _ _ h => h.sub fun k _ hk => by subst hk; exact .inl H.out.mem
    have frC : ∀ (B : Nat) (W1 W2 : World), Fr (· = w.heap.size + 1) B W1 W2 → Fr (fun k => X k ∨ k = w.heap.size + 1) B W1 W2 := fun _ _ _ h => h.sub fun k _ hk => .inr hk
    have HFX := Lib.hid frX; have HFC := Lib.hid frC; clear frX frC
    cases bq with
    | false =>
      gi_wp2_with ((first | refine ⟨trivial, rfl, ?_⟩ | refine ⟨rfl, ?_⟩ | skip); gi_at_call 40; refine (CallsIn.inRound l (callsIn_wide.2 HPP.out)).mono ?_; rintro e w5 ⟨rfl, ht, hF⟩)
      have hk := round_keeps (B := w3.heap.size) HI.out.t.obj HC.out hF.size (fun k hk h1 h2 => hF.block k hk h1)
      exact ⟨hk.1, (HFX.out _ _ _ hF).mono HI.out.sz, hk.2, HI.out.same HBQ.out ht hF hg⟩
    | true =>
      gi_wp2_with ((first | refine ⟨trivial, rfl, ?_⟩ | refine ⟨rfl, ?_⟩ | skip); gi_at_call 40; refine (CallsIn.inRound l (callsIn_wide.2 HPP.out)).mono ?_; rintro e w5 ⟨rfl, ht, hF⟩; have hc5 := (hF.block _ hsW (by omega)).trans HC.out; have cc5 := cell_box' hc5; have fz5 : w5.frozen? ⟨w.heap.size + 1, 0, none⟩ = false := (by simp [World.frozen?, hc5]); clear hc5)
      have hfs : Fr (· = w.heap.size + 1) w5.heap.size w5 (w5.setCell ⟨w.heap.size + 1, 0, none⟩ (.int .i64 ((c : Int) + 1))) := fr_set w5 _ 0 _ _
      have hk := round_keeps (B := w3.heap.size) (W'' := w5.setCell ⟨w.heap.size + 1, 0, none⟩ (.int .i64 ((c : Int) + 1))) HI.out.t.obj HC.out (Nat.le_trans hF.size hfs.size) (fun k hk h1 h2 => (hfs.block k (by have := hF.size; omega) h2).trans (hF.block k hk h1))
      exact ⟨hk.1, ((HFX.out _ _ _ hF).mono HI.out.sz).trans ((HFC.out _ _ _ hfs).mono (Nat.le_trans HI.out.sz hF.size)), hk.2, HI.out.more HC.out HM.out (.inr rfl) HBQ.out ht hF hg hcs⟩
  case done =>
    rintro D xs W hD hxs hI hK
    obtain ⟨c, hc, hm⟩ := hI.cnt
    have cc := cell_box' hc
    have HI := Lib.hid hI; have HM := Lib.hid hm; clear hI hm hc
    gi_wp2
    refine ⟨by simp, .inl ⟨_, _, rfl, run_takeDeferred hK, ?_⟩⟩
    have hw : Calm w3.heap.size W (W.putObj D (.deferred none)) := Calm.put hK rfl hD
    have hI2 := HI.out.calm hsw hw
    refine ⟨_, results_tmp rfl _ _ _, ?_⟩
    have ht := hI2.t
    rw [hxs] at ht
    refine ⟨c, rfl, by rw [HM.out, hxs], ht.sub (fun b h => .inl h) H.out.mem, hI2.fr⟩
  case stop =>
    rintro D c pre W _ _ h _
    exact h.elim
end Go.Proofs.YtpmkhpbhimmeiaaGreat

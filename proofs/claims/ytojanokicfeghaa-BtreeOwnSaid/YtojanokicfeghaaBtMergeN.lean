/-
  Contract of Merge at a nil receiver.
-/
import Derived.Test.YtojanokicfeghaaBtMerge
namespace Go.Proofs.Ytojanokicfeghaa
open Go.RowKit FloM ValM Go.Shelf
set_option linter.unusedVariables false
set_option linter.unusedSimpArgs false
attribute [local go_sem] Oper.semAt_some
structure NilI (w : World) (n : Nat) (W : World) : Prop where
  b : Below w.heap.size w W
  sz : n ≤ W.heap.size
  box : W.heap[w.heap.size]? = some (.cells #[.pointer none] 29 (0, 0))
  cnt : W.heap[w.heap.size + 1]? = some (.cells #[.int .i64 0] 3 (0, 0))
theorem NilI.calm {w W W' : World} {n : Nat} (hn : w.heap.size ≤ n) (h : NilI w n W) (hc : Calm n W W') : NilI w n W' :=
  ⟨h.b.trans ((hc.below h.sz).mono hn), Nat.le_trans h.sz hc.size, hc.same _ _ h.box (.inr rfl), hc.same _ _ h.cnt (.inr rfl)⟩
set_option maxRecDepth 20000 in
set_option maxHeartbeats 8000000 in
theorem merge_nil {X : Nat → Prop} {M2 : List (List V)} (ov : Option Addr) (w : World)
    (hall : ∀ W, Below w.heap.size w W → w.heap.size + 1 < W.heap.size → Calls Try.prog 16 #[.pointer ov] W (SaysQ X M2 W)) :
    Calls Try.prog 21 #[.pointer none, .pointer ov] w fun e w' => e = .returned (.int .i64 0) ∧ Below w.heap.size w w' := by
  have HALL := Lib.hid hall
  clear hall
  have hdd : ∀ k : Nat, (Fence.wide.depth.isSome = true → 1 ≤ k) := fun k h => by cases h
  refine (callsIn_wide (n := 3)).1 ?_
  refine callsIn_of_wp_marks Try.func21 rfl trivial ?_ rfl
  simp only [Try.ntmps21, List.size_toArray, List.length_cons, List.length_nil, Nat.reduceAdd, Nat.reduceSub, Array.replicate_succ, Array.replicate_zero, List.push_toArray, List.append_toArray, List.nil_append, List.cons_append]
  have hB2 : Below w.heap.size w ((w.alloc (.cells #[.pointer none] 29)).alloc (.cells #[.int .i64 0] 3)) := ((Below.refl _ _).alloc (Nat.le_refl _) _).alloc (by simp) _
  have hsz2 : w.heap.size + 1 < ((w.alloc (.cells #[.pointer none] 29)).alloc (.cells #[.int .i64 0] 3)).heap.size := by simp
  gi_wp2_with ((first | refine ⟨trivial, hdd _, ?_⟩ | refine ⟨trivial, ?_⟩ | skip); gi_at_call 16; refine (callsIn_wide.2 (HALL.out _ hB2 hsz2)).mono ?_; rintro e w3 ⟨gf, lb, rfl, hen, hq, hb⟩; replace hq := Lib.hid hq; replace hen := Lib.hid hen)
  have hb3 : Below w.heap.size w w3 := hB2.trans (hb.mono hB2.size)
  have hs3 : w.heap.size + 1 < w3.heap.size := Nat.lt_of_lt_of_le hsz2 hb.size
  have h0 : NilI w w3.heap.size w3 :=
    ⟨hb3, Nat.le_refl _, (hb.block _ (by omega)).trans ((Below.heap_alloc _ _ _ (by simp)).trans (heap_alloc_new _ _)), (hb.block _ (by omega)).trans (by have := World.alloc_heap_new (w.alloc (.cells #[.pointer none] 29)) (.cells #[.int .i64 0] 3); rw [World.size_alloc] at this; exact this)⟩
  have hsw : w.heap.size ≤ w3.heap.size := by omega
  have H0 := Lib.hid h0; clear h0
  refine wpIn_seq (gf := gf) (lb := lb) rfl hen.out hq.out (Below.refl _ _) (Nat.le_refl _) rfl
    (fun pre W => NilI w w3.heap.size W) (fun _ _ _ => False)
    (fun s A B h hc => h.calm hsw hc) (fun _ _ _ _ h _ => h) H0.out
    (fun x => { tmps := #[.pointer none, .pointer ov, .pointer (some ⟨w.heap.size, 0, none⟩), undef, .int .i64 0, .pointer (some ⟨w.heap.size + 1, 0, none⟩), .slice x.A x.l.length x.c, undef, undef, .pointer ov, .func (.func gf) #[] lb, .slice x.A x.l.length x.c, undef, undef, undef, undef, undef, undef, undef, undef, undef, undef], defers := [] }) ?assign ?body ?done ?stop
  case assign =>
    intro l x W K hK
    gi_wp2
    exact hK
  case body =>
    rintro l pre x W hl hI hpre hok
    have cb := cell_box' hI.box
    have HI := Lib.hid hI; clear hI hok hpre
    gi_wp2_with ((first | refine ⟨trivial, rfl, ?_⟩ | refine ⟨rfl, ?_⟩ | skip); gi_at_call 14; refine (CallsIn.inRound l (callsIn_wide.2 (put_nil _ _))).mono ?_; rintro e w5 ⟨rfl, rfl⟩)
    exact ⟨⟨Nat.le_refl _, fun k o _ hk _ => hk⟩, Fr.refl _ _ _, KF.refl _, HI.out⟩
  case done =>
    rintro D xs W hD hxs hI hK
    have cc := cell_box' hI.cnt
    have HI := Lib.hid hI; clear hI
    gi_wp2
    refine ⟨by simp, .inl ⟨_, _, rfl, run_takeDeferred hK, ?_⟩⟩
    have hw : Calm w3.heap.size W (W.putObj D (.deferred none)) := Calm.put hK rfl hD
    have hI2 := HI.out.calm hsw hw
    refine ⟨_, results_tmp rfl _ _ _, ?_⟩
    exact ⟨rfl, hI2.b⟩
  case stop =>
    rintro D c pre W _ _ h _
    exact h.elim
end Go.Proofs.Ytojanokicfeghaa

/-
  Contracts of package lex: Tokens and what it defers.
-/
import Derived.Test.YtahljmddnfldlaaGreatDoorLexTok
import Derived.Recover
import Derived.RegionTactic
import Derived.Deep.RegionHeld
namespace Go.Proofs.YtahljmddnfldlaaGreatDoor
open Go.RowKit FloM ValM Go.Shelf
set_option linter.unusedVariables false
set_option linter.unusedSimpArgs false

/-! ### What Tokens defers -/
theorem lt_of_cell {w : World} {p o : Nat} {v : Value} (h : w.cell? ⟨p, o, none⟩ = some v) : p < w.heap.size := by
  rcases Nat.lt_or_ge p w.heap.size with h' | h'
  · exact h'
  · simp [World.cell?, Array.getElem?_eq_none h'] at h
theorem assert_fault (v : Value) (w : World) : (Instr.typeAssert (.iface 120 v) 20 120 true).run Tryz.prog w = .ok (.tuple #[v, .bool true]) w := by kernel_rfl
theorem assert_nil (w : World) : (Instr.typeAssert .nilIface 20 120 true).run Tryz.prog w = .ok (.tuple #[.agg #[.int .i64 0, .int .i64 0], .bool false]) w := by kernel_rfl
set_option maxRecDepth 20000 in
set_option maxHeartbeats 4000000 in
theorem catch_fault (p0 p1 p2 : Nat) (a k : Int) (x0 x1 x2 : Value) (older : List PanicEntry) (w : World) (d01 : ¬ p0 = p1) (d02 : ¬ p0 = p2) (d12 : ¬ p1 = p2) (h0 : w.cell? ⟨p0, 0, none⟩ = some x0) (h1 : w.cell? ⟨p1, 0, none⟩ = some x1) (h2 : w.cell? ⟨p2, 0, none⟩ = some x2) (z0 : w.frozen? ⟨p0, 0, none⟩ = false) (z1 : w.frozen? ⟨p1, 0, none⟩ = false) (z2 : w.frozen? ⟨p2, 0, none⟩ = false) :
    CallsD Tryz.prog 78 #[.pointer (some ⟨p0, 0, none⟩), .pointer (some ⟨p1, 0, none⟩), .pointer (some ⟨p2, 0, none⟩)] (.panicking ({ v := faultV a k, recovered := false } :: older)) w fun e u' w' =>
      e = .returned (.tuple #[]) ∧ u' = .panicking ({ v := faultV a k, recovered := true } :: older) ∧ w'.cell? ⟨p0, 0, none⟩ = some (.slice none 0 0) ∧ w'.cell? ⟨p1, 0, none⟩ = some (.int .i64 a) ∧ w'.cell? ⟨p2, 0, none⟩ = some (.int .i64 k) ∧
        ∀ w0 : World, Below w0.heap.size w0 w → w0.heap.size ≤ p0 → w0.heap.size ≤ p1 → w0.heap.size ≤ p2 → Below w0.heap.size w0 w' := by
  unfold faultV
  refine callsD_of_wpS Tryz.func78 rfl fun c₀ cs hu => ?_
  apply wpS_seq
  apply wpS_region
  simp [wpOpsS, go_sem, recoverD, hu, Tryz.ntmps78, Exit.thenS]
  refine wpS_of_wp ?_
  have et : (#[Value.pointer (some ⟨p0, 0, none⟩), Value.pointer (some ⟨p1, 0, none⟩), Value.pointer (some ⟨p2, 0, none⟩)] ++ ((Array.replicate 17 undef).setIfInBounds 3 (Value.iface 120 (Value.agg #[Value.int IntKind.i64 a, Value.int IntKind.i64 k]))).setIfInBounds 0 (Value.iface 120 (Value.agg #[Value.int IntKind.i64 a, Value.int IntKind.i64 k]))) = #[Value.pointer (some ⟨p0, 0, none⟩), Value.pointer (some ⟨p1, 0, none⟩), Value.pointer (some ⟨p2, 0, none⟩), Value.iface 120 (Value.agg #[Value.int IntKind.i64 a, Value.int IntKind.i64 k]), undef, undef, Value.iface 120 (Value.agg #[Value.int IntKind.i64 a, Value.int IntKind.i64 k]), undef, undef, undef, undef, undef, undef, undef, undef, undef, undef, undef, undef, undef] := rfl
  rw [et]
  have hta := fun W => assert_fault (Value.agg #[Value.int IntKind.i64 a, Value.int IntKind.i64 k]) W
  go_wp2
  have b0 : p0 < w.heap.size := lt_of_cell h0
  have b1 : p1 < w.heap.size := lt_of_cell h1
  have b2 : p2 < w.heap.size := lt_of_cell h2
  have hal := (Below.refl w.heap.size w).alloc (Nat.le_refl _) (.cells #[.int .i64 a, .int .i64 k] 120)
  have hblk := heap_alloc_new w (.cells #[.int .i64 a, .int .i64 k] 120)
  obtain ⟨W, hW⟩ : ∃ W, w.alloc (.cells #[.int .i64 a, .int .i64 k] 120) = W := ⟨_, rfl⟩
  rw [hW] at hal hblk ⊢
  obtain ⟨b, hb⟩ : ∃ b, w.heap.size = b := ⟨_, rfl⟩
  have g0 := (keep hal _ 0 b0).trans h0
  have g1 := (keep hal _ 0 b1).trans h1
  have g2 := (keep hal _ 0 b2).trans h2
  have y0 := (hal.frozen (p := ⟨p0, 0, none⟩) b0).trans z0
  have y1 := (hal.frozen (p := ⟨p1, 0, none⟩) b1).trans z1
  have y2 := (hal.frozen (p := ⟨p2, 0, none⟩) b2).trans z2
  rw [hb] at hblk b0 b1 b2 ⊢
  have c0 : W.cell? ⟨b, 0, none⟩ = some (.int .i64 a) := by simp [World.cell?, hblk]
  have c1 : W.cell? ⟨b, 1, none⟩ = some (.int .i64 k) := by simp [World.cell?, hblk]
  have n0 : ¬ p0 = b := by omega
  have n1 : ¬ p1 = b := by omega
  have n2 : ¬ p2 = b := by omega
  clear hW h0 h1 h2 z0 z1 z2 hblk hta
  go_region
  refine ⟨rfl, _, rfl, _, results_none rfl _ _ _, rfl, rfl, ?_, ?_, ?_, fun w0 hb0 q0 q1 q2 => ?_⟩
  · exact (World.cell?_setCell_far _ _ _ _ (by simp; omega)).trans ((World.cell?_setCell_far _ _ _ _ (by simp; omega)).trans (World.cell?_setCell_same' _ _ _ (by rw [g0]; rfl)))
  · exact (World.cell?_setCell_far _ _ _ _ (by simp; omega)).trans (World.cell?_setCell_same' _ _ _ (by rw [World.cell?_setCell_far _ _ _ _ (by simp; omega), g1]; rfl))
  · exact World.cell?_setCell_same' _ _ _ (by rw [World.cell?_setCell_far _ _ _ _ (by simp; omega), World.cell?_setCell_far _ _ _ _ (by simp; omega), g2]; rfl)
  · have hq := on hb0 hal
    exact (((hq.setCell q0 _).setCell q1 _).setCell q2 _).drew
set_option maxRecDepth 20000 in
set_option maxHeartbeats 4000000 in
theorem catch_idle (p0 p1 p2 : Nat) (w : World) :
    CallsD Tryz.prog 78 #[.pointer (some ⟨p0, 0, none⟩), .pointer (some ⟨p1, 0, none⟩), .pointer (some ⟨p2, 0, none⟩)] .returning w fun e u' w' =>
      e = .returned (.tuple #[]) ∧ u' = .returning ∧ Below w.heap.size w w' := by
  refine callsD_of_wpS Tryz.func78 rfl fun c₀ cs hu => ?_
  apply wpS_seq
  apply wpS_region
  simp [wpOpsS, go_sem, recoverD, hu, Tryz.ntmps78, Exit.thenS]
  refine wpS_of_wp ?_
  have hta := fun W => assert_nil W
  have et : (#[Value.pointer (some ⟨p0, 0, none⟩), Value.pointer (some ⟨p1, 0, none⟩), Value.pointer (some ⟨p2, 0, none⟩)] ++ ((Array.replicate 17 undef).setIfInBounds 3 Value.nilIface).setIfInBounds 0 Value.nilIface) = #[Value.pointer (some ⟨p0, 0, none⟩), Value.pointer (some ⟨p1, 0, none⟩), Value.pointer (some ⟨p2, 0, none⟩), Value.nilIface, undef, undef, Value.nilIface, undef, undef, undef, undef, undef, undef, undef, undef, undef, undef, undef, undef, undef] := rfl
  rw [et]
  go_wp2
  exact ⟨rfl, .returning, by cases c₀; simp_all, _, results_none rfl _ _ _, rfl, rfl, (Below.refl w.heap.size w).alloc (Nat.le_refl _) _⟩
end Go.Proofs.YtahljmddnfldlaaGreatDoor

/-
  ValueOrder (layer 2, value): for every a, b, c the call returns true: values lie in one order. No condition.
-/
import Derived.Test.YtlakgcdacjieeaaRows
import Derived.Test.YtlakgcdacjieeaaValRow
import Derived.Test.YtlakgcdacjieeaaValOpen
import Derived.WalkKit
import Derived.ProofKit
import Derived.OpenShut
import Derived.Deep.RegionHeld3
namespace Go.Proofs.Ytlakgcdacjieeaa.valueOrder
open Go.ChangeShapes Go.WideShapes Go.ChangeAt Go.RowKit FloM ValM
set_option linter.unusedVariables false
theorem cb_anti : ∀ a b : List UInt8, Lib.compareBytes b a = -Lib.compareBytes a b
  | [], [] => by simp [Lib.compareBytes]
  | [], _ :: _ => by simp [Lib.compareBytes]
  | _ :: _, [] => by simp [Lib.compareBytes]
  | x :: a, y :: b => by
    have ih := cb_anti a b
    unfold Lib.compareBytes
    by_cases h1 : x < y
    · have h2 : ¬ y < x := UInt8.not_lt.2 (UInt8.le_of_lt h1)
      simp [h1, h2]
    · by_cases h2 : y < x
      · simp [h1, h2]
      · simp [h1, h2, ih]
theorem cb_trans : ∀ a b c : List UInt8, Lib.compareBytes a b ≤ 0 → Lib.compareBytes b c ≤ 0 → Lib.compareBytes a c ≤ 0
  | [], _, [] => fun _ _ => by simp [Lib.compareBytes]
  | [], _, _ :: _ => fun _ _ => by simp [Lib.compareBytes]
  | _ :: _, [], _ => fun h _ => by simp [Lib.compareBytes] at h
  | _ :: _, _ :: _, [] => fun _ h => by simp [Lib.compareBytes] at h
  | x :: a, y :: b, z :: c => fun h1 h2 => by
    have ih := cb_trans a b c
    unfold Lib.compareBytes at h1 h2 ⊢
    simp only [UInt8.lt_iff_toNat_lt] at *
    by_cases p : x.toNat < y.toNat
    · by_cases q : y.toNat < z.toNat
      · rw [if_pos (by omega)]; decide
      · by_cases q' : z.toNat < y.toNat
        · rw [if_neg q, if_pos q'] at h2; exact absurd h2 (by decide)
        · rw [if_pos (by omega)]; decide
    · by_cases p' : y.toNat < x.toNat
      · rw [if_neg p, if_pos p'] at h1; exact absurd h1 (by decide)
      · rw [if_neg p, if_neg p'] at h1
        by_cases q : y.toNat < z.toNat
        · rw [if_pos (by omega)]; decide
        · by_cases q' : z.toNat < y.toNat
          · rw [if_neg q, if_pos q'] at h2; exact absurd h2 (by decide)
          · rw [if_neg q, if_neg q'] at h2
            rw [if_neg (by omega), if_neg (by omega)]; exact ih h1 h2
theorem ci_anti (a b : Int) : cmpI b a = -cmpI a b := by unfold cmpI; split <;> split <;> (try split) <;> omega
theorem cmpV_anti (a b : V) : cmpV b a = -cmpV a b := by
  unfold cmpV
  by_cases h : a.k = b.k
  · rw [if_neg (show ¬ (b.k ≠ a.k) from fun x => x h.symm), if_neg (show ¬ (a.k ≠ b.k) from fun x => x h)]
    by_cases h' : a.n = b.n
    · rw [if_neg (show ¬ (b.n ≠ a.n) from fun x => x h'.symm), if_neg (show ¬ (a.n ≠ b.n) from fun x => x h')]; exact cb_anti _ _
    · rw [if_pos (show b.n ≠ a.n from fun e => h' e.symm), if_pos (show a.n ≠ b.n from h')]; exact ci_anti _ _
  · rw [if_pos (show b.k ≠ a.k from fun e => h e.symm), if_pos (show a.k ≠ b.k from h)]; exact ci_anti _ _
theorem ci_range (a b : Int) (h : a ≠ b) : cmpI a b = -1 ∧ a < b ∨ cmpI a b = 1 ∧ b < a := by unfold cmpI; split <;> (try split) <;> omega
theorem cmpV_cases (a b : V) : (cmpV a b = 0 ∧ a = b) ∨ (cmpV a b = -1 ∧ a ≠ b ∧ (a.k < b.k ∨ (a.k = b.k ∧ (a.n < b.n ∨ (a.n = b.n ∧ Lib.compareBytes (ls a.s) (ls b.s) = -1))))) ∨ (cmpV a b = 1 ∧ a ≠ b ∧ (b.k < a.k ∨ (a.k = b.k ∧ (b.n < a.n ∨ (a.n = b.n ∧ Lib.compareBytes (ls a.s) (ls b.s) = 1))))) := by
  obtain ⟨ak, an, sa⟩ := a
  obtain ⟨bk, bn, sb⟩ := b
  unfold cmpV
  simp only
  by_cases h : ak = bk
  · subst h
    rw [if_neg (by simp)]
    by_cases h' : an = bn
    · subst h'
      rw [if_neg (by simp)]
      have hz := cmp_zero (ls sa) (ls sb)
      have ha := cb_anti (ls sa) (ls sb)
      rcases cmp_range (ls sa) (ls sb) with c | c | c
      · refine .inr (.inl ⟨c, ?_, by simp [c]⟩)
        intro e; injection e with _ _ e; subst e; rw [(cmp_zero _ _).2 rfl] at c; cases c
      · refine .inl ⟨c, ?_⟩
        rw [ls_inj (hz.1 c)]
      · refine .inr (.inr ⟨c, ?_, by simp [c]⟩)
        intro e; injection e with _ _ e; subst e; rw [(cmp_zero _ _).2 rfl] at c; cases c
    · rw [if_pos h']
      rcases ci_range an bn h' with ⟨c, d⟩ | ⟨c, d⟩
      · exact .inr (.inl ⟨c, by simp [h'], by simp [d]⟩)
      · exact .inr (.inr ⟨c, by simp [h'], by simp [d]⟩)
  · rw [if_pos h]
    rcases ci_range ak bk h with ⟨c, d⟩ | ⟨c, d⟩
    · exact .inr (.inl ⟨c, by simp [h], by simp [d]⟩)
    · exact .inr (.inr ⟨c, by simp [h], by simp [d]⟩)
theorem cmpV_trans (a b c : V) (h1 : cmpV a b ≤ 0) (h2 : cmpV b c ≤ 0) : cmpV a c ≤ 0 := by
  rcases cmpV_cases a b with ⟨_, rfl⟩ | ⟨_, _, h⟩ | ⟨x, _⟩
  · exact h2
  · rcases cmpV_cases b c with ⟨_, rfl⟩ | ⟨_, _, g⟩ | ⟨x, _⟩
    · exact h1
    · rcases cmpV_cases a c with ⟨x, _⟩ | ⟨x, _⟩ | ⟨x, _, f⟩
      · omega
      · omega
      · exfalso
        rcases h with h | ⟨h, h | ⟨h', h⟩⟩ <;> rcases g with g | ⟨g, g | ⟨g', g⟩⟩ <;> rcases f with f | ⟨f, f | ⟨f', f⟩⟩ <;> first | omega | skip
        have := cb_trans _ _ _ (show Lib.compareBytes (ls a.s) (ls b.s) ≤ 0 by omega) (show Lib.compareBytes (ls b.s) (ls c.s) ≤ 0 by omega)
        omega
    · omega
  · omega
theorem cmp_held (w u : World) (a b c : V) (k n l m : Int) (s t : ByteArray) (h : Held3 w u a b c) :
    Calls Try.prog 15 #[.agg #[.int .i64 k, .int .i64 n, .string s], .agg #[.int .i64 l, .int .i64 m, .string t]] u fun e u' => e = .returned (.int .i64 (cmpV ⟨k, n, s⟩ ⟨l, m, t⟩)) ∧ Held3 w u' a b c :=
  (compare_go k n l m s t u).mono fun _ _ ⟨he, hb⟩ => ⟨he, h.on hb⟩
theorem awake_held (w u : World) (a b c : V) (h : Held3 w u a b c) :
    Calls Try.prog 10 #[] u fun e u' => e = .returned (.bool true) ∧ Held3 w u' a b c :=
  (awake_any u).mono fun _ _ ⟨he, hb⟩ => ⟨he, h.on hb⟩
set_option maxHeartbeats 4000000 in
theorem walk_lt0l (k0 n0 k1 n1 k2 n2 y z : Int) (s0 s1 s2 : ByteArray) (w : World) (hab : cmpV ⟨k0, n0, s0⟩ ⟨k1, n1, s1⟩ = -1) (hba : cmpV ⟨k1, n1, s1⟩ ⟨k0, n0, s0⟩ = 1) (hbc : cmpV ⟨k1, n1, s1⟩ ⟨k2, n2, s2⟩ = y) (hac : cmpV ⟨k0, n0, s0⟩ ⟨k2, n2, s2⟩ = z) (hkk : (k0 == k1) = false) (hy : y ≤ 0) (hz : z ≤ 0) :
    Calls Try.prog 6 #[.agg #[.int .i64 k0, .int .i64 n0, .string s0], .agg #[.int .i64 k1, .int .i64 n1, .string s1], .agg #[.int .i64 k2, .int .i64 n2, .string s2]] w fun e w' => e = .returned (.bool true) ∧ Below w.heap.size w w' := by
  go_enter Try.func6, Try.ntmps6
  go_wp2_with (go_at_call 10; refine (awake_held w _ ⟨k0, n0, s0⟩ ⟨k1, n1, s1⟩ ⟨k2, n2, s2⟩ (Held3.new w _ _ _)).mono ?_; rintro e w1 ⟨rfl, h1⟩)
  go_region_held3 (fun u => Below w.heap.size w u ∧ w.heap.size + 2 < u.heap.size ∧ u.cell? ⟨w.heap.size, 0, none⟩ = some (.int .i64 k0) ∧ u.cell? ⟨w.heap.size, 1, none⟩ = some (.int .i64 n0) ∧ u.cell? ⟨w.heap.size, 2, none⟩ = some (.string s0) ∧ u.cell? ⟨w.heap.size + 1, 0, none⟩ = some (.int .i64 k1) ∧ u.cell? ⟨w.heap.size + 1, 1, none⟩ = some (.int .i64 n1) ∧ u.cell? ⟨w.heap.size + 1, 2, none⟩ = some (.string s1) ∧ u.cell? ⟨w.heap.size + 2, 0, none⟩ = some (.int .i64 k2) ∧ u.cell? ⟨w.heap.size + 2, 1, none⟩ = some (.int .i64 n2) ∧ u.cell? ⟨w.heap.size + 2, 2, none⟩ = some (.string s2))
    (first | exact ⟨h1.bel, h1.lt, h1.a0, h1.a1, h1.a2, h1.b0, h1.b1, h1.b2, h1.c0, h1.c1, h1.c2⟩ | exact ⟨h1.bel.drew, h1.lt, h1.a0, h1.a1, h1.a2, h1.b0, h1.b1, h1.b2, h1.c0, h1.c1, h1.c2⟩ | exact ⟨h4.bel, h4.lt, h4.a0, h4.a1, h4.a2, h4.b0, h4.b1, h4.b2, h4.c0, h4.c1, h4.c2⟩)
    (first | (go_at_call 15; refine (cmp_held w _ ⟨k0, n0, s0⟩ ⟨k1, n1, s1⟩ ⟨k2, n2, s2⟩ _ _ _ _ _ _ (by first | exact h4 | exact ⟨h1.bel.drew, h1.lt, h1.a0, h1.a1, h1.a2, h1.b0, h1.b1, h1.b2, h1.c0, h1.c1, h1.c2⟩)).mono ?_; rintro e w4 ⟨rfl, h4⟩; (first | rw [hab] | rw [hba])))
  have a0 := h4.a0; have a1 := h4.a1; have a2 := h4.a2; have b0 := h4.b0; have b1 := h4.b1; have b2 := h4.b2; have c0 := h4.c0; have c1 := h4.c1; have c2 := h4.c2
  clear h1
  go_wp2_with (go_at_call 15; refine (cmp_held w _ ⟨k0, n0, s0⟩ ⟨k1, n1, s1⟩ ⟨k2, n2, s2⟩ _ _ _ _ _ _ h4).mono ?_; rintro e w5 ⟨rfl, h4⟩; (first | rw [hbc] | rw [hac]); have a0 := h4.a0; have a1 := h4.a1; have a2 := h4.a2; have b0 := h4.b0; have b1 := h4.b1; have b2 := h4.b2; have c0 := h4.c0; have c1 := h4.c1; have c2 := h4.c2)
  all_goals
    go_ret
    exact ⟨rfl, h4.bel⟩
set_option maxHeartbeats 4000000 in
theorem walk_lt0g (k0 n0 k1 n1 k2 n2 y : Int) (s0 s1 s2 : ByteArray) (w : World) (hab : cmpV ⟨k0, n0, s0⟩ ⟨k1, n1, s1⟩ = -1) (hba : cmpV ⟨k1, n1, s1⟩ ⟨k0, n0, s0⟩ = 1) (hbc : cmpV ⟨k1, n1, s1⟩ ⟨k2, n2, s2⟩ = y) (hkk : (k0 == k1) = false) (hy : 0 < y) :
    Calls Try.prog 6 #[.agg #[.int .i64 k0, .int .i64 n0, .string s0], .agg #[.int .i64 k1, .int .i64 n1, .string s1], .agg #[.int .i64 k2, .int .i64 n2, .string s2]] w fun e w' => e = .returned (.bool true) ∧ Below w.heap.size w w' := by
  go_enter Try.func6, Try.ntmps6
  go_wp2_with (go_at_call 10; refine (awake_held w _ ⟨k0, n0, s0⟩ ⟨k1, n1, s1⟩ ⟨k2, n2, s2⟩ (Held3.new w _ _ _)).mono ?_; rintro e w1 ⟨rfl, h1⟩)
  go_region_held3 (fun u => Below w.heap.size w u ∧ w.heap.size + 2 < u.heap.size ∧ u.cell? ⟨w.heap.size, 0, none⟩ = some (.int .i64 k0) ∧ u.cell? ⟨w.heap.size, 1, none⟩ = some (.int .i64 n0) ∧ u.cell? ⟨w.heap.size, 2, none⟩ = some (.string s0) ∧ u.cell? ⟨w.heap.size + 1, 0, none⟩ = some (.int .i64 k1) ∧ u.cell? ⟨w.heap.size + 1, 1, none⟩ = some (.int .i64 n1) ∧ u.cell? ⟨w.heap.size + 1, 2, none⟩ = some (.string s1) ∧ u.cell? ⟨w.heap.size + 2, 0, none⟩ = some (.int .i64 k2) ∧ u.cell? ⟨w.heap.size + 2, 1, none⟩ = some (.int .i64 n2) ∧ u.cell? ⟨w.heap.size + 2, 2, none⟩ = some (.string s2))
    (first | exact ⟨h1.bel, h1.lt, h1.a0, h1.a1, h1.a2, h1.b0, h1.b1, h1.b2, h1.c0, h1.c1, h1.c2⟩ | exact ⟨h1.bel.drew, h1.lt, h1.a0, h1.a1, h1.a2, h1.b0, h1.b1, h1.b2, h1.c0, h1.c1, h1.c2⟩ | exact ⟨h4.bel, h4.lt, h4.a0, h4.a1, h4.a2, h4.b0, h4.b1, h4.b2, h4.c0, h4.c1, h4.c2⟩)
    (first | (go_at_call 15; refine (cmp_held w _ ⟨k0, n0, s0⟩ ⟨k1, n1, s1⟩ ⟨k2, n2, s2⟩ _ _ _ _ _ _ (by first | exact h4 | exact ⟨h1.bel.drew, h1.lt, h1.a0, h1.a1, h1.a2, h1.b0, h1.b1, h1.b2, h1.c0, h1.c1, h1.c2⟩)).mono ?_; rintro e w4 ⟨rfl, h4⟩; (first | rw [hab] | rw [hba])))
  have a0 := h4.a0; have a1 := h4.a1; have a2 := h4.a2; have b0 := h4.b0; have b1 := h4.b1; have b2 := h4.b2; have c0 := h4.c0; have c1 := h4.c1; have c2 := h4.c2
  clear h1
  go_wp2_with (go_at_call 15; refine (cmp_held w _ ⟨k0, n0, s0⟩ ⟨k1, n1, s1⟩ ⟨k2, n2, s2⟩ _ _ _ _ _ _ h4).mono ?_; rintro e w5 ⟨rfl, h4⟩; (first | rw [hbc] | rw [hac]); have a0 := h4.a0; have a1 := h4.a1; have a2 := h4.a2; have b0 := h4.b0; have b1 := h4.b1; have b2 := h4.b2; have c0 := h4.c0; have c1 := h4.c1; have c2 := h4.c2)
  all_goals
    go_ret
    exact ⟨rfl, h4.bel⟩
set_option maxHeartbeats 4000000 in
theorem walk_gt0 (k0 n0 k1 n1 k2 n2 : Int) (s0 s1 s2 : ByteArray) (w : World) (hab : cmpV ⟨k0, n0, s0⟩ ⟨k1, n1, s1⟩ = 1) (hba : cmpV ⟨k1, n1, s1⟩ ⟨k0, n0, s0⟩ = -1) (hkk : (k0 == k1) = false) (hk : k1 ≤ k0) :
    Calls Try.prog 6 #[.agg #[.int .i64 k0, .int .i64 n0, .string s0], .agg #[.int .i64 k1, .int .i64 n1, .string s1], .agg #[.int .i64 k2, .int .i64 n2, .string s2]] w fun e w' => e = .returned (.bool true) ∧ Below w.heap.size w w' := by
  go_enter Try.func6, Try.ntmps6
  go_wp2_with (go_at_call 10; refine (awake_held w _ ⟨k0, n0, s0⟩ ⟨k1, n1, s1⟩ ⟨k2, n2, s2⟩ (Held3.new w _ _ _)).mono ?_; rintro e w1 ⟨rfl, h1⟩)
  go_region_held3 (fun u => Below w.heap.size w u ∧ w.heap.size + 2 < u.heap.size ∧ u.cell? ⟨w.heap.size, 0, none⟩ = some (.int .i64 k0) ∧ u.cell? ⟨w.heap.size, 1, none⟩ = some (.int .i64 n0) ∧ u.cell? ⟨w.heap.size, 2, none⟩ = some (.string s0) ∧ u.cell? ⟨w.heap.size + 1, 0, none⟩ = some (.int .i64 k1) ∧ u.cell? ⟨w.heap.size + 1, 1, none⟩ = some (.int .i64 n1) ∧ u.cell? ⟨w.heap.size + 1, 2, none⟩ = some (.string s1) ∧ u.cell? ⟨w.heap.size + 2, 0, none⟩ = some (.int .i64 k2) ∧ u.cell? ⟨w.heap.size + 2, 1, none⟩ = some (.int .i64 n2) ∧ u.cell? ⟨w.heap.size + 2, 2, none⟩ = some (.string s2))
    (first | exact ⟨h1.bel, h1.lt, h1.a0, h1.a1, h1.a2, h1.b0, h1.b1, h1.b2, h1.c0, h1.c1, h1.c2⟩ | exact ⟨h1.bel.drew, h1.lt, h1.a0, h1.a1, h1.a2, h1.b0, h1.b1, h1.b2, h1.c0, h1.c1, h1.c2⟩ | exact ⟨h4.bel, h4.lt, h4.a0, h4.a1, h4.a2, h4.b0, h4.b1, h4.b2, h4.c0, h4.c1, h4.c2⟩)
    (first | (go_at_call 15; refine (cmp_held w _ ⟨k0, n0, s0⟩ ⟨k1, n1, s1⟩ ⟨k2, n2, s2⟩ _ _ _ _ _ _ (by first | exact h4 | exact ⟨h1.bel.drew, h1.lt, h1.a0, h1.a1, h1.a2, h1.b0, h1.b1, h1.b2, h1.c0, h1.c1, h1.c2⟩)).mono ?_; rintro e w4 ⟨rfl, h4⟩; (first | rw [hab] | rw [hba])))
  have a0 := h4.a0; have a1 := h4.a1; have a2 := h4.a2; have b0 := h4.b0; have b1 := h4.b1; have b2 := h4.b2; have c0 := h4.c0; have c1 := h4.c1; have c2 := h4.c2
  clear h1
  go_wp2_with (go_at_call 15; refine (cmp_held w _ ⟨k0, n0, s0⟩ ⟨k1, n1, s1⟩ ⟨k2, n2, s2⟩ _ _ _ _ _ _ h4).mono ?_; rintro e w5 ⟨rfl, h4⟩; (first | rw [hbc] | rw [hac]); have a0 := h4.a0; have a1 := h4.a1; have a2 := h4.a2; have b0 := h4.b0; have b1 := h4.b1; have b2 := h4.b2; have c0 := h4.c0; have c1 := h4.c1; have c2 := h4.c2)
  all_goals
    go_ret
    exact ⟨rfl, h4.bel⟩
set_option maxHeartbeats 4000000 in
theorem walk_lt1l (k0 n0 k1 n1 k2 n2 y z : Int) (s0 s1 s2 : ByteArray) (w : World) (hab : cmpV ⟨k0, n0, s0⟩ ⟨k1, n1, s1⟩ = -1) (hba : cmpV ⟨k1, n1, s1⟩ ⟨k0, n0, s0⟩ = 1) (hbc : cmpV ⟨k1, n1, s1⟩ ⟨k2, n2, s2⟩ = y) (hac : cmpV ⟨k0, n0, s0⟩ ⟨k2, n2, s2⟩ = z) (hkk : (k0 == k1) = true) (hnn : (n0 == n1) = false) (hy : y ≤ 0) (hz : z ≤ 0) :
    Calls Try.prog 6 #[.agg #[.int .i64 k0, .int .i64 n0, .string s0], .agg #[.int .i64 k1, .int .i64 n1, .string s1], .agg #[.int .i64 k2, .int .i64 n2, .string s2]] w fun e w' => e = .returned (.bool true) ∧ Below w.heap.size w w' := by
  go_enter Try.func6, Try.ntmps6
  go_wp2_with (go_at_call 10; refine (awake_held w _ ⟨k0, n0, s0⟩ ⟨k1, n1, s1⟩ ⟨k2, n2, s2⟩ (Held3.new w _ _ _)).mono ?_; rintro e w1 ⟨rfl, h1⟩)
  go_region_held3 (fun u => Below w.heap.size w u ∧ w.heap.size + 2 < u.heap.size ∧ u.cell? ⟨w.heap.size, 0, none⟩ = some (.int .i64 k0) ∧ u.cell? ⟨w.heap.size, 1, none⟩ = some (.int .i64 n0) ∧ u.cell? ⟨w.heap.size, 2, none⟩ = some (.string s0) ∧ u.cell? ⟨w.heap.size + 1, 0, none⟩ = some (.int .i64 k1) ∧ u.cell? ⟨w.heap.size + 1, 1, none⟩ = some (.int .i64 n1) ∧ u.cell? ⟨w.heap.size + 1, 2, none⟩ = some (.string s1) ∧ u.cell? ⟨w.heap.size + 2, 0, none⟩ = some (.int .i64 k2) ∧ u.cell? ⟨w.heap.size + 2, 1, none⟩ = some (.int .i64 n2) ∧ u.cell? ⟨w.heap.size + 2, 2, none⟩ = some (.string s2))
    (first | exact ⟨h1.bel, h1.lt, h1.a0, h1.a1, h1.a2, h1.b0, h1.b1, h1.b2, h1.c0, h1.c1, h1.c2⟩ | exact ⟨h1.bel.drew, h1.lt, h1.a0, h1.a1, h1.a2, h1.b0, h1.b1, h1.b2, h1.c0, h1.c1, h1.c2⟩ | exact ⟨h4.bel, h4.lt, h4.a0, h4.a1, h4.a2, h4.b0, h4.b1, h4.b2, h4.c0, h4.c1, h4.c2⟩)
    (first | (go_at_call 15; refine (cmp_held w _ ⟨k0, n0, s0⟩ ⟨k1, n1, s1⟩ ⟨k2, n2, s2⟩ _ _ _ _ _ _ (by first | exact h4 | exact ⟨h1.bel.drew, h1.lt, h1.a0, h1.a1, h1.a2, h1.b0, h1.b1, h1.b2, h1.c0, h1.c1, h1.c2⟩)).mono ?_; rintro e w4 ⟨rfl, h4⟩; (first | rw [hab] | rw [hba])))
  have a0 := h4.a0; have a1 := h4.a1; have a2 := h4.a2; have b0 := h4.b0; have b1 := h4.b1; have b2 := h4.b2; have c0 := h4.c0; have c1 := h4.c1; have c2 := h4.c2
  clear h1
  go_wp2_with (go_at_call 15; refine (cmp_held w _ ⟨k0, n0, s0⟩ ⟨k1, n1, s1⟩ ⟨k2, n2, s2⟩ _ _ _ _ _ _ h4).mono ?_; rintro e w5 ⟨rfl, h4⟩; (first | rw [hbc] | rw [hac]); have a0 := h4.a0; have a1 := h4.a1; have a2 := h4.a2; have b0 := h4.b0; have b1 := h4.b1; have b2 := h4.b2; have c0 := h4.c0; have c1 := h4.c1; have c2 := h4.c2)
  all_goals
    go_ret
    exact ⟨rfl, h4.bel⟩
set_option maxHeartbeats 4000000 in
theorem walk_lt1g (k0 n0 k1 n1 k2 n2 y : Int) (s0 s1 s2 : ByteArray) (w : World) (hab : cmpV ⟨k0, n0, s0⟩ ⟨k1, n1, s1⟩ = -1) (hba : cmpV ⟨k1, n1, s1⟩ ⟨k0, n0, s0⟩ = 1) (hbc : cmpV ⟨k1, n1, s1⟩ ⟨k2, n2, s2⟩ = y) (hkk : (k0 == k1) = true) (hnn : (n0 == n1) = false) (hy : 0 < y) :
    Calls Try.prog 6 #[.agg #[.int .i64 k0, .int .i64 n0, .string s0], .agg #[.int .i64 k1, .int .i64 n1, .string s1], .agg #[.int .i64 k2, .int .i64 n2, .string s2]] w fun e w' => e = .returned (.bool true) ∧ Below w.heap.size w w' := by
  go_enter Try.func6, Try.ntmps6
  go_wp2_with (go_at_call 10; refine (awake_held w _ ⟨k0, n0, s0⟩ ⟨k1, n1, s1⟩ ⟨k2, n2, s2⟩ (Held3.new w _ _ _)).mono ?_; rintro e w1 ⟨rfl, h1⟩)
  go_region_held3 (fun u => Below w.heap.size w u ∧ w.heap.size + 2 < u.heap.size ∧ u.cell? ⟨w.heap.size, 0, none⟩ = some (.int .i64 k0) ∧ u.cell? ⟨w.heap.size, 1, none⟩ = some (.int .i64 n0) ∧ u.cell? ⟨w.heap.size, 2, none⟩ = some (.string s0) ∧ u.cell? ⟨w.heap.size + 1, 0, none⟩ = some (.int .i64 k1) ∧ u.cell? ⟨w.heap.size + 1, 1, none⟩ = some (.int .i64 n1) ∧ u.cell? ⟨w.heap.size + 1, 2, none⟩ = some (.string s1) ∧ u.cell? ⟨w.heap.size + 2, 0, none⟩ = some (.int .i64 k2) ∧ u.cell? ⟨w.heap.size + 2, 1, none⟩ = some (.int .i64 n2) ∧ u.cell? ⟨w.heap.size + 2, 2, none⟩ = some (.string s2))
    (first | exact ⟨h1.bel, h1.lt, h1.a0, h1.a1, h1.a2, h1.b0, h1.b1, h1.b2, h1.c0, h1.c1, h1.c2⟩ | exact ⟨h1.bel.drew, h1.lt, h1.a0, h1.a1, h1.a2, h1.b0, h1.b1, h1.b2, h1.c0, h1.c1, h1.c2⟩ | exact ⟨h4.bel, h4.lt, h4.a0, h4.a1, h4.a2, h4.b0, h4.b1, h4.b2, h4.c0, h4.c1, h4.c2⟩)
    (first | (go_at_call 15; refine (cmp_held w _ ⟨k0, n0, s0⟩ ⟨k1, n1, s1⟩ ⟨k2, n2, s2⟩ _ _ _ _ _ _ (by first | exact h4 | exact ⟨h1.bel.drew, h1.lt, h1.a0, h1.a1, h1.a2, h1.b0, h1.b1, h1.b2, h1.c0, h1.c1, h1.c2⟩)).mono ?_; rintro e w4 ⟨rfl, h4⟩; (first | rw [hab] | rw [hba])))
  have a0 := h4.a0; have a1 := h4.a1; have a2 := h4.a2; have b0 := h4.b0; have b1 := h4.b1; have b2 := h4.b2; have c0 := h4.c0; have c1 := h4.c1; have c2 := h4.c2
  clear h1
  go_wp2_with (go_at_call 15; refine (cmp_held w _ ⟨k0, n0, s0⟩ ⟨k1, n1, s1⟩ ⟨k2, n2, s2⟩ _ _ _ _ _ _ h4).mono ?_; rintro e w5 ⟨rfl, h4⟩; (first | rw [hbc] | rw [hac]); have a0 := h4.a0; have a1 := h4.a1; have a2 := h4.a2; have b0 := h4.b0; have b1 := h4.b1; have b2 := h4.b2; have c0 := h4.c0; have c1 := h4.c1; have c2 := h4.c2)
  all_goals
    go_ret
    exact ⟨rfl, h4.bel⟩
set_option maxHeartbeats 4000000 in
theorem walk_gt1 (k0 n0 k1 n1 k2 n2 : Int) (s0 s1 s2 : ByteArray) (w : World) (hab : cmpV ⟨k0, n0, s0⟩ ⟨k1, n1, s1⟩ = 1) (hba : cmpV ⟨k1, n1, s1⟩ ⟨k0, n0, s0⟩ = -1) (hkk : (k0 == k1) = true) (hnn : (n0 == n1) = false) (hk : k1 ≤ k0) (hn : n1 ≤ n0) :
    Calls Try.prog 6 #[.agg #[.int .i64 k0, .int .i64 n0, .string s0], .agg #[.int .i64 k1, .int .i64 n1, .string s1], .agg #[.int .i64 k2, .int .i64 n2, .string s2]] w fun e w' => e = .returned (.bool true) ∧ Below w.heap.size w w' := by
  go_enter Try.func6, Try.ntmps6
  go_wp2_with (go_at_call 10; refine (awake_held w _ ⟨k0, n0, s0⟩ ⟨k1, n1, s1⟩ ⟨k2, n2, s2⟩ (Held3.new w _ _ _)).mono ?_; rintro e w1 ⟨rfl, h1⟩)
  go_region_held3 (fun u => Below w.heap.size w u ∧ w.heap.size + 2 < u.heap.size ∧ u.cell? ⟨w.heap.size, 0, none⟩ = some (.int .i64 k0) ∧ u.cell? ⟨w.heap.size, 1, none⟩ = some (.int .i64 n0) ∧ u.cell? ⟨w.heap.size, 2, none⟩ = some (.string s0) ∧ u.cell? ⟨w.heap.size + 1, 0, none⟩ = some (.int .i64 k1) ∧ u.cell? ⟨w.heap.size + 1, 1, none⟩ = some (.int .i64 n1) ∧ u.cell? ⟨w.heap.size + 1, 2, none⟩ = some (.string s1) ∧ u.cell? ⟨w.heap.size + 2, 0, none⟩ = some (.int .i64 k2) ∧ u.cell? ⟨w.heap.size + 2, 1, none⟩ = some (.int .i64 n2) ∧ u.cell? ⟨w.heap.size + 2, 2, none⟩ = some (.string s2))
    (first | exact ⟨h1.bel, h1.lt, h1.a0, h1.a1, h1.a2, h1.b0, h1.b1, h1.b2, h1.c0, h1.c1, h1.c2⟩ | exact ⟨h1.bel.drew, h1.lt, h1.a0, h1.a1, h1.a2, h1.b0, h1.b1, h1.b2, h1.c0, h1.c1, h1.c2⟩ | exact ⟨h4.bel, h4.lt, h4.a0, h4.a1, h4.a2, h4.b0, h4.b1, h4.b2, h4.c0, h4.c1, h4.c2⟩)
    (first | (go_at_call 15; refine (cmp_held w _ ⟨k0, n0, s0⟩ ⟨k1, n1, s1⟩ ⟨k2, n2, s2⟩ _ _ _ _ _ _ (by first | exact h4 | exact ⟨h1.bel.drew, h1.lt, h1.a0, h1.a1, h1.a2, h1.b0, h1.b1, h1.b2, h1.c0, h1.c1, h1.c2⟩)).mono ?_; rintro e w4 ⟨rfl, h4⟩; (first | rw [hab] | rw [hba])))
  have a0 := h4.a0; have a1 := h4.a1; have a2 := h4.a2; have b0 := h4.b0; have b1 := h4.b1; have b2 := h4.b2; have c0 := h4.c0; have c1 := h4.c1; have c2 := h4.c2
  clear h1
  go_wp2_with (go_at_call 15; refine (cmp_held w _ ⟨k0, n0, s0⟩ ⟨k1, n1, s1⟩ ⟨k2, n2, s2⟩ _ _ _ _ _ _ h4).mono ?_; rintro e w5 ⟨rfl, h4⟩; (first | rw [hbc] | rw [hac]); have a0 := h4.a0; have a1 := h4.a1; have a2 := h4.a2; have b0 := h4.b0; have b1 := h4.b1; have b2 := h4.b2; have c0 := h4.c0; have c1 := h4.c1; have c2 := h4.c2)
  all_goals
    go_ret
    exact ⟨rfl, h4.bel⟩
set_option maxHeartbeats 4000000 in
theorem walk_lt2l (k0 n0 k1 n1 k2 n2 y z : Int) (s0 s1 s2 : ByteArray) (w : World) (hab : cmpV ⟨k0, n0, s0⟩ ⟨k1, n1, s1⟩ = -1) (hba : cmpV ⟨k1, n1, s1⟩ ⟨k0, n0, s0⟩ = 1) (hbc : cmpV ⟨k1, n1, s1⟩ ⟨k2, n2, s2⟩ = y) (hac : cmpV ⟨k0, n0, s0⟩ ⟨k2, n2, s2⟩ = z) (hkk : (k0 == k1) = true) (hnn : (n0 == n1) = true) (hss : (s0.toList == s1.toList) = false) (hy : y ≤ 0) (hz : z ≤ 0) :
    Calls Try.prog 6 #[.agg #[.int .i64 k0, .int .i64 n0, .string s0], .agg #[.int .i64 k1, .int .i64 n1, .string s1], .agg #[.int .i64 k2, .int .i64 n2, .string s2]] w fun e w' => e = .returned (.bool true) ∧ Below w.heap.size w w' := by
  go_enter Try.func6, Try.ntmps6
  go_wp2_with (go_at_call 10; refine (awake_held w _ ⟨k0, n0, s0⟩ ⟨k1, n1, s1⟩ ⟨k2, n2, s2⟩ (Held3.new w _ _ _)).mono ?_; rintro e w1 ⟨rfl, h1⟩)
  go_region_held3 (fun u => Below w.heap.size w u ∧ w.heap.size + 2 < u.heap.size ∧ u.cell? ⟨w.heap.size, 0, none⟩ = some (.int .i64 k0) ∧ u.cell? ⟨w.heap.size, 1, none⟩ = some (.int .i64 n0) ∧ u.cell? ⟨w.heap.size, 2, none⟩ = some (.string s0) ∧ u.cell? ⟨w.heap.size + 1, 0, none⟩ = some (.int .i64 k1) ∧ u.cell? ⟨w.heap.size + 1, 1, none⟩ = some (.int .i64 n1) ∧ u.cell? ⟨w.heap.size + 1, 2, none⟩ = some (.string s1) ∧ u.cell? ⟨w.heap.size + 2, 0, none⟩ = some (.int .i64 k2) ∧ u.cell? ⟨w.heap.size + 2, 1, none⟩ = some (.int .i64 n2) ∧ u.cell? ⟨w.heap.size + 2, 2, none⟩ = some (.string s2))
    (first | exact ⟨h1.bel, h1.lt, h1.a0, h1.a1, h1.a2, h1.b0, h1.b1, h1.b2, h1.c0, h1.c1, h1.c2⟩ | exact ⟨h1.bel.drew, h1.lt, h1.a0, h1.a1, h1.a2, h1.b0, h1.b1, h1.b2, h1.c0, h1.c1, h1.c2⟩ | exact ⟨h4.bel, h4.lt, h4.a0, h4.a1, h4.a2, h4.b0, h4.b1, h4.b2, h4.c0, h4.c1, h4.c2⟩)
    (first | (go_at_call 15; refine (cmp_held w _ ⟨k0, n0, s0⟩ ⟨k1, n1, s1⟩ ⟨k2, n2, s2⟩ _ _ _ _ _ _ (by first | exact h4 | exact ⟨h1.bel.drew, h1.lt, h1.a0, h1.a1, h1.a2, h1.b0, h1.b1, h1.b2, h1.c0, h1.c1, h1.c2⟩)).mono ?_; rintro e w4 ⟨rfl, h4⟩; (first | rw [hab] | rw [hba])))
  have a0 := h4.a0; have a1 := h4.a1; have a2 := h4.a2; have b0 := h4.b0; have b1 := h4.b1; have b2 := h4.b2; have c0 := h4.c0; have c1 := h4.c1; have c2 := h4.c2
  clear h1
  go_wp2_with (go_at_call 15; refine (cmp_held w _ ⟨k0, n0, s0⟩ ⟨k1, n1, s1⟩ ⟨k2, n2, s2⟩ _ _ _ _ _ _ h4).mono ?_; rintro e w5 ⟨rfl, h4⟩; (first | rw [hbc] | rw [hac]); have a0 := h4.a0; have a1 := h4.a1; have a2 := h4.a2; have b0 := h4.b0; have b1 := h4.b1; have b2 := h4.b2; have c0 := h4.c0; have c1 := h4.c1; have c2 := h4.c2)
  all_goals
    go_ret
    exact ⟨rfl, h4.bel⟩
set_option maxHeartbeats 4000000 in
theorem walk_lt2g (k0 n0 k1 n1 k2 n2 y : Int) (s0 s1 s2 : ByteArray) (w : World) (hab : cmpV ⟨k0, n0, s0⟩ ⟨k1, n1, s1⟩ = -1) (hba : cmpV ⟨k1, n1, s1⟩ ⟨k0, n0, s0⟩ = 1) (hbc : cmpV ⟨k1, n1, s1⟩ ⟨k2, n2, s2⟩ = y) (hkk : (k0 == k1) = true) (hnn : (n0 == n1) = true) (hss : (s0.toList == s1.toList) = false) (hy : 0 < y) :
    Calls Try.prog 6 #[.agg #[.int .i64 k0, .int .i64 n0, .string s0], .agg #[.int .i64 k1, .int .i64 n1, .string s1], .agg #[.int .i64 k2, .int .i64 n2, .string s2]] w fun e w' => e = .returned (.bool true) ∧ Below w.heap.size w w' := by
  go_enter Try.func6, Try.ntmps6
  go_wp2_with (go_at_call 10; refine (awake_held w _ ⟨k0, n0, s0⟩ ⟨k1, n1, s1⟩ ⟨k2, n2, s2⟩ (Held3.new w _ _ _)).mono ?_; rintro e w1 ⟨rfl, h1⟩)
  go_region_held3 (fun u => Below w.heap.size w u ∧ w.heap.size + 2 < u.heap.size ∧ u.cell? ⟨w.heap.size, 0, none⟩ = some (.int .i64 k0) ∧ u.cell? ⟨w.heap.size, 1, none⟩ = some (.int .i64 n0) ∧ u.cell? ⟨w.heap.size, 2, none⟩ = some (.string s0) ∧ u.cell? ⟨w.heap.size + 1, 0, none⟩ = some (.int .i64 k1) ∧ u.cell? ⟨w.heap.size + 1, 1, none⟩ = some (.int .i64 n1) ∧ u.cell? ⟨w.heap.size + 1, 2, none⟩ = some (.string s1) ∧ u.cell? ⟨w.heap.size + 2, 0, none⟩ = some (.int .i64 k2) ∧ u.cell? ⟨w.heap.size + 2, 1, none⟩ = some (.int .i64 n2) ∧ u.cell? ⟨w.heap.size + 2, 2, none⟩ = some (.string s2))
    (first | exact ⟨h1.bel, h1.lt, h1.a0, h1.a1, h1.a2, h1.b0, h1.b1, h1.b2, h1.c0, h1.c1, h1.c2⟩ | exact ⟨h1.bel.drew, h1.lt, h1.a0, h1.a1, h1.a2, h1.b0, h1.b1, h1.b2, h1.c0, h1.c1, h1.c2⟩ | exact ⟨h4.bel, h4.lt, h4.a0, h4.a1, h4.a2, h4.b0, h4.b1, h4.b2, h4.c0, h4.c1, h4.c2⟩)
    (first | (go_at_call 15; refine (cmp_held w _ ⟨k0, n0, s0⟩ ⟨k1, n1, s1⟩ ⟨k2, n2, s2⟩ _ _ _ _ _ _ (by first | exact h4 | exact ⟨h1.bel.drew, h1.lt, h1.a0, h1.a1, h1.a2, h1.b0, h1.b1, h1.b2, h1.c0, h1.c1, h1.c2⟩)).mono ?_; rintro e w4 ⟨rfl, h4⟩; (first | rw [hab] | rw [hba])))
  have a0 := h4.a0; have a1 := h4.a1; have a2 := h4.a2; have b0 := h4.b0; have b1 := h4.b1; have b2 := h4.b2; have c0 := h4.c0; have c1 := h4.c1; have c2 := h4.c2
  clear h1
  go_wp2_with (go_at_call 15; refine (cmp_held w _ ⟨k0, n0, s0⟩ ⟨k1, n1, s1⟩ ⟨k2, n2, s2⟩ _ _ _ _ _ _ h4).mono ?_; rintro e w5 ⟨rfl, h4⟩; (first | rw [hbc] | rw [hac]); have a0 := h4.a0; have a1 := h4.a1; have a2 := h4.a2; have b0 := h4.b0; have b1 := h4.b1; have b2 := h4.b2; have c0 := h4.c0; have c1 := h4.c1; have c2 := h4.c2)
  all_goals
    go_ret
    exact ⟨rfl, h4.bel⟩
set_option maxHeartbeats 4000000 in
theorem walk_gt2 (k0 n0 k1 n1 k2 n2 : Int) (s0 s1 s2 : ByteArray) (w : World) (hab : cmpV ⟨k0, n0, s0⟩ ⟨k1, n1, s1⟩ = 1) (hba : cmpV ⟨k1, n1, s1⟩ ⟨k0, n0, s0⟩ = -1) (hkk : (k0 == k1) = true) (hnn : (n0 == n1) = true) (hss : (s0.toList == s1.toList) = false) (hk : k1 ≤ k0) (hn : n1 ≤ n0) :
    Calls Try.prog 6 #[.agg #[.int .i64 k0, .int .i64 n0, .string s0], .agg #[.int .i64 k1, .int .i64 n1, .string s1], .agg #[.int .i64 k2, .int .i64 n2, .string s2]] w fun e w' => e = .returned (.bool true) ∧ Below w.heap.size w w' := by
  go_enter Try.func6, Try.ntmps6
  go_wp2_with (go_at_call 10; refine (awake_held w _ ⟨k0, n0, s0⟩ ⟨k1, n1, s1⟩ ⟨k2, n2, s2⟩ (Held3.new w _ _ _)).mono ?_; rintro e w1 ⟨rfl, h1⟩)
  go_region_held3 (fun u => Below w.heap.size w u ∧ w.heap.size + 2 < u.heap.size ∧ u.cell? ⟨w.heap.size, 0, none⟩ = some (.int .i64 k0) ∧ u.cell? ⟨w.heap.size, 1, none⟩ = some (.int .i64 n0) ∧ u.cell? ⟨w.heap.size, 2, none⟩ = some (.string s0) ∧ u.cell? ⟨w.heap.size + 1, 0, none⟩ = some (.int .i64 k1) ∧ u.cell? ⟨w.heap.size + 1, 1, none⟩ = some (.int .i64 n1) ∧ u.cell? ⟨w.heap.size + 1, 2, none⟩ = some (.string s1) ∧ u.cell? ⟨w.heap.size + 2, 0, none⟩ = some (.int .i64 k2) ∧ u.cell? ⟨w.heap.size + 2, 1, none⟩ = some (.int .i64 n2) ∧ u.cell? ⟨w.heap.size + 2, 2, none⟩ = some (.string s2))
    (first | exact ⟨h1.bel, h1.lt, h1.a0, h1.a1, h1.a2, h1.b0, h1.b1, h1.b2, h1.c0, h1.c1, h1.c2⟩ | exact ⟨h1.bel.drew, h1.lt, h1.a0, h1.a1, h1.a2, h1.b0, h1.b1, h1.b2, h1.c0, h1.c1, h1.c2⟩ | exact ⟨h4.bel, h4.lt, h4.a0, h4.a1, h4.a2, h4.b0, h4.b1, h4.b2, h4.c0, h4.c1, h4.c2⟩)
    (first | (go_at_call 15; refine (cmp_held w _ ⟨k0, n0, s0⟩ ⟨k1, n1, s1⟩ ⟨k2, n2, s2⟩ _ _ _ _ _ _ (by first | exact h4 | exact ⟨h1.bel.drew, h1.lt, h1.a0, h1.a1, h1.a2, h1.b0, h1.b1, h1.b2, h1.c0, h1.c1, h1.c2⟩)).mono ?_; rintro e w4 ⟨rfl, h4⟩; (first | rw [hab] | rw [hba])))
  have a0 := h4.a0; have a1 := h4.a1; have a2 := h4.a2; have b0 := h4.b0; have b1 := h4.b1; have b2 := h4.b2; have c0 := h4.c0; have c1 := h4.c1; have c2 := h4.c2
  clear h1
  go_wp2_with (go_at_call 15; refine (cmp_held w _ ⟨k0, n0, s0⟩ ⟨k1, n1, s1⟩ ⟨k2, n2, s2⟩ _ _ _ _ _ _ h4).mono ?_; rintro e w5 ⟨rfl, h4⟩; (first | rw [hbc] | rw [hac]); have a0 := h4.a0; have a1 := h4.a1; have a2 := h4.a2; have b0 := h4.b0; have b1 := h4.b1; have b2 := h4.b2; have c0 := h4.c0; have c1 := h4.c1; have c2 := h4.c2)
  all_goals
    go_ret
    exact ⟨rfl, h4.bel⟩
set_option maxHeartbeats 4000000 in
theorem walk_eql (k0 n0 k2 n2 y z : Int) (s0 s2 : ByteArray) (w : World) (hab : cmpV ⟨k0, n0, s0⟩ ⟨k0, n0, s0⟩ = 0) (hba : cmpV ⟨k0, n0, s0⟩ ⟨k0, n0, s0⟩ = 0) (hbc : cmpV ⟨k0, n0, s0⟩ ⟨k2, n2, s2⟩ = y) (hac : cmpV ⟨k0, n0, s0⟩ ⟨k2, n2, s2⟩ = z) (hy : y ≤ 0) (hz : z ≤ 0) :
    Calls Try.prog 6 #[.agg #[.int .i64 k0, .int .i64 n0, .string s0], .agg #[.int .i64 k0, .int .i64 n0, .string s0], .agg #[.int .i64 k2, .int .i64 n2, .string s2]] w fun e w' => e = .returned (.bool true) ∧ Below w.heap.size w w' := by
  go_enter Try.func6, Try.ntmps6
  go_wp2_with (go_at_call 10; refine (awake_held w _ ⟨k0, n0, s0⟩ ⟨k0, n0, s0⟩ ⟨k2, n2, s2⟩ (Held3.new w _ _ _)).mono ?_; rintro e w1 ⟨rfl, h1⟩)
  go_region_held3 (fun u => Below w.heap.size w u ∧ w.heap.size + 2 < u.heap.size ∧ u.cell? ⟨w.heap.size, 0, none⟩ = some (.int .i64 k0) ∧ u.cell? ⟨w.heap.size, 1, none⟩ = some (.int .i64 n0) ∧ u.cell? ⟨w.heap.size, 2, none⟩ = some (.string s0) ∧ u.cell? ⟨w.heap.size + 1, 0, none⟩ = some (.int .i64 k0) ∧ u.cell? ⟨w.heap.size + 1, 1, none⟩ = some (.int .i64 n0) ∧ u.cell? ⟨w.heap.size + 1, 2, none⟩ = some (.string s0) ∧ u.cell? ⟨w.heap.size + 2, 0, none⟩ = some (.int .i64 k2) ∧ u.cell? ⟨w.heap.size + 2, 1, none⟩ = some (.int .i64 n2) ∧ u.cell? ⟨w.heap.size + 2, 2, none⟩ = some (.string s2))
    (first | exact ⟨h1.bel, h1.lt, h1.a0, h1.a1, h1.a2, h1.b0, h1.b1, h1.b2, h1.c0, h1.c1, h1.c2⟩ | exact ⟨h1.bel.drew, h1.lt, h1.a0, h1.a1, h1.a2, h1.b0, h1.b1, h1.b2, h1.c0, h1.c1, h1.c2⟩ | exact ⟨h4.bel, h4.lt, h4.a0, h4.a1, h4.a2, h4.b0, h4.b1, h4.b2, h4.c0, h4.c1, h4.c2⟩)
    (first | (go_at_call 15; refine (cmp_held w _ ⟨k0, n0, s0⟩ ⟨k0, n0, s0⟩ ⟨k2, n2, s2⟩ _ _ _ _ _ _ (by first | exact h4 | exact ⟨h1.bel.drew, h1.lt, h1.a0, h1.a1, h1.a2, h1.b0, h1.b1, h1.b2, h1.c0, h1.c1, h1.c2⟩)).mono ?_; rintro e w4 ⟨rfl, h4⟩; (first | rw [hab] | rw [hba])))
  have a0 := h4.a0; have a1 := h4.a1; have a2 := h4.a2; have b0 := h4.b0; have b1 := h4.b1; have b2 := h4.b2; have c0 := h4.c0; have c1 := h4.c1; have c2 := h4.c2
  clear h1
  go_wp2_with (go_at_call 15; refine (cmp_held w _ ⟨k0, n0, s0⟩ ⟨k0, n0, s0⟩ ⟨k2, n2, s2⟩ _ _ _ _ _ _ h4).mono ?_; rintro e w5 ⟨rfl, h4⟩; (first | rw [hbc] | rw [hac]); have a0 := h4.a0; have a1 := h4.a1; have a2 := h4.a2; have b0 := h4.b0; have b1 := h4.b1; have b2 := h4.b2; have c0 := h4.c0; have c1 := h4.c1; have c2 := h4.c2)
  all_goals
    go_ret
    exact ⟨rfl, h4.bel⟩
set_option maxHeartbeats 4000000 in
theorem walk_eqg (k0 n0 k2 n2 y : Int) (s0 s2 : ByteArray) (w : World) (hab : cmpV ⟨k0, n0, s0⟩ ⟨k0, n0, s0⟩ = 0) (hba : cmpV ⟨k0, n0, s0⟩ ⟨k0, n0, s0⟩ = 0) (hbc : cmpV ⟨k0, n0, s0⟩ ⟨k2, n2, s2⟩ = y) (hy : 0 < y) :
    Calls Try.prog 6 #[.agg #[.int .i64 k0, .int .i64 n0, .string s0], .agg #[.int .i64 k0, .int .i64 n0, .string s0], .agg #[.int .i64 k2, .int .i64 n2, .string s2]] w fun e w' => e = .returned (.bool true) ∧ Below w.heap.size w w' := by
  go_enter Try.func6, Try.ntmps6
  go_wp2_with (go_at_call 10; refine (awake_held w _ ⟨k0, n0, s0⟩ ⟨k0, n0, s0⟩ ⟨k2, n2, s2⟩ (Held3.new w _ _ _)).mono ?_; rintro e w1 ⟨rfl, h1⟩)
  go_region_held3 (fun u => Below w.heap.size w u ∧ w.heap.size + 2 < u.heap.size ∧ u.cell? ⟨w.heap.size, 0, none⟩ = some (.int .i64 k0) ∧ u.cell? ⟨w.heap.size, 1, none⟩ = some (.int .i64 n0) ∧ u.cell? ⟨w.heap.size, 2, none⟩ = some (.string s0) ∧ u.cell? ⟨w.heap.size + 1, 0, none⟩ = some (.int .i64 k0) ∧ u.cell? ⟨w.heap.size + 1, 1, none⟩ = some (.int .i64 n0) ∧ u.cell? ⟨w.heap.size + 1, 2, none⟩ = some (.string s0) ∧ u.cell? ⟨w.heap.size + 2, 0, none⟩ = some (.int .i64 k2) ∧ u.cell? ⟨w.heap.size + 2, 1, none⟩ = some (.int .i64 n2) ∧ u.cell? ⟨w.heap.size + 2, 2, none⟩ = some (.string s2))
    (first | exact ⟨h1.bel, h1.lt, h1.a0, h1.a1, h1.a2, h1.b0, h1.b1, h1.b2, h1.c0, h1.c1, h1.c2⟩ | exact ⟨h1.bel.drew, h1.lt, h1.a0, h1.a1, h1.a2, h1.b0, h1.b1, h1.b2, h1.c0, h1.c1, h1.c2⟩ | exact ⟨h4.bel, h4.lt, h4.a0, h4.a1, h4.a2, h4.b0, h4.b1, h4.b2, h4.c0, h4.c1, h4.c2⟩)
    (first | (go_at_call 15; refine (cmp_held w _ ⟨k0, n0, s0⟩ ⟨k0, n0, s0⟩ ⟨k2, n2, s2⟩ _ _ _ _ _ _ (by first | exact h4 | exact ⟨h1.bel.drew, h1.lt, h1.a0, h1.a1, h1.a2, h1.b0, h1.b1, h1.b2, h1.c0, h1.c1, h1.c2⟩)).mono ?_; rintro e w4 ⟨rfl, h4⟩; (first | rw [hab] | rw [hba])))
  have a0 := h4.a0; have a1 := h4.a1; have a2 := h4.a2; have b0 := h4.b0; have b1 := h4.b1; have b2 := h4.b2; have c0 := h4.c0; have c1 := h4.c1; have c2 := h4.c2
  clear h1
  go_wp2_with (go_at_call 15; refine (cmp_held w _ ⟨k0, n0, s0⟩ ⟨k0, n0, s0⟩ ⟨k2, n2, s2⟩ _ _ _ _ _ _ h4).mono ?_; rintro e w5 ⟨rfl, h4⟩; (first | rw [hbc] | rw [hac]); have a0 := h4.a0; have a1 := h4.a1; have a2 := h4.a2; have b0 := h4.b0; have b1 := h4.b1; have b2 := h4.b2; have c0 := h4.c0; have c1 := h4.c1; have c2 := h4.c2)
  all_goals
    go_ret
    exact ⟨rfl, h4.bel⟩
theorem walk (k0 n0 : Int) (s0 : ByteArray) (k1 n1 : Int) (s1 : ByteArray) (k2 n2 : Int) (s2 : ByteArray) (wk0 : (Lit.int .i64 k0).wf = true) (wn0 : (Lit.int .i64 n0).wf = true) (ws0 : s0.size ≤ maxLen) (wk1 : (Lit.int .i64 k1).wf = true) (wn1 : (Lit.int .i64 n1).wf = true) (ws1 : s1.size ≤ maxLen) (wk2 : (Lit.int .i64 k2).wf = true) (wn2 : (Lit.int .i64 n2).wf = true) (ws2 : s2.size ≤ maxLen) (w : World) :
    Calls Try.prog 6 #[.agg #[.int .i64 k0, .int .i64 n0, .string s0], .agg #[.int .i64 k1, .int .i64 n1, .string s1], .agg #[.int .i64 k2, .int .i64 n2, .string s2]] w fun e w' => e = .returned (.bool true) ∧ Below w.heap.size w w' := by
  have hba := cmpV_anti ⟨k0, n0, s0⟩ ⟨k1, n1, s1⟩
  have htr := cmpV_trans ⟨k0, n0, s0⟩ ⟨k1, n1, s1⟩ ⟨k2, n2, s2⟩
  obtain ⟨y, hy⟩ : ∃ y, cmpV ⟨k1, n1, s1⟩ ⟨k2, n2, s2⟩ = y := ⟨_, rfl⟩
  obtain ⟨z, hz⟩ : ∃ z, cmpV ⟨k0, n0, s0⟩ ⟨k2, n2, s2⟩ = z := ⟨_, rfl⟩
  have ne : ∀ {a b : Int}, a ≠ b → (a == b) = false := fun h => beq_eq_false_iff_ne.2 h
  have eq' : ∀ {a b : Int}, a = b → (a == b) = true := fun h => beq_iff_eq.2 h
  rcases cmpV_cases ⟨k0, n0, s0⟩ ⟨k1, n1, s1⟩ with ⟨hx, e⟩ | ⟨hx, hne, hd⟩ | ⟨hx, hne, hd⟩
  · injection e with e1 e2 e3
    subst e1 e2 e3
    by_cases h : y ≤ 0
    · exact walk_eql k0 n0 k2 n2 y z s0 s2 w hx hx hy hz h (by rw [← hz]; exact htr (by omega) (by omega))
    · exact walk_eqg k0 n0 k2 n2 y s0 s2 w hx hx hy (by omega)
  · rw [hx] at hba
    simp only at hd
    have hss : k0 = k1 → n0 = n1 → (s0.toList == s1.toList) = false := fun a b => by
      rw [str_eq, decide_eq_false]; intro c; exact hne (by rw [a, b, c])
    by_cases hk : k0 = k1
    · by_cases hn : n0 = n1
      · by_cases h : y ≤ 0
        · exact walk_lt2l k0 n0 k1 n1 k2 n2 y z s0 s1 s2 w hx hba hy hz (eq' hk) (eq' hn) (hss hk hn) h (by rw [← hz]; exact htr (by omega) (by omega))
        · exact walk_lt2g k0 n0 k1 n1 k2 n2 y s0 s1 s2 w hx hba hy (eq' hk) (eq' hn) (hss hk hn) (by omega)
      · by_cases h : y ≤ 0
        · exact walk_lt1l k0 n0 k1 n1 k2 n2 y z s0 s1 s2 w hx hba hy hz (eq' hk) (ne hn) h (by rw [← hz]; exact htr (by omega) (by omega))
        · exact walk_lt1g k0 n0 k1 n1 k2 n2 y s0 s1 s2 w hx hba hy (eq' hk) (ne hn) (by omega)
    · by_cases h : y ≤ 0
      · exact walk_lt0l k0 n0 k1 n1 k2 n2 y z s0 s1 s2 w hx hba hy hz (ne hk) h (by rw [← hz]; exact htr (by omega) (by omega))
      · exact walk_lt0g k0 n0 k1 n1 k2 n2 y s0 s1 s2 w hx hba hy (ne hk) (by omega)
  · rw [hx] at hba
    simp only at hd
    have hss : k0 = k1 → n0 = n1 → (s0.toList == s1.toList) = false := fun a b => by
      rw [str_eq, decide_eq_false]; intro c; exact hne (by rw [a, b, c])
    by_cases hk : k0 = k1
    · by_cases hn : n0 = n1
      · exact walk_gt2 k0 n0 k1 n1 k2 n2 s0 s1 s2 w hx hba (eq' hk) (eq' hn) (hss hk hn) (by omega) (by omega)
      · exact walk_gt1 k0 n0 k1 n1 k2 n2 s0 s1 s2 w hx hba (eq' hk) (ne hn) (by omega) (by omega)
    · exact walk_gt0 k0 n0 k1 n1 k2 n2 s0 s1 s2 w hx hba (ne hk) (by omega)

theorem own : ownKnob Try.prog.godebug = none := by kernel_rfl

set_option maxRecDepth 100000 in
theorem lifted (os : Os) (started : os.Started) (H : Type) (enc : TypeId × Value → H) :
    ReturnsInHanded {} Try.checked os 6 .any (Rows.valueOrderSpec.pre6 enc Try.prog Try.f6 Rows.valueOrderRow.domain false) (Rows.valueOrderSpec.post enc Try.prog Try.f6 false true false false) := by
  refine returnsInHanded_of_change (C := Try.checked) own started (by kernel_rfl) Try.func6
    (ChangeSpec.witness6 (enc := enc) (C := Try.checked) false ⟨#[], #[.agg #[.int .i64 0, .int .i64 0, .string ByteArray.empty], .agg #[.int .i64 0, .int .i64 0, .string ByteArray.empty], .agg #[.int .i64 0, .int .i64 0, .string ByteArray.empty]], []⟩ 8 (by kernel_rfl) (by kernel_rfl) (by kernel_rfl) (by kernel_rfl)) ?_
  intro W base args ds gs before hval0 hW hcnd _
  have hval : ∀ (j : Nat) t v, Try.f6.params[j]? = some t → args[j]? = some v → Value.okWide Try.prog W .any base t v := hval0
  have hW' := hW
  obtain ⟨p, q, hA0, hV, rfl, hfz, hnd⟩ := hW
  have hA : DataW.TrodAll enc Try.prog W 0 (fun _ => true) true Try.f6.params.toList args.toList ds p := hA0
  rw [Try.params6] at hA hval
  obtain ⟨v0, vs0, d0, ds0, p0, q0, hargs, rfl, rfl, h0, r0⟩ := trodAll_cons hA
  obtain ⟨v1, vs1, d1, ds1, p1, q1, rfl, rfl, rfl, h1, r1⟩ := trodAll_cons r0
  obtain ⟨v2, vs2, d2, ds2, p2, q2, rfl, rfl, rfl, h2, r2⟩ := trodAll_cons r1
  obtain ⟨rfl, rfl, rfl⟩ := trodAll_nil r2
  obtain rfl : args = #[v0, v1, v2] := by cases args; simp_all
  obtain ⟨rfl, rfl⟩ := trodVars_none hV
  obtain ⟨k0, n0, s0, rfl, rfl, rfl, wk0, wn0, ws0⟩ := open_val (hval 0 23 v0 rfl rfl) h0
  obtain ⟨k1, n1, s1, rfl, rfl, rfl, wk1, wn1, ws1⟩ := open_val (hval 1 23 v1 rfl rfl) h1
  obtain ⟨k2, n2, s2, rfl, rfl, rfl, wk2, wn2, ws2⟩ := open_val (hval 2 23 v2 rfl rfl) h2
  clear hA0 hval0
  simp only [List.append_nil] at hW'
  refine (walk k0 n0 s0 k1 n1 s1 k2 n2 s2 wk0 wn0 ws0 wk1 wn1 ws1 wk2 wn2 ws2 W).mono fun e W' ⟨he, hg⟩ => ?_
  subst he
  exact ⟨_, rfl, post_plain hW' (fun _ _ _ => (trodAll_cons_mk (shut_bool Try.underlying4 _) trodAll_mk0)) (fun sp => (trodAll_cons_mk (shut_val wk0 wn0 ws0) (trodAll_cons_mk (shut_val wk1 wn1 ws1) (trodAll_cons_mk (shut_val wk2 wn2 ws2) trodAll_mk0)))) (fun _ => rfl) hg (ok_one (by kernel_rfl) rfl (okWide_bool_mk Try.underlying4 _))⟩

theorem proved : Rows.ValueOrderSaid :=
  OpenClaim.holds_of_wide 6 Try.f6 rfl rfl rfl rfl rfl rfl rfl ⟨rfl, rfl, rfl, rfl, rfl⟩ rfl rfl rfl rfl rfl (by kernel_rfl) Try.func6 (by kernel_rfl)
    (of_decide_eq_true (by kernel_rfl)) (by unfold Func.isWrapper; first | (rw [if_pos (by decide +kernel)]; kernel_rfl) | (rw [if_neg (by decide +kernel)]; exact ⟨rfl, rfl⟩))
    (fun os started H enc _ => lifted os started H enc)
#print axioms proved
end Go.Proofs.Ytlakgcdacjieeaa.valueOrder

/-
  FloEdges (layer 1, flo): for every n the call returns true: what infinities, zeros and NaN make of each other and of any number. No condition.
-/
import Derived.Test.YtljpeehnjjbebaaRows
import Derived.Test.YtljpeehnjjbebaaFloArith
import Derived.Test.YtljpeehnjjbebaaFloLaws
import Derived.WalkKit
import Derived.ProofKit
import Derived.OpenShut
namespace Go.Proofs.Ytljpeehnjjbebaa.floEdges
open Go.ChangeShapes Go.WideShapes Go.ChangeAt Go.RowKit FloM
set_option linter.unusedVariables false

theorem inf_back : backW 9218868437227405312 = wd false infR := by decide
theorem low_back : backW (-9218868437227405313) = wd true infR := by decide

theorem facts_nan (n : Int) (h : isN (backW n) = true) : addC n 9218868437227405312 = NaNc ∧ mulC n 0 = NaNc := by
  have hb := backW_lt n
  refine ⟨?_, ?_⟩
  · unfold addC; rw [add_comm', add_nanR _ _ hb h]; rfl
  · unfold mulC; rw [mul_comm', mul_nanR _ _ hb h]; rfl
theorem facts_fin (n : Int) (s : Bool) (r : Nat) (hr : r < infR) (hb : backW n = wd s r) (hc : n = if s then -1 - (r : Int) else r) :
    addC n 9218868437227405312 = 9218868437227405312 ∧ addC n (-9218868437227405313) = -9218868437227405313 ∧ divC n 9218868437227405312 = min (max n (-1)) 0 ∧ subC n n = 0 := by
  refine ⟨?_, ?_, ?_, ?_⟩
  · unfold addC; rw [hb, inf_back, add_inf s _ r hr]; decide
  · unfold addC; rw [hb, low_back, add_inf s _ r hr]; decide
  · unfold divC; rw [hb, inf_back, div_inf s _ r hr, codeO_wd (by decide), code_of (by decide)]
    cases s <;> simp at hc ⊢ <;> omega
  · unfold subC; rw [hb, sub_self s r hr]; decide

set_option maxHeartbeats 1000000 in
theorem walk_bad (n : Int) (w : World) (hr : right n = false) (h1 : (addC n 9218868437227405312 == 9221120237041090561) = true) (h2 : (mulC n 0 == 9221120237041090561) = true) :
    Calls Try.prog 8 #[.int .i64 n] w fun e w' => e = .returned (.bool true) ∧ Grown w w' := by
  have e1 : ofC 0 = 0 := by decide
  have e2 : divC (ofC 1) 0 = 9218868437227405312 := by decide
  have e3 : subC 0 9218868437227405312 = -9218868437227405313 := by decide
  have e4 : divC 0 0 = 9221120237041090561 := by decide
  have e5 : subC 9218868437227405312 9218868437227405312 = 9221120237041090561 := by decide
  have e6 : mulC 9218868437227405312 0 = 9221120237041090561 := by decide
  have e7 : divC 9218868437227405312 9218868437227405312 = 9221120237041090561 := by decide
  have e8 : addC 9218868437227405312 (-9218868437227405313) = 9221120237041090561 := by decide
  go_enter Try.func8, Try.ntmps8
  go_wp2_with (first | (go_at_call 10; refine (awake_any _).mono ?_; rintro e w' ⟨rfl, rfl⟩) | (go_at_call 16; refine (back_any _ _).mono ?_; rintro e w' ⟨rfl, rfl⟩) | (go_at_call 11; refine (code_any _ _ (by first | exact backW_lt _ | assumption)).mono ?_; rintro e w' ⟨rfl, rfl⟩) | (go_at_call 15; refine (same_any _ _ _ (by first | exact backW_lt _ | assumption) (by first | exact backW_lt _ | assumption) (by first | exact HS.out | assumption)).mono ?_; rintro e w' ⟨rfl, rfl⟩) | (go_at_call 13; refine (right_any _ _).mono ?_; rintro e w' ⟨rfl, rfl⟩) | (go_at_call 22; refine (of_any _ _).mono ?_; rintro e w' ⟨rfl, rfl⟩) | (go_at_call 18; refine (add_any _ _ _).mono ?_; rintro e w' ⟨rfl, hd⟩) | (go_at_call 19; refine (sub_any _ _ _).mono ?_; rintro e w' ⟨rfl, hd⟩) | (go_at_call 20; refine (mul_any _ _ _).mono ?_; rintro e w' ⟨rfl, hd⟩) | (go_at_call 21; refine (div_any _ _ _).mono ?_; rintro e w' ⟨rfl, hd⟩))
  go_ret
  exact ⟨rfl, Drawn.grown (by repeat (first | exact Drawn.refl _ | refine Drawn.trans ?_ ‹Drawn _ _›))⟩
set_option maxHeartbeats 1000000 in
theorem walk_nan (n : Int) (w : World) (hr : right n = true) (hn : (n == 9221120237041090561) = true) (h1 : (addC n 9218868437227405312 == 9221120237041090561) = true) (h2 : (mulC n 0 == 9221120237041090561) = true) :
    Calls Try.prog 8 #[.int .i64 n] w fun e w' => e = .returned (.bool true) ∧ Grown w w' := by
  have e1 : ofC 0 = 0 := by decide
  have e2 : divC (ofC 1) 0 = 9218868437227405312 := by decide
  have e3 : subC 0 9218868437227405312 = -9218868437227405313 := by decide
  have e4 : divC 0 0 = 9221120237041090561 := by decide
  have e5 : subC 9218868437227405312 9218868437227405312 = 9221120237041090561 := by decide
  have e6 : mulC 9218868437227405312 0 = 9221120237041090561 := by decide
  have e7 : divC 9218868437227405312 9218868437227405312 = 9221120237041090561 := by decide
  have e8 : addC 9218868437227405312 (-9218868437227405313) = 9221120237041090561 := by decide
  go_enter Try.func8, Try.ntmps8
  go_wp2_with (first | (go_at_call 10; refine (awake_any _).mono ?_; rintro e w' ⟨rfl, rfl⟩) | (go_at_call 16; refine (back_any _ _).mono ?_; rintro e w' ⟨rfl, rfl⟩) | (go_at_call 11; refine (code_any _ _ (by first | exact backW_lt _ | assumption)).mono ?_; rintro e w' ⟨rfl, rfl⟩) | (go_at_call 15; refine (same_any _ _ _ (by first | exact backW_lt _ | assumption) (by first | exact backW_lt _ | assumption) (by first | exact HS.out | assumption)).mono ?_; rintro e w' ⟨rfl, rfl⟩) | (go_at_call 13; refine (right_any _ _).mono ?_; rintro e w' ⟨rfl, rfl⟩) | (go_at_call 22; refine (of_any _ _).mono ?_; rintro e w' ⟨rfl, rfl⟩) | (go_at_call 18; refine (add_any _ _ _).mono ?_; rintro e w' ⟨rfl, hd⟩) | (go_at_call 19; refine (sub_any _ _ _).mono ?_; rintro e w' ⟨rfl, hd⟩) | (go_at_call 20; refine (mul_any _ _ _).mono ?_; rintro e w' ⟨rfl, hd⟩) | (go_at_call 21; refine (div_any _ _ _).mono ?_; rintro e w' ⟨rfl, hd⟩))
  go_ret
  exact ⟨rfl, Drawn.grown (by repeat (first | exact Drawn.refl _ | refine Drawn.trans ?_ ‹Drawn _ _›))⟩
set_option maxHeartbeats 1000000 in
theorem walk_inf (n : Int) (w : World) (hr : right n = true) (hn : (n == 9221120237041090561) = false) (hi : (n == 9218868437227405312) = true) (h0 : 0 < n) (f1 : (addC n n == n) = true) (f2 : divC (ofC 1) n = 0) :
    Calls Try.prog 8 #[.int .i64 n] w fun e w' => e = .returned (.bool true) ∧ Grown w w' := by
  have e1 : ofC 0 = 0 := by decide
  have e2 : divC (ofC 1) 0 = 9218868437227405312 := by decide
  have e3 : subC 0 9218868437227405312 = -9218868437227405313 := by decide
  have e4 : divC 0 0 = 9221120237041090561 := by decide
  have e5 : subC 9218868437227405312 9218868437227405312 = 9221120237041090561 := by decide
  have e6 : mulC 9218868437227405312 0 = 9221120237041090561 := by decide
  have e7 : divC 9218868437227405312 9218868437227405312 = 9221120237041090561 := by decide
  have e8 : addC 9218868437227405312 (-9218868437227405313) = 9221120237041090561 := by decide
  go_enter Try.func8, Try.ntmps8
  go_wp2_with (first | (go_at_call 10; refine (awake_any _).mono ?_; rintro e w' ⟨rfl, rfl⟩) | (go_at_call 16; refine (back_any _ _).mono ?_; rintro e w' ⟨rfl, rfl⟩) | (go_at_call 11; refine (code_any _ _ (by first | exact backW_lt _ | assumption)).mono ?_; rintro e w' ⟨rfl, rfl⟩) | (go_at_call 15; refine (same_any _ _ _ (by first | exact backW_lt _ | assumption) (by first | exact backW_lt _ | assumption) (by first | exact HS.out | assumption)).mono ?_; rintro e w' ⟨rfl, rfl⟩) | (go_at_call 13; refine (right_any _ _).mono ?_; rintro e w' ⟨rfl, rfl⟩) | (go_at_call 22; refine (of_any _ _).mono ?_; rintro e w' ⟨rfl, rfl⟩) | (go_at_call 18; refine (add_any _ _ _).mono ?_; rintro e w' ⟨rfl, hd⟩) | (go_at_call 19; refine (sub_any _ _ _).mono ?_; rintro e w' ⟨rfl, hd⟩) | (go_at_call 20; refine (mul_any _ _ _).mono ?_; rintro e w' ⟨rfl, hd⟩) | (go_at_call 21; refine (div_any _ _ _).mono ?_; rintro e w' ⟨rfl, hd⟩))
  all_goals first
    | (go_ret; exact ⟨rfl, Drawn.grown (by repeat (first | exact Drawn.refl _ | refine Drawn.trans ?_ ‹Drawn _ _›))⟩)
    | (exfalso; omega)
set_option maxHeartbeats 1000000 in
theorem walk_low (n : Int) (w : World) (hr : right n = true) (hn : (n == 9221120237041090561) = false) (hi : (n == 9218868437227405312) = false) (hl : (n == -9218868437227405313) = true) (h0 : n < -1) (f1 : (addC n n == n) = true) (f2 : divC (ofC 1) n = -1) :
    Calls Try.prog 8 #[.int .i64 n] w fun e w' => e = .returned (.bool true) ∧ Grown w w' := by
  have e1 : ofC 0 = 0 := by decide
  have e2 : divC (ofC 1) 0 = 9218868437227405312 := by decide
  have e3 : subC 0 9218868437227405312 = -9218868437227405313 := by decide
  have e4 : divC 0 0 = 9221120237041090561 := by decide
  have e5 : subC 9218868437227405312 9218868437227405312 = 9221120237041090561 := by decide
  have e6 : mulC 9218868437227405312 0 = 9221120237041090561 := by decide
  have e7 : divC 9218868437227405312 9218868437227405312 = 9221120237041090561 := by decide
  have e8 : addC 9218868437227405312 (-9218868437227405313) = 9221120237041090561 := by decide
  go_enter Try.func8, Try.ntmps8
  go_wp2_with (first | (go_at_call 10; refine (awake_any _).mono ?_; rintro e w' ⟨rfl, rfl⟩) | (go_at_call 16; refine (back_any _ _).mono ?_; rintro e w' ⟨rfl, rfl⟩) | (go_at_call 11; refine (code_any _ _ (by first | exact backW_lt _ | assumption)).mono ?_; rintro e w' ⟨rfl, rfl⟩) | (go_at_call 15; refine (same_any _ _ _ (by first | exact backW_lt _ | assumption) (by first | exact backW_lt _ | assumption) (by first | exact HS.out | assumption)).mono ?_; rintro e w' ⟨rfl, rfl⟩) | (go_at_call 13; refine (right_any _ _).mono ?_; rintro e w' ⟨rfl, rfl⟩) | (go_at_call 22; refine (of_any _ _).mono ?_; rintro e w' ⟨rfl, rfl⟩) | (go_at_call 18; refine (add_any _ _ _).mono ?_; rintro e w' ⟨rfl, hd⟩) | (go_at_call 19; refine (sub_any _ _ _).mono ?_; rintro e w' ⟨rfl, hd⟩) | (go_at_call 20; refine (mul_any _ _ _).mono ?_; rintro e w' ⟨rfl, hd⟩) | (go_at_call 21; refine (div_any _ _ _).mono ?_; rintro e w' ⟨rfl, hd⟩))
  all_goals first
    | (go_ret; exact ⟨rfl, Drawn.grown (by repeat (first | exact Drawn.refl _ | refine Drawn.trans ?_ ‹Drawn _ _›))⟩)
    | (exfalso; omega)
set_option maxHeartbeats 1000000 in
theorem walk_pos (n : Int) (w : World) (hr : right n = true) (hn : (n == 9221120237041090561) = false) (hi : (n == 9218868437227405312) = false) (hl : (n == -9218868437227405313) = false) (h0 : 0 ≤ n)
    (f1 : (addC n 9218868437227405312 == 9218868437227405312) = true) (f2 : (addC n (-9218868437227405313) == -9218868437227405313) = true) (f3 : divC n 9218868437227405312 = 0) (f4 : (subC n n == 0) = true) :
    Calls Try.prog 8 #[.int .i64 n] w fun e w' => e = .returned (.bool true) ∧ Grown w w' := by
  have e1 : ofC 0 = 0 := by decide
  have e2 : divC (ofC 1) 0 = 9218868437227405312 := by decide
  have e3 : subC 0 9218868437227405312 = -9218868437227405313 := by decide
  have e4 : divC 0 0 = 9221120237041090561 := by decide
  have e5 : subC 9218868437227405312 9218868437227405312 = 9221120237041090561 := by decide
  have e6 : mulC 9218868437227405312 0 = 9221120237041090561 := by decide
  have e7 : divC 9218868437227405312 9218868437227405312 = 9221120237041090561 := by decide
  have e8 : addC 9218868437227405312 (-9218868437227405313) = 9221120237041090561 := by decide
  go_enter Try.func8, Try.ntmps8
  go_wp2_with (first | (go_at_call 10; refine (awake_any _).mono ?_; rintro e w' ⟨rfl, rfl⟩) | (go_at_call 16; refine (back_any _ _).mono ?_; rintro e w' ⟨rfl, rfl⟩) | (go_at_call 11; refine (code_any _ _ (by first | exact backW_lt _ | assumption)).mono ?_; rintro e w' ⟨rfl, rfl⟩) | (go_at_call 15; refine (same_any _ _ _ (by first | exact backW_lt _ | assumption) (by first | exact backW_lt _ | assumption) (by first | exact HS.out | assumption)).mono ?_; rintro e w' ⟨rfl, rfl⟩) | (go_at_call 13; refine (right_any _ _).mono ?_; rintro e w' ⟨rfl, rfl⟩) | (go_at_call 22; refine (of_any _ _).mono ?_; rintro e w' ⟨rfl, rfl⟩) | (go_at_call 18; refine (add_any _ _ _).mono ?_; rintro e w' ⟨rfl, hd⟩) | (go_at_call 19; refine (sub_any _ _ _).mono ?_; rintro e w' ⟨rfl, hd⟩) | (go_at_call 20; refine (mul_any _ _ _).mono ?_; rintro e w' ⟨rfl, hd⟩) | (go_at_call 21; refine (div_any _ _ _).mono ?_; rintro e w' ⟨rfl, hd⟩))
  all_goals first
    | (go_ret; exact ⟨rfl, Drawn.grown (by repeat (first | exact Drawn.refl _ | refine Drawn.trans ?_ ‹Drawn _ _›))⟩)
    | (exfalso; omega)
set_option maxHeartbeats 1000000 in
theorem walk_neg (n : Int) (w : World) (hr : right n = true) (hn : (n == 9221120237041090561) = false) (hi : (n == 9218868437227405312) = false) (hl : (n == -9218868437227405313) = false) (h0 : n ≤ -1)
    (f1 : (addC n 9218868437227405312 == 9218868437227405312) = true) (f2 : (addC n (-9218868437227405313) == -9218868437227405313) = true) (f3 : divC n 9218868437227405312 = -1) (f4 : (subC n n == 0) = true) :
    Calls Try.prog 8 #[.int .i64 n] w fun e w' => e = .returned (.bool true) ∧ Grown w w' := by
  have e1 : ofC 0 = 0 := by decide
  have e2 : divC (ofC 1) 0 = 9218868437227405312 := by decide
  have e3 : subC 0 9218868437227405312 = -9218868437227405313 := by decide
  have e4 : divC 0 0 = 9221120237041090561 := by decide
  have e5 : subC 9218868437227405312 9218868437227405312 = 9221120237041090561 := by decide
  have e6 : mulC 9218868437227405312 0 = 9221120237041090561 := by decide
  have e7 : divC 9218868437227405312 9218868437227405312 = 9221120237041090561 := by decide
  have e8 : addC 9218868437227405312 (-9218868437227405313) = 9221120237041090561 := by decide
  go_enter Try.func8, Try.ntmps8
  go_wp2_with (first | (go_at_call 10; refine (awake_any _).mono ?_; rintro e w' ⟨rfl, rfl⟩) | (go_at_call 16; refine (back_any _ _).mono ?_; rintro e w' ⟨rfl, rfl⟩) | (go_at_call 11; refine (code_any _ _ (by first | exact backW_lt _ | assumption)).mono ?_; rintro e w' ⟨rfl, rfl⟩) | (go_at_call 15; refine (same_any _ _ _ (by first | exact backW_lt _ | assumption) (by first | exact backW_lt _ | assumption) (by first | exact HS.out | assumption)).mono ?_; rintro e w' ⟨rfl, rfl⟩) | (go_at_call 13; refine (right_any _ _).mono ?_; rintro e w' ⟨rfl, rfl⟩) | (go_at_call 22; refine (of_any _ _).mono ?_; rintro e w' ⟨rfl, rfl⟩) | (go_at_call 18; refine (add_any _ _ _).mono ?_; rintro e w' ⟨rfl, hd⟩) | (go_at_call 19; refine (sub_any _ _ _).mono ?_; rintro e w' ⟨rfl, hd⟩) | (go_at_call 20; refine (mul_any _ _ _).mono ?_; rintro e w' ⟨rfl, hd⟩) | (go_at_call 21; refine (div_any _ _ _).mono ?_; rintro e w' ⟨rfl, hd⟩))
  all_goals first
    | (go_ret; exact ⟨rfl, Drawn.grown (by repeat (first | exact Drawn.refl _ | refine Drawn.trans ?_ ‹Drawn _ _›))⟩)
    | (exfalso; omega)

theorem walk (a0 : Int) (w0 : (Lit.int .i64 a0).wf = true) (w : World) :
    Calls Try.prog 8 #[.int .i64 a0] w fun e w' => e = .returned (.bool true) ∧ Grown w w' := by
  rcases back_cases a0 with ⟨hb, hn⟩ | ⟨hr, hn, s, r, hle, hbk, _, hc⟩
  · obtain ⟨f1, f2⟩ := facts_nan a0 hn
    have h1 : (addC a0 9218868437227405312 == 9221120237041090561) = true := by rw [f1]; rfl
    have h2 : (mulC a0 0 == 9221120237041090561) = true := by rw [f2]; rfl
    rcases hb with hb | hb
    · exact walk_bad a0 w hb h1 h2
    · exact walk_nan a0 w (by rw [hb]; decide) (by rw [hb]; rfl) h1 h2
  · by_cases hi : a0 = 9218868437227405312
    · refine walk_inf a0 w hr (beq_eq_false_iff_ne.2 hn) (by rw [hi]; rfl) (by omega) ?_ ?_ <;> rw [hi] <;> decide
    · by_cases hl : a0 = -9218868437227405313
      · refine walk_low a0 w hr (beq_eq_false_iff_ne.2 hn) (beq_eq_false_iff_ne.2 hi) (by rw [hl]; rfl) (by omega) ?_ ?_ <;> rw [hl] <;> decide
      · have hlt : r < infR := by
          unfold infR at *
          cases s <;> simp at hc <;> omega
        obtain ⟨f1, f2, f3, f4⟩ := facts_fin a0 s r hlt hbk hc
        by_cases h0 : 0 ≤ a0
        · exact walk_pos a0 w hr (beq_eq_false_iff_ne.2 hn) (beq_eq_false_iff_ne.2 hi) (beq_eq_false_iff_ne.2 hl) h0 (by rw [f1]; rfl) (by rw [f2]; rfl) (by rw [f3]; omega) (by rw [f4]; rfl)
        · exact walk_neg a0 w hr (beq_eq_false_iff_ne.2 hn) (beq_eq_false_iff_ne.2 hi) (beq_eq_false_iff_ne.2 hl) (by omega) (by rw [f1]; rfl) (by rw [f2]; rfl) (by rw [f3]; omega) (by rw [f4]; rfl)

theorem own : ownKnob Try.prog.godebug = none := by kernel_rfl

set_option maxRecDepth 100000 in
theorem lifted (os : Os) (started : os.Started) (H : Type) (enc : TypeId × Value → H) :
    ReturnsInHanded {} Try.checked os 8 .any (Rows.floEdgesSpec.pre6 enc Try.prog Try.f8 Rows.floEdgesRow.domain false) (Rows.floEdgesSpec.post enc Try.prog Try.f8 false true false false) := by
  refine returnsInHanded_of_change (C := Try.checked) own started (by kernel_rfl) Try.func8
    (ChangeSpec.witness6 (enc := enc) (C := Try.checked) false ⟨#[], #[.int .i64 0], []⟩ 8 (by kernel_rfl) (by kernel_rfl) (by kernel_rfl) (by kernel_rfl)) ?_
  intro W base args ds gs before hval0 hW hcnd _
  have hval : ∀ (j : Nat) t v, Try.f8.params[j]? = some t → args[j]? = some v → Value.okWide Try.prog W .any base t v := hval0
  have hW' := hW
  obtain ⟨p, q, hA0, hV, rfl, hfz, hnd⟩ := hW
  have hA : DataW.TrodAll enc Try.prog W 0 (fun _ => true) true Try.f8.params.toList args.toList ds p := hA0
  rw [Try.params8] at hA hval
  obtain ⟨v0, vs0, d0, ds0, p0, q0, hargs, rfl, rfl, h0, r0⟩ := trodAll_cons hA
  obtain ⟨rfl, rfl, rfl⟩ := trodAll_nil r0
  obtain rfl : args = #[v0] := by cases args; simp_all
  obtain ⟨rfl, rfl⟩ := trodVars_none hV
  obtain ⟨a0, rfl, rfl, rfl, w0⟩ := open_int Try.underlying2 (hval 0 2 v0 rfl rfl) h0
  clear hA0 hval0
  simp only [List.append_nil] at hW'
  refine (walk a0 w0 W).mono fun e W' ⟨he, hg⟩ => ?_
  subst he
  exact ⟨_, rfl, post_of_same (pa := []) (pv := []) hW' (fun _ _ _ => (trodAll_cons_mk (shut_bool Try.underlying4 _) trodAll_mk0)) (fun sp _ => (trodAll_cons_mk (shut_int Try.underlying2 w0) trodAll_mk0)) (fun _ _ => rfl) rfl
    (hg.frame _) hg.2.1 (ok_one (by kernel_rfl) rfl (okWide_bool_mk Try.underlying4 _))⟩

theorem proved : Rows.FloEdgesSaid :=
  OpenClaim.holds_of_wide 8 Try.f8 rfl rfl rfl rfl rfl rfl rfl ⟨rfl, rfl, rfl, rfl, rfl⟩ rfl rfl rfl rfl rfl (by kernel_rfl) Try.func8 (by kernel_rfl)
    (of_decide_eq_true (by kernel_rfl)) (by unfold Func.isWrapper; first | (rw [if_pos (by decide +kernel)]; kernel_rfl) | (rw [if_neg (by decide +kernel)]; exact ⟨rfl, rfl⟩))
    (fun os started H enc _ => lifted os started H enc)
#print axioms proved
end Go.Proofs.Ytljpeehnjjbebaa.floEdges

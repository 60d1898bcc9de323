/-
  FloDouble (layer 1, flo): for every n the call returns true: twice a number, neither very small nor very great, has the code that lies 2^52 further from 0; half of that is it again. No condition.
-/
import Derived.Test.YtljpeehnjjbebaaRows
import Derived.Test.YtljpeehnjjbebaaFloArith
import Derived.Test.YtljpeehnjjbebaaFloLaws
import Derived.WalkKit
import Derived.ProofKit
import Derived.OpenShut
namespace Go.Proofs.Ytljpeehnjjbebaa.floDouble
open Go.ChangeShapes Go.WideShapes Go.ChangeAt Go.RowKit FloM
set_option linter.unusedVariables false

theorem two_back : backW (ofC 2) = 4611686018427387904 := by decide

theorem facts (n : Int) (s : Bool) (r : Nat) (hc : n = if s then -1 - (r : Int) else r) (h : 4503599627370496 ≤ r) (h2 : r < 2046 * 4503599627370496) :
    mulC n (ofC 2) = (if s then n - 4503599627370496 else n + 4503599627370496) ∧ divC (if s then n - 4503599627370496 else n + 4503599627370496) (ofC 2) = n ∧ addC n n = (if s then n - 4503599627370496 else n + 4503599627370496) := by
  have hi : r + 4503599627370496 < infR := by unfold infR; omega
  have hr : r ≤ infR := by omega
  have e0 : code s r = n := by rw [code_of hr, hc]
  have e1 : code s (r + 4503599627370496) = (if s then n - 4503599627370496 else n + 4503599627370496) := by
    rw [code_of (by omega), hc]; cases s <;> simp <;> omega
  have b0 : backW n = wd s r := by rw [← e0]; exact back_code _ _ hr
  have b1 : backW (if s then n - 4503599627370496 else n + 4503599627370496) = wd s (r + 4503599627370496) := by rw [← e1]; exact back_code _ _ (by omega)
  refine ⟨?_, ?_, ?_⟩
  · unfold mulC; rw [two_back, b0, mul_two_wd s r h hi, codeO_wd (by omega), e1]
  · unfold divC; rw [two_back, b1, div_two_wd s r h hi, codeO_wd hr, e0]
  · unfold addC; rw [b0, add_self_wd s r h hi, codeO_wd (by omega), e1]

set_option maxHeartbeats 1000000 in
theorem walk_pos (n : Int) (w : World) (h0 : 0 ≤ n) (h1 : 4503599627370496 ≤ n) (h2 : n < 9214364837600034816) (f1 : mulC n (ofC 2) = n + 4503599627370496) (f2 : (divC (n + 4503599627370496) (ofC 2) == n) = true) (f3 : (addC n n == n + 4503599627370496) = true) :
    Calls Try.prog 9 #[.int .i64 n] w fun e w' => e = .returned (.bool true) ∧ Grown w w' := by
  go_enter Try.func9, Try.ntmps9
  go_wp2_with (first | (go_at_call 10; refine (awake_any _).mono ?_; rintro e w' ⟨rfl, rfl⟩) | (go_at_call 16; refine (back_any _ _).mono ?_; rintro e w' ⟨rfl, rfl⟩) | (go_at_call 11; refine (code_any _ _ (by first | exact backW_lt _ | assumption)).mono ?_; rintro e w' ⟨rfl, rfl⟩) | (go_at_call 13; refine (right_any _ _).mono ?_; rintro e w' ⟨rfl, rfl⟩) | (go_at_call 22; refine (of_any _ _).mono ?_; rintro e w' ⟨rfl, rfl⟩) | (go_at_call 18; refine (add_any _ _ _).mono ?_; rintro e w' ⟨rfl, hd⟩) | (go_at_call 19; refine (sub_any _ _ _).mono ?_; rintro e w' ⟨rfl, hd⟩) | (go_at_call 20; refine (mul_any _ _ _).mono ?_; rintro e w' ⟨rfl, hd⟩) | (go_at_call 21; refine (div_any _ _ _).mono ?_; rintro e w' ⟨rfl, hd⟩))
  go_ret
  exact ⟨rfl, Drawn.grown (by repeat (first | exact Drawn.refl _ | refine Drawn.trans ?_ ‹Drawn _ _›))⟩
set_option maxHeartbeats 1000000 in
theorem walk_neg (n : Int) (w : World) (h0 : n < 0) (h1 : n ≤ -4503599627370497) (h2 : -9214364837600034817 < n) (f1 : mulC n (ofC 2) = n - 4503599627370496) (f2 : (divC (n - 4503599627370496) (ofC 2) == n) = true) (f3 : (addC n n == n - 4503599627370496) = true) :
    Calls Try.prog 9 #[.int .i64 n] w fun e w' => e = .returned (.bool true) ∧ Grown w w' := by
  go_enter Try.func9, Try.ntmps9
  go_wp2_with (first | (go_at_call 10; refine (awake_any _).mono ?_; rintro e w' ⟨rfl, rfl⟩) | (go_at_call 16; refine (back_any _ _).mono ?_; rintro e w' ⟨rfl, rfl⟩) | (go_at_call 11; refine (code_any _ _ (by first | exact backW_lt _ | assumption)).mono ?_; rintro e w' ⟨rfl, rfl⟩) | (go_at_call 13; refine (right_any _ _).mono ?_; rintro e w' ⟨rfl, rfl⟩) | (go_at_call 22; refine (of_any _ _).mono ?_; rintro e w' ⟨rfl, rfl⟩) | (go_at_call 18; refine (add_any _ _ _).mono ?_; rintro e w' ⟨rfl, hd⟩) | (go_at_call 19; refine (sub_any _ _ _).mono ?_; rintro e w' ⟨rfl, hd⟩) | (go_at_call 20; refine (mul_any _ _ _).mono ?_; rintro e w' ⟨rfl, hd⟩) | (go_at_call 21; refine (div_any _ _ _).mono ?_; rintro e w' ⟨rfl, hd⟩))
  go_ret
  exact ⟨rfl, Drawn.grown (by repeat (first | exact Drawn.refl _ | refine Drawn.trans ?_ ‹Drawn _ _›))⟩
set_option maxHeartbeats 1000000 in
theorem walk_out (n : Int) (w : World) (b0 : -9223372036854775808 ≤ n) (b1 : n < 9223372036854775808) (h : (-4503599627370497 < n ∧ n < 4503599627370496) ∨ n ≤ -9214364837600034817 ∨ 9214364837600034816 ≤ n) :
    Calls Try.prog 9 #[.int .i64 n] w fun e w' => e = .returned (.bool true) ∧ Grown w w' := by
  by_cases h0 : n < 0
  · rcases h with ⟨h, _⟩ | h | h
    · have h' : -1 - n < 4503599627370496 := by omega
      go_enter Try.func9, Try.ntmps9
      go_wp2_with (first | (go_at_call 10; refine (awake_any _).mono ?_; rintro e w' ⟨rfl, rfl⟩) | (go_at_call 16; refine (back_any _ _).mono ?_; rintro e w' ⟨rfl, rfl⟩) | (go_at_call 11; refine (code_any _ _ (by first | exact backW_lt _ | assumption)).mono ?_; rintro e w' ⟨rfl, rfl⟩) | (go_at_call 13; refine (right_any _ _).mono ?_; rintro e w' ⟨rfl, rfl⟩) | (go_at_call 22; refine (of_any _ _).mono ?_; rintro e w' ⟨rfl, rfl⟩) | (go_at_call 18; refine (add_any _ _ _).mono ?_; rintro e w' ⟨rfl, hd⟩) | (go_at_call 19; refine (sub_any _ _ _).mono ?_; rintro e w' ⟨rfl, hd⟩) | (go_at_call 20; refine (mul_any _ _ _).mono ?_; rintro e w' ⟨rfl, hd⟩) | (go_at_call 21; refine (div_any _ _ _).mono ?_; rintro e w' ⟨rfl, hd⟩))
      all_goals (go_ret; exact ⟨rfl, Grown.refl _⟩)
    · have h' : 9214364837600034816 ≤ -1 - n := by omega
      go_enter Try.func9, Try.ntmps9
      go_wp2_with (first | (go_at_call 10; refine (awake_any _).mono ?_; rintro e w' ⟨rfl, rfl⟩) | (go_at_call 16; refine (back_any _ _).mono ?_; rintro e w' ⟨rfl, rfl⟩) | (go_at_call 11; refine (code_any _ _ (by first | exact backW_lt _ | assumption)).mono ?_; rintro e w' ⟨rfl, rfl⟩) | (go_at_call 13; refine (right_any _ _).mono ?_; rintro e w' ⟨rfl, rfl⟩) | (go_at_call 22; refine (of_any _ _).mono ?_; rintro e w' ⟨rfl, rfl⟩) | (go_at_call 18; refine (add_any _ _ _).mono ?_; rintro e w' ⟨rfl, hd⟩) | (go_at_call 19; refine (sub_any _ _ _).mono ?_; rintro e w' ⟨rfl, hd⟩) | (go_at_call 20; refine (mul_any _ _ _).mono ?_; rintro e w' ⟨rfl, hd⟩) | (go_at_call 21; refine (div_any _ _ _).mono ?_; rintro e w' ⟨rfl, hd⟩))
      all_goals (go_ret; exact ⟨rfl, Grown.refl _⟩)
    · omega
  · have h0 : 0 ≤ n := by omega
    rcases h with ⟨_, h⟩ | h | h
    · go_enter Try.func9, Try.ntmps9
      go_wp2_with (first | (go_at_call 10; refine (awake_any _).mono ?_; rintro e w' ⟨rfl, rfl⟩) | (go_at_call 16; refine (back_any _ _).mono ?_; rintro e w' ⟨rfl, rfl⟩) | (go_at_call 11; refine (code_any _ _ (by first | exact backW_lt _ | assumption)).mono ?_; rintro e w' ⟨rfl, rfl⟩) | (go_at_call 13; refine (right_any _ _).mono ?_; rintro e w' ⟨rfl, rfl⟩) | (go_at_call 22; refine (of_any _ _).mono ?_; rintro e w' ⟨rfl, rfl⟩) | (go_at_call 18; refine (add_any _ _ _).mono ?_; rintro e w' ⟨rfl, hd⟩) | (go_at_call 19; refine (sub_any _ _ _).mono ?_; rintro e w' ⟨rfl, hd⟩) | (go_at_call 20; refine (mul_any _ _ _).mono ?_; rintro e w' ⟨rfl, hd⟩) | (go_at_call 21; refine (div_any _ _ _).mono ?_; rintro e w' ⟨rfl, hd⟩))
      all_goals (go_ret; exact ⟨rfl, Grown.refl _⟩)
    · omega
    · go_enter Try.func9, Try.ntmps9
      go_wp2_with (first | (go_at_call 10; refine (awake_any _).mono ?_; rintro e w' ⟨rfl, rfl⟩) | (go_at_call 16; refine (back_any _ _).mono ?_; rintro e w' ⟨rfl, rfl⟩) | (go_at_call 11; refine (code_any _ _ (by first | exact backW_lt _ | assumption)).mono ?_; rintro e w' ⟨rfl, rfl⟩) | (go_at_call 13; refine (right_any _ _).mono ?_; rintro e w' ⟨rfl, rfl⟩) | (go_at_call 22; refine (of_any _ _).mono ?_; rintro e w' ⟨rfl, rfl⟩) | (go_at_call 18; refine (add_any _ _ _).mono ?_; rintro e w' ⟨rfl, hd⟩) | (go_at_call 19; refine (sub_any _ _ _).mono ?_; rintro e w' ⟨rfl, hd⟩) | (go_at_call 20; refine (mul_any _ _ _).mono ?_; rintro e w' ⟨rfl, hd⟩) | (go_at_call 21; refine (div_any _ _ _).mono ?_; rintro e w' ⟨rfl, hd⟩))
      all_goals (go_ret; exact ⟨rfl, Grown.refl _⟩)

theorem walk (a0 : Int) (w0 : (Lit.int .i64 a0).wf = true) (w : World) :
    Calls Try.prog 9 #[.int .i64 a0] w fun e w' => e = .returned (.bool true) ∧ Grown w w' := by
  have hb : -9223372036854775808 ≤ a0 ∧ a0 ≤ 9223372036854775807 := by simpa [Lit.wf, IntKind.min, IntKind.max, IntKind.signed, IntKind.bits] using w0
  by_cases h : (-4503599627370497 < a0 ∧ a0 < 4503599627370496) ∨ a0 ≤ -9214364837600034817 ∨ 9214364837600034816 ≤ a0
  · exact walk_out a0 w hb.1 (by omega) h
  · by_cases h0 : 0 ≤ a0
    · obtain ⟨f1, f2, f3⟩ := facts a0 false a0.toNat (by simp; omega) (by omega) (by omega)
      simp only [Bool.false_eq_true, if_false] at f1 f2 f3
      exact walk_pos a0 w h0 (by omega) (by omega) f1 (by rw [f2]; simp) (by rw [f3]; simp)
    · obtain ⟨f1, f2, f3⟩ := facts a0 true (-1 - a0).toNat (by simp; omega) (by omega) (by omega)
      simp only [if_true] at f1 f2 f3
      exact walk_neg a0 w (by omega) (by omega) (by omega) f1 (by rw [f2]; simp) (by rw [f3]; simp)

theorem own : ownKnob Try.prog.godebug = none := by kernel_rfl

set_option maxRecDepth 100000 in
theorem lifted (os : Os) (started : os.Started) (H : Type) (enc : TypeId × Value → H) :
    ReturnsInHanded {} Try.checked os 9 .any (Rows.floDoubleSpec.pre6 enc Try.prog Try.f9 Rows.floDoubleRow.domain false) (Rows.floDoubleSpec.post enc Try.prog Try.f9 false true false false) := by
  refine returnsInHanded_of_change (C := Try.checked) own started (by kernel_rfl) Try.func9
    (ChangeSpec.witness6 (enc := enc) (C := Try.checked) false ⟨#[], #[.int .i64 0], []⟩ 8 (by kernel_rfl) (by kernel_rfl) (by kernel_rfl) (by kernel_rfl)) ?_
  intro W base args ds gs before hval0 hW hcnd _
  have hval : ∀ (j : Nat) t v, Try.f9.params[j]? = some t → args[j]? = some v → Value.okWide Try.prog W .any base t v := hval0
  have hW' := hW
  obtain ⟨p, q, hA0, hV, rfl, hfz, hnd⟩ := hW
  have hA : DataW.TrodAll enc Try.prog W 0 (fun _ => true) true Try.f9.params.toList args.toList ds p := hA0
  rw [Try.params9] at hA hval
  obtain ⟨v0, vs0, d0, ds0, p0, q0, hargs, rfl, rfl, h0, r0⟩ := trodAll_cons hA
  obtain ⟨rfl, rfl, rfl⟩ := trodAll_nil r0
  obtain rfl : args = #[v0] := by cases args; simp_all
  obtain ⟨rfl, rfl⟩ := trodVars_none hV
  obtain ⟨a0, rfl, rfl, rfl, w0⟩ := open_int Try.underlying2 (hval 0 2 v0 rfl rfl) h0
  clear hA0 hval0
  simp only [List.append_nil] at hW'
  refine (walk a0 w0 W).mono fun e W' ⟨he, hg⟩ => ?_
  subst he
  exact ⟨_, rfl, post_of_same (pa := []) (pv := []) hW' (fun _ _ _ => (trodAll_cons_mk (shut_bool Try.underlying4 _) trodAll_mk0)) (fun sp _ => (trodAll_cons_mk (shut_int Try.underlying2 w0) trodAll_mk0)) (fun _ _ => rfl) rfl
    (hg.frame _) hg.2.1 (ok_one (by kernel_rfl) rfl (okWide_bool_mk Try.underlying4 _))⟩

theorem proved : Rows.FloDoubleSaid :=
  OpenClaim.holds_of_wide 9 Try.f9 rfl rfl rfl rfl rfl rfl rfl ⟨rfl, rfl, rfl, rfl, rfl⟩ rfl rfl rfl rfl rfl (by kernel_rfl) Try.func9 (by kernel_rfl)
    (of_decide_eq_true (by kernel_rfl)) (by unfold Func.isWrapper; first | (rw [if_pos (by decide +kernel)]; kernel_rfl) | (rw [if_neg (by decide +kernel)]; exact ⟨rfl, rfl⟩))
    (fun os started H enc _ => lifted os started H enc)
#print axioms proved
end Go.Proofs.Ytljpeehnjjbebaa.floDouble

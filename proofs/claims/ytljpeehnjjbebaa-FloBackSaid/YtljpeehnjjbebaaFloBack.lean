/-
  FloBack (layer 1, flo): for every f and n the call returns true: what is coded comes back, what comes back is coded as it was, all NaN have one code. No condition.
-/
import Derived.Test.YtljpeehnjjbebaaRows
import Derived.Test.YtljpeehnjjbebaaFloArith
import Derived.Test.YtljpeehnjjbebaaFloLaws
import Derived.WalkKit
import Derived.ProofKit
import Derived.OpenShut
namespace Go.Proofs.Ytljpeehnjjbebaa.floBack
open Go.ChangeShapes Go.WideShapes Go.ChangeAt Go.RowKit FloM
set_option linter.unusedVariables false

theorem back_same (x : Nat) (hx : x < 18446744073709551616) : right (codeW x) = true ∧ ((isN (backW (codeW x)) = true ∧ isN x = true) ∨ (isN (backW (codeW x)) = false ∧ backW (codeW x) = x)) := by
  obtain ⟨s, r, hr, rfl⟩ := wd_of x hx
  rw [codeW_wd s r hr]
  refine ⟨right_code s r hr, ?_⟩
  by_cases h : infR < r
  · left; exact ⟨by rw [back_code_nan s r h]; decide, by rw [isN_wd s r hr]; simpa using h⟩
  · right; rw [back_code s r (by omega)]; exact ⟨by rw [isN_wd s r hr]; simpa using h, rfl⟩

set_option maxHeartbeats 1000000 in
theorem walk_bad (x : Nat) (n : Int) (w : World) (hx : x < 18446744073709551616) (hr : right (codeW x) = true) (hs : (isN (backW (codeW x)) = true ∧ isN x = true) ∨ (isN (backW (codeW x)) = false ∧ backW (codeW x) = x))
    (hn : right n = false) (ho : (FloatKind.f64.format.order (backW n) (backW n) != some .eq) = true) :
    Calls Try.prog 5 #[.float .f64 x, .int .i64 n] w fun e w' => e = .returned (.bool true) ∧ Grown w w' := by
  have HS := Lib.hid hs; clear hs
  go_enter Try.func5, Try.ntmps5
  go_wp2_with (first | (go_at_call 10; refine (awake_any _).mono ?_; rintro e w' ⟨rfl, rfl⟩) | (go_at_call 16; refine (back_any _ _).mono ?_; rintro e w' ⟨rfl, rfl⟩) | (go_at_call 11; refine (code_any _ _ (by first | exact backW_lt _ | assumption)).mono ?_; rintro e w' ⟨rfl, rfl⟩) | (go_at_call 15; refine (same_any _ _ _ (by first | exact backW_lt _ | assumption) (by first | exact backW_lt _ | assumption) (by first | exact HS.out | assumption)).mono ?_; rintro e w' ⟨rfl, rfl⟩) | (go_at_call 13; refine (right_any _ _).mono ?_; rintro e w' ⟨rfl, rfl⟩) | (go_at_call 22; refine (of_any _ _).mono ?_; rintro e w' ⟨rfl, rfl⟩) | (go_at_call 18; refine (add_any _ _ _).mono ?_; rintro e w' ⟨rfl, hd⟩) | (go_at_call 19; refine (sub_any _ _ _).mono ?_; rintro e w' ⟨rfl, hd⟩) | (go_at_call 20; refine (mul_any _ _ _).mono ?_; rintro e w' ⟨rfl, hd⟩) | (go_at_call 21; refine (div_any _ _ _).mono ?_; rintro e w' ⟨rfl, hd⟩))
  go_ret
  exact ⟨rfl, Drawn.grown (by repeat (first | exact Drawn.refl _ | refine Drawn.trans ?_ ‹Drawn _ _›))⟩
set_option maxHeartbeats 1000000 in
theorem walk_yes (x : Nat) (n : Int) (w : World) (hx : x < 18446744073709551616) (hr : right (codeW x) = true) (hs : (isN (backW (codeW x)) = true ∧ isN x = true) ∨ (isN (backW (codeW x)) = false ∧ backW (codeW x) = x))
    (hn : right n = true) (ho : (codeW (backW n) == n) = true) :
    Calls Try.prog 5 #[.float .f64 x, .int .i64 n] w fun e w' => e = .returned (.bool true) ∧ Grown w w' := by
  have HS := Lib.hid hs; clear hs
  go_enter Try.func5, Try.ntmps5
  go_wp2_with (first | (go_at_call 10; refine (awake_any _).mono ?_; rintro e w' ⟨rfl, rfl⟩) | (go_at_call 16; refine (back_any _ _).mono ?_; rintro e w' ⟨rfl, rfl⟩) | (go_at_call 11; refine (code_any _ _ (by first | exact backW_lt _ | assumption)).mono ?_; rintro e w' ⟨rfl, rfl⟩) | (go_at_call 15; refine (same_any _ _ _ (by first | exact backW_lt _ | assumption) (by first | exact backW_lt _ | assumption) (by first | exact HS.out | assumption)).mono ?_; rintro e w' ⟨rfl, rfl⟩) | (go_at_call 13; refine (right_any _ _).mono ?_; rintro e w' ⟨rfl, rfl⟩) | (go_at_call 22; refine (of_any _ _).mono ?_; rintro e w' ⟨rfl, rfl⟩) | (go_at_call 18; refine (add_any _ _ _).mono ?_; rintro e w' ⟨rfl, hd⟩) | (go_at_call 19; refine (sub_any _ _ _).mono ?_; rintro e w' ⟨rfl, hd⟩) | (go_at_call 20; refine (mul_any _ _ _).mono ?_; rintro e w' ⟨rfl, hd⟩) | (go_at_call 21; refine (div_any _ _ _).mono ?_; rintro e w' ⟨rfl, hd⟩))
  go_ret
  exact ⟨rfl, Drawn.grown (by repeat (first | exact Drawn.refl _ | refine Drawn.trans ?_ ‹Drawn _ _›))⟩

theorem walk (a0 : Nat) (a1 : Int) (w0 : (Lit.float .f64 a0).wf = true) (w1 : (Lit.int .i64 a1).wf = true) (w : World) :
    Calls Try.prog 5 #[.float .f64 a0, .int .i64 a1] w fun e w' => e = .returned (.bool true) ∧ Grown w w' := by
  have hx : a0 < 18446744073709551616 := by simpa [Lit.wf] using w0
  obtain ⟨h1, h2⟩ := back_same a0 hx
  by_cases hn : right a1 = true
  · exact walk_yes a0 a1 w hx h1 h2 hn (by rw [code_back a1 hn]; simp)
  · have hn : right a1 = false := by simpa using hn
    refine walk_bad a0 a1 w hx h1 h2 hn ((order_self _ (backW_lt a1)).trans ?_)
    unfold backW backS backR; rw [hn]; rfl

theorem own : ownKnob Try.prog.godebug = none := by kernel_rfl

set_option maxRecDepth 100000 in
theorem lifted (os : Os) (started : os.Started) (H : Type) (enc : TypeId × Value → H) :
    ReturnsInHanded {} Try.checked os 5 .any (Rows.floBackSpec.pre6 enc Try.prog Try.f5 Rows.floBackRow.domain false) (Rows.floBackSpec.post enc Try.prog Try.f5 false true false false) := by
  refine returnsInHanded_of_change (C := Try.checked) own started (by kernel_rfl) Try.func5
    (ChangeSpec.witness6 (enc := enc) (C := Try.checked) false ⟨#[], #[.float .f64 0, .int .i64 0], []⟩ 8 (by kernel_rfl) (by kernel_rfl) (by kernel_rfl) (by kernel_rfl)) ?_
  intro W base args ds gs before hval0 hW hcnd _
  have hval : ∀ (j : Nat) t v, Try.f5.params[j]? = some t → args[j]? = some v → Value.okWide Try.prog W .any base t v := hval0
  have hW' := hW
  obtain ⟨p, q, hA0, hV, rfl, hfz, hnd⟩ := hW
  have hA : DataW.TrodAll enc Try.prog W 0 (fun _ => true) true Try.f5.params.toList args.toList ds p := hA0
  rw [Try.params5] at hA hval
  obtain ⟨v0, vs0, d0, ds0, p0, q0, hargs, rfl, rfl, h0, r0⟩ := trodAll_cons hA
  obtain ⟨v1, vs1, d1, ds1, p1, q1, rfl, rfl, rfl, h1, r1⟩ := trodAll_cons r0
  obtain ⟨rfl, rfl, rfl⟩ := trodAll_nil r1
  obtain rfl : args = #[v0, v1] := by cases args; simp_all
  obtain ⟨rfl, rfl⟩ := trodVars_none hV
  obtain ⟨a0, rfl, rfl, rfl, w0⟩ := open_float Try.underlying22 (hval 0 22 v0 rfl rfl) h0
  obtain ⟨a1, rfl, rfl, rfl, w1⟩ := open_int Try.underlying2 (hval 1 2 v1 rfl rfl) h1
  clear hA0 hval0
  simp only [List.append_nil] at hW'
  refine (walk a0 a1 w0 w1 W).mono fun e W' ⟨he, hg⟩ => ?_
  subst he
  exact ⟨_, rfl, post_of_same (pa := []) (pv := []) hW' (fun _ _ _ => (trodAll_cons_mk (shut_bool Try.underlying4 _) trodAll_mk0)) (fun sp _ => (trodAll_cons_mk (shut_float Try.underlying22 w0) (trodAll_cons_mk (shut_int Try.underlying2 w1) trodAll_mk0))) (fun _ _ => rfl) rfl
    (hg.frame _) hg.2.1 (ok_one (by kernel_rfl) rfl (okWide_bool_mk Try.underlying4 _))⟩

theorem proved : Rows.FloBackSaid :=
  OpenClaim.holds_of_wide 5 Try.f5 rfl rfl rfl rfl rfl rfl rfl ⟨rfl, rfl, rfl, rfl, rfl⟩ rfl rfl rfl rfl rfl (by kernel_rfl) Try.func5 (by kernel_rfl)
    (of_decide_eq_true (by kernel_rfl)) (by unfold Func.isWrapper; first | (rw [if_pos (by decide +kernel)]; kernel_rfl) | (rw [if_neg (by decide +kernel)]; exact ⟨rfl, rfl⟩))
    (fun os started H enc _ => lifted os started H enc)
#print axioms proved
end Go.Proofs.Ytljpeehnjjbebaa.floBack

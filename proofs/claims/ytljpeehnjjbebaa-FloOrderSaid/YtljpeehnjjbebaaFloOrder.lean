/-
  FloOrder (layer 1, flo): for every f and g the call returns true: codes are in the order of what they are codes of, -0 ahead of +0, NaN behind all. No condition.
-/
import Derived.Test.YtljpeehnjjbebaaRows
import Derived.Test.YtljpeehnjjbebaaFloArith
import Derived.Test.YtljpeehnjjbebaaFloLaws
import Derived.WalkKit
import Derived.ProofKit
import Derived.OpenShut
namespace Go.Proofs.Ytljpeehnjjbebaa.floOrder
open Go.ChangeShapes Go.WideShapes Go.ChangeAt Go.RowKit FloM
set_option linter.unusedVariables false

set_option maxRecDepth 100000 in
set_option maxHeartbeats 1000000 in
theorem walk_nn (x y : Nat) (w : World) (hx : x < 18446744073709551616) (hy : y < 18446744073709551616) (h1 : (FloatKind.f64.format.order x x != some .eq) = true) (h2 : (FloatKind.f64.format.order y y != some .eq) = true) (h3 : (FloatKind.f64.format.order y y == some .eq) = false)
    (c1 : decide (codeW y < codeW x) = false) (c2 : (codeW x == codeW y) = true) :
    Calls Try.prog 6 #[.float .f64 x, .float .f64 y] w fun e w' => e = .returned (.bool true) ∧ Grown w w' := by
  go_enter Try.func6, Try.ntmps6
  go_wp2_with (first | (go_at_call 10; refine (awake_any _).mono ?_; rintro e w' ⟨rfl, rfl⟩) | (go_at_call 16; refine (back_any _ _).mono ?_; rintro e w' ⟨rfl, rfl⟩) | (go_at_call 11; refine (code_any _ _ (by first | exact backW_lt _ | assumption)).mono ?_; rintro e w' ⟨rfl, rfl⟩) | (go_at_call 15; refine (same_any _ _ _ (by first | exact backW_lt _ | assumption) (by first | exact backW_lt _ | assumption) (by first | exact HS.out | assumption)).mono ?_; rintro e w' ⟨rfl, rfl⟩) | (go_at_call 13; refine (right_any _ _).mono ?_; rintro e w' ⟨rfl, rfl⟩) | (go_at_call 22; refine (of_any _ _).mono ?_; rintro e w' ⟨rfl, rfl⟩) | (go_at_call 18; refine (add_any _ _ _).mono ?_; rintro e w' ⟨rfl, hd⟩) | (go_at_call 19; refine (sub_any _ _ _).mono ?_; rintro e w' ⟨rfl, hd⟩) | (go_at_call 20; refine (mul_any _ _ _).mono ?_; rintro e w' ⟨rfl, hd⟩) | (go_at_call 21; refine (div_any _ _ _).mono ?_; rintro e w' ⟨rfl, hd⟩))
  go_ret
  exact ⟨rfl, Drawn.grown (by repeat (first | exact Drawn.refl _ | refine Drawn.trans ?_ ‹Drawn _ _›))⟩
set_option maxRecDepth 100000 in
set_option maxHeartbeats 1000000 in
theorem walk_nx (x y : Nat) (w : World) (hx : x < 18446744073709551616) (hy : y < 18446744073709551616) (h1 : (FloatKind.f64.format.order x x != some .eq) = true) (h2 : (FloatKind.f64.format.order y y != some .eq) = false) (h3 : (FloatKind.f64.format.order y y == some .eq) = true)
    (c1 : decide (codeW y < codeW x) = true) (c2 : (codeW x == codeW y) = false) :
    Calls Try.prog 6 #[.float .f64 x, .float .f64 y] w fun e w' => e = .returned (.bool true) ∧ Grown w w' := by
  go_enter Try.func6, Try.ntmps6
  go_wp2_with (first | (go_at_call 10; refine (awake_any _).mono ?_; rintro e w' ⟨rfl, rfl⟩) | (go_at_call 16; refine (back_any _ _).mono ?_; rintro e w' ⟨rfl, rfl⟩) | (go_at_call 11; refine (code_any _ _ (by first | exact backW_lt _ | assumption)).mono ?_; rintro e w' ⟨rfl, rfl⟩) | (go_at_call 15; refine (same_any _ _ _ (by first | exact backW_lt _ | assumption) (by first | exact backW_lt _ | assumption) (by first | exact HS.out | assumption)).mono ?_; rintro e w' ⟨rfl, rfl⟩) | (go_at_call 13; refine (right_any _ _).mono ?_; rintro e w' ⟨rfl, rfl⟩) | (go_at_call 22; refine (of_any _ _).mono ?_; rintro e w' ⟨rfl, rfl⟩) | (go_at_call 18; refine (add_any _ _ _).mono ?_; rintro e w' ⟨rfl, hd⟩) | (go_at_call 19; refine (sub_any _ _ _).mono ?_; rintro e w' ⟨rfl, hd⟩) | (go_at_call 20; refine (mul_any _ _ _).mono ?_; rintro e w' ⟨rfl, hd⟩) | (go_at_call 21; refine (div_any _ _ _).mono ?_; rintro e w' ⟨rfl, hd⟩))
  go_ret
  exact ⟨rfl, Drawn.grown (by repeat (first | exact Drawn.refl _ | refine Drawn.trans ?_ ‹Drawn _ _›))⟩
set_option maxRecDepth 100000 in
set_option maxHeartbeats 1000000 in
theorem walk_xn (x y : Nat) (w : World) (hx : x < 18446744073709551616) (hy : y < 18446744073709551616) (h1 : (FloatKind.f64.format.order x x != some .eq) = false) (h2 : (FloatKind.f64.format.order y y != some .eq) = true)
    (c1 : decide (codeW y < codeW x) = false) (c2 : (codeW x == codeW y) = false) :
    Calls Try.prog 6 #[.float .f64 x, .float .f64 y] w fun e w' => e = .returned (.bool true) ∧ Grown w w' := by
  go_enter Try.func6, Try.ntmps6
  go_wp2_with (first | (go_at_call 10; refine (awake_any _).mono ?_; rintro e w' ⟨rfl, rfl⟩) | (go_at_call 16; refine (back_any _ _).mono ?_; rintro e w' ⟨rfl, rfl⟩) | (go_at_call 11; refine (code_any _ _ (by first | exact backW_lt _ | assumption)).mono ?_; rintro e w' ⟨rfl, rfl⟩) | (go_at_call 15; refine (same_any _ _ _ (by first | exact backW_lt _ | assumption) (by first | exact backW_lt _ | assumption) (by first | exact HS.out | assumption)).mono ?_; rintro e w' ⟨rfl, rfl⟩) | (go_at_call 13; refine (right_any _ _).mono ?_; rintro e w' ⟨rfl, rfl⟩) | (go_at_call 22; refine (of_any _ _).mono ?_; rintro e w' ⟨rfl, rfl⟩) | (go_at_call 18; refine (add_any _ _ _).mono ?_; rintro e w' ⟨rfl, hd⟩) | (go_at_call 19; refine (sub_any _ _ _).mono ?_; rintro e w' ⟨rfl, hd⟩) | (go_at_call 20; refine (mul_any _ _ _).mono ?_; rintro e w' ⟨rfl, hd⟩) | (go_at_call 21; refine (div_any _ _ _).mono ?_; rintro e w' ⟨rfl, hd⟩))
  go_ret
  exact ⟨rfl, Drawn.grown (by repeat (first | exact Drawn.refl _ | refine Drawn.trans ?_ ‹Drawn _ _›))⟩
set_option maxRecDepth 100000 in
set_option maxHeartbeats 1000000 in
theorem walk_zz (x y r q : Nat) (b c : Bool) (w : World) (hx : x < 18446744073709551616) (hy : y < 18446744073709551616) (h1 : (FloatKind.f64.format.order x x != some .eq) = false) (h2 : (FloatKind.f64.format.order y y != some .eq) = false)
    (z1 : (FloatKind.f64.format.order x 0 == some .eq) = true) (z2 : (FloatKind.f64.format.order y 0 == some .eq) = true) (d1 : Ieee.double.div 4607182418800017408 x = some r) (d2 : Ieee.double.div 4607182418800017408 y = some q)
    (c1 : decide (codeW x < codeW y) = b) (c2 : (codeW x == codeW y) = c) (o1 : (FloatKind.f64.format.order r q == some .lt) = b) (o2 : (FloatKind.f64.format.order r q == some .eq) = c) :
    Calls Try.prog 6 #[.float .f64 x, .float .f64 y] w fun e w' => e = .returned (.bool true) ∧ Grown w w' := by
  go_enter Try.func6, Try.ntmps6
  go_wp2_with (first | (go_at_call 10; refine (awake_any _).mono ?_; rintro e w' ⟨rfl, rfl⟩) | (go_at_call 16; refine (back_any _ _).mono ?_; rintro e w' ⟨rfl, rfl⟩) | (go_at_call 11; refine (code_any _ _ (by first | exact backW_lt _ | assumption)).mono ?_; rintro e w' ⟨rfl, rfl⟩) | (go_at_call 15; refine (same_any _ _ _ (by first | exact backW_lt _ | assumption) (by first | exact backW_lt _ | assumption) (by first | exact HS.out | assumption)).mono ?_; rintro e w' ⟨rfl, rfl⟩) | (go_at_call 13; refine (right_any _ _).mono ?_; rintro e w' ⟨rfl, rfl⟩) | (go_at_call 22; refine (of_any _ _).mono ?_; rintro e w' ⟨rfl, rfl⟩) | (go_at_call 18; refine (add_any _ _ _).mono ?_; rintro e w' ⟨rfl, hd⟩) | (go_at_call 19; refine (sub_any _ _ _).mono ?_; rintro e w' ⟨rfl, hd⟩) | (go_at_call 20; refine (mul_any _ _ _).mono ?_; rintro e w' ⟨rfl, hd⟩) | (go_at_call 21; refine (div_any _ _ _).mono ?_; rintro e w' ⟨rfl, hd⟩))
  go_ret
  exact ⟨rfl, Drawn.grown (by repeat (first | exact Drawn.refl _ | refine Drawn.trans ?_ ‹Drawn _ _›))⟩
set_option maxRecDepth 100000 in
set_option maxHeartbeats 1000000 in
theorem walk_xx (x y : Nat) (b c : Bool) (w : World) (hx : x < 18446744073709551616) (hy : y < 18446744073709551616) (h1 : (FloatKind.f64.format.order x x != some .eq) = false) (h2 : (FloatKind.f64.format.order y y != some .eq) = false)
    (z1 : (FloatKind.f64.format.order x 0 == some .eq) = false)
    (c1 : decide (codeW x < codeW y) = b) (c2 : (codeW x == codeW y) = c) (o1 : (FloatKind.f64.format.order x y == some .lt) = b) (o2 : (FloatKind.f64.format.order x y == some .eq) = c) :
    Calls Try.prog 6 #[.float .f64 x, .float .f64 y] w fun e w' => e = .returned (.bool true) ∧ Grown w w' := by
  go_enter Try.func6, Try.ntmps6
  go_wp2_with (first | (go_at_call 10; refine (awake_any _).mono ?_; rintro e w' ⟨rfl, rfl⟩) | (go_at_call 16; refine (back_any _ _).mono ?_; rintro e w' ⟨rfl, rfl⟩) | (go_at_call 11; refine (code_any _ _ (by first | exact backW_lt _ | assumption)).mono ?_; rintro e w' ⟨rfl, rfl⟩) | (go_at_call 15; refine (same_any _ _ _ (by first | exact backW_lt _ | assumption) (by first | exact backW_lt _ | assumption) (by first | exact HS.out | assumption)).mono ?_; rintro e w' ⟨rfl, rfl⟩) | (go_at_call 13; refine (right_any _ _).mono ?_; rintro e w' ⟨rfl, rfl⟩) | (go_at_call 22; refine (of_any _ _).mono ?_; rintro e w' ⟨rfl, rfl⟩) | (go_at_call 18; refine (add_any _ _ _).mono ?_; rintro e w' ⟨rfl, hd⟩) | (go_at_call 19; refine (sub_any _ _ _).mono ?_; rintro e w' ⟨rfl, hd⟩) | (go_at_call 20; refine (mul_any _ _ _).mono ?_; rintro e w' ⟨rfl, hd⟩) | (go_at_call 21; refine (div_any _ _ _).mono ?_; rintro e w' ⟨rfl, hd⟩))
  go_ret
  exact ⟨rfl, Drawn.grown (by repeat (first | exact Drawn.refl _ | refine Drawn.trans ?_ ‹Drawn _ _›))⟩
set_option maxRecDepth 100000 in
set_option maxHeartbeats 1000000 in
theorem walk_zx (x y : Nat) (b c : Bool) (w : World) (hx : x < 18446744073709551616) (hy : y < 18446744073709551616) (h1 : (FloatKind.f64.format.order x x != some .eq) = false) (h2 : (FloatKind.f64.format.order y y != some .eq) = false)
    (z1 : (FloatKind.f64.format.order x 0 == some .eq) = true) (z2 : (FloatKind.f64.format.order y 0 == some .eq) = false)
    (c1 : decide (codeW x < codeW y) = b) (c2 : (codeW x == codeW y) = c) (o1 : (FloatKind.f64.format.order x y == some .lt) = b) (o2 : (FloatKind.f64.format.order x y == some .eq) = c) :
    Calls Try.prog 6 #[.float .f64 x, .float .f64 y] w fun e w' => e = .returned (.bool true) ∧ Grown w w' := by
  go_enter Try.func6, Try.ntmps6
  go_wp2_with (first | (go_at_call 10; refine (awake_any _).mono ?_; rintro e w' ⟨rfl, rfl⟩) | (go_at_call 16; refine (back_any _ _).mono ?_; rintro e w' ⟨rfl, rfl⟩) | (go_at_call 11; refine (code_any _ _ (by first | exact backW_lt _ | assumption)).mono ?_; rintro e w' ⟨rfl, rfl⟩) | (go_at_call 15; refine (same_any _ _ _ (by first | exact backW_lt _ | assumption) (by first | exact backW_lt _ | assumption) (by first | exact HS.out | assumption)).mono ?_; rintro e w' ⟨rfl, rfl⟩) | (go_at_call 13; refine (right_any _ _).mono ?_; rintro e w' ⟨rfl, rfl⟩) | (go_at_call 22; refine (of_any _ _).mono ?_; rintro e w' ⟨rfl, rfl⟩) | (go_at_call 18; refine (add_any _ _ _).mono ?_; rintro e w' ⟨rfl, hd⟩) | (go_at_call 19; refine (sub_any _ _ _).mono ?_; rintro e w' ⟨rfl, hd⟩) | (go_at_call 20; refine (mul_any _ _ _).mono ?_; rintro e w' ⟨rfl, hd⟩) | (go_at_call 21; refine (div_any _ _ _).mono ?_; rintro e w' ⟨rfl, hd⟩))
  go_ret
  exact ⟨rfl, Drawn.grown (by repeat (first | exact Drawn.refl _ | refine Drawn.trans ?_ ‹Drawn _ _›))⟩

theorem code_lt_nan {s : Bool} {r : Nat} (h : r ≤ infR) : code s r < NaNc := by
  rw [code_of h]; unfold infR at h; unfold NaNc; split <;> omega
theorem zeros (s t : Bool) : (FloatKind.f64.format.order (wd s infR) (wd t infR) == some .lt) = decide (codeW (wd s 0) < codeW (wd t 0)) ∧ (FloatKind.f64.format.order (wd s infR) (wd t infR) == some .eq) = (codeW (wd s 0) == codeW (wd t 0)) := by
  cases s <;> cases t <;> decide
theorem beq_bne_false {o : Option Ordering} (h : (o != some .eq) = true) : (o == some .eq) = false := by simpa [bne] using h

theorem walk (a0 : Nat) (a1 : Nat) (w0 : (Lit.float .f64 a0).wf = true) (w1 : (Lit.float .f64 a1).wf = true) (w : World) :
    Calls Try.prog 6 #[.float .f64 a0, .float .f64 a1] w fun e w' => e = .returned (.bool true) ∧ Grown w w' := by
  have hx : a0 < 18446744073709551616 := by simpa [Lit.wf] using w0
  have hy : a1 < 18446744073709551616 := by simpa [Lit.wf] using w1
  clear w0 w1
  have ox := order_self a0 hx
  have oy := order_self a1 hy
  by_cases nx : isN a0 = true
  · by_cases ny : isN a1 = true
    · refine walk_nn a0 a1 w hx hy (ox.trans nx) (oy.trans ny) (beq_bne_false (oy.trans ny)) ?_ ?_ <;> rw [codeW_isN nx, codeW_isN ny] <;> decide
    · have ny : isN a1 = false := by simpa using ny
      obtain ⟨t, q, hq, rfl⟩ := wd_of a1 hy
      have hle : q ≤ infR := by rw [isN_wd t q hq] at ny; simpa using ny
      have hlt := code_lt_nan (s := t) hle
      refine walk_nx a0 _ w hx hy (ox.trans nx) (oy.trans ny) (beq_of_bne (oy.trans ny)) ?_ ?_ <;> rw [codeW_isN nx, codeW_wd t q hq]
      · simpa using hlt
      · rw [beq_eq_false_iff_ne]; omega
  · have nx : isN a0 = false := by simpa using nx
    obtain ⟨s, r, hr, rfl⟩ := wd_of a0 hx
    have hrle : r ≤ infR := by rw [isN_wd s r hr] at nx; simpa using nx
    by_cases ny : isN a1 = true
    · have hlt := code_lt_nan (s := s) hrle
      refine walk_xn _ a1 w hx hy (ox.trans nx) (oy.trans ny) ?_ ?_ <;> rw [codeW_isN ny, codeW_wd s r hr]
      · simp only [decide_eq_false_iff_not]; omega
      · rw [beq_eq_false_iff_ne]; omega
    · have ny : isN a1 = false := by simpa using ny
      obtain ⟨t, q, hq, rfl⟩ := wd_of a1 hy
      have hqle : q ≤ infR := by rw [isN_wd t q hq] at ny; simpa using ny
      have zx := order_zero s r hrle
      have zy := order_zero t q hqle
      by_cases hz : r = 0 ∧ q = 0
      · obtain ⟨rfl, rfl⟩ := hz
        refine walk_zz _ _ (wd s infR) (wd t infR) (decide (codeW (wd s 0) < codeW (wd t 0))) (codeW (wd s 0) == codeW (wd t 0)) w hx hy (ox.trans nx) (oy.trans ny) (zx.trans rfl) (zy.trans rfl) (one_div_zero s) (one_div_zero t) rfl rfl ?_ ?_
        · exact (zeros s t).1
        · exact (zeros s t).2
      · obtain ⟨o1, o2⟩ := order_codes s t r q hrle hqle hz
        have e1 : (FloatKind.f64.format.order (wd s r) (wd t q) == some .lt) = decide (codeW (wd s r) < codeW (wd t q)) := by rw [codeW_wd s r hr, codeW_wd t q hq]; exact o1
        have e2 : (FloatKind.f64.format.order (wd s r) (wd t q) == some .eq) = (codeW (wd s r) == codeW (wd t q)) := by rw [codeW_wd s r hr, codeW_wd t q hq]; exact o2
        by_cases h0 : r = 0
        · have hq0 : q ≠ 0 := fun h => hz ⟨h0, h⟩
          exact walk_zx _ _ _ _ w hx hy (ox.trans nx) (oy.trans ny) (zx.trans (by simpa using h0)) (zy.trans (by simpa using hq0)) rfl rfl e1 e2
        · exact walk_xx _ _ _ _ w hx hy (ox.trans nx) (oy.trans ny) (zx.trans (by simpa using h0)) rfl rfl e1 e2

theorem own : ownKnob Try.prog.godebug = none := by kernel_rfl

set_option maxRecDepth 100000 in
theorem lifted (os : Os) (started : os.Started) (H : Type) (enc : TypeId × Value → H) :
    ReturnsInHanded {} Try.checked os 6 .any (Rows.floOrderSpec.pre6 enc Try.prog Try.f6 Rows.floOrderRow.domain false) (Rows.floOrderSpec.post enc Try.prog Try.f6 false true false false) := by
  refine returnsInHanded_of_change (C := Try.checked) own started (by kernel_rfl) Try.func6
    (ChangeSpec.witness6 (enc := enc) (C := Try.checked) false ⟨#[], #[.float .f64 0, .float .f64 0], []⟩ 8 (by kernel_rfl) (by kernel_rfl) (by kernel_rfl) (by kernel_rfl)) ?_
  intro W base args ds gs before hval0 hW hcnd _
  have hval : ∀ (j : Nat) t v, Try.f6.params[j]? = some t → args[j]? = some v → Value.okWide Try.prog W .any base t v := hval0
  have hW' := hW
  obtain ⟨p, q, hA0, hV, rfl, hfz, hnd⟩ := hW
  have hA : DataW.TrodAll enc Try.prog W 0 (fun _ => true) true Try.f6.params.toList args.toList ds p := hA0
  rw [Try.params6] at hA hval
  obtain ⟨v0, vs0, d0, ds0, p0, q0, hargs, rfl, rfl, h0, r0⟩ := trodAll_cons hA
  obtain ⟨v1, vs1, d1, ds1, p1, q1, rfl, rfl, rfl, h1, r1⟩ := trodAll_cons r0
  obtain ⟨rfl, rfl, rfl⟩ := trodAll_nil r1
  obtain rfl : args = #[v0, v1] := by cases args; simp_all
  obtain ⟨rfl, rfl⟩ := trodVars_none hV
  obtain ⟨a0, rfl, rfl, rfl, w0⟩ := open_float Try.underlying22 (hval 0 22 v0 rfl rfl) h0
  obtain ⟨a1, rfl, rfl, rfl, w1⟩ := open_float Try.underlying22 (hval 1 22 v1 rfl rfl) h1
  clear hA0 hval0
  simp only [List.append_nil] at hW'
  refine (walk a0 a1 w0 w1 W).mono fun e W' ⟨he, hg⟩ => ?_
  subst he
  exact ⟨_, rfl, post_of_same (pa := []) (pv := []) hW' (fun _ _ _ => (trodAll_cons_mk (shut_bool Try.underlying4 _) trodAll_mk0)) (fun sp _ => (trodAll_cons_mk (shut_float Try.underlying22 w0) (trodAll_cons_mk (shut_float Try.underlying22 w1) trodAll_mk0))) (fun _ _ => rfl) rfl
    (hg.frame _) hg.2.1 (ok_one (by kernel_rfl) rfl (okWide_bool_mk Try.underlying4 _))⟩

theorem proved : Rows.FloOrderSaid :=
  OpenClaim.holds_of_wide 6 Try.f6 rfl rfl rfl rfl rfl rfl rfl ⟨rfl, rfl, rfl, rfl, rfl⟩ rfl rfl rfl rfl rfl (by kernel_rfl) Try.func6 (by kernel_rfl)
    (of_decide_eq_true (by kernel_rfl)) (by unfold Func.isWrapper; first | (rw [if_pos (by decide +kernel)]; kernel_rfl) | (rw [if_neg (by decide +kernel)]; exact ⟨rfl, rfl⟩))
    (fun os started H enc _ => lifted os started H enc)
#print axioms proved
end Go.Proofs.Ytljpeehnjjbebaa.floOrder

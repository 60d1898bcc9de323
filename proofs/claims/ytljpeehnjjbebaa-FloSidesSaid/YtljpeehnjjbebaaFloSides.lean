/-
  FloSides (layer 1, flo): for every a and b the call returns true: sums and products are the same the other way about, a difference is a sum with the other sign, twice the other sign changes nothing. No condition.
-/
import Derived.Test.YtljpeehnjjbebaaRows
import Derived.Test.YtljpeehnjjbebaaFloArith
import Derived.Test.YtljpeehnjjbebaaFloLaws
import Derived.WalkKit
import Derived.ProofKit
import Derived.OpenShut
namespace Go.Proofs.Ytljpeehnjjbebaa.floSides
open Go.ChangeShapes Go.WideShapes Go.ChangeAt Go.RowKit FloM
set_option linter.unusedVariables false

theorem minus_one : backW (ofC (-1)) = 13830554455654793216 := by decide
theorem facts_comm (a b : Int) : addC a b = addC b a ∧ mulC a b = mulC b a := by
  unfold addC mulC; rw [add_comm', mul_comm']; exact ⟨rfl, rfl⟩
theorem facts_nan (a b : Int) (h : isN (backW b) = true) : mulC (ofC (-1)) b = NaNc ∧ addC a b = NaNc ∧ subC a b = addC a (mulC (ofC (-1)) b) := by
  have hb := backW_lt b
  have h1 : mulC (ofC (-1)) b = NaNc := by unfold mulC; rw [mul_nanR _ _ hb h]; rfl
  refine ⟨h1, by unfold addC; rw [add_nanR _ _ hb h]; rfl, ?_⟩
  rw [h1]; unfold subC addC
  rw [sub_nanR _ _ hb h, add_nanR _ _ (backW_lt _) (by decide)]
theorem facts_num (a b : Int) (s : Bool) (r : Nat) (hr : r ≤ infR) (hb : backW b = wd s r) (hc : b = if s then -1 - (r : Int) else r) :
    mulC (ofC (-1)) b = -1 - b ∧ mulC (ofC (-1)) (-1 - b) = b ∧ subC a b = addC a (-1 - b) := by
  have e1 : code (!s) r = -1 - b := by rw [code_of hr, hc]; cases s <;> simp <;> omega
  have e2 : backW (-1 - b) = wd (!s) r := by rw [← e1]; exact back_code _ _ hr
  have e3 : code (!!s) r = b := by rw [code_of hr, hc]; cases s <;> simp
  refine ⟨?_, ?_, ?_⟩
  · unfold mulC; rw [minus_one, hb, mul_minus s r hr, codeO_wd hr, e1]
  · unfold mulC; rw [minus_one, e2, mul_minus _ r hr, codeO_wd hr, e3]
  · unfold subC addC; rw [e2, hb, sub_eq_add _ s r hr]


set_option maxHeartbeats 1000000 in
theorem walk_bad (a b : Int) (w : World) (hr : right b = false) (h1 : (addC a b != addC b a) = false) (h2 : (mulC a b != mulC b a) = false) (h3 : (subC a b != addC a (mulC (ofC (-1)) b)) = false)
    (h4 : (mulC (ofC (-1)) b == 9221120237041090561) = true) (h5 : (addC a b == 9221120237041090561) = true) :
    Calls Try.prog 7 #[.int .i64 a, .int .i64 b] w fun e w' => e = .returned (.bool true) ∧ Grown w w' := by
  have hn : codeW (backW (-9223372036854775808)) = 9221120237041090561 := by decide
  go_enter Try.func7, Try.ntmps7
  go_wp2_with (first | (go_at_call 10; refine (awake_any _).mono ?_; rintro e w' ⟨rfl, rfl⟩) | (go_at_call 16; refine (back_any _ _).mono ?_; rintro e w' ⟨rfl, rfl⟩) | (go_at_call 11; refine (code_any _ _ (by first | exact backW_lt _ | assumption)).mono ?_; rintro e w' ⟨rfl, rfl⟩) | (go_at_call 13; refine (right_any _ _).mono ?_; rintro e w' ⟨rfl, rfl⟩) | (go_at_call 22; refine (of_any _ _).mono ?_; rintro e w' ⟨rfl, rfl⟩) | (go_at_call 18; refine (add_any _ _ _).mono ?_; rintro e w' ⟨rfl, hd⟩) | (go_at_call 19; refine (sub_any _ _ _).mono ?_; rintro e w' ⟨rfl, hd⟩) | (go_at_call 20; refine (mul_any _ _ _).mono ?_; rintro e w' ⟨rfl, hd⟩) | (go_at_call 21; refine (div_any _ _ _).mono ?_; rintro e w' ⟨rfl, hd⟩))
  go_ret
  exact ⟨rfl, Drawn.grown (by repeat (first | exact Drawn.refl _ | refine Drawn.trans ?_ ‹Drawn _ _›))⟩

set_option maxHeartbeats 1000000 in
theorem walk_nan (a b : Int) (w : World) (hr : right b = true) (hb : (b == 9221120237041090561) = true) (h1 : (addC a b != addC b a) = false) (h2 : (mulC a b != mulC b a) = false) (h3 : (subC a b != addC a (mulC (ofC (-1)) b)) = false)
    (h4 : (mulC (ofC (-1)) b == 9221120237041090561) = true) (h5 : (addC a b == 9221120237041090561) = true) :
    Calls Try.prog 7 #[.int .i64 a, .int .i64 b] w fun e w' => e = .returned (.bool true) ∧ Grown w w' := by
  have hn : codeW (backW (-9223372036854775808)) = 9221120237041090561 := by decide
  go_enter Try.func7, Try.ntmps7
  go_wp2_with (first | (go_at_call 10; refine (awake_any _).mono ?_; rintro e w' ⟨rfl, rfl⟩) | (go_at_call 16; refine (back_any _ _).mono ?_; rintro e w' ⟨rfl, rfl⟩) | (go_at_call 11; refine (code_any _ _ (by first | exact backW_lt _ | assumption)).mono ?_; rintro e w' ⟨rfl, rfl⟩) | (go_at_call 13; refine (right_any _ _).mono ?_; rintro e w' ⟨rfl, rfl⟩) | (go_at_call 22; refine (of_any _ _).mono ?_; rintro e w' ⟨rfl, rfl⟩) | (go_at_call 18; refine (add_any _ _ _).mono ?_; rintro e w' ⟨rfl, hd⟩) | (go_at_call 19; refine (sub_any _ _ _).mono ?_; rintro e w' ⟨rfl, hd⟩) | (go_at_call 20; refine (mul_any _ _ _).mono ?_; rintro e w' ⟨rfl, hd⟩) | (go_at_call 21; refine (div_any _ _ _).mono ?_; rintro e w' ⟨rfl, hd⟩))
  go_ret
  exact ⟨rfl, Drawn.grown (by repeat (first | exact Drawn.refl _ | refine Drawn.trans ?_ ‹Drawn _ _›))⟩

set_option maxHeartbeats 1000000 in
theorem walk_num (a b c : Int) (w : World) (hr : right b = true) (hb : (b == 9221120237041090561) = false) (h1 : (addC a b != addC b a) = false) (h2 : (mulC a b != mulC b a) = false) (h3 : (subC a b != addC a c) = false)
    (h4 : mulC (ofC (-1)) b = c) (h5 : (c == wrap64 (-1 - b)) = true) (h6 : (mulC (ofC (-1)) c == b) = true) :
    Calls Try.prog 7 #[.int .i64 a, .int .i64 b] w fun e w' => e = .returned (.bool true) ∧ Grown w w' := by
  have hn : codeW (backW (-9223372036854775808)) = 9221120237041090561 := by decide
  go_enter Try.func7, Try.ntmps7
  go_wp2_with (first | (go_at_call 10; refine (awake_any _).mono ?_; rintro e w' ⟨rfl, rfl⟩) | (go_at_call 16; refine (back_any _ _).mono ?_; rintro e w' ⟨rfl, rfl⟩) | (go_at_call 11; refine (code_any _ _ (by first | exact backW_lt _ | assumption)).mono ?_; rintro e w' ⟨rfl, rfl⟩) | (go_at_call 13; refine (right_any _ _).mono ?_; rintro e w' ⟨rfl, rfl⟩) | (go_at_call 22; refine (of_any _ _).mono ?_; rintro e w' ⟨rfl, rfl⟩) | (go_at_call 18; refine (add_any _ _ _).mono ?_; rintro e w' ⟨rfl, hd⟩) | (go_at_call 19; refine (sub_any _ _ _).mono ?_; rintro e w' ⟨rfl, hd⟩) | (go_at_call 20; refine (mul_any _ _ _).mono ?_; rintro e w' ⟨rfl, hd⟩) | (go_at_call 21; refine (div_any _ _ _).mono ?_; rintro e w' ⟨rfl, hd⟩))
  go_ret
  exact ⟨rfl, Drawn.grown (by repeat (first | exact Drawn.refl _ | refine Drawn.trans ?_ ‹Drawn _ _›))⟩

theorem walk (a0 : Int) (a1 : Int) (w0 : (Lit.int .i64 a0).wf = true) (w1 : (Lit.int .i64 a1).wf = true) (w : World) :
    Calls Try.prog 7 #[.int .i64 a0, .int .i64 a1] w fun e w' => e = .returned (.bool true) ∧ Grown w w' := by
  obtain ⟨c1, c2⟩ := facts_comm a0 a1
  have h1 : (addC a0 a1 != addC a1 a0) = false := by rw [c1]; simp
  have h2 : (mulC a0 a1 != mulC a1 a0) = false := by rw [c2]; simp
  rcases back_cases a1 with ⟨hb, hn⟩ | ⟨hr, hn, s, r, hle, hbk, _, hc⟩
  · obtain ⟨f1, f2, f3⟩ := facts_nan a0 a1 hn
    have h3 : (subC a0 a1 != addC a0 (mulC (ofC (-1)) a1)) = false := by rw [f3]; simp
    have h4 : (mulC (ofC (-1)) a1 == 9221120237041090561) = true := by rw [f1]; rfl
    have h5 : (addC a0 a1 == 9221120237041090561) = true := by rw [f2]; rfl
    rcases hb with hb | hb
    · exact walk_bad a0 a1 w hb h1 h2 h3 h4 h5
    · exact walk_nan a0 a1 w (by rw [hb]; decide) (by rw [hb]; rfl) h1 h2 h3 h4 h5
  · obtain ⟨f1, f2, f3⟩ := facts_num a0 a1 s r hle hbk hc
    have hle' : r ≤ 9218868437227405312 := hle
    refine walk_num a0 a1 (-1 - a1) w hr (beq_eq_false_iff_ne.2 hn) h1 h2 (by rw [f3]; simp) f1 ?_ (by rw [f2]; simp)
    rw [w64_id (-1 - a1) (by cases s <;> simp at hc <;> omega) (by cases s <;> simp at hc <;> omega)]; simp

theorem own : ownKnob Try.prog.godebug = none := by kernel_rfl

set_option maxRecDepth 100000 in
theorem lifted (os : Os) (started : os.Started) (H : Type) (enc : TypeId × Value → H) :
    ReturnsInHanded {} Try.checked os 7 .any (Rows.floSidesSpec.pre6 enc Try.prog Try.f7 Rows.floSidesRow.domain false) (Rows.floSidesSpec.post enc Try.prog Try.f7 false true false false) := by
  refine returnsInHanded_of_change (C := Try.checked) own started (by kernel_rfl) Try.func7
    (ChangeSpec.witness6 (enc := enc) (C := Try.checked) false ⟨#[], #[.int .i64 0, .int .i64 0], []⟩ 8 (by kernel_rfl) (by kernel_rfl) (by kernel_rfl) (by kernel_rfl)) ?_
  intro W base args ds gs before hval0 hW hcnd _
  have hval : ∀ (j : Nat) t v, Try.f7.params[j]? = some t → args[j]? = some v → Value.okWide Try.prog W .any base t v := hval0
  have hW' := hW
  obtain ⟨p, q, hA0, hV, rfl, hfz, hnd⟩ := hW
  have hA : DataW.TrodAll enc Try.prog W 0 (fun _ => true) true Try.f7.params.toList args.toList ds p := hA0
  rw [Try.params7] at hA hval
  obtain ⟨v0, vs0, d0, ds0, p0, q0, hargs, rfl, rfl, h0, r0⟩ := trodAll_cons hA
  obtain ⟨v1, vs1, d1, ds1, p1, q1, rfl, rfl, rfl, h1, r1⟩ := trodAll_cons r0
  obtain ⟨rfl, rfl, rfl⟩ := trodAll_nil r1
  obtain rfl : args = #[v0, v1] := by cases args; simp_all
  obtain ⟨rfl, rfl⟩ := trodVars_none hV
  obtain ⟨a0, rfl, rfl, rfl, w0⟩ := open_int Try.underlying2 (hval 0 2 v0 rfl rfl) h0
  obtain ⟨a1, rfl, rfl, rfl, w1⟩ := open_int Try.underlying2 (hval 1 2 v1 rfl rfl) h1
  clear hA0 hval0
  simp only [List.append_nil] at hW'
  refine (walk a0 a1 w0 w1 W).mono fun e W' ⟨he, hg⟩ => ?_
  subst he
  exact ⟨_, rfl, post_of_same (pa := []) (pv := []) hW' (fun _ _ _ => (trodAll_cons_mk (shut_bool Try.underlying4 _) trodAll_mk0)) (fun sp _ => (trodAll_cons_mk (shut_int Try.underlying2 w0) (trodAll_cons_mk (shut_int Try.underlying2 w1) trodAll_mk0))) (fun _ _ => rfl) rfl
    (hg.frame _) hg.2.1 (ok_one (by kernel_rfl) rfl (okWide_bool_mk Try.underlying4 _))⟩

theorem proved : Rows.FloSidesSaid :=
  OpenClaim.holds_of_wide 7 Try.f7 rfl rfl rfl rfl rfl rfl rfl ⟨rfl, rfl, rfl, rfl, rfl⟩ rfl rfl rfl rfl rfl (by kernel_rfl) Try.func7 (by kernel_rfl)
    (of_decide_eq_true (by kernel_rfl)) (by unfold Func.isWrapper; first | (rw [if_pos (by decide +kernel)]; kernel_rfl) | (rw [if_neg (by decide +kernel)]; exact ⟨rfl, rfl⟩))
    (fun os started H enc _ => lifted os started H enc)
#print axioms proved
end Go.Proofs.Ytljpeehnjjbebaa.floSides

/-
  FloCodes (layer 1, flo): for every f and n the call returns true: f's code, whether n is a code, and n's float64 are the document's, which halves and doubles. No condition.
-/
import Derived.Test.YtljpeehnjjbebaaRows
import Derived.Test.YtljpeehnjjbebaaFloRef
import Derived.WalkKit
import Derived.ProofKit
import Derived.OpenShut
namespace Go.Proofs.Ytljpeehnjjbebaa.floCodes
open Go.ChangeShapes Go.WideShapes Go.ChangeAt Go.RowKit FloM
set_option linter.unusedVariables false

/-- What the document's Back tells of n. -/
def Told (n : Int) (w : World) (e : Ending) (w' : World) : Prop := ∃ x, e = .returned (.float .f64 x) ∧ x < 18446744073709551616 ∧ ((isN (backW n) = true ∧ isN x = true) ∨ (isN (backW n) = false ∧ backW n = x)) ∧ Drawn w w'

theorem told_any (n : Int) (w : World) : Calls Try.prog 17 #[.int .i64 n] w (Told n w) := by
  rcases back_cases n with ⟨hb, hn⟩ | ⟨hr, hn, s, r, hle, hbk, _, hc⟩
  · have : Calls Try.prog 17 #[.int .i64 n] w (SomeNaN w) := by
      rcases hb with hb | hb
      · exact refBack_bad n w hb
      · exact refBack_nan n w (by rw [hb]; decide) (by rw [hb]; rfl)
    exact this.mono fun e w' ⟨x, he, hx, hlt, hd⟩ => ⟨x, he, hlt, .inl ⟨hn, hx⟩, hd⟩
  · refine (refBack_any n s r w hle hc).mono ?_
    rintro e w' ⟨rfl, rfl⟩
    have hlt := Nat.lt_of_le_of_lt hle infR_lt
    refine ⟨_, rfl, wd_lt s r hlt, .inr ⟨?_, hbk⟩, Drawn.refl w⟩
    rw [hbk, isN_wd s r hlt]; simpa using hle

set_option maxHeartbeats 1000000 in
theorem walk (a0 : Nat) (a1 : Int) (w0 : (Lit.float .f64 a0).wf = true) (w1 : (Lit.int .i64 a1).wf = true) (w : World) :
    Calls Try.prog 3 #[.float .f64 a0, .int .i64 a1] w fun e w' => e = .returned (.bool true) ∧ Grown w w' := by
  have hx : a0 < 18446744073709551616 := by simpa [Lit.wf] using w0
  clear w0 w1
  go_enter Try.func3, Try.ntmps3
  go_wp2_with (first | (go_at_call 10; refine (awake_any _).mono ?_; rintro e w' ⟨rfl, rfl⟩) | (go_at_call 16; refine (back_any _ _).mono ?_; rintro e w' ⟨rfl, rfl⟩) | (go_at_call 11; refine (code_any _ _ hx).mono ?_; rintro e w' ⟨rfl, rfl⟩) | (go_at_call 13; refine (right_any _ _).mono ?_; rintro e w' ⟨rfl, rfl⟩) | (go_at_call 12; refine (refCode_any _ _ hx).mono ?_; rintro e w' ⟨rfl, rfl⟩) | (go_at_call 14; refine (refRight_any _ _).mono ?_; rintro e w' ⟨rfl, rfl⟩) | (go_at_call 17; refine (told_any _ _).mono ?_; rintro e w' ⟨y, rfl, hy, hs, hd⟩; have HS := Lib.hid hs; clear hs) | (go_at_call 15; refine (same_any _ _ _ (backW_lt _) hy HS.out).mono ?_; rintro e w' ⟨rfl, rfl⟩))
  go_ret
  exact ⟨rfl, Drawn.grown (by repeat (first | exact Drawn.refl _ | refine Drawn.trans ?_ ‹Drawn _ _›))⟩

theorem own : ownKnob Try.prog.godebug = none := by kernel_rfl

set_option maxRecDepth 100000 in
theorem lifted (os : Os) (started : os.Started) (H : Type) (enc : TypeId × Value → H) :
    ReturnsInHanded {} Try.checked os 3 .any (Rows.floCodesSpec.pre6 enc Try.prog Try.f3 Rows.floCodesRow.domain false) (Rows.floCodesSpec.post enc Try.prog Try.f3 false true false false) := by
  refine returnsInHanded_of_change (C := Try.checked) own started (by kernel_rfl) Try.func3
    (ChangeSpec.witness6 (enc := enc) (C := Try.checked) false ⟨#[], #[.float .f64 0, .int .i64 0], []⟩ 8 (by kernel_rfl) (by kernel_rfl) (by kernel_rfl) (by kernel_rfl)) ?_
  intro W base args ds gs before hval0 hW hcnd _
  have hval : ∀ (j : Nat) t v, Try.f3.params[j]? = some t → args[j]? = some v → Value.okWide Try.prog W .any base t v := hval0
  have hW' := hW
  obtain ⟨p, q, hA0, hV, rfl, hfz, hnd⟩ := hW
  have hA : DataW.TrodAll enc Try.prog W 0 (fun _ => true) true Try.f3.params.toList args.toList ds p := hA0
  rw [Try.params3] at hA hval
  obtain ⟨v0, vs0, d0, ds0, p0, q0, hargs, rfl, rfl, h0, r0⟩ := trodAll_cons hA
  obtain ⟨v1, vs1, d1, ds1, p1, q1, rfl, rfl, rfl, h1, r1⟩ := trodAll_cons r0
  obtain ⟨rfl, rfl, rfl⟩ := trodAll_nil r1
  obtain rfl : args = #[v0, v1] := by cases args; simp_all
  obtain ⟨rfl, rfl⟩ := trodVars_none hV
  obtain ⟨a0, rfl, rfl, rfl, w0⟩ := open_float Try.underlying22 (hval 0 22 v0 rfl rfl) h0
  obtain ⟨a1, rfl, rfl, rfl, w1⟩ := open_int Try.underlying2 (hval 1 2 v1 rfl rfl) h1
  clear hA0 hval0
  simp only [List.append_nil] at hW'
  refine (walk a0 a1 w0 w1 W).mono fun e W' ⟨he, hg⟩ => ?_
  subst he
  exact ⟨_, rfl, post_of_same (pa := []) (pv := []) hW' (fun _ _ _ => (trodAll_cons_mk (shut_bool Try.underlying4 _) trodAll_mk0)) (fun sp _ => (trodAll_cons_mk (shut_float Try.underlying22 w0) (trodAll_cons_mk (shut_int Try.underlying2 w1) trodAll_mk0))) (fun _ _ => rfl) rfl
    (hg.frame _) hg.2.1 (ok_one (by kernel_rfl) rfl (okWide_bool_mk Try.underlying4 _))⟩

theorem proved : Rows.FloCodesSaid :=
  OpenClaim.holds_of_wide 3 Try.f3 rfl rfl rfl rfl rfl rfl rfl ⟨rfl, rfl, rfl, rfl, rfl⟩ rfl rfl rfl rfl rfl (by kernel_rfl) Try.func3 (by kernel_rfl)
    (of_decide_eq_true (by kernel_rfl)) (by unfold Func.isWrapper; first | (rw [if_pos (by decide +kernel)]; kernel_rfl) | (rw [if_neg (by decide +kernel)]; exact ⟨rfl, rfl⟩))
    (fun os started H enc _ => lifted os started H enc)
#print axioms proved
end Go.Proofs.Ytljpeehnjjbebaa.floCodes

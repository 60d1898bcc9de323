/-
  FloReckons (layer 1, flo): for every a, b and n the call returns true: what is reckoned with codes is the code of what float64 has, and so it is with a whole number, by the document's own codes. No condition.
-/
import Derived.Test.YtljpeehnjjbebaaRows
import Derived.Test.YtljpeehnjjbebaaFloRef
import Derived.WalkKit
import Derived.ProofKit
import Derived.OpenShut
namespace Go.Proofs.Ytljpeehnjjbebaa.floReckons
open Go.ChangeShapes Go.WideShapes Go.ChangeAt Go.RowKit FloM
set_option linter.unusedVariables false

/-- What stands for n: its float64, or any NaN where that is one. -/
def Rep (n : Int) (x : Nat) : Prop := x < 18446744073709551616 ∧ ((isN (backW n) = true ∧ isN x = true) ∨ backW n = x)
/-- What the document's Back tells of n. -/
def Told (n : Int) (w : World) (e : Ending) (w' : World) : Prop := ∃ x, e = .returned (.float .f64 x) ∧ Rep n x ∧ Drawn w w'

theorem told_any (n : Int) (w : World) : Calls Try.prog 17 #[.int .i64 n] w (Told n w) := by
  rcases back_cases n with ⟨hb, hn⟩ | ⟨hr, hn, s, r, hle, hbk, _, hc⟩
  · have : Calls Try.prog 17 #[.int .i64 n] w (SomeNaN w) := by
      rcases hb with hb | hb
      · exact refBack_bad n w hb
      · exact refBack_nan n w (by rw [hb]; decide) (by rw [hb]; rfl)
    exact this.mono fun e w' ⟨x, he, hx, hlt, hd⟩ => ⟨x, he, ⟨hlt, .inl ⟨hn, hx⟩⟩, hd⟩
  · refine (refBack_any n s r w hle hc).mono ?_
    rintro e w' ⟨rfl, rfl⟩
    exact ⟨_, rfl, ⟨wd_lt s r (Nat.lt_of_le_of_lt hle infR_lt), .inr hbk⟩, Drawn.refl w⟩

theorem rep_op (op : Nat → Nat → Option Nat) (hl : ∀ x y, x < 18446744073709551616 → isN x = true → op x y = none) (hr : ∀ x y, y < 18446744073709551616 → isN y = true → op x y = none)
    {a b : Int} {x y : Nat} (ha : Rep a x) (hb : Rep b y) : op (backW a) (backW b) = op x y := by
  rcases ha with ⟨hx, ⟨h1, h2⟩ | rfl⟩
  · rw [hl _ _ (backW_lt a) h1, hl _ _ hx h2]
  · rcases hb with ⟨hy, ⟨h1, h2⟩ | rfl⟩
    · rw [hr _ _ (backW_lt b) h1, hr _ _ hy h2]
    · rfl
theorem sub_nanL (x y : Nat) (hx : x < 18446744073709551616) (h : isN x = true) : Ieee.double.sub x y = none := by
  obtain ⟨s, f, h⟩ := read_isN hx h; unfold Ieee.Format.sub; rw [h]; cases (Ieee.double.read y).opposite <;> rfl

theorem reps {a b : Int} {x y : Nat} (ha : Rep a x) (hb : Rep b y) :
    (addC a b == codeO (Ieee.double.add x y)) = true ∧ (subC a b == codeO (Ieee.double.sub x y)) = true ∧ (mulC a b == codeO (Ieee.double.mul x y)) = true ∧ (divC a b == codeO (Ieee.double.div x y)) = true := by
  have e1 := rep_op Ieee.double.add (fun x y hx h => by rw [add_comm']; exact add_nanR y x hx h) (fun x y hy h => add_nanR x y hy h) ha hb
  have e2 := rep_op Ieee.double.sub sub_nanL (fun x y hy h => sub_nanR x y hy h) ha hb
  have e3 := rep_op Ieee.double.mul (fun x y hx h => by rw [mul_comm']; exact mul_nanR y x hx h) (fun x y hy h => mul_nanR x y hy h) ha hb
  have e4 := rep_op Ieee.double.div (fun x y hx h => div_nanL x y hx h) (fun x y hy h => div_nanR x y hy h) ha hb
  unfold addC subC mulC divC
  rw [e1, e2, e3, e4]; simp

theorem refCode_res (o : Option Nat) (x y : Nat) (v w : World) (ho : ∀ r, o = some r → r < 18446744073709551616) :
    Calls Try.prog 12 #[.float .f64 (fRes o x y v)] w fun e w' => e = .returned (.int .i64 (codeO o)) ∧ w = w' := by
  have h := fRes_code o x y v ho
  rw [← h.1]; exact refCode_any _ _ h.2
theorem refCode_add (x y : Nat) (v w : World) : Calls Try.prog 12 #[.float .f64 (fRes (Ieee.double.add x y) x y v)] w fun e w' => e = .returned (.int .i64 (codeO (Ieee.double.add x y))) ∧ w = w' := refCode_res _ x y v w (fun _ h => Ieee.Format.add_lt Ieee.double h)
theorem refCode_sub (x y : Nat) (v w : World) : Calls Try.prog 12 #[.float .f64 (fRes (Ieee.double.sub x y) x y v)] w fun e w' => e = .returned (.int .i64 (codeO (Ieee.double.sub x y))) ∧ w = w' := refCode_res _ x y v w (fun _ h => Ieee.Format.sub_lt Ieee.double h)
theorem refCode_mul (x y : Nat) (v w : World) : Calls Try.prog 12 #[.float .f64 (fRes (Ieee.double.mul x y) x y v)] w fun e w' => e = .returned (.int .i64 (codeO (Ieee.double.mul x y))) ∧ w = w' := refCode_res _ x y v w (fun _ h => Ieee.Format.mul_lt Ieee.double h)
theorem refCode_div (x y : Nat) (v w : World) : Calls Try.prog 12 #[.float .f64 (fRes (Ieee.double.div x y) x y v)] w fun e w' => e = .returned (.int .i64 (codeO (Ieee.double.div x y))) ∧ w = w' := refCode_res _ x y v w (fun _ h => Ieee.Format.div_lt Ieee.double h)

set_option maxHeartbeats 2000000 in
theorem walk (a0 : Int) (a1 : Int) (a2 : Int) (w0 : (Lit.int .i64 a0).wf = true) (w1 : (Lit.int .i64 a1).wf = true) (w2 : (Lit.int .i64 a2).wf = true) (w : World) :
    Calls Try.prog 4 #[.int .i64 a0, .int .i64 a1, .int .i64 a2] w fun e w' => e = .returned (.bool true) ∧ Grown w w' := by
  clear w0 w1 w2
  have ho : (ofC a2 == codeW (floatOfInt FloatKind.f64 a2)) = true := by simp [ofC, floatOfInt, FloatKind.nearest, FloatKind.encode, FloatKind.format, Ieee.Format.write]
  go_enter Try.func4, Try.ntmps4
  go_wp2_with (go_at_call 10; refine (awake_any _).mono ?_; rintro e w' ⟨rfl, rfl⟩)
  refine (told_any _ _).mono ?_
  rintro e v1 ⟨x, rfl, hx, hd1⟩
  go_wp2_with fail
  refine (told_any _ _).mono ?_
  rintro e v2 ⟨y, rfl, hy, hd2⟩
  obtain ⟨e1, e2, e3, e4⟩ := reps hx hy
  clear hx hy
  have q1 := fun v => fW_drawn (Ieee.double.add x y) v
  have q2 := fun v => fW_drawn (Ieee.double.sub x y) v
  have q3 := fun v => fW_drawn (Ieee.double.mul x y) v
  have q4 := fun v => fW_drawn (Ieee.double.div x y) v
  go_wp2_with (first | (go_at_call 18; refine (add_any _ _ _).mono ?_; rintro e w' ⟨rfl, hd⟩) | (go_at_call 19; refine (sub_any _ _ _).mono ?_; rintro e w' ⟨rfl, hd⟩) | (go_at_call 20; refine (mul_any _ _ _).mono ?_; rintro e w' ⟨rfl, hd⟩) | (go_at_call 21; refine (div_any _ _ _).mono ?_; rintro e w' ⟨rfl, hd⟩) | (go_at_call 22; refine (of_any _ _).mono ?_; rintro e w' ⟨rfl, rfl⟩) | (go_at_call 12; first | ((with_reducible refine (refCode_add _ _ _ _).mono ?_); rintro e w' ⟨rfl, rfl⟩) | ((with_reducible refine (refCode_sub _ _ _ _).mono ?_); rintro e w' ⟨rfl, rfl⟩) | ((with_reducible refine (refCode_mul _ _ _ _).mono ?_); rintro e w' ⟨rfl, rfl⟩) | ((with_reducible refine (refCode_div _ _ _ _).mono ?_); rintro e w' ⟨rfl, rfl⟩) | ((with_reducible refine (refCode_any _ _ ?_).mono ?_); exact Ieee.Format.nearest_lt _ _ _ _; rintro e w' ⟨rfl, rfl⟩)))
  go_ret
  exact ⟨rfl, Drawn.grown (by repeat (first | exact Drawn.refl _ | refine Drawn.trans ?_ (q1 _) | refine Drawn.trans ?_ (q2 _) | refine Drawn.trans ?_ (q3 _) | refine Drawn.trans ?_ (q4 _) | refine Drawn.trans ?_ ‹Drawn _ _›))⟩

theorem own : ownKnob Try.prog.godebug = none := by kernel_rfl

set_option maxRecDepth 100000 in
theorem lifted (os : Os) (started : os.Started) (H : Type) (enc : TypeId × Value → H) :
    ReturnsInHanded {} Try.checked os 4 .any (Rows.floReckonsSpec.pre6 enc Try.prog Try.f4 Rows.floReckonsRow.domain false) (Rows.floReckonsSpec.post enc Try.prog Try.f4 false true false false) := by
  refine returnsInHanded_of_change (C := Try.checked) own started (by kernel_rfl) Try.func4
    (ChangeSpec.witness6 (enc := enc) (C := Try.checked) false ⟨#[], #[.int .i64 0, .int .i64 0, .int .i64 0], []⟩ 8 (by kernel_rfl) (by kernel_rfl) (by kernel_rfl) (by kernel_rfl)) ?_
  intro W base args ds gs before hval0 hW hcnd _
  have hval : ∀ (j : Nat) t v, Try.f4.params[j]? = some t → args[j]? = some v → Value.okWide Try.prog W .any base t v := hval0
  have hW' := hW
  obtain ⟨p, q, hA0, hV, rfl, hfz, hnd⟩ := hW
  have hA : DataW.TrodAll enc Try.prog W 0 (fun _ => true) true Try.f4.params.toList args.toList ds p := hA0
  rw [Try.params4] at hA hval
  obtain ⟨v0, vs0, d0, ds0, p0, q0, hargs, rfl, rfl, h0, r0⟩ := trodAll_cons hA
  obtain ⟨v1, vs1, d1, ds1, p1, q1, rfl, rfl, rfl, h1, r1⟩ := trodAll_cons r0
  obtain ⟨v2, vs2, d2, ds2, p2, q2, rfl, rfl, rfl, h2, r2⟩ := trodAll_cons r1
  obtain ⟨rfl, rfl, rfl⟩ := trodAll_nil r2
  obtain rfl : args = #[v0, v1, v2] := by cases args; simp_all
  obtain ⟨rfl, rfl⟩ := trodVars_none hV
  obtain ⟨a0, rfl, rfl, rfl, w0⟩ := open_int Try.underlying2 (hval 0 2 v0 rfl rfl) h0
  obtain ⟨a1, rfl, rfl, rfl, w1⟩ := open_int Try.underlying2 (hval 1 2 v1 rfl rfl) h1
  obtain ⟨a2, rfl, rfl, rfl, w2⟩ := open_int Try.underlying2 (hval 2 2 v2 rfl rfl) h2
  clear hA0 hval0
  simp only [List.append_nil] at hW'
  refine (walk a0 a1 a2 w0 w1 w2 W).mono fun e W' ⟨he, hg⟩ => ?_
  subst he
  exact ⟨_, rfl, post_of_same (pa := []) (pv := []) hW' (fun _ _ _ => (trodAll_cons_mk (shut_bool Try.underlying4 _) trodAll_mk0)) (fun sp _ => (trodAll_cons_mk (shut_int Try.underlying2 w0) (trodAll_cons_mk (shut_int Try.underlying2 w1) (trodAll_cons_mk (shut_int Try.underlying2 w2) trodAll_mk0)))) (fun _ _ => rfl) rfl
    (hg.frame _) hg.2.1 (ok_one (by kernel_rfl) rfl (okWide_bool_mk Try.underlying4 _))⟩

theorem proved : Rows.FloReckonsSaid :=
  OpenClaim.holds_of_wide 4 Try.f4 rfl rfl rfl rfl rfl rfl rfl ⟨rfl, rfl, rfl, rfl, rfl⟩ rfl rfl rfl rfl rfl (by kernel_rfl) Try.func4 (by kernel_rfl)
    (of_decide_eq_true (by kernel_rfl)) (by unfold Func.isWrapper; first | (rw [if_pos (by decide +kernel)]; kernel_rfl) | (rw [if_neg (by decide +kernel)]; exact ⟨rfl, rfl⟩))
    (fun os started H enc _ => lifted os started H enc)
#print axioms proved
end Go.Proofs.Ytljpeehnjjbebaa.floReckons

/-
  ValueTells (layer 2, value): for every a, b, s the call returns true: names, which values can be, how two lie to each other, and texts, are the document's. No condition.
-/
import Derived.Test.YtlakgcdacjieeaaRows
import Derived.Test.YtlakgcdacjieeaaValRowB
import Derived.Test.YtlakgcdacjieeaaValOpen
import Derived.WalkKit
import Derived.ProofKit
import Derived.OpenShut
import Derived.Deep.RegionHeld3
namespace Go.Proofs.Ytlakgcdacjieeaa.valueTells
open Go.ChangeShapes Go.WideShapes Go.ChangeAt Go.RowKit FloM ValM
set_option linter.unusedVariables false
set_option maxHeartbeats 4000000 in
theorem walk_long (k0 n0 k1 n1 : Int) (s0 s1 a2 : ByteArray) (w : World) (h : 100 < (a2.size : Int)) :
    Calls Try.prog 3 #[.agg #[.int .i64 k0, .int .i64 n0, .string s0], .agg #[.int .i64 k1, .int .i64 n1, .string s1], .string a2] w fun e w' => e = .returned (.bool true) ∧ Below w.heap.size w w' := by
  go_enter Try.func3, Try.ntmps3
  go_wp2_with (go_at_call 10; refine (h2_awake (by first | exact h1 | exact Held2.new w ⟨k0, n0, s0⟩ ⟨k1, n1, s1⟩)).mono ?_; rintro e w1 ⟨rfl, h1⟩)
  go_ret
  exact ⟨rfl, h1.bel⟩
set_option maxHeartbeats 8000000 in
theorem walk_go (k0 n0 k1 n1 : Int) (s0 s1 a2 : ByteArray) (w : World) (ws0 : s0.size ≤ maxLen) (w2 : a2.size ≤ maxLen) (hn0 : Fits n0) (h : (a2.size : Int) ≤ 100) :
    Calls Try.prog 3 #[.agg #[.int .i64 k0, .int .i64 n0, .string s0], .agg #[.int .i64 k1, .int .i64 n1, .string s1], .string a2] w fun e w' => e = .returned (.bool true) ∧ Below w.heap.size w w' := by
  go_enter Try.func3, Try.ntmps3
  go_wp2_with (go_at_call 10; refine (h2_awake (by first | exact h1 | exact Held2.new w ⟨k0, n0, s0⟩ ⟨k1, n1, s1⟩)).mono ?_; rintro e w1 ⟨rfl, h1⟩)
  go_region_held3 (fun u => Below w.heap.size w u ∧ w.heap.size + 1 < u.heap.size ∧ u.cell? ⟨w.heap.size, 0, none⟩ = some (.int .i64 k0) ∧ u.cell? ⟨w.heap.size, 1, none⟩ = some (.int .i64 n0) ∧ u.cell? ⟨w.heap.size, 2, none⟩ = some (.string s0) ∧ u.cell? ⟨w.heap.size + 1, 0, none⟩ = some (.int .i64 k1) ∧ u.cell? ⟨w.heap.size + 1, 1, none⟩ = some (.int .i64 n1) ∧ u.cell? ⟨w.heap.size + 1, 2, none⟩ = some (.string s1))
    (first | exact ⟨h1.bel, h1.lt, h1.a0, h1.a1, h1.a2, h1.b0, h1.b1, h1.b2⟩ | exact ⟨h1.drew.bel, h1.drew.lt, h1.drew.a0, h1.drew.a1, h1.drew.a2, h1.drew.b0, h1.drew.b1, h1.drew.b2⟩ | exact ⟨h4.bel, h4.lt, h4.a0, h4.a1, h4.a2, h4.b0, h4.b1, h4.b2⟩)
    (first
      | (go_at_call 11; refine (name_any _ _ w2).mono ?_; rintro e w' ⟨rfl, rfl⟩)
      | (go_at_call 12; refine (h2_refName (by first | exact h4 | exact h1.drew) _).mono ?_; rintro e w4 ⟨rfl, h4⟩)
      | (go_at_call 13; refine (h2_right (by first | exact h4 | exact h1.drew) _ _ _ ws0).mono ?_; rintro e w4 ⟨rfl, h4⟩)
      | (go_at_call 14; refine (h2_refRight (by first | exact h4 | exact h1.drew) _ _ _).mono ?_; rintro e w4 ⟨rfl, h4⟩)
      | (go_at_call 15; refine (h2_cmp (by first | exact h4 | exact h1.drew) _ _ _ _ _ _).mono ?_; rintro e w4 ⟨rfl, h4⟩)
      | (go_at_call 16; refine (h2_refCmp (by first | exact h4 | exact h1.drew) _ _ _ _ _ _).mono ?_; rintro e w4 ⟨rfl, h4⟩)
      | (go_at_call 17; refine (h2_text (by first | exact h4 | exact h1.drew) _ _ _ ws0 hn0).mono ?_; rintro e w4 ⟨rfl, h4⟩)
      | (go_at_call 18; refine (h2_refText (by first | exact h4 | exact h1.drew) _ _ _ hn0).mono ?_; rintro e w4 ⟨rfl, h4⟩))
  all_goals
    go_wp2
    go_ret
    exact ⟨rfl, by first | exact h4.bel | exact h1.bel⟩
theorem walk (k0 n0 : Int) (s0 : ByteArray) (k1 n1 : Int) (s1 a2 : ByteArray) (wk0 : (Lit.int .i64 k0).wf = true) (wn0 : (Lit.int .i64 n0).wf = true) (ws0 : s0.size ≤ maxLen) (wk1 : (Lit.int .i64 k1).wf = true) (wn1 : (Lit.int .i64 n1).wf = true) (ws1 : s1.size ≤ maxLen) (w2 : a2.size ≤ maxLen) (w : World) :
    Calls Try.prog 3 #[.agg #[.int .i64 k0, .int .i64 n0, .string s0], .agg #[.int .i64 k1, .int .i64 n1, .string s1], .string a2] w fun e w' => e = .returned (.bool true) ∧ Below w.heap.size w w' := by
  by_cases h : 100 < (a2.size : Int)
  · exact walk_long k0 n0 k1 n1 s0 s1 a2 w h
  · exact walk_go k0 n0 k1 n1 s0 s1 a2 w ws0 w2 (fits_of wn0) (by omega)

theorem own : ownKnob Try.prog.godebug = none := by kernel_rfl

set_option maxRecDepth 100000 in
theorem lifted (os : Os) (started : os.Started) (H : Type) (enc : TypeId × Value → H) :
    ReturnsInHanded {} Try.checked os 3 .any (Rows.valueTellsSpec.pre6 enc Try.prog Try.f3 Rows.valueTellsRow.domain false) (Rows.valueTellsSpec.post enc Try.prog Try.f3 false true false false) := by
  refine returnsInHanded_of_change (C := Try.checked) own started (by kernel_rfl) Try.func3
    (ChangeSpec.witness6 (enc := enc) (C := Try.checked) false ⟨#[], #[.agg #[.int .i64 0, .int .i64 0, .string ByteArray.empty], .agg #[.int .i64 0, .int .i64 0, .string ByteArray.empty], .string ByteArray.empty], []⟩ 8 (by kernel_rfl) (by kernel_rfl) (by kernel_rfl) (by kernel_rfl)) ?_
  intro W base args ds gs before hval0 hW hcnd _
  have hval : ∀ (j : Nat) t v, Try.f3.params[j]? = some t → args[j]? = some v → Value.okWide Try.prog W .any base t v := hval0
  have hW' := hW
  obtain ⟨p, q, hA0, hV, rfl, hfz, hnd⟩ := hW
  have hA : DataW.TrodAll enc Try.prog W 0 (fun _ => true) true Try.f3.params.toList args.toList ds p := hA0
  rw [Try.params3] at hA hval
  obtain ⟨v0, vs0, d0, ds0, p0, q0, hargs, rfl, rfl, h0, r0⟩ := trodAll_cons hA
  obtain ⟨v1, vs1, d1, ds1, p1, q1, rfl, rfl, rfl, h1, r1⟩ := trodAll_cons r0
  obtain ⟨v2, vs2, d2, ds2, p2, q2, rfl, rfl, rfl, h2, r2⟩ := trodAll_cons r1
  obtain ⟨rfl, rfl, rfl⟩ := trodAll_nil r2
  obtain rfl : args = #[v0, v1, v2] := by cases args; simp_all
  obtain ⟨rfl, rfl⟩ := trodVars_none hV
  obtain ⟨k0, n0, s0, rfl, rfl, rfl, wk0, wn0, ws0⟩ := open_val (hval 0 23 v0 rfl rfl) h0
  obtain ⟨k1, n1, s1, rfl, rfl, rfl, wk1, wn1, ws1⟩ := open_val (hval 1 23 v1 rfl rfl) h1
  obtain ⟨a2, rfl, rfl, rfl, w2⟩ := Go.ChangeMaps.open_string Try.underlying9 (hval 2 9 v2 rfl rfl) h2
  clear hA0 hval0
  simp only [List.append_nil] at hW'
  refine (walk k0 n0 s0 k1 n1 s1 a2 wk0 wn0 ws0 wk1 wn1 ws1 w2 W).mono fun e W' ⟨he, hg⟩ => ?_
  subst he
  exact ⟨_, rfl, post_plain hW' (fun _ _ _ => (trodAll_cons_mk (shut_bool Try.underlying4 _) trodAll_mk0)) (fun sp => (trodAll_cons_mk (shut_val wk0 wn0 ws0) (trodAll_cons_mk (shut_val wk1 wn1 ws1) (trodAll_cons_mk (Go.ChangeMaps.shut_string Try.underlying9 w2) trodAll_mk0)))) (fun _ => rfl) hg (ok_one (by kernel_rfl) rfl (okWide_bool_mk Try.underlying4 _))⟩

theorem proved : Rows.ValueTellsSaid :=
  OpenClaim.holds_of_wide 3 Try.f3 rfl rfl rfl rfl rfl rfl rfl ⟨rfl, rfl, rfl, rfl, rfl⟩ rfl rfl rfl rfl rfl (by kernel_rfl) Try.func3 (by kernel_rfl)
    (of_decide_eq_true (by kernel_rfl)) (by unfold Func.isWrapper; first | (rw [if_pos (by decide +kernel)]; kernel_rfl) | (rw [if_neg (by decide +kernel)]; exact ⟨rfl, rfl⟩))
    (fun os started H enc _ => lifted os started H enc)
#print axioms proved
end Go.Proofs.Ytlakgcdacjieeaa.valueTells

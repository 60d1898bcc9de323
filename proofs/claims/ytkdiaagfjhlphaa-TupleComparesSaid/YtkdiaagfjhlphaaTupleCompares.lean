/-
  TupleCompares (layer 3, tuple): for every a, b and p the call returns true: how two tuples lie to each other, by any numbers, is as the document says. No condition.
-/
import Derived.Test.YtkdiaagfjhlphaaRows
import Derived.Test.YtkdiaagfjhlphaaTupRef
import Derived.Test.YtkdiaagfjhlphaaTupOpen
import Derived.Test.YtkdiaagfjhlphaaTupAwake
import Derived.WalkKit
import Derived.ProofKit
import Derived.OpenShut
namespace Go.Proofs.Ytkdiaagfjhlphaa.tupleCompares
open Go.ChangeShapes Go.WideShapes Go.ChangeAt Go.RowKit FloM ValM
set_option linter.unusedVariables false
set_option maxHeartbeats 8000000 in
theorem walk_no (A0 : Option Addr) (c0 : Nat) (l0 : List V) (A1 : Option Addr) (c1 : Nat) (l1 : List V) (A2 : Option Addr) (c2 : Nat) (l2 : List Int) (w : World) (h : 40 < l0.length ∨ l0.length ≤ 40 ∧ (40 < l1.length ∨ l1.length ≤ 40 ∧ 40 < l2.length)) :
    Calls Try.prog 4 #[.slice A0 l0.length c0, .slice A1 l1.length c1, .slice A2 l2.length c2] w fun e w' => e = .returned (.bool true) ∧ Below w.heap.size w w' := by
  have hB := Below.refl w.heap.size w
  rcases h with h | ⟨h0, h | ⟨h1, h⟩⟩
  · have h' : 40 < (l0.length : Int) := by omega
    go_enter Try.func4, Try.ntmps4
    go_wp2_with (go_at_call 10; refine (awake_any _).mono ?_; rintro e w1 ⟨rfl, h'⟩; replace hB := on hB h'; clear h')
    go_ret
    exact ⟨rfl, hB⟩
  · have g0 : (l0.length : Int) ≤ 40 := by omega
    have h' : 40 < (l1.length : Int) := by omega
    go_enter Try.func4, Try.ntmps4
    go_wp2_with (go_at_call 10; refine (awake_any _).mono ?_; rintro e w1 ⟨rfl, h'⟩; replace hB := on hB h'; clear h')
    go_ret
    exact ⟨rfl, hB⟩
  · have g0 : (l0.length : Int) ≤ 40 := by omega
    have g1 : (l1.length : Int) ≤ 40 := by omega
    have h' : 40 < (l2.length : Int) := by omega
    go_enter Try.func4, Try.ntmps4
    go_wp2_with (go_at_call 10; refine (awake_any _).mono ?_; rintro e w1 ⟨rfl, h'⟩; replace hB := on hB h'; clear h')
    go_ret
    exact ⟨rfl, hB⟩
set_option maxHeartbeats 8000000 in
theorem walk_yes (A0 : Option Addr) (c0 : Nat) (l0 : List V) (A1 : Option Addr) (c1 : Nat) (l1 : List V) (A2 : Option Addr) (c2 : Nat) (l2 : List Int) (w : World) (r0 : RdV w A0 l0) (r1 : RdV w A1 l1) (r2 : RdI w A2 l2) (m0 : l0.length ≤ maxLen) (m1 : l1.length ≤ maxLen) (m2 : l2.length ≤ maxLen) (h0 : l0.length ≤ 40) (h1 : l1.length ≤ 40) (h2 : l2.length ≤ 40) :
    Calls Try.prog 4 #[.slice A0 l0.length c0, .slice A1 l1.length c1, .slice A2 l2.length c2] w fun e w' => e = .returned (.bool true) ∧ Below w.heap.size w w' := by
  have hB := Below.refl w.heap.size w
  have R0 := Lib.hid r0; have R1 := Lib.hid r1; have R2 := Lib.hid r2
  clear r0 r1 r2
  have g0 : (l0.length : Int) ≤ 40 := by omega
  have g1 : (l1.length : Int) ≤ 40 := by omega
  have g2 : (l2.length : Int) ≤ 40 := by omega
  go_enter Try.func4, Try.ntmps4
  go_wp2_with (first
    | (go_at_call 10; refine (awake_any _).mono ?_; rintro e w1 ⟨rfl, h'⟩; replace hB := on hB h'; clear h')
    | (go_at_call 22; refine (compareT_any _ _ _ _ _ _ _ _ _ _ (R0.out.on hB) (R1.out.on hB) (R2.out.on hB) m0 m1 m2).mono ?_; rintro e w2 ⟨rfl, h'⟩; replace hB := on hB h'; clear h')
    | (go_at_call 23; refine (refCompareT_any _ _ _ _ _ _ _ _ _ _ (R0.out.on hB) (R1.out.on hB) (R2.out.on hB) (by omega) (by omega) (by omega)).mono ?_; rintro e w3 ⟨rfl, h'⟩; replace hB := on hB h'; clear h'))
  go_ret
  exact ⟨rfl, hB⟩
theorem walk (A0 : Option Addr) (c0 : Nat) (l0 : List V) (A1 : Option Addr) (c1 : Nat) (l1 : List V) (A2 : Option Addr) (c2 : Nat) (l2 : List Int) (w : World) (r0 : RdV w A0 l0) (k0 : OkL l0) (m0 : l0.length ≤ maxLen) (r1 : RdV w A1 l1) (k1 : OkL l1) (m1 : l1.length ≤ maxLen) (r2 : RdI w A2 l2) (q2 : l2.length ≤ c2) (m2 : l2.length ≤ maxLen) (z2 : A2 = none → c2 = 0) :
    Calls Try.prog 4 #[.slice A0 l0.length c0, .slice A1 l1.length c1, .slice A2 l2.length c2] w fun e w' => e = .returned (.bool true) ∧ Below w.heap.size w w' := by
  by_cases h0 : l0.length ≤ 40
  · by_cases h1 : l1.length ≤ 40
    · by_cases h2 : l2.length ≤ 40
      · exact walk_yes A0 c0 l0 A1 c1 l1 A2 c2 l2 w r0 r1 r2 m0 m1 m2 h0 h1 h2
      · exact walk_no A0 c0 l0 A1 c1 l1 A2 c2 l2 w (.inr ⟨h0, .inr ⟨h1, by omega⟩⟩)
    · exact walk_no A0 c0 l0 A1 c1 l1 A2 c2 l2 w (.inr ⟨h0, .inl (by omega)⟩)
  · exact walk_no A0 c0 l0 A1 c1 l1 A2 c2 l2 w (.inl (by omega))

theorem own : ownKnob Try.prog.godebug = none := by kernel_rfl

set_option maxRecDepth 100000 in
theorem lifted (os : Os) (started : os.Started) (H : Type) (enc : TypeId × Value → H) :
    ReturnsInHanded {} Try.checked os 4 .any (Rows.tupleComparesSpec.pre6 enc Try.prog Try.f4 Rows.tupleComparesRow.domain false) (Rows.tupleComparesSpec.post enc Try.prog Try.f4 false true false false) := by
  refine returnsInHanded_of_change (C := Try.checked) own started (by kernel_rfl) Try.func4
    (ChangeSpec.witness6 (enc := enc) (C := Try.checked) false ⟨#[], #[.slice none 0 0, .slice none 0 0, .slice none 0 0], []⟩ 8 (by kernel_rfl) (by kernel_rfl) (by kernel_rfl) (by kernel_rfl)) ?_
  intro W base args ds gs before hval0 hW hcnd _
  have hval : ∀ (j : Nat) t v, Try.f4.params[j]? = some t → args[j]? = some v → Value.okWide Try.prog W .any base t v := hval0
  have hW' := hW
  obtain ⟨p, q, hA0, hV, rfl, hfz, hnd⟩ := hW
  have hA : DataW.TrodAll enc Try.prog W 0 (fun _ => true) true Try.f4.params.toList args.toList ds p := hA0
  have hAk := hA
  rw [Try.params4] at hA hval
  obtain ⟨v0, vs0, d0, ds0, p0, q0, hargs, rfl, rfl, h0, r0⟩ := trodAll_cons hA
  obtain ⟨v1, vs1, d1, ds1, p1, q1, rfl, rfl, rfl, h1, r1⟩ := trodAll_cons r0
  obtain ⟨v2, vs2, d2, ds2, p2, q2, rfl, rfl, rfl, h2, r2⟩ := trodAll_cons r1
  obtain ⟨rfl, rfl, rfl⟩ := trodAll_nil r2
  obtain rfl : args = #[v0, v1, v2] := by cases args; simp_all
  obtain ⟨rfl, rfl⟩ := trodVars_none hV
  obtain ⟨A0, c0, l0, rfl, r0', k0', m0'⟩ := open_vals (okWide_slice Try.underlying22 (hval 0 22 v0 rfl rfl)) h0
  obtain ⟨A1, c1, l1, rfl, r1', k1', m1'⟩ := open_vals (okWide_slice Try.underlying22 (hval 1 22 v1 rfl rfl)) h1
  obtain ⟨A2, c2, l2, rfl, r2', q2', m2', z2'⟩ := open_nums (okWide_slice Try.underlying23 (hval 2 23 v2 rfl rfl)) h2
  clear hA0 hval0
  refine (walk A0 c0 l0 A1 c1 l1 A2 c2 l2 W r0' k0' m0' r1' k1' m1' r2' q2' m2' z2').mono fun e W' ⟨he, hg⟩ => ?_
  subst he
  refine ⟨_, rfl, post_old hW' (by simpa using hAk) (by rw [Try.params4]; decide) (fun _ _ _ => (trodAll_cons_mk (shut_bool Try.underlying4 _) trodAll_mk0)) rfl (fun _ => rfl) hg⟩

theorem proved : Rows.TupleComparesSaid :=
  OpenClaim.holds_of_wide 4 Try.f4 rfl rfl rfl rfl rfl rfl rfl ⟨rfl, rfl, rfl, rfl, rfl⟩ rfl rfl rfl rfl rfl (by kernel_rfl) Try.func4 (by kernel_rfl)
    (of_decide_eq_true (by kernel_rfl)) (by unfold Func.isWrapper; first | (rw [if_pos (by decide +kernel)]; kernel_rfl) | (rw [if_neg (by decide +kernel)]; exact ⟨rfl, rfl⟩))
    (fun os started H enc _ => lifted os started H enc)
#print axioms proved
end Go.Proofs.Ytkdiaagfjhlphaa.tupleCompares

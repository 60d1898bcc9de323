/-
  ShowPaths (layer 9, show): for all steps the call returns true: their text, and whether they are a path, is as the document says. No condition.
-/
import Derived.Test.YtdolhlbkhhnpmaaDoorRows
import Derived.Test.YtdolhlbkhhnpmaaDoorCards
import Derived.Test.YtdolhlbkhhnpmaaDoorTie
import Derived.Test.YtdolhlbkhhnpmaaDoorShwTx
import Derived.Test.YtdolhlbkhhnpmaaDoorShwIn
import Derived.WalkKit
import Derived.ProofKit
import Derived.OpenShut
import Derived.LaidMore
import Derived.Lay
import Derived.SevenTiedAt
import Derived.Stop.Joined
import Derived.RegionTactic
import Derived.BigQuiet
import Derived.Lib.QuietBelow
import Derived.Deep.RegionHeld3
import Derived.Deep.MidRow
import Derived.Deep.CutRange
import Derived.Deep.DeepCutAuto
namespace Go.Proofs.YtdolhlbkhhnpmaaDoor.showPaths
open Go.ChangeShapes Go.WideShapes Go.ChangeAt Go.RowKit FloM ValM Go.Shelf
set_option linter.unusedVariables false
set_option linter.unusedSimpArgs false
set_option maxRecDepth 20000 in
set_option maxHeartbeats 4000000 in
theorem walk (A : Option Addr) (c : Nat) (l : List SI) (w : World) (hr : RdX 2 siC w A l) (hk : ∀ s ∈ l, SiOk s) (hc : l.length ≤ c) :
    Calls Tryd.prog 3 #[.slice A l.length c] w fun e w' => e = .returned (.bool true) ∧ Below w.heap.size w w' := by
  have hB := Below.refl w.heap.size w
  have hmx : l.length ≤ 9223372036854775807 := Nat.le_trans hr.1 (by decide)
  by_cases h110 : 110 < l.length
  · have hg : (110 : Int) < (l.length : Int) := by omega
    clear hr hk hc h110
    go_enter Tryd.func3, Tryd.ntmps3
    go_wp2_with (go_at_call 6; refine (awake9_any _).mono ?_; rintro e w1 ⟨rfl, h'⟩; replace hB := on hB h'; clear h')
    go_ret
    exact ⟨rfl, hB⟩
  · have hg : ¬ (110 : Int) < (l.length : Int) := by omega
    have hs : ∀ s ∈ l, s.2.size ≤ maxLen := fun s h => (hk s h).1
    have HP : Hid (∀ W, Below w.heap.size w W → Calls Tryd.prog 7 #[.slice A l.length c] W fun e w' => e = .returned (.string (bs (pathX deepT (l.map stN)))) ∧ Below W.heap.size W w') := Lib.hid fun W hW => showPath_any A c l W (hr.on hW) hs
    have HQ : Hid (∀ W, Below w.heap.size w W → Calls Tryd.prog 8 #[.slice A l.length c] W fun e w' => e = .returned (.string (bs (pathX deepT (l.map stN)))) ∧ Below W.heap.size W w') := Lib.hid fun W hW => refPath_any A c l W (hr.on hW) hs
    have HR : Hid (∀ W, Below w.heap.size w W → Calls Tryd.prog 9 #[.slice A l.length c] W fun e w' => e = .returned (.bool (decide (pathX deepT (l.map stN) ≠ []))) ∧ Below W.heap.size W w') := Lib.hid fun W hW => rightPath_any A c l W (hr.on hW) hs
    clear hr hk hc h110 hs
    generalize pathX deepT (l.map stN) = X at *
    by_cases h : X = []
    · rw [show decide (X ≠ []) = false by simp [h]] at HR
      have f2 : ((bs X).toList == []) = true := by rw [bsl, h]; rfl
      clear h
      go_enter Tryd.func3, Tryd.ntmps3
      go_wp2_with (first
        | (go_at_call 6; refine (awake9_any _).mono ?_; rintro e w1 ⟨rfl, h'⟩; replace hB := on hB h'; clear h')
        | (go_at_call 7; refine (HP.out _ hB).mono ?_; rintro e w2 ⟨rfl, h'⟩; replace hB := on hB h'; clear h')
        | (go_at_call 9; refine (HR.out _ hB).mono ?_; rintro e w2 ⟨rfl, h'⟩; replace hB := on hB h'; clear h')
        | (go_at_call 8; refine (HQ.out _ hB).mono ?_; rintro e w2 ⟨rfl, h'⟩; replace hB := on hB h'; clear h'))
      go_ret
      exact ⟨rfl, hB⟩
    · rw [show decide (X ≠ []) = true by simp [h]] at HR
      have f2 : ((bs X).toList == []) = false := by rw [bsl, beq_eq_false_iff_ne]; exact h
      clear h
      go_enter Tryd.func3, Tryd.ntmps3
      go_wp2_with (first
        | (go_at_call 6; refine (awake9_any _).mono ?_; rintro e w1 ⟨rfl, h'⟩; replace hB := on hB h'; clear h')
        | (go_at_call 7; refine (HP.out _ hB).mono ?_; rintro e w2 ⟨rfl, h'⟩; replace hB := on hB h'; clear h')
        | (go_at_call 9; refine (HR.out _ hB).mono ?_; rintro e w2 ⟨rfl, h'⟩; replace hB := on hB h'; clear h')
        | (go_at_call 8; refine (HQ.out _ hB).mono ?_; rintro e w2 ⟨rfl, h'⟩; replace hB := on hB h'; clear h'))
      go_ret
      exact ⟨rfl, hB⟩

theorem own : ownKnob Tryd.prog.godebug = none := by kernel_rfl

set_option maxRecDepth 100000 in
theorem lifted (os : Os) (started : os.Started) (H : Type) (enc : TypeId × Value → H) :
    ReturnsInHanded {} Tryd.checked os 3 .any (fun w args => (Rows.showPathsSpec.pre enc Tryd.prog Tryd.f3 Rows.showPathsRow.domain false w args ∧ laidMetH Tryd.prog Rows.showPathsRow.laid w) ∧ sizedMet enc Tryd.prog Tryd.f3 (OpenSpec.ofChange Rows.showPathsSpec) false w args) (Rows.showPathsSpec.post enc Tryd.prog Tryd.f3 false true false false) := by
  refine returnsInHanded_of_change_and (C := Tryd.checked) (X := fun w _ => laidMetH Tryd.prog Rows.showPathsRow.laid w) (fun _ _ _ hh h => h.of_heap hh) own started (by kernel_rfl) Tryd.func3
    (ChangeSpec.witness_shaped (enc := enc) (C := Tryd.checked) (os := os) (X := fun w _ => laidMetH Tryd.prog Rows.showPathsRow.laid w) false (World.laidAll Tryd.prog os Rows.showPathsRow.laid) #[.slice none 0 0] 8 (World.laidAll_os _ _ _)
      (World.shaped_of_ZipB (by kernel_rfl) (by kernel_rfl)) (by kernel_rfl) (by kernel_rfl) (by kernel_rfl)
      (by rw [MakeChecks.laidMetH_plain _ _ _ (by kernel_rfl)]; exact laidMet_laidAll _ (by kernel_rfl) (by kernel_rfl))) ?_
  intro W base args ds gs before hval0 hW hcnd _ hL _
  have hval : ∀ (j : Nat) t v, Tryd.f3.params[j]? = some t → args[j]? = some v → Value.okWide Tryd.prog W .any base t v := hval0
  have hW' := hW
  obtain ⟨p, q, hA0, hV, rfl, hfz, hnd⟩ := hW
  have hA : DataW.TrodAll enc Tryd.prog W 0 (fun _ => true) true Tryd.f3.params.toList args.toList ds p := hA0
  have hAk := hA
  rw [Tryd.params3] at hA hval
  obtain ⟨v0, vs0, d0, ds0, p0, q0, hargs, rfl, rfl, h0, r0⟩ := trodAll_cons hA
  obtain ⟨rfl, rfl, rfl⟩ := trodAll_nil r0
  obtain rfl : args = #[v0] := by cases args; simp_all
  obtain ⟨rfl, rfl⟩ := trodVars_none hV
  obtain ⟨A0, c0, l0, rfl, r0', k0', m0'⟩ := open_steps (okWide_slice Tryd.underlying22 (hval 0 22 v0 rfl rfl)) h0
  clear hA0 hval0
  refine (walk A0 c0 l0 W r0' k0' m0').mono fun e W' ⟨he, hg⟩ => ?_
  subst he
  refine ⟨_, rfl, post_old hW' (by simpa using hAk) (by rw [Tryd.params3]; decide) (fun _ _ _ => (trodAll_cons_mk (shut_bool Tryd.underlying4 _) trodAll_mk0)) rfl (fun _ => rfl) hg⟩

theorem row_proved : Rows.ShowPathsSaid :=
  OpenClaim.holds_of_wide 3 Tryd.f3 rfl rfl rfl rfl rfl rfl rfl ⟨rfl, rfl, rfl, rfl, rfl⟩ rfl rfl rfl rfl rfl (by kernel_rfl) Tryd.func3 (by kernel_rfl)
    (of_decide_eq_true (by kernel_rfl)) (by unfold Func.isWrapper; first | (rw [if_pos (by decide +kernel)]; kernel_rfl) | (rw [if_neg (by decide +kernel)]; exact ⟨rfl, rfl⟩))
    (fun os started H enc _ => lifted os started H enc)
theorem proved : Rows.ShowPathsCardSaid :=
  Claim7.holds_tied_plain_at .later [] Rows.showPathsCard.laidKinds Rows.showPathsCard.laidTests Rows.showPathsCard.stood.harness Rows.showPathsCard.stood.looks row_proved (fun _ h => by cases h) (by kernel_rfl) (fun _ h => by cases h) showPaths_row_tie rfl ⟨rfl, rfl⟩ (by kernel_rfl) rfl
    (fun f fn hf hfn => by
      obtain rfl : f = 3 := Option.some.inj ((show Tryd.prog.funcNamed "antecedent/antecedentlaw09.ShowPaths" = some 3 by kernel_rfl).symm.trans hf) |>.symm
      obtain rfl : fn = Tryd.f3 := (Option.some.inj (Tryd.func3.symm.trans hfn)).symm
      exact ⟨by kernel_rfl, fun j t ht => by
        rw [Tryd.params3] at ht
        have hm : t ∈ [22] := by simpa using Array.mem_of_getElem? ht
        have hall : ([22].all fun u => !Tryd.prog.wantsStandIn u) = true := by kernel_rfl
        exact (show Tryd.prog.wantsStandIn t = false by simpa using List.all_eq_true.1 hall t hm)⟩)
    (by kernel_rfl)
#print axioms proved
end Go.Proofs.YtdolhlbkhhnpmaaDoor.showPaths

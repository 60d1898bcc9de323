/-
  LexTells (layer 7, lex): for every text and s the call returns true: any text's tokens, or where it is wrong, and whether any text is a variable's name, or has a meaning, is as the document says. No condition.
-/
import Derived.Test.YtahnnefmkcpibaaDoorRows
import Derived.Test.YtahnnefmkcpibaaDoorCards
import Derived.Test.YtahnnefmkcpibaaDoorTie
import Derived.Test.YtahnnefmkcpibaaDoorLexRefC
import Derived.Test.YtahnnefmkcpibaaDoorValOpen
import Derived.WalkKit
import Derived.ProofKit
import Derived.OpenShut
import Derived.LaidMore
import Derived.Lay
import Derived.SevenTiedAt
import Derived.Stop.Joined
import Derived.RegionTactic
import Derived.BigQuiet
import Derived.Lib.QuietBelow
namespace Go.Proofs.YtahnnefmkcpibaaDoor.lexTells
open Go.ChangeShapes Go.WideShapes Go.ChangeAt Go.RowKit FloM ValM Go.Shelf
set_option linter.unusedVariables false
set_option linter.unusedSimpArgs false
theorem nat_is {a b : Nat} (h : a = b) : ((a : Int) == (b : Int)) = true := by rw [h]; simp
set_option maxRecDepth 20000 in
set_option maxHeartbeats 4000000 in
theorem walk (a0 a1 : ByteArray) (w0 : a0.size ≤ maxLen) (w1 : a1.size ≤ maxLen) (w : World) :
    Calls Tryd.prog 3 #[.string a0, .string a1] w fun e w' => e = .returned (.bool true) ∧ Below w.heap.size w w' := by
  have hB := Below.refl w.heap.size w
  have HKL : Hid (∀ W, Calls Tryd.prog 11 #[.string a1] W fun e w' => e = .returned (.bool (keyL (ls a1))) ∧ W = w') := Lib.hid fun W => key_any a1 W
  have HKR : Hid (∀ W, Calls Tryd.prog 12 #[.string a1] W fun e w' => e = .returned (.bool (keyL (ls a1))) ∧ Below W.heap.size W w') := Lib.hid fun W => refKey_any a1 W
  have HVL : Hid (∀ W, Calls Tryd.prog 9 #[.string a1] W fun e w' => e = .returned (.bool (varL (ls a1))) ∧ Below W.heap.size W w') := Lib.hid fun W => variable_any a1 W w1
  have HVR : Hid (∀ W, Calls Tryd.prog 10 #[.string a1] W fun e w' => e = .returned (.bool (varL (ls a1))) ∧ W = w') := Lib.hid fun W => refVar_any a1 W w1
  clear w0 w1
  generalize keyL (ls a1) = k at HKL HKR
  generalize varL (ls a1) = x at HVL HVR
  have hkk : (k == k) = true := by simp
  have hxx : (x == x) = true := by simp
  by_cases h1 : 400 < (a0.size : Int)
  · by_cases h2 : (a0.size : Int) ≤ 20000
    · go_enter Tryd.func3, Tryd.ntmps3
      go_wp2_with (go_at_call 5; refine (awakeX_any _).mono ?_; rintro e w1 ⟨rfl, h'⟩; replace hB := on hB h'; clear h')
      go_ret
      exact ⟨rfl, hB⟩
    have h2' : 20000 < (a0.size : Int) := by omega
    by_cases h3 : 40000 < (a0.size : Int)
    · go_enter Tryd.func3, Tryd.ntmps3
      go_wp2_with (go_at_call 5; refine (awakeX_any _).mono ?_; rintro e w1 ⟨rfl, h'⟩; replace hB := on hB h'; clear h')
      go_ret
      exact ⟨rfl, hB⟩
    by_cases h4 : 100 < (a1.size : Int)
    · go_enter Tryd.func3, Tryd.ntmps3
      go_wp2_with (go_at_call 5; refine (awakeX_any _).mono ?_; rintro e w1 ⟨rfl, h'⟩; replace hB := on hB h'; clear h')
      go_ret
      exact ⟨rfl, hB⟩
    go_enter Tryd.func3, Tryd.ntmps3
    go_wp2_with (first
      | (go_at_call 5; refine (awakeX_any _).mono ?_; rintro e w1 ⟨rfl, h'⟩; replace hB := on hB h'; clear h')
      | (go_at_call 6; refine (tokens_long a0 _ h2').mono ?_; rintro e w2 ⟨rfl, h'⟩; replace hB := on hB h'; clear h')
      | (go_at_call 7; refine (refTok_long a0 _ h2').mono ?_; rintro e w3 ⟨rfl, rfl⟩)
      | (go_at_call 8; refine (sameK_any [] none none 0 0 _ (by simp) RdK.nil RdK.nil).mono ?_; rintro e w4 ⟨rfl, h'⟩; replace hB := on hB h'; clear h')
      | (go_at_call 9; refine (HVL.out _).mono ?_; rintro e w5 ⟨rfl, h'⟩; replace hB := on hB h'; clear h')
      | (go_at_call 10; refine (HVR.out _).mono ?_; rintro e w6 ⟨rfl, rfl⟩)
      | (go_at_call 11; refine (HKL.out _).mono ?_; rintro e w7 ⟨rfl, rfl⟩)
      | (go_at_call 12; refine (HKR.out _).mono ?_; rintro e w8 ⟨rfl, h'⟩; replace hB := on hB h'; clear h'))
    all_goals
      go_ret
      exact ⟨rfl, hB⟩
  have h2' : ¬ 20000 < (a0.size : Int) := by omega
  have h3 : ¬ 40000 < (a0.size : Int) := by omega
  by_cases h4 : 100 < (a1.size : Int)
  · go_enter Tryd.func3, Tryd.ntmps3
    go_wp2_with (go_at_call 5; refine (awakeX_any _).mono ?_; rintro e w1 ⟨rfl, h'⟩; replace hB := on hB h'; clear h')
    go_ret
    exact ⟨rfl, hB⟩
  obtain ⟨ts, i, q, htl, HT, HR⟩ : ∃ (ts : List Tk) (i : Nat) (q : Int), ts.length ≤ 20000 ∧ Hid (∀ W, Calls Tryd.prog 6 #[.string a0] W fun e w' => ∃ (A : Option Addr) (c : Nat), e = .returned (.tuple #[.slice A ts.length c, .int .i64 (i : Nat), .int .i64 q]) ∧ RdK w' A ts ∧ Below W.heap.size W w') ∧
      Hid (∀ W, Calls Tryd.prog 7 #[.string a0] W fun e w' => ∃ (A : Option Addr) (c : Nat), e = .returned (.tuple #[.slice A ts.length c, .int .i64 (i : Nat), .int .i64 q]) ∧ RdK w' A ts ∧ Below W.heap.size W w') := by
    refine ⟨(toksL 0 (ls a0)).ts, (toksL 0 (ls a0)).pos, (toksL 0 (ls a0)).no, ?_, Lib.hid fun W => tok_q a0 W (by omega), Lib.hid fun W => ?_⟩
    · cases hq : toksL 0 (ls a0) with
      | bad _ => simp [Rs.ts]
      | good l => have := toks_len hq; rw [ls_len] at this; simp only [Rs.ts]; omega
    · have h := refTok_any a0 W h2'
      cases hq : toksL 0 (ls a0) with
      | good l => rw [hq] at h; exact h
      | bad n =>
        rw [hq] at h
        refine h.mono ?_
        rintro e w' ⟨rfl, hb⟩
        exact ⟨none, 0, rfl, RdK.nil, hb⟩
  have hqq : (q == q) = true := by simp
  go_enter Tryd.func3, Tryd.ntmps3
  go_wp2_with (first
    | (go_at_call 5; refine (awakeX_any _).mono ?_; rintro e w1 ⟨rfl, h'⟩; replace hB := on hB h'; clear h')
    | (go_at_call 6; refine (HT.out _).mono ?_; rintro e w2 ⟨A2, c2, rfl, hr2, h'⟩; have HR2 := Lib.hid hr2; replace hB := on hB h'; clear h' hr2)
    | (go_at_call 7; refine (HR.out _).mono ?_; rintro e w3 ⟨A3, c3, rfl, hr3, h'⟩; replace HR2 := Lib.hid (HR2.out.on h'); have HR3 := Lib.hid hr3; replace hB := on hB h'; clear h' hr3)
    | (go_at_call 8; refine (sameK_any ts A2 A3 c2 c3 _ htl HR2.out HR3.out).mono ?_; rintro e w4 ⟨rfl, h'⟩; replace hB := on hB h'; clear h')
    | (go_at_call 9; refine (HVL.out _).mono ?_; rintro e w5 ⟨rfl, h'⟩; replace hB := on hB h'; clear h')
    | (go_at_call 10; refine (HVR.out _).mono ?_; rintro e w6 ⟨rfl, rfl⟩)
    | (go_at_call 11; refine (HKL.out _).mono ?_; rintro e w7 ⟨rfl, rfl⟩)
    | (go_at_call 12; refine (HKR.out _).mono ?_; rintro e w8 ⟨rfl, h'⟩; replace hB := on hB h'; clear h'))
  all_goals
    go_ret
    exact ⟨rfl, hB⟩

theorem own : ownKnob Tryd.prog.godebug = none := by kernel_rfl

set_option maxRecDepth 100000 in
theorem lifted (os : Os) (started : os.Started) (H : Type) (enc : TypeId × Value → H) :
    ReturnsInHanded {} Tryd.checked os 3 .any (fun w args => (Rows.lexTellsSpec.pre enc Tryd.prog Tryd.f3 Rows.lexTellsRow.domain false w args ∧ laidMetH Tryd.prog Rows.lexTellsRow.laid w) ∧ sizedMet enc Tryd.prog Tryd.f3 (OpenSpec.ofChange Rows.lexTellsSpec) false w args) (Rows.lexTellsSpec.post enc Tryd.prog Tryd.f3 false true false false) := by
  refine returnsInHanded_of_change_and (C := Tryd.checked) (X := fun w _ => laidMetH Tryd.prog Rows.lexTellsRow.laid w) (fun _ _ _ hh h => h.of_heap hh) own started (by kernel_rfl) Tryd.func3
    (ChangeSpec.witness_shaped (enc := enc) (C := Tryd.checked) (os := os) (X := fun w _ => laidMetH Tryd.prog Rows.lexTellsRow.laid w) false (World.laidAll Tryd.prog os Rows.lexTellsRow.laid) #[.string ByteArray.empty, .string ByteArray.empty] 8 (World.laidAll_os _ _ _)
      (World.shaped_of_ZipB (by kernel_rfl) (by kernel_rfl)) (by kernel_rfl) (by kernel_rfl) (by kernel_rfl)
      (by rw [MakeChecks.laidMetH_plain _ _ _ (by kernel_rfl)]; exact laidMet_laidAll _ (by kernel_rfl) (by kernel_rfl))) ?_
  intro W base args ds gs before hval0 hW hcnd _ hL _
  have hval : ∀ (j : Nat) t v, Tryd.f3.params[j]? = some t → args[j]? = some v → Value.okWide Tryd.prog W .any base t v := hval0
  have hW' := hW
  obtain ⟨p, q, hA0, hV, rfl, hfz, hnd⟩ := hW
  have hA : DataW.TrodAll enc Tryd.prog W 0 (fun _ => true) true Tryd.f3.params.toList args.toList ds p := hA0
  rw [Tryd.params3] at hA hval
  obtain ⟨v0, vs0, d0, ds0, p0, q0, hargs, rfl, rfl, h0, r0⟩ := trodAll_cons hA
  obtain ⟨v1, vs1, d1, ds1, p1, q1, rfl, rfl, rfl, h1, r1⟩ := trodAll_cons r0
  obtain ⟨rfl, rfl, rfl⟩ := trodAll_nil r1
  obtain rfl : args = #[v0, v1] := by cases args; simp_all
  obtain ⟨rfl, rfl⟩ := trodVars_none hV
  obtain ⟨a0, rfl, rfl, rfl, w0⟩ := Go.ChangeMaps.open_string Tryd.underlying9 (hval 0 9 v0 rfl rfl) h0
  obtain ⟨a1, rfl, rfl, rfl, w1⟩ := Go.ChangeMaps.open_string Tryd.underlying9 (hval 1 9 v1 rfl rfl) h1
  clear hA0 hval0
  simp only [List.append_nil] at hW'
  refine (walk a0 a1 w0 w1 W).mono fun e W' ⟨he, hg⟩ => ?_
  subst he
  exact ⟨_, rfl, post_plain hW' (fun _ _ _ => (trodAll_cons_mk (shut_bool Tryd.underlying4 _) trodAll_mk0)) (fun sp => (trodAll_cons_mk (Go.ChangeMaps.shut_string Tryd.underlying9 w0) (trodAll_cons_mk (Go.ChangeMaps.shut_string Tryd.underlying9 w1) trodAll_mk0))) (fun _ => rfl) hg (ok_one (by kernel_rfl) rfl (okWide_bool_mk Tryd.underlying4 _))⟩

theorem row_proved : Rows.LexTellsSaid :=
  OpenClaim.holds_of_wide 3 Tryd.f3 rfl rfl rfl rfl rfl rfl rfl ⟨rfl, rfl, rfl, rfl, rfl⟩ rfl rfl rfl rfl rfl (by kernel_rfl) Tryd.func3 (by kernel_rfl)
    (of_decide_eq_true (by kernel_rfl)) (by unfold Func.isWrapper; first | (rw [if_pos (by decide +kernel)]; kernel_rfl) | (rw [if_neg (by decide +kernel)]; exact ⟨rfl, rfl⟩))
    (fun os started H enc _ => lifted os started H enc)
theorem proved : Rows.LexTellsCardSaid :=
  Claim7.holds_tied_plain_at .later [] Rows.lexTellsCard.laidKinds Rows.lexTellsCard.laidTests Rows.lexTellsCard.stood.harness Rows.lexTellsCard.stood.looks row_proved (fun _ h => by cases h) (by kernel_rfl) (fun _ h => by cases h) lexTells_row_tie rfl ⟨rfl, rfl⟩ (by kernel_rfl) rfl
    (fun f fn hf hfn => by
      obtain rfl : f = 3 := Option.some.inj ((show Tryd.prog.funcNamed "antecedent/antecedentlaw07.LexTells" = some 3 by kernel_rfl).symm.trans hf) |>.symm
      obtain rfl : fn = Tryd.f3 := (Option.some.inj (Tryd.func3.symm.trans hfn)).symm
      exact ⟨by kernel_rfl, fun j t ht => by
        rw [Tryd.params3] at ht
        have hm : t ∈ [9, 9] := by simpa using Array.mem_of_getElem? ht
        have hall : ([9, 9].all fun u => !Tryd.prog.wantsStandIn u) = true := by kernel_rfl
        exact (show Tryd.prog.wantsStandIn t = false by simpa using List.all_eq_true.1 hall t hm)⟩)
    (by kernel_rfl)
#print axioms proved
end Go.Proofs.YtahnnefmkcpibaaDoor.lexTells

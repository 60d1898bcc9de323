/-
  LexParts (layer 7, lex): for every a, b the call returns true: two texts with a space between them have the tokens of both; where the first one is wrong, all is, there. No condition.
-/
import Derived.Test.YtcnifjfekppeaaaDoorRows
import Derived.Test.YtcnifjfekppeaaaDoorCards
import Derived.Test.YtcnifjfekppeaaaDoorTie
import Derived.Test.YtcnifjfekppeaaaDoorLexAwake
import Derived.Test.YtcnifjfekppeaaaDoorValOpen
import Derived.WalkKit
import Derived.ProofKit
import Derived.OpenShut
import Derived.LaidMore
import Derived.Lay
import Derived.SevenTiedAt
import Derived.Stop.Joined
import Derived.RegionTactic
import Derived.BigQuiet
namespace Go.Proofs.YtcnifjfekppeaaaDoor.lexParts
open Go.ChangeShapes Go.WideShapes Go.ChangeAt Go.RowKit FloM ValM Go.Shelf
set_option linter.unusedVariables false
set_option linter.unusedSimpArgs false
set_option maxHeartbeats 1000000 in
theorem walk_l0 (a0 a1 : ByteArray) (w : World) (h0 : 400 < (a0.size : Int)) :
    Calls Tryd.prog 7 #[.string a0, .string a1] w fun e w' => e = .returned (.bool true) ∧ Below w.heap.size w w' := by
  have hB := Below.refl w.heap.size w
  go_enter Tryd.func7, Tryd.ntmps7
  go_wp2_with (go_at_call 9; refine (awakeX_any _).mono ?_; rintro e w1 ⟨rfl, h'⟩; replace hB := on hB h'; clear h')
  go_ret
  exact ⟨rfl, hB⟩
set_option maxHeartbeats 1000000 in
theorem walk_l1 (a0 a1 : ByteArray) (w : World) (h0 : ¬ 400 < (a0.size : Int)) (h1 : 400 < (a1.size : Int)) :
    Calls Tryd.prog 7 #[.string a0, .string a1] w fun e w' => e = .returned (.bool true) ∧ Below w.heap.size w w' := by
  have hB := Below.refl w.heap.size w
  go_enter Tryd.func7, Tryd.ntmps7
  go_wp2_with (go_at_call 9; refine (awakeX_any _).mono ?_; rintro e w1 ⟨rfl, h'⟩; replace hB := on hB h'; clear h')
  go_ret
  exact ⟨rfl, hB⟩
/-- Tokens of a text answers so many, that place, that error. -/
abbrev Tells (s : ByteArray) (m : Nat) (i : Nat) (q : Int) : Prop := ∀ W : World, Calls Tryd.prog 10 #[.string s] W fun e w' => ∃ (A : Option Addr) (c : Nat), e = .returned (.tuple #[.slice A m c, .int .i64 (i : Nat), .int .i64 q]) ∧ Below W.heap.size W w'
set_option maxHeartbeats 2000000 in
theorem core (a0 a1 z : ByteArray) (w : World) (h0 : ¬ 400 < (a0.size : Int)) (h1 : ¬ 400 < (a1.size : Int)) (hz : a0 ++ ⟨#[32]⟩ ++ a1 = z) (hx1 : ¬ 9223372036854775807 < a0.size + (⟨#[32]⟩ : ByteArray).size) (hx2 : ¬ 9223372036854775807 < (a0 ++ ⟨#[32]⟩).size + a1.size)
    (la lb lz ia ib iz : Nat) (ea eb ez : Int) (TA : Hid (Tells a0 la ia ea)) (TB : Hid (Tells a1 lb ib eb)) (TZ : Hid (Tells z lz iz ez)) (hib : ib ≤ 400) (hla : la ≤ 800) (hlb : lb ≤ 800)
    (h : ((ea != 0) = true ∧ (ez == ea) = true ∧ ((iz : Int) == (ia : Int)) = true ∧ ((lz : Int) == 0) = true) ∨ ((ea != 0) = false ∧ (eb != 0) = true ∧ (ez == eb) = true ∧ ((iz : Int) == (a0.size : Int) + 1 + (ib : Int)) = true ∧ ((lz : Int) == 0) = true) ∨ ((ea != 0) = false ∧ (eb != 0) = false ∧ (ez == 0) = true ∧ ((lz : Int) == (la : Int) + (lb : Int)) = true)) :
    Calls Tryd.prog 7 #[.string a0, .string a1] w fun e w' => e = .returned (.bool true) ∧ Below w.heap.size w w' := by
  have hB := Below.refl w.heap.size w
  rcases h with ⟨k1, k2, k3, k4⟩ | ⟨k1, k2, k3, k4, k5⟩ | ⟨k1, k2, k3, k4⟩
  all_goals
    go_enter Tryd.func7, Tryd.ntmps7
    go_wp2_with (first | (go_at_call 9; refine (awakeX_any _).mono ?_; rintro e w1 ⟨rfl, h'⟩; replace hB := on hB h'; clear h') | (go_at_call 10; first | ((with_reducible refine (TA.out _).mono ?_); rintro e w2 ⟨A2, c2, rfl, hb⟩; replace hB := on hB hb; clear hb) | ((with_reducible refine (TB.out _).mono ?_); rintro e w3 ⟨A3, c3, rfl, hb⟩; replace hB := on hB hb; clear hb) | ((with_reducible refine (TZ.out _).mono ?_); rintro e w4 ⟨A4, c4, rfl, hb⟩; replace hB := on hB hb; clear hb)))
    go_ret
    exact ⟨rfl, hB⟩
theorem tells (s : ByteArray) (hs : s.size ≤ 20000) : Tells s (toksL 0 (ls s)).ts.length (toksL 0 (ls s)).pos (toksL 0 (ls s)).no := fun W => (tok_q s W hs).mono fun e w' ⟨A, c, he, _, hb⟩ => ⟨A, c, he, hb⟩
theorem on_bad {d n : Nat} {R : Rs} (h : R = .bad n) : R.on d = .bad (n + d) := by rw [h]; rfl
theorem bad_le {a n : Nat} : ∀ (m : Nat) (a : Nat) (l : List UInt8), l.length ≤ m → toksL a l = .bad n → n ≤ a + l.length := by
  intro m
  induction m with
  | zero =>
    intro a l hl h
    have : l = [] := List.eq_nil_of_length_eq_zero (by omega)
    subst this
    rw [toks_end rfl] at h; cases h
  | succ m ih =>
    intro a l hl h
    by_cases he : l.drop (spanL sepC l) = []
    · rw [toks_end he] at h; cases h
    · have hsp := span_le sepC l
      cases hf : firstL (l.drop (spanL sepC l)) with
      | none => rw [toks_bad he hf] at h; injection h with h; omega
      | some o =>
        obtain ⟨k, j⟩ := o
        have hp := first_pos hf
        rw [List.length_drop] at hp
        rw [toks_more hf] at h
        cases hr : toksL (a + spanL sepC l + j) (l.drop (spanL sepC l + j)) with
        | good r => rw [hr] at h; cases h
        | bad q =>
          rw [hr] at h
          simp only [Rs.pre, Rs.bad.injEq] at h
          subst h
          have := ih _ _ (by rw [List.length_drop]; omega) hr
          rw [List.length_drop] at this; omega
theorem walk (a0 a1 : ByteArray) (w0 : a0.size ≤ maxLen) (w1 : a1.size ≤ maxLen) (w : World) :
    Calls Tryd.prog 7 #[.string a0, .string a1] w fun e w' => e = .returned (.bool true) ∧ Below w.heap.size w w' := by
  by_cases h0 : 400 < (a0.size : Int)
  · exact walk_l0 a0 a1 w h0
  by_cases h1 : 400 < (a1.size : Int)
  · exact walk_l1 a0 a1 w h0 h1
  have hsz : (a0 ++ ⟨#[32]⟩ ++ a1).size = a0.size + 1 + a1.size := by rw [← ls_len, ls_append, ls_append, List.length_append, List.length_append, ls_len, ls_len]; rfl
  have hs1 : (a0 ++ ⟨#[32]⟩).size = a0.size + 1 := by rw [← ls_len, ls_append, List.length_append, ls_len]; rfl
  have hlz : ls (a0 ++ ⟨#[32]⟩ ++ a1) = ls a0 ++ 32 :: ls a1 := by rw [ls_append, ls_append, List.append_assoc]; rfl
  have hR := toks_parts 32 (by decide) (ls a1) _ 0 (ls a0) (Nat.le_refl _)
  rw [← hlz, toks_at (0 + _ + 1)] at hR
  have TZ := tells (a0 ++ ⟨#[32]⟩ ++ a1) (by omega)
  rw [hR] at TZ
  have TA := tells a0 (by omega)
  have TB := tells a1 (by omega)
  have go := fun la lb lz ia ib iz ea eb ez TA TB TZ => core a0 a1 _ w h0 h1 rfl (by rw [show ((⟨#[32]⟩ : ByteArray)).size = 1 from rfl]; omega) (by rw [hs1]; omega) la lb lz ia ib iz ea eb ez (Lib.hid TA) (Lib.hid TB) (Lib.hid TZ)
  cases hA : toksL 0 (ls a0) with
  | bad i =>
    rw [hA] at TA TZ
    cases hB : toksL 0 (ls a1) with
    | bad k =>
      rw [hB] at TB
      have := bad_le (a := 0) _ _ _ (Nat.le_refl _) hB
      rw [ls_len] at this
      exact go _ _ _ _ _ _ _ _ _ TA TB TZ (by simp only [Rs.pos]; omega) (by simp [Rs.ts]) (by simp [Rs.ts]) (.inl (by simp [Rs.then, Rs.ts, Rs.pos, Rs.no]))
    | good l =>
      rw [hB] at TB
      have := toks_len hB
      rw [ls_len] at this
      exact go _ _ _ _ _ _ _ _ _ TA TB TZ (by simp [Rs.pos]) (by simp [Rs.ts]) (by simp only [Rs.ts]; omega) (.inl (by simp [Rs.then, Rs.ts, Rs.pos, Rs.no]))
  | good l =>
    have hl := toks_len hA
    rw [ls_len] at hl
    rw [hA] at TA TZ
    cases hB : toksL 0 (ls a1) with
    | bad k =>
      rw [hB] at TB TZ
      have := bad_le (a := 0) _ _ _ (Nat.le_refl _) hB
      rw [ls_len] at this
      exact go _ _ _ _ _ _ _ _ _ TA TB TZ (by simp only [Rs.pos]; omega) (by simp only [Rs.ts]; omega) (by simp [Rs.ts]) (.inr (.inl (by simp [Rs.then, Rs.on, Rs.lay, Rs.ts, Rs.pos, Rs.no, ls_len]; omega)))
    | good m =>
      have hm := toks_len hB
      rw [ls_len] at hm
      rw [hB] at TB TZ
      exact go _ _ _ _ _ _ _ _ _ TA TB TZ (by simp [Rs.pos]) (by simp only [Rs.ts]; omega) (by simp only [Rs.ts]; omega) (.inr (.inr (by simp [Rs.then, Rs.on, Rs.lay, Rs.ts, Rs.pos, Rs.no])))

theorem own : ownKnob Tryd.prog.godebug = none := by kernel_rfl

set_option maxRecDepth 100000 in
theorem lifted (os : Os) (started : os.Started) (H : Type) (enc : TypeId × Value → H) :
    ReturnsInHanded {} Tryd.checked os 7 .any (fun w args => (Rows.lexPartsSpec.pre enc Tryd.prog Tryd.f7 Rows.lexPartsRow.domain false w args ∧ laidMetH Tryd.prog Rows.lexPartsRow.laid w) ∧ sizedMet enc Tryd.prog Tryd.f7 (OpenSpec.ofChange Rows.lexPartsSpec) false w args) (Rows.lexPartsSpec.post enc Tryd.prog Tryd.f7 false true false false) := by
  refine returnsInHanded_of_change_and (C := Tryd.checked) (X := fun w _ => laidMetH Tryd.prog Rows.lexPartsRow.laid w) (fun _ _ _ hh h => h.of_heap hh) own started (by kernel_rfl) Tryd.func7
    (ChangeSpec.witness_shaped (enc := enc) (C := Tryd.checked) (os := os) (X := fun w _ => laidMetH Tryd.prog Rows.lexPartsRow.laid w) false (World.laidAll Tryd.prog os Rows.lexPartsRow.laid) #[.string ByteArray.empty, .string ByteArray.empty] 8 (World.laidAll_os _ _ _)
      (World.shaped_of_ZipB (by kernel_rfl) (by kernel_rfl)) (by kernel_rfl) (by kernel_rfl) (by kernel_rfl)
      (by rw [MakeChecks.laidMetH_plain _ _ _ (by kernel_rfl)]; exact laidMet_laidAll _ (by kernel_rfl) (by kernel_rfl))) ?_
  intro W base args ds gs before hval0 hW hcnd _ hL _
  have hval : ∀ (j : Nat) t v, Tryd.f7.params[j]? = some t → args[j]? = some v → Value.okWide Tryd.prog W .any base t v := hval0
  have hW' := hW
  obtain ⟨p, q, hA0, hV, rfl, hfz, hnd⟩ := hW
  have hA : DataW.TrodAll enc Tryd.prog W 0 (fun _ => true) true Tryd.f7.params.toList args.toList ds p := hA0
  rw [Tryd.params7] at hA hval
  obtain ⟨v0, vs0, d0, ds0, p0, q0, hargs, rfl, rfl, h0, r0⟩ := trodAll_cons hA
  obtain ⟨v1, vs1, d1, ds1, p1, q1, rfl, rfl, rfl, h1, r1⟩ := trodAll_cons r0
  obtain ⟨rfl, rfl, rfl⟩ := trodAll_nil r1
  obtain rfl : args = #[v0, v1] := by cases args; simp_all
  obtain ⟨rfl, rfl⟩ := trodVars_none hV
  obtain ⟨a0, rfl, rfl, rfl, w0⟩ := Go.ChangeMaps.open_string Tryd.underlying9 (hval 0 9 v0 rfl rfl) h0
  obtain ⟨a1, rfl, rfl, rfl, w1⟩ := Go.ChangeMaps.open_string Tryd.underlying9 (hval 1 9 v1 rfl rfl) h1
  clear hA0 hval0
  simp only [List.append_nil] at hW'
  refine (walk a0 a1 w0 w1 W).mono fun e W' ⟨he, hg⟩ => ?_
  subst he
  exact ⟨_, rfl, post_plain hW' (fun _ _ _ => (trodAll_cons_mk (shut_bool Tryd.underlying4 _) trodAll_mk0)) (fun sp => (trodAll_cons_mk (Go.ChangeMaps.shut_string Tryd.underlying9 w0) (trodAll_cons_mk (Go.ChangeMaps.shut_string Tryd.underlying9 w1) trodAll_mk0))) (fun _ => rfl) hg (ok_one (by kernel_rfl) rfl (okWide_bool_mk Tryd.underlying4 _))⟩

theorem row_proved : Rows.LexPartsSaid :=
  OpenClaim.holds_of_wide 7 Tryd.f7 rfl rfl rfl rfl rfl rfl rfl ⟨rfl, rfl, rfl, rfl, rfl⟩ rfl rfl rfl rfl rfl (by kernel_rfl) Tryd.func7 (by kernel_rfl)
    (of_decide_eq_true (by kernel_rfl)) (by unfold Func.isWrapper; first | (rw [if_pos (by decide +kernel)]; kernel_rfl) | (rw [if_neg (by decide +kernel)]; exact ⟨rfl, rfl⟩))
    (fun os started H enc _ => lifted os started H enc)
theorem proved : Rows.LexPartsCardSaid :=
  Claim7.holds_tied_plain_at .later [] Rows.lexPartsCard.laidKinds Rows.lexPartsCard.laidTests Rows.lexPartsCard.stood.harness Rows.lexPartsCard.stood.looks row_proved (fun _ h => by cases h) (by kernel_rfl) (fun _ h => by cases h) lexParts_row_tie rfl ⟨rfl, rfl⟩ (by kernel_rfl) rfl
    (fun f fn hf hfn => by
      obtain rfl : f = 7 := Option.some.inj ((show Tryd.prog.funcNamed "antecedent/antecedentlaw07.LexParts" = some 7 by kernel_rfl).symm.trans hf) |>.symm
      obtain rfl : fn = Tryd.f7 := (Option.some.inj (Tryd.func7.symm.trans hfn)).symm
      exact ⟨by kernel_rfl, fun j t ht => by
        rw [Tryd.params7] at ht
        have hm : t ∈ [9, 9] := by simpa using Array.mem_of_getElem? ht
        have hall : ([9, 9].all fun u => !Tryd.prog.wantsStandIn u) = true := by kernel_rfl
        exact (show Tryd.prog.wantsStandIn t = false by simpa using List.all_eq_true.1 hall t hm)⟩)
    (by kernel_rfl)
#print axioms proved
end Go.Proofs.YtcnifjfekppeaaaDoor.lexParts

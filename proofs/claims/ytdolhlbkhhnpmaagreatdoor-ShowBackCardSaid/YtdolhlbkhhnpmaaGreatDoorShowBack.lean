/-
  ShowBack (layer 9, show): for every program the call returns true: what can be, as a text, is parsed as it was; what can't has no text. No condition.
-/
import Derived.Test.YtdolhlbkhhnpmaaGreatDoorRows
import Derived.Test.YtdolhlbkhhnpmaaGreatDoorCards
import Derived.Test.YtdolhlbkhhnpmaaGreatDoorTie
import Derived.Test.YtdolhlbkhhnpmaaGreatDoorShwSm
import Derived.Test.YtdolhlbkhhnpmaaGreatDoorShwLit
import Derived.Test.YtdolhlbkhhnpmaaGreatDoorShwIn
import Derived.WalkKit
import Derived.ProofKit
import Derived.OpenShut
import Derived.LaidMore
import Derived.Lay
import Derived.SevenTiedAt
import Derived.Stop.Joined
import Derived.RegionTactic
import Derived.BigQuiet
import Derived.Lib.QuietBelow
import Derived.Deep.RegionHeld3
import Derived.Deep.MidRow
import Derived.Deep.CutRange
import Derived.Deep.DeepCutAuto
namespace Go.Proofs.YtdolhlbkhhnpmaaGreatDoor.showBack
open Go.ChangeShapes Go.WideShapes Go.ChangeAt Go.RowKit FloM ValM Go.Shelf
set_option linter.unusedVariables false
set_option linter.unusedSimpArgs false
def SamePg (x : PgI) (V : World) : Prop := ∀ X : PgA, X.rd V → X.pg = pgOf x → Calls Tryz.prog 17 #[.agg #[.slice x.A x.r.length x.c, .string (bs x.q.p), .slice x.q.A x.q.a.length x.q.c], .agg #[.slice X.A X.r.length X.c, .string (bs X.q.p), .slice X.q.A X.q.a.length X.q.c]] V fun e w' => e = .returned (.bool true) ∧ Below V.heap.size V w'
theorem same_pg {x : PgI} {V : World} (hx : x.rd V) (hok : x.ok) (ht : textX litX x ≠ []) : SamePg x V := fun X hX hp => by
  have h := same9_yes x (pgI X) V hx (pgI_rd hX) (by rw [pgI_er, hp, pg_er ht hok])
  have e : (pgI X).r.length = X.r.length := List.length_map _
  rw [e] at h
  exact h
theorem parse_pg {x : PgI} (hok : x.ok) (ht : textX litX x ≠ []) : TellsP (bs (textX litX x)) (pgOf x) 0 0 := by
  obtain ⟨T, h1, h2, h3⟩ := prog_reads ht hok
  have h := parse_all (bs (textX litX x)) (by rw [bs_size]; exact h3)
  rw [ls_bs, h1] at h
  have e : progS (bs (textX litX x)).size (.good T) = .ok (pgOf x) [] := h2 _
  rw [e] at h
  exact h
set_option maxRecDepth 20000 in
set_option maxHeartbeats 8000000 in
theorem walk (x : PgI) (w : World) (hr : x.rd w) (hk : x.ok) :
    Calls Tryz.prog 4 #[.agg #[.slice x.A x.r.length x.c, .string (bs x.q.p), .slice x.q.A x.q.a.length x.q.c]] w fun e w' => e = .returned (.bool true) ∧ Below w.heap.size w w' := by
  go_enter Tryz.func4, Tryz.ntmps4
  go_upto_region 1 with fail
  generalize hW0 : World.alloc w _ = W0
  have hb0 : Below w.heap.size w W0 := hW0 ▸ (Below.refl _ _).alloc (Nat.le_refl _) _
  have hr0 : Row 27 W0 w.heap.size [.slice x.A x.r.length x.c, .string (bs x.q.p), .slice x.q.A x.q.a.length x.q.c] := by rw [← hW0]; exact row_new w _
  have hx0 := hr.on hb0
  have hlt0 : w.heap.size < W0.heap.size := hr0.lt
  clear hW0
  have HB0 := Lib.hid hb0; have HR0 := Lib.hid hr0
  have HFew : Hid (∀ V, Below W0.heap.size W0 V → Calls Tryz.prog 8 #[.agg #[.slice x.A x.r.length x.c, .string (bs x.q.p), .slice x.q.A x.q.a.length x.q.c], .int .i64 12, .int .i64 14] V (AnyB V)) := Lib.hid fun V hV => few9_any x V (hx0.on hV)
  have HText : Hid (∀ V, Below W0.heap.size W0 V → Calls Tryz.prog 11 #[.agg #[.slice x.A x.r.length x.c, .string (bs x.q.p), .slice x.q.A x.q.a.length x.q.c]] V fun e w' => e = .returned (.string (bs (textX litX x))) ∧ Below V.heap.size V w') := Lib.hid fun V hV => showText_any x V (hx0.on hV) hk
  have HRight : Hid (∀ V, Below W0.heap.size W0 V → Calls Tryz.prog 13 #[.agg #[.slice x.A x.r.length x.c, .string (bs x.q.p), .slice x.q.A x.q.a.length x.q.c]] V fun e w' => e = .returned (.bool (decide (textX litX x ≠ []))) ∧ Below V.heap.size V w') := Lib.hid fun V hV => showRight_any x V (hx0.on hV) hk
  have h4 : Below W0.heap.size W0 W0 := Below.refl _ _
  have p0 := hr0.cell 0; have p1 := hr0.cell 1; have p2 := hr0.cell 2
  simp only [List.getElem?_cons_zero, List.getElem?_cons_succ] at p0 p1 p2
  by_cases ht : textX litX x = []
  · have f2 : ((bs (textX litX x)).toList == []) = true := by rw [bsl, ht]; rfl
    rw [show decide (textX litX x ≠ []) = false by simp [ht]] at HRight
    generalize textX litX x = T at *
    clear ht hr hk hx0 hb0 hr0
    go_wp2_with (first
      | (go_at_call 7; refine (awake9_any _).mono ?_; rintro e w1 ⟨rfl, h'⟩; replace h4 := on h4 h'; replace p0 := (rowOn HR0.out h4).cell 0; replace p1 := (rowOn HR0.out h4).cell 1; replace p2 := (rowOn HR0.out h4).cell 2; simp only [List.getElem?_cons_zero, List.getElem?_cons_succ] at p0 p1 p2; clear h')
      | (go_at_call 8; refine (HFew.out _ h4).mono ?_; rintro e w2 ⟨fb, rfl, h'⟩; replace h4 := on h4 h'; replace p0 := (rowOn HR0.out h4).cell 0; replace p1 := (rowOn HR0.out h4).cell 1; replace p2 := (rowOn HR0.out h4).cell 2; simp only [List.getElem?_cons_zero, List.getElem?_cons_succ] at p0 p1 p2; clear h')
      | (go_at_call 11; refine (HText.out _ h4).mono ?_; rintro e w2 ⟨rfl, h'⟩; replace h4 := on h4 h'; replace p0 := (rowOn HR0.out h4).cell 0; replace p1 := (rowOn HR0.out h4).cell 1; replace p2 := (rowOn HR0.out h4).cell 2; simp only [List.getElem?_cons_zero, List.getElem?_cons_succ] at p0 p1 p2; clear h')
      | (go_at_call 13; refine (HRight.out _ h4).mono ?_; rintro e w2 ⟨rfl, h'⟩; replace h4 := on h4 h'; replace p0 := (rowOn HR0.out h4).cell 0; replace p1 := (rowOn HR0.out h4).cell 1; replace p2 := (rowOn HR0.out h4).cell 2; simp only [List.getElem?_cons_zero, List.getElem?_cons_succ] at p0 p1 p2; clear h'))
    all_goals
      go_ret
      exact ⟨rfl, on HB0.out h4⟩
  · have HPar := Lib.hid (parse_pg hk ht)
    have HSm : Hid (∀ V, Below W0.heap.size W0 V → SamePg x V) := Lib.hid fun V hV => same_pg (hx0.on hV) hk ht
    rw [show decide (textX litX x ≠ []) = true by simp [ht]] at HRight
    generalize textX litX x = T at *
    clear ht hr hk hx0 hb0 hr0
    go_wp2_with (first
      | (go_at_call 7; refine (awake9_any _).mono ?_; rintro e w1 ⟨rfl, h'⟩; replace h4 := on h4 h'; replace p0 := (rowOn HR0.out h4).cell 0; replace p1 := (rowOn HR0.out h4).cell 1; replace p2 := (rowOn HR0.out h4).cell 2; simp only [List.getElem?_cons_zero, List.getElem?_cons_succ] at p0 p1 p2; clear h')
      | (go_at_call 8; refine (HFew.out _ h4).mono ?_; rintro e w2 ⟨fb, rfl, h'⟩; replace h4 := on h4 h'; replace p0 := (rowOn HR0.out h4).cell 0; replace p1 := (rowOn HR0.out h4).cell 1; replace p2 := (rowOn HR0.out h4).cell 2; simp only [List.getElem?_cons_zero, List.getElem?_cons_succ] at p0 p1 p2; clear h')
      | (go_at_call 11; refine (HText.out _ h4).mono ?_; rintro e w2 ⟨rfl, h'⟩; replace h4 := on h4 h'; replace p0 := (rowOn HR0.out h4).cell 0; replace p1 := (rowOn HR0.out h4).cell 1; replace p2 := (rowOn HR0.out h4).cell 2; simp only [List.getElem?_cons_zero, List.getElem?_cons_succ] at p0 p1 p2; clear h')
      | (go_at_call 13; refine (HRight.out _ h4).mono ?_; rintro e w2 ⟨rfl, h'⟩; replace h4 := on h4 h'; replace p0 := (rowOn HR0.out h4).cell 0; replace p1 := (rowOn HR0.out h4).cell 1; replace p2 := (rowOn HR0.out h4).cell 2; simp only [List.getElem?_cons_zero, List.getElem?_cons_succ] at p0 p1 p2; clear h')
      | (go_at_call 16; refine (HPar.out _).mono ?_; rintro e w2 ⟨X, hpg, rfl, hXok, h'⟩; have HXR := Lib.hid (PgA.ok.rd hXok); have HPG := Lib.hid hpg; replace h4 := on h4 h'; replace p0 := (rowOn HR0.out h4).cell 0; replace p1 := (rowOn HR0.out h4).cell 1; replace p2 := (rowOn HR0.out h4).cell 2; simp only [List.getElem?_cons_zero, List.getElem?_cons_succ] at p0 p1 p2; have hlt2 : w.heap.size < w2.heap.size := Nat.lt_of_lt_of_le hlt0 h4.size; clear h' hXok hpg)
      | (go_at_call 17; refine (HSm.out _ (h4.alloc h4.size _) X (PgA.rd.on HXR.out ((Below.refl _ _).alloc (Nat.le_refl _) _)) HPG.out).mono ?_; rintro e w3 ⟨rfl, h'⟩; replace h4 := on (h4.alloc h4.size _) h'; clear h'))
    all_goals
      go_ret
      exact ⟨rfl, on HB0.out h4⟩

theorem own : ownKnob Tryz.prog.godebug = none := by kernel_rfl

set_option maxRecDepth 100000 in
theorem lifted (os : Os) (started : os.Started) (H : Type) (enc : TypeId × Value → H) :
    ReturnsInHanded {} Tryz.checked os 4 .any (fun w args => (Rows.showBackSpec.pre enc Tryz.prog Tryz.f4 Rows.showBackRow.domain false w args ∧ laidMetH Tryz.prog Rows.showBackRow.laid w) ∧ sizedMet enc Tryz.prog Tryz.f4 (OpenSpec.ofChange Rows.showBackSpec) false w args) (Rows.showBackSpec.post enc Tryz.prog Tryz.f4 false true false false) := by
  refine returnsInHanded_of_change_and (C := Tryz.checked) (X := fun w _ => laidMetH Tryz.prog Rows.showBackRow.laid w) (fun _ _ _ hh h => h.of_heap hh) own started (by kernel_rfl) Tryz.func4
    (ChangeSpec.witness_shaped (enc := enc) (C := Tryz.checked) (os := os) (X := fun w _ => laidMetH Tryz.prog Rows.showBackRow.laid w) false (World.laidAll Tryz.prog os Rows.showBackRow.laid) #[.agg #[.slice none 0 0, .string ByteArray.empty, .slice none 0 0]] 8 (World.laidAll_os _ _ _)
      (World.shaped_of_ZipB (by kernel_rfl) (by kernel_rfl)) (by kernel_rfl) (by kernel_rfl) (by kernel_rfl)
      (by rw [MakeChecks.laidMetH_plain _ _ _ (by kernel_rfl)]; exact laidMet_laidAll _ (by kernel_rfl) (by kernel_rfl))) ?_
  intro W base args ds gs before hval0 hW hcnd _ hL _
  have hval : ∀ (j : Nat) t v, Tryz.f4.params[j]? = some t → args[j]? = some v → Value.okWide Tryz.prog W .any base t v := hval0
  have hW' := hW
  obtain ⟨p, q, hA0, hV, rfl, hfz, hnd⟩ := hW
  have hA : DataW.TrodAll enc Tryz.prog W 0 (fun _ => true) true Tryz.f4.params.toList args.toList ds p := hA0
  have hAk := hA
  rw [Tryz.params4] at hA hval
  obtain ⟨v0, vs0, d0, ds0, p0, q0, hargs, rfl, rfl, h0, r0⟩ := trodAll_cons hA
  obtain ⟨rfl, rfl, rfl⟩ := trodAll_nil r0
  obtain rfl : args = #[v0] := by cases args; simp_all
  obtain ⟨rfl, rfl⟩ := trodVars_none hV
  obtain ⟨x0, rfl, r0', k0'⟩ := open_prog (okWide_struct Tryz.underlying27 (hval 0 27 v0 rfl rfl)) h0
  clear hA0 hval0
  refine (walk x0 W r0' k0').mono fun e W' ⟨he, hg⟩ => ?_
  subst he
  refine ⟨_, rfl, post_old hW' (by simpa using hAk) (by rw [Tryz.params4]; decide) (fun _ _ _ => (trodAll_cons_mk (shut_bool Tryz.underlying4 _) trodAll_mk0)) rfl (fun _ => rfl) hg⟩

theorem row_proved : Rows.ShowBackSaid :=
  OpenClaim.holds_of_wide 4 Tryz.f4 rfl rfl rfl rfl rfl rfl rfl ⟨rfl, rfl, rfl, rfl, rfl⟩ rfl rfl rfl rfl rfl (by kernel_rfl) Tryz.func4 (by kernel_rfl)
    (of_decide_eq_true (by kernel_rfl)) (by unfold Func.isWrapper; first | (rw [if_pos (by decide +kernel)]; kernel_rfl) | (rw [if_neg (by decide +kernel)]; exact ⟨rfl, rfl⟩))
    (fun os started H enc _ => lifted os started H enc)
theorem proved : Rows.ShowBackCardSaid :=
  Claim7.holds_tied_plain_at .later [] Rows.showBackCard.laidKinds Rows.showBackCard.laidTests Rows.showBackCard.stood.harness Rows.showBackCard.stood.looks row_proved (fun _ h => by cases h) (by kernel_rfl) (fun _ h => by cases h) showBack_row_tie rfl ⟨rfl, rfl⟩ (by kernel_rfl) rfl
    (fun f fn hf hfn => by
      obtain rfl : f = 4 := Option.some.inj ((show Tryz.prog.funcNamed "antecedent/antecedentlaw09.ShowBack" = some 4 by kernel_rfl).symm.trans hf) |>.symm
      obtain rfl : fn = Tryz.f4 := (Option.some.inj (Tryz.func4.symm.trans hfn)).symm
      exact ⟨by kernel_rfl, fun j t ht => by
        rw [Tryz.params4] at ht
        have hm : t ∈ [27] := by simpa using Array.mem_of_getElem? ht
        have hall : ([27].all fun u => !Tryz.prog.wantsStandIn u) = true := by kernel_rfl
        exact (show Tryz.prog.wantsStandIn t = false by simpa using List.all_eq_true.1 hall t hm)⟩)
    (by kernel_rfl)
#print axioms proved
end Go.Proofs.YtdolhlbkhhnpmaaGreatDoor.showBack

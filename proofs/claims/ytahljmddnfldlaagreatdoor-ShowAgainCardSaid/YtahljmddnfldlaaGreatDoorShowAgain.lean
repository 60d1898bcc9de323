/-
  ShowAgain (layer 9, show): for every text the call returns true: what is parsed can be, and its text is parsed as the same, and shown as the same text again. No condition.
-/
import Derived.Test.YtahljmddnfldlaaGreatDoorRows
import Derived.Test.YtahljmddnfldlaaGreatDoorCards
import Derived.Test.YtahljmddnfldlaaGreatDoorTie
import Derived.Test.YtahljmddnfldlaaGreatDoorShwSm
import Derived.Test.YtahljmddnfldlaaGreatDoorShwLit
import Derived.Test.YtahljmddnfldlaaGreatDoorShwIn
import Derived.WalkKit
import Derived.ProofKit
import Derived.OpenShut
import Derived.LaidMore
import Derived.Lay
import Derived.SevenTiedAt
import Derived.Stop.Joined
import Derived.RegionTactic
import Derived.BigQuiet
import Derived.Lib.QuietBelow
import Derived.Deep.RegionHeld3
import Derived.Deep.MidRow
import Derived.Deep.CutRange
import Derived.Deep.DeepCutAuto
namespace Go.Proofs.YtahljmddnfldlaaGreatDoor.showAgain
open Go.ChangeShapes Go.WideShapes Go.ChangeAt Go.RowKit FloM ValM Go.Shelf
set_option linter.unusedVariables false
set_option linter.unusedSimpArgs false
theorem lt_ok_same {x y : LtI} (h : x.er = y.er) (hx : x.ok) : y.ok := by
  obtain ⟨k, ⟨p, A, c, a⟩, o, ta, tb, tc, pA, pc, q⟩ := x
  obtain ⟨k', ⟨p', A', c', a'⟩, o', ta', tb', tc', pA', pc', q'⟩ := y
  simp only [LtI.er, AmA.am, LtE.mk.injEq, Am.mk.injEq] at h
  obtain ⟨rfl, ⟨rfl, rfl⟩, rfl, rfl, rfl, rfl, rfl⟩ := h
  exact hx
theorem am_ok_same {x y : AmA} (h : x.am = y.am) (hx : AmOk x) : AmOk y := by
  obtain ⟨p, A, c, a⟩ := x
  obtain ⟨p', A', c', a'⟩ := y
  simp only [AmA.am, Am.mk.injEq] at h
  obtain ⟨rfl, rfl⟩ := h
  exact hx
theorem each_same {α β : Type} {f : α → β} {p : α → Prop} (hp : ∀ x y, f x = f y → p x → p y) : ∀ {l m : List α}, l.map f = m.map f → (∀ x ∈ l, p x) → ∀ y ∈ m, p y
  | [], [], _, _ => fun y hy => (by cases hy)
  | [], _ :: _, h, _ => by cases h
  | _ :: _, [], h, _ => by cases h
  | x :: l, y :: m, h, hl => by
    simp only [List.map_cons, List.cons.injEq] at h
    intro z hz
    rcases List.mem_cons.1 hz with rfl | hz
    · exact hp x z h.1 (hl x (by simp))
    · exact each_same hp h.2 (fun u hu => hl u (by simp [hu])) z hz
theorem rl_ok_same {x y : RlI} (h : x.er = y.er) (hx : x.ok) : y.ok := by
  unfold RlI.er at h
  injection h with h1 h2 h3
  exact ⟨am_ok_same h1 hx.1, h2 ▸ hx.2.1, each_same (fun _ _ => lt_ok_same) h3 hx.2.2⟩
theorem pg_ok_same {x y : PgI} (h : x.er = y.er) (hx : x.ok) : y.ok := by
  unfold PgI.er at h
  injection h with h1 h2
  exact ⟨each_same (fun _ _ => rl_ok_same) h1 hx.1, am_ok_same h2 hx.2⟩
theorem pgJ_er (x : Pg) : (pgJ x).er = pgE x := by
  unfold PgI.er pgE pgJ
  simp only [List.map_map]
  congr 1
  refine List.map_congr_left fun u _ => ?_
  show RlI.er (rlJ u) = rlE u
  unfold RlI.er rlE rlJ
  simp only [List.map_map]
  congr 1
abbrev pgV (X : PgA) : Value := .agg #[.slice X.A X.r.length X.c, .string (bs X.q.p), .slice X.q.A X.q.a.length X.q.c]
def TextP (E : PgE) (T : List UInt8) : Prop := ∀ (X : PgA) (V : World), (pgI X).er = E → (pgI X).rd V → Calls Tryz.prog 9 #[pgV X] V fun e w' => e = .returned (.string (bs T)) ∧ Below V.heap.size V w'
def SameP (E : PgE) : Prop := ∀ (X Y : PgA) (V : World), (pgI X).er = E → (pgI Y).er = E → (pgI X).rd V → (pgI Y).rd V → Calls Tryz.prog 15 #[pgV X, pgV Y] V fun e w' => e = .returned (.bool true) ∧ Below V.heap.size V w'
theorem text_p {x : PgI} (hok : x.ok) : TextP x.er (textX litX x) := fun X V he hr => by
  have h := showText_any (pgI X) V hr (pg_ok_same he.symm hok)
  have e : (pgI X).r.length = X.r.length := List.length_map _
  rw [e, text_same he] at h
  exact h
theorem same_p (E : PgE) : SameP E := fun X Y V h1 h2 r1 r2 => by
  have h := same9_yes (pgI X) (pgI Y) V r1 r2 (h1.trans h2.symm)
  have e1 : (pgI X).r.length = X.r.length := List.length_map _
  have e2 : (pgI Y).r.length = Y.r.length := List.length_map _
  rw [e1, e2] at h
  exact h
/-- All that is asked of a text that is read. -/
theorem again_p {s : ByteArray} (hs : s.size ≤ 1500) (h0 : rK (progS s.size (toksL 0 (ls s))) = 0) : ∃ (P Q : Pg) (T : List UInt8) (E : PgE), TellsP s P 0 0 ∧ T ≠ [] ∧ TellsP (bs T) Q 0 0 ∧ pgE P = E ∧ pgE Q = E ∧ TextP E T := by
  obtain ⟨x, e1, ts, e2, e3⟩ := progS_nz _ _ h0
  have hT := parse_all s (by omega)
  rw [e1] at hT
  have hg : AllG ts := toks_each _ 0 (ls s) (Nat.le_refl _) ts e2
  have hw := wt_le ts hg
  have hsum := toks_sumL _ 0 (ls s) (Nat.le_refl _) ts e2
  rw [ls_len] at hsum
  obtain ⟨t1, t2⟩ := prog_text hg (by omega) e3
  obtain ⟨T, g1, g2, g3⟩ := prog_reads t1 t2
  have hT2 := parse_all (bs (textX litX (pgJ x))) (by rw [bs_size]; exact g3)
  rw [ls_bs, g1] at hT2
  have e : progS (bs (textX litX (pgJ x))).size (.good T) = .ok (pgOf (pgJ x)) [] := g2 _
  rw [e] at hT2
  exact ⟨x, pgOf (pgJ x), textX litX (pgJ x), (pgJ x).er, hT, t1, hT2, (pgJ_er x).symm, pg_er t1 t2, text_p t2⟩
set_option maxRecDepth 20000 in
set_option maxHeartbeats 8000000 in
theorem walk_no (s : ByteArray) (w : World) (hws : s.size ≤ maxLen) (h : 1500 < s.size ∨ (s.size ≤ 1500 ∧ rK (progS s.size (toksL 0 (ls s))) ≠ 0)) :
    Calls Tryz.prog 4 #[.string s] w fun e w' => e = .returned (.bool true) ∧ Below w.heap.size w w' := by
  have hB := Below.refl w.heap.size w
  have hsx : s.size ≤ 9223372036854775807 := Nat.le_trans hws (by decide)
  clear hws
  rcases h with h | ⟨h, h2⟩
  · have hg2 : (1500 : Int) < (s.size : Int) := by omega
    clear h
    go_enter Tryz.func4, Tryz.ntmps4
    go_wp2_with (go_at_call 5; refine (awake9_any _).mono ?_; rintro e w1 ⟨rfl, h'⟩; replace hB := on hB h'; clear h')
    go_ret
    exact ⟨rfl, hB⟩
  · have hg2 : ¬ (1500 : Int) < (s.size : Int) := by omega
    have HPar := Lib.hid (parse_all s (by omega))
    generalize rP (progS s.size (toksL 0 (ls s))) = P at *
    generalize rA (progS s.size (toksL 0 (ls s))) = a at *
    generalize rK (progS s.size (toksL 0 (ls s))) = k at *
    have hkb : ((k : Int) != 0) = true := by simp; omega
    have hkc : ((k : Int) == 0) = false := by simp; omega
    have hkd : ¬ k = 0 := h2
    clear h h2
    go_enter Tryz.func4, Tryz.ntmps4
    go_wp2_with (first
      | (go_at_call 5; refine (awake9_any _).mono ?_; rintro e w1 ⟨rfl, h'⟩; replace hB := on hB h'; clear h')
      | (go_at_call 14; refine (HPar.out _).mono ?_; rintro e w2 ⟨X, hpg, rfl, hXok, h'⟩; replace hB := on hB h'; clear h' hXok hpg))
    go_ret
    exact ⟨rfl, hB.alloc hB.size _⟩
set_option maxRecDepth 20000 in
set_option maxHeartbeats 8000000 in
theorem walk_yes (s : ByteArray) (w : World) (hsx : s.size ≤ 1500) (P Q : Pg) (T : List UInt8) (E : PgE) (hP : TellsP s P 0 0) (hne : T ≠ []) (hQ : TellsP (bs T) Q 0 0) (hp : pgE P = E) (hq : pgE Q = E) (hT : TextP E T) :
    Calls Tryz.prog 4 #[.string s] w fun e w' => e = .returned (.bool true) ∧ Below w.heap.size w w' := by
  have hB := Below.refl w.heap.size w
  have hg2 : ¬ (1500 : Int) < (s.size : Int) := by omega
  have HPar := Lib.hid hP; have HPar2 := Lib.hid hQ; have HT1 := Lib.hid hT; have HT2 := Lib.hid hT; have HSm := Lib.hid (same_p E); have HE1 := Lib.hid hp; have HE2 := Lib.hid hq
  have f1 : ((bs T).toList == []) = false := by rw [bsl, beq_eq_false_iff_ne]; exact hne
  have f2 : ((bs T).toList == (bs T).toList) = true := by simp
  clear hP hQ hT hp hq hne
  go_enter Tryz.func4, Tryz.ntmps4
  go_upto_region 4 with (first
    | (go_at_call 5; refine (awake9_any _).mono ?_; rintro e w1 ⟨rfl, h'⟩; replace hB := on hB h'; clear h')
    | (go_at_call 14; refine (HPar.out _).mono ?_; rintro e w2 ⟨X, hpg, rfl, hXok, h'⟩; have HXR := Lib.hid (pgI_rd (PgA.ok.rd hXok)); have HXE : Hid ((pgI X).er = E) := Lib.hid (by rw [pgI_er, hpg]; exact HE1.out); replace hB := on hB h'; clear h' hXok hpg HPar))
  generalize hW3 : World.alloc w2 _ = w3
  have hr3 : Row 27 w3 w2.heap.size [.slice X.A X.r.length X.c, .string (bs X.q.p), .slice X.q.A X.q.a.length X.q.c] := by rw [← hW3]; exact row_new w2 _
  have hB3 : Below w2.heap.size w2 w3 := hW3 ▸ (Below.refl _ _).alloc (Nat.le_refl _) _
  have HR3 := Lib.hid hr3; have HBB := Lib.hid (on hB hB3); have HX3 : Hid ((pgI X).rd w3) := Lib.hid (HXR.out.on hB3)
  have h4 : Below w3.heap.size w3 w3 := Below.refl _ _
  have p0 := hr3.cell 0; have p1 := hr3.cell 1; have p2 := hr3.cell 2
  simp only [List.getElem?_cons_zero, List.getElem?_cons_succ] at p0 p1 p2
  have hlt3 : w2.heap.size < w3.heap.size := hr3.lt
  clear hW3 hr3 hB3 HXR hB
  go_upto_region 10 with (first
    | (go_at_call 9; refine (HT1.out X _ HXE.out (HX3.out.on h4)).mono ?_; rintro e w4 ⟨rfl, h'⟩; replace h4 := on h4 h'; replace p0 := (rowOn HR3.out h4).cell 0; replace p1 := (rowOn HR3.out h4).cell 1; replace p2 := (rowOn HR3.out h4).cell 2; simp only [List.getElem?_cons_zero, List.getElem?_cons_succ] at p0 p1 p2; clear h' HT1)
    | (go_at_call 14; refine (HPar2.out _).mono ?_; rintro e w5 ⟨Y, hpg, rfl, hYok, h'⟩; have HYR := Lib.hid (pgI_rd (PgA.ok.rd hYok)); have HYE : Hid ((pgI Y).er = E) := Lib.hid (by rw [pgI_er, hpg]; exact HE2.out); replace h4 := on h4 h'; clear h' hYok hpg HPar2))
  generalize hW6 : World.alloc w5 _ = w6
  have hr6 : Row 27 w6 w5.heap.size [.slice Y.A Y.r.length Y.c, .string (bs Y.q.p), .slice Y.q.A Y.q.a.length Y.q.c] := by rw [← hW6]; exact row_new w5 _
  have hB6 : Below w5.heap.size w5 w6 := hW6 ▸ (Below.refl _ _).alloc (Nat.le_refl _) _
  have HR6 := Lib.hid hr6; have HB6 := Lib.hid (on h4 hB6); have HY6 : Hid ((pgI Y).rd w6) := Lib.hid (HYR.out.on hB6)
  have h5 : Below w6.heap.size w6 w6 := Below.refl _ _
  replace p0 := (rowOn HR3.out HB6.out).cell 0; replace p1 := (rowOn HR3.out HB6.out).cell 1; replace p2 := (rowOn HR3.out HB6.out).cell 2
  have q0 := hr6.cell 0; have q1 := hr6.cell 1; have q2 := hr6.cell 2
  simp only [List.getElem?_cons_zero, List.getElem?_cons_succ] at p0 p1 p2 q0 q1 q2
  have hlt6 : w5.heap.size < w6.heap.size := hr6.lt
  clear hW6 hr6 hB6 HYR h4
  go_wp2_with (first
    | (go_at_call 15; refine (HSm.out X Y _ HXE.out HYE.out (HX3.out.on HB6.out) HY6.out).mono ?_; rintro e w7 ⟨rfl, h'⟩; replace h5 := on h5 h'; replace q0 := (rowOn HR6.out h5).cell 0; replace q1 := (rowOn HR6.out h5).cell 1; replace q2 := (rowOn HR6.out h5).cell 2; simp only [List.getElem?_cons_zero, List.getElem?_cons_succ] at q0 q1 q2; clear h' HSm p0 p1 p2)
    | (go_at_call 9; refine (HT2.out Y _ HYE.out (HY6.out.on h5)).mono ?_; rintro e w8 ⟨rfl, h'⟩; replace h5 := on h5 h'; clear h' q0 q1 q2))
  go_ret
  exact ⟨rfl, on HBB.out (on HB6.out h5)⟩
theorem walk (s : ByteArray) (w : World) (hws : s.size ≤ maxLen) : Calls Tryz.prog 4 #[.string s] w fun e w' => e = .returned (.bool true) ∧ Below w.heap.size w w' := by
  by_cases h : 1500 < s.size
  · exact walk_no s w hws (.inl h)
  · by_cases h0 : rK (progS s.size (toksL 0 (ls s))) = 0
    · obtain ⟨P, Q, T, E, h1, h2, h3, h4, h5, h6⟩ := again_p (by omega) h0
      exact walk_yes s w (by omega) P Q T E h1 h2 h3 h4 h5 h6
    · exact walk_no s w hws (.inr ⟨by omega, h0⟩)

theorem own : ownKnob Tryz.prog.godebug = none := by kernel_rfl

set_option maxRecDepth 100000 in
theorem lifted (os : Os) (started : os.Started) (H : Type) (enc : TypeId × Value → H) :
    ReturnsInHanded {} Tryz.checked os 4 .any (fun w args => (Rows.showAgainSpec.pre enc Tryz.prog Tryz.f4 Rows.showAgainRow.domain false w args ∧ laidMetH Tryz.prog Rows.showAgainRow.laid w) ∧ sizedMet enc Tryz.prog Tryz.f4 (OpenSpec.ofChange Rows.showAgainSpec) false w args) (Rows.showAgainSpec.post enc Tryz.prog Tryz.f4 false true false false) := by
  refine returnsInHanded_of_change_and (C := Tryz.checked) (X := fun w _ => laidMetH Tryz.prog Rows.showAgainRow.laid w) (fun _ _ _ hh h => h.of_heap hh) own started (by kernel_rfl) Tryz.func4
    (ChangeSpec.witness_shaped (enc := enc) (C := Tryz.checked) (os := os) (X := fun w _ => laidMetH Tryz.prog Rows.showAgainRow.laid w) false (World.laidAll Tryz.prog os Rows.showAgainRow.laid) #[.string ByteArray.empty] 8 (World.laidAll_os _ _ _)
      (World.shaped_of_ZipB (by kernel_rfl) (by kernel_rfl)) (by kernel_rfl) (by kernel_rfl) (by kernel_rfl)
      (by rw [MakeChecks.laidMetH_plain _ _ _ (by kernel_rfl)]; exact laidMet_laidAll _ (by kernel_rfl) (by kernel_rfl))) ?_
  intro W base args ds gs before hval0 hW hcnd _ hL _
  have hval : ∀ (j : Nat) t v, Tryz.f4.params[j]? = some t → args[j]? = some v → Value.okWide Tryz.prog W .any base t v := hval0
  have hW' := hW
  obtain ⟨p, q, hA0, hV, rfl, hfz, hnd⟩ := hW
  have hA : DataW.TrodAll enc Tryz.prog W 0 (fun _ => true) true Tryz.f4.params.toList args.toList ds p := hA0
  have hAk := hA
  rw [Tryz.params4] at hA hval
  obtain ⟨v0, vs0, d0, ds0, p0, q0, hargs, rfl, rfl, h0, r0⟩ := trodAll_cons hA
  obtain ⟨rfl, rfl, rfl⟩ := trodAll_nil r0
  obtain rfl : args = #[v0] := by cases args; simp_all
  obtain ⟨rfl, rfl⟩ := trodVars_none hV
  obtain ⟨a0, rfl, rfl, rfl, w0⟩ := Go.ChangeMaps.open_string Tryz.underlying9 (hval 0 9 v0 rfl rfl) h0
  clear hA0 hval0
  refine (walk a0 W w0).mono fun e W' ⟨he, hg⟩ => ?_
  subst he
  refine ⟨_, rfl, post_old hW' (by simpa using hAk) (by rw [Tryz.params4]; decide) (fun _ _ _ => (trodAll_cons_mk (shut_bool Tryz.underlying4 _) trodAll_mk0)) rfl (fun _ => rfl) hg⟩

theorem row_proved : Rows.ShowAgainSaid :=
  OpenClaim.holds_of_wide 4 Tryz.f4 rfl rfl rfl rfl rfl rfl rfl ⟨rfl, rfl, rfl, rfl, rfl⟩ rfl rfl rfl rfl rfl (by kernel_rfl) Tryz.func4 (by kernel_rfl)
    (of_decide_eq_true (by kernel_rfl)) (by unfold Func.isWrapper; first | (rw [if_pos (by decide +kernel)]; kernel_rfl) | (rw [if_neg (by decide +kernel)]; exact ⟨rfl, rfl⟩))
    (fun os started H enc _ => lifted os started H enc)
theorem proved : Rows.ShowAgainCardSaid :=
  Claim7.holds_tied_plain_at .later [] Rows.showAgainCard.laidKinds Rows.showAgainCard.laidTests Rows.showAgainCard.stood.harness Rows.showAgainCard.stood.looks row_proved (fun _ h => by cases h) (by kernel_rfl) (fun _ h => by cases h) showAgain_row_tie rfl ⟨rfl, rfl⟩ (by kernel_rfl) rfl
    (fun f fn hf hfn => by
      obtain rfl : f = 4 := Option.some.inj ((show Tryz.prog.funcNamed "antecedent/antecedentlaw09.ShowAgain" = some 4 by kernel_rfl).symm.trans hf) |>.symm
      obtain rfl : fn = Tryz.f4 := (Option.some.inj (Tryz.func4.symm.trans hfn)).symm
      exact ⟨by kernel_rfl, fun j t ht => by
        rw [Tryz.params4] at ht
        have hm : t ∈ [9] := by simpa using Array.mem_of_getElem? ht
        have hall : ([9].all fun u => !Tryz.prog.wantsStandIn u) = true := by kernel_rfl
        exact (show Tryz.prog.wantsStandIn t = false by simpa using List.all_eq_true.1 hall t hm)⟩)
    (by kernel_rfl)
#print axioms proved
end Go.Proofs.YtahljmddnfldlaaGreatDoor.showAgain

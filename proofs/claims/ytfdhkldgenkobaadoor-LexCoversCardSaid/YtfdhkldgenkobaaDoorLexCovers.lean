/-
  LexCovers (layer 7, lex): for every text the call returns true: each token stands where it is told, behind the one ahead; between them there is nothing but spaces, tabs and ends of lines. No condition.
-/
import Derived.Test.YtfdhkldgenkobaaDoorRows
import Derived.Test.YtfdhkldgenkobaaDoorCards
import Derived.Test.YtfdhkldgenkobaaDoorTie
import Derived.Test.YtfdhkldgenkobaaDoorLexAwake
import Derived.Test.YtfdhkldgenkobaaDoorValOpen
import Derived.WalkKit
import Derived.ProofKit
import Derived.OpenShut
import Derived.LaidMore
import Derived.Lay
import Derived.SevenTiedAt
import Derived.Stop.Joined
import Derived.RegionTactic
import Derived.BigQuiet
namespace Go.Proofs.YtfdhkldgenkobaaDoor.lexCovers
open Go.ChangeShapes Go.WideShapes Go.ChangeAt Go.RowKit FloM ValM Go.Shelf
set_option linter.unusedVariables false
set_option linter.unusedSimpArgs false
set_option maxRecDepth 20000 in
set_option maxHeartbeats 1000000 in
theorem walk_l0 (a0 : ByteArray) (w : World) (h0 : 400 < (a0.size : Int)) :
    Calls Tryd.prog 4 #[.string a0] w fun e w' => e = .returned (.bool true) ∧ Below w.heap.size w w' := by
  have hB := Below.refl w.heap.size w
  go_enter Tryd.func4, Tryd.ntmps4
  go_wp2_with (go_at_call 7; refine (awakeX_any _).mono ?_; rintro e w1 ⟨rfl, h'⟩; replace hB := on hB h'; clear h')
  go_ret
  exact ⟨rfl, hB⟩
set_option maxRecDepth 20000 in
set_option maxHeartbeats 1000000 in
theorem walk_bad (a0 : ByteArray) (n : Nat) (w : World) (h0 : ¬ 400 < (a0.size : Int)) (h : toksL 0 (ls a0) = .bad n) :
    Calls Tryd.prog 4 #[.string a0] w fun e w' => e = .returned (.bool true) ∧ Below w.heap.size w w' := by
  have hB := Below.refl w.heap.size w
  have HT : Hid (∀ W, Calls Tryd.prog 8 #[.string a0] W fun e w' => e = .returned (.tuple #[.slice none 0 0, .int .i64 (n : Int), .int .i64 2]) ∧ Below W.heap.size W w') := Lib.hid fun W => tok_bad h (by omega) W
  clear h
  go_enter Tryd.func4, Tryd.ntmps4
  go_wp2_with (first | (go_at_call 7; refine (awakeX_any _).mono ?_; rintro e w1 ⟨rfl, h'⟩; replace hB := on hB h'; clear h') | (go_at_call 8; refine (HT.out _).mono ?_; rintro e w2 ⟨rfl, hb⟩; replace hB := on hB hb; clear hb))
  go_ret
  exact ⟨rfl, hB⟩
theorem bel_drawsX {B : Nat} {w u : World} (h : Below B w u) (k : Nat) : Below B w (u.drewN k) := ⟨h.os, h.tape, h.output, h.size, h.block⟩
theorem drew_belX (w : World) : Below w.heap.size w w.drew := (Below.refl _ w).drew
/-- What the next token of good tokens is. -/
theorem cover_next {p : Nat} {l : List UInt8} {t : Tk} {r : List Tk} (h : toksL p l = .good (t :: r)) : ∃ s n, s = spanL sepC l ∧ t.a = p + s ∧ t.t = (l.drop s).take n ∧ 0 < n ∧ s + n ≤ l.length ∧ 1 ≤ t.k ∧ t.k ≤ 4 ∧ toksL (p + s + n) (l.drop (s + n)) = .good r := by
  by_cases he : l.drop (spanL sepC l) = []
  · rw [toks_end he] at h; cases h
  · cases hf : firstL (l.drop (spanL sepC l)) with
    | none => rw [toks_bad he hf] at h; cases h
    | some o =>
      obtain ⟨k, n⟩ := o
      have hp := first_pos hf
      rw [List.length_drop] at hp
      rw [toks_more hf] at h
      cases hr : toksL (p + spanL sepC l + n) (l.drop (spanL sepC l + n)) with
      | bad m => rw [hr] at h; cases h
      | good q =>
        rw [hr] at h
        simp only [Rs.pre, Rs.good.injEq, List.cons.injEq] at h
        obtain ⟨rfl, rfl⟩ := h
        have hk := meas_kind (l.drop (spanL sepC l))
        have hm : measL (l.drop (spanL sepC l)) = (k, n) := by
          unfold firstL at hf; split at hf
          · injection hf
          · cases hf
        rw [hm] at hk
        exact ⟨_, n, rfl, rfl, rfl, hp.1, by omega, by simp only at hk ⊢; omega, by simp only at hk ⊢; omega, hr⟩
theorem cover_last {p : Nat} {l : List UInt8} (h : toksL p l = .good []) : spanL sepC l = l.length := by
  by_cases he : l.drop (spanL sepC l) = []
  · have := congrArg List.length he
    rw [List.length_drop, List.length_nil] at this
    have := span_le sepC l; omega
  · cases hf : firstL (l.drop (spanL sepC l)) with
    | none => rw [toks_bad he hf] at h; cases h
    | some o =>
      obtain ⟨k, n⟩ := o
      rw [toks_more hf] at h
      cases hr : toksL (p + spanL sepC l + n) (l.drop (spanL sepC l + n)) with
      | bad m => rw [hr] at h; cases h
      | good q => rw [hr] at h; cases h
theorem ls_at (s : ByteArray) (k : Nat) (h : k < s.size) : (ls s)[k]? = some s[k] := by rw [List.getElem?_eq_getElem (by rw [ls_len]; exact h), ls_get s k h]
theorem sep_at {l : List UInt8} {p k : Nat} {c : UInt8} (h1 : p ≤ k) (h2 : k < p + spanL sepC (l.drop p)) (hc : l[k]? = some c) : c.toNat = 32 ∨ c.toNat = 9 ∨ c.toNat = 10 := by
  have ha := span_all sepC (l.drop p)
  rw [List.all_eq_true] at ha
  have := ha c (List.mem_of_getElem? (i := k - p) (by rw [List.getElem?_take, if_pos (by omega), List.getElem?_drop, show p + (k - p) = k by omega]; exact hc))
  simpa [sepC] using this
set_option maxRecDepth 20000 in
set_option maxHeartbeats 4000000 in
theorem walk_good (a0 : ByteArray) (ts : List Tk) (w : World) (h0 : ¬ 400 < (a0.size : Int)) (h : toksL 0 (ls a0) = .good ts) (hl : ts.length ≤ 800) :
    Calls Tryd.prog 4 #[.string a0] w fun e w' => e = .returned (.bool true) ∧ Below w.heap.size w w' := by
  have hB := Below.refl w.heap.size w
  have HT : Hid (∀ W, Calls Tryd.prog 8 #[.string a0] W fun e w' => ∃ (A : Option Addr) (c : Nat), e = .returned (.tuple #[.slice A ts.length c, .int .i64 0, .int .i64 0]) ∧ RdK w' A ts ∧ Below W.heap.size W w') := Lib.hid fun W => tok_good h (by omega) W
  have HH := Lib.hid h
  clear h
  go_enter Tryd.func4, Tryd.ntmps4
  go_wp2_with (first | (go_at_call 7; refine (awakeX_any _).mono ?_; rintro e w1 ⟨rfl, h'⟩; replace hB := on hB h'; clear h') | (go_at_call 8; refine (HT.out _).mono ?_; rintro e w2 ⟨A2, c2, rfl, hr, hb⟩; have HR2 := Lib.hid hr; have HB2 := Lib.hid (on hB hb); clear hr hb hB))
  go_loopw [6, 28] (fun pv v wr => ∃ k p : Nat, v = .int .i64 (k : Nat) ∧ k ≤ ts.length ∧ pv = .int .i64 (p : Nat) ∧ p ≤ a0.size ∧ toksL p ((ls a0).drop p) = .good (ts.drop k) ∧ Below w2.heap.size w2 wr) (fun _ v _ => ts.length - (intOf v).toNat)
  case atStart => exact ⟨0, 0, rfl, Nat.zero_le _, rfl, Nat.zero_le _, HH.out, Below.refl _ _⟩
  case round =>
    obtain ⟨k, p, rfl, hk, rfl, hp, hh, hBr⟩ := hrel
    have HBR := Lib.hid hBr; clear hBr
    by_cases hlt : k < ts.length
    · have hx := List.getElem?_eq_getElem hlt
      generalize ts[k] = t at hx
      obtain ⟨b, o, rfl, hbl, c0, c1, c2'⟩ := (HR2.out.on HBR.out) k t hx
      rw [drop_at hx] at hh
      obtain ⟨s, n, hs, ha, ht, hn, hsn, hk1, hk4, hrest⟩ := cover_next hh
      rw [List.length_drop, ls_len] at hsn
      have HX := Lib.hid hx; have HS := Lib.hid hs
      have hsz : (bs t.t).size = n := by rw [bs_size, ht, List.length_take, List.length_drop, List.length_drop, ls_len]; omega
      have hlt' : (bs t.t).toList ≠ [] := by rw [toList_ls, ls_bs]; intro e; have := congrArg List.length e; rw [← bs_size, hsz] at this; simp at this; omega
      have hext : a0.extract (p + s) (p + s + n) = bs t.t := by
        apply ls_inj; rw [ls_extract, ls_bs, ht, List.drop_drop, Nat.add_sub_cancel_left]
      have HRE := Lib.hid (show toksL (p + s + n) ((ls a0).drop (p + s + n)) = .good (ts.drop (k + 1)) by rw [← hrest, List.drop_drop, Nat.add_assoc])
      have HSEP : Hid (∀ j, p ≤ j → j < p + s → ∀ (hj : j < a0.size), a0[j].toNat = 32 ∨ a0[j].toNat = 9 ∨ a0[j].toNat = 10) := Lib.hid fun j h1 h2 hj => sep_at (l := ls a0) h1 (by rw [← HS.out]; exact h2) (ls_at a0 j hj)
      generalize htt : bs t.t = tt at *
      rw [ha] at c2'
      clear hx hs ht hh hrest htt
      have hsl : ∀ W : World, (Instr.slice 9 (.string a0) (some (.int .i64 ((p + s : Nat) : Int))) (some (.int .i64 (((p + s : Nat) : Int) + (n : Int)))) none).run Tryd.prog W = .ok (.string tt) W := fun W => by
        have := run_slice_string (P := Tryd.prog) W 9 a0 .i64 .i64 ((p + s : Nat) : Int) (((p + s : Nat) : Int) + (n : Int)) Tryd.underlying9 (by omega) (by omega) (by omega)
        rw [this, show (((p + s : Nat) : Int) + (n : Int)).toNat = p + s + n by omega, show ((p + s : Nat) : Int).toNat = p + s by omega, hext]
      have HEX := Lib.hid hext
      obtain ⟨q, hq⟩ : ∃ q, p + s = q := ⟨_, rfl⟩
      rw [hq] at c2' hsl HRE HSEP
      have hnt : (tt.toList != tt.toList) = false := by simp
      have hne : (tt.toList == ([] : List UInt8)) = false := by rw [beq_eq_false_iff_ne]; exact hlt'
      have hpq : p ≤ q := by omega
      have hqn : q + n ≤ a0.size := by omega
      have HQ := Lib.hid hq
      clear hq hext hlt' hsn
      have hwr : IntKind.i64.wrap (((q : Nat) : Int) + (n : Int)) = ((q : Nat) : Int) + (n : Int) := by rw [IntKind.wrap_i64]; omega
      have d1 : decide (q < p) = false := by rw [decide_eq_false_iff_not]; omega
      have d2 : decide (a0.size < q + n) = false := by rw [decide_eq_false_iff_not]; omega
      have d2' : decide (((a0.size : Nat) : Int) < ((q : Nat) : Int) + (n : Int)) = false := by rw [decide_eq_false_iff_not]; omega
      have d3 : decide (((t.k : Nat) : Int) < 1) = false := by rw [decide_eq_false_iff_not]; omega
      have d3' : decide (t.k < 1) = false := by rw [decide_eq_false_iff_not]; omega
      have d4 : decide (4 < ((t.k : Nat) : Int)) = false := by rw [decide_eq_false_iff_not]; omega
      have d4' : decide (4 < t.k) = false := by rw [decide_eq_false_iff_not]; omega
      go_wp2
      go_quiet (fail)
      go_wp2
      have HB3 : Hid (Below w2.heap.size w2 (wr.drewN nq)) := Lib.hid (bel_drawsX HBR.out _)
      have c0' := (keep (bel_drawsX (Below.refl wr.heap.size wr) nq) b (o + k * 3) hbl).trans c0
      have c1' := (keep (bel_drawsX (Below.refl wr.heap.size wr) nq) b (o + k * 3 + 1) hbl).trans c1
      have c2'' := (keep (bel_drawsX (Below.refl wr.heap.size wr) nq) b (o + k * 3 + 2) hbl).trans c2'
      clear c0 c1 c2' d1 d2 d2' d3 d3' d4 d4' hsl
      generalize wr.drewN nq = wq at HB3 c0' c1' c2'' ⊢
      go_loop [8] (fun v => ∃ j : Nat, v = .int .i64 (j : Nat) ∧ p ≤ j ∧ j ≤ q) (fun v => q - (intOf v).toNat)
      case atStart => exact ⟨p, rfl, Nat.le_refl _, hpq⟩
      case round =>
        obtain ⟨j, rfl, hj1, hj2⟩ := hrel
        by_cases hjq : j < q
        · have hjs : j < a0.size := by omega
          have hsp := HSEP.out j hj1 hjq hjs
          have hjq' : (j : Int) < (q : Int) := by omega
          rcases hsp with hc | hc | hc
          · have g1 : ((a0[j].toNat : Int) != 32) = false := by rw [hc]; rfl
            go_wp2
            go_round
            case rel => exact ⟨j + 1, by go_num, by omega, by omega⟩
            case measure => simp [intOf]; omega
          · have g1 : ((a0[j].toNat : Int) != 32) = true := by rw [hc]; rfl
            have g2 : ((a0[j].toNat : Int) != 9) = false := by rw [hc]; rfl
            go_wp2
            go_round
            case rel => exact ⟨j + 1, by go_num, by omega, by omega⟩
            case measure => simp [intOf]; omega
          · have g1 : ((a0[j].toNat : Int) != 32) = true := by rw [hc]; rfl
            have g2 : ((a0[j].toNat : Int) != 9) = true := by rw [hc]; rfl
            have g3 : ((a0[j].toNat : Int) != 10) = false := by rw [hc]; rfl
            go_wp2
            go_round
            case rel => exact ⟨j + 1, by go_num, by omega, by omega⟩
            case measure => simp [intOf]; omega
        · obtain rfl : j = q := by omega
          go_wp2
          go_quiet (fail)
          go_wp2
          go_roundw
          case rel => exact ⟨k + 1, j + n, by go_num, by omega, by go_num, by omega, HRE.out, bel_drawsX HB3.out _⟩
          case measure => simp [intOf]; omega
    · obtain rfl : k = ts.length := by omega
      rw [List.drop_length] at hh
      have hall := cover_last hh
      clear hlt
      go_wp2
      go_loop [9] (fun v => ∃ j : Nat, v = .int .i64 (j : Nat) ∧ p ≤ j ∧ j ≤ a0.size) (fun v => a0.size - (intOf v).toNat)
      case atStart => exact ⟨p, rfl, Nat.le_refl _, hp⟩
      case round =>
        obtain ⟨j, rfl, hj1, hj2⟩ := hrel
        by_cases hjq : j < a0.size
        · have hsp := sep_at (l := ls a0) hj1 (by rw [hall, List.length_drop, ls_len]; omega) (ls_at a0 j hjq)
          rcases hsp with hc | hc | hc
          · have g1 : ((a0[j].toNat : Int) != 32) = false := by rw [hc]; rfl
            go_wp2
            go_round
            case rel => exact ⟨j + 1, by go_num, by omega, by omega⟩
            case measure => simp [intOf]; omega
          · have g1 : ((a0[j].toNat : Int) != 32) = true := by rw [hc]; rfl
            have g2 : ((a0[j].toNat : Int) != 9) = false := by rw [hc]; rfl
            go_wp2
            go_round
            case rel => exact ⟨j + 1, by go_num, by omega, by omega⟩
            case measure => simp [intOf]; omega
          · have g1 : ((a0[j].toNat : Int) != 32) = true := by rw [hc]; rfl
            have g2 : ((a0[j].toNat : Int) != 9) = true := by rw [hc]; rfl
            have g3 : ((a0[j].toNat : Int) != 10) = false := by rw [hc]; rfl
            go_wp2
            go_round
            case rel => exact ⟨j + 1, by go_num, by omega, by omega⟩
            case measure => simp [intOf]; omega
        · obtain rfl : j = a0.size := by omega
          go_wp2
          go_ret
          exact ⟨rfl, on HB2.out HBR.out⟩
theorem walk (a0 : ByteArray) (w0 : a0.size ≤ maxLen) (w : World) :
    Calls Tryd.prog 4 #[.string a0] w fun e w' => e = .returned (.bool true) ∧ Below w.heap.size w w' := by
  by_cases h0 : 400 < (a0.size : Int)
  · exact walk_l0 a0 w h0
  cases h : toksL 0 (ls a0) with
  | bad n => exact walk_bad a0 n w h0 h
  | good ts =>
    have h2 := toks_len h
    rw [ls_len] at h2
    exact walk_good a0 ts w h0 h (by omega)

theorem own : ownKnob Tryd.prog.godebug = none := by kernel_rfl

set_option maxRecDepth 100000 in
theorem lifted (os : Os) (started : os.Started) (H : Type) (enc : TypeId × Value → H) :
    ReturnsInHanded {} Tryd.checked os 4 .any (fun w args => (Rows.lexCoversSpec.pre enc Tryd.prog Tryd.f4 Rows.lexCoversRow.domain false w args ∧ laidMetH Tryd.prog Rows.lexCoversRow.laid w) ∧ sizedMet enc Tryd.prog Tryd.f4 (OpenSpec.ofChange Rows.lexCoversSpec) false w args) (Rows.lexCoversSpec.post enc Tryd.prog Tryd.f4 false true false false) := by
  refine returnsInHanded_of_change_and (C := Tryd.checked) (X := fun w _ => laidMetH Tryd.prog Rows.lexCoversRow.laid w) (fun _ _ _ hh h => h.of_heap hh) own started (by kernel_rfl) Tryd.func4
    (ChangeSpec.witness_shaped (enc := enc) (C := Tryd.checked) (os := os) (X := fun w _ => laidMetH Tryd.prog Rows.lexCoversRow.laid w) false (World.laidAll Tryd.prog os Rows.lexCoversRow.laid) #[.string ByteArray.empty] 8 (World.laidAll_os _ _ _)
      (World.shaped_of_ZipB (by kernel_rfl) (by kernel_rfl)) (by kernel_rfl) (by kernel_rfl) (by kernel_rfl)
      (by rw [MakeChecks.laidMetH_plain _ _ _ (by kernel_rfl)]; exact laidMet_laidAll _ (by kernel_rfl) (by kernel_rfl))) ?_
  intro W base args ds gs before hval0 hW hcnd _ hL _
  have hval : ∀ (j : Nat) t v, Tryd.f4.params[j]? = some t → args[j]? = some v → Value.okWide Tryd.prog W .any base t v := hval0
  have hW' := hW
  obtain ⟨p, q, hA0, hV, rfl, hfz, hnd⟩ := hW
  have hA : DataW.TrodAll enc Tryd.prog W 0 (fun _ => true) true Tryd.f4.params.toList args.toList ds p := hA0
  rw [Tryd.params4] at hA hval
  obtain ⟨v0, vs0, d0, ds0, p0, q0, hargs, rfl, rfl, h0, r0⟩ := trodAll_cons hA
  obtain ⟨rfl, rfl, rfl⟩ := trodAll_nil r0
  obtain rfl : args = #[v0] := by cases args; simp_all
  obtain ⟨rfl, rfl⟩ := trodVars_none hV
  obtain ⟨a0, rfl, rfl, rfl, w0⟩ := Go.ChangeMaps.open_string Tryd.underlying9 (hval 0 9 v0 rfl rfl) h0
  clear hA0 hval0
  simp only [List.append_nil] at hW'
  refine (walk a0 w0 W).mono fun e W' ⟨he, hg⟩ => ?_
  subst he
  exact ⟨_, rfl, post_plain hW' (fun _ _ _ => (trodAll_cons_mk (shut_bool Tryd.underlying4 _) trodAll_mk0)) (fun sp => (trodAll_cons_mk (Go.ChangeMaps.shut_string Tryd.underlying9 w0) trodAll_mk0)) (fun _ => rfl) hg (ok_one (by kernel_rfl) rfl (okWide_bool_mk Tryd.underlying4 _))⟩

theorem row_proved : Rows.LexCoversSaid :=
  OpenClaim.holds_of_wide 4 Tryd.f4 rfl rfl rfl rfl rfl rfl rfl ⟨rfl, rfl, rfl, rfl, rfl⟩ rfl rfl rfl rfl rfl (by kernel_rfl) Tryd.func4 (by kernel_rfl)
    (of_decide_eq_true (by kernel_rfl)) (by unfold Func.isWrapper; first | (rw [if_pos (by decide +kernel)]; kernel_rfl) | (rw [if_neg (by decide +kernel)]; exact ⟨rfl, rfl⟩))
    (fun os started H enc _ => lifted os started H enc)
theorem proved : Rows.LexCoversCardSaid :=
  Claim7.holds_tied_plain_at .later [] Rows.lexCoversCard.laidKinds Rows.lexCoversCard.laidTests Rows.lexCoversCard.stood.harness Rows.lexCoversCard.stood.looks row_proved (fun _ h => by cases h) (by kernel_rfl) (fun _ h => by cases h) lexCovers_row_tie rfl ⟨rfl, rfl⟩ (by kernel_rfl) rfl
    (fun f fn hf hfn => by
      obtain rfl : f = 4 := Option.some.inj ((show Tryd.prog.funcNamed "antecedent/antecedentlaw07.LexCovers" = some 4 by kernel_rfl).symm.trans hf) |>.symm
      obtain rfl : fn = Tryd.f4 := (Option.some.inj (Tryd.func4.symm.trans hfn)).symm
      exact ⟨by kernel_rfl, fun j t ht => by
        rw [Tryd.params4] at ht
        have hm : t ∈ [9] := by simpa using Array.mem_of_getElem? ht
        have hall : ([9].all fun u => !Tryd.prog.wantsStandIn u) = true := by kernel_rfl
        exact (show Tryd.prog.wantsStandIn t = false by simpa using List.all_eq_true.1 hall t hm)⟩)
    (by kernel_rfl)
#print axioms proved
end Go.Proofs.YtfdhkldgenkobaaDoor.lexCovers

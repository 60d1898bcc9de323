/-
  LexAgain (layer 7, lex): for every text the call returns true: tokens with a space between each two of them are the same tokens. No condition.
-/
import Derived.Test.YtcnifjfekppeaaaDoorRows
import Derived.Test.YtcnifjfekppeaaaDoorCards
import Derived.Test.YtcnifjfekppeaaaDoorTie
import Derived.Test.YtcnifjfekppeaaaDoorLexAwake
import Derived.Test.YtcnifjfekppeaaaDoorValOpen
import Derived.WalkKit
import Derived.ProofKit
import Derived.OpenShut
import Derived.LaidMore
import Derived.Lay
import Derived.SevenTiedAt
import Derived.Stop.Joined
import Derived.RegionTactic
import Derived.BigQuiet
namespace Go.Proofs.YtcnifjfekppeaaaDoor.lexAgain
open Go.ChangeShapes Go.WideShapes Go.ChangeAt Go.RowKit FloM ValM Go.Shelf
set_option linter.unusedVariables false
set_option linter.unusedSimpArgs false
set_option maxHeartbeats 1000000 in
theorem walk_l0 (a0 : ByteArray) (w : World) (h0 : 400 < (a0.size : Int)) :
    Calls Tryd.prog 4 #[.string a0] w fun e w' => e = .returned (.bool true) ∧ Below w.heap.size w w' := by
  have hB := Below.refl w.heap.size w
  go_enter Tryd.func4, Tryd.ntmps4
  go_wp2_with (go_at_call 9; refine (awakeX_any _).mono ?_; rintro e w1 ⟨rfl, h'⟩; replace hB := on hB h'; clear h')
  go_ret
  exact ⟨rfl, hB⟩
set_option maxHeartbeats 1000000 in
theorem walk_bad (a0 : ByteArray) (n : Nat) (w : World) (h0 : ¬ 400 < (a0.size : Int)) (hn : (n : Int) < (a0.size : Int)) (h : toksL 0 (ls a0) = .bad n) :
    Calls Tryd.prog 4 #[.string a0] w fun e w' => e = .returned (.bool true) ∧ Below w.heap.size w w' := by
  have hB := Below.refl w.heap.size w
  have HT : Hid (∀ W, Calls Tryd.prog 10 #[.string a0] W fun e w' => e = .returned (.tuple #[.slice none 0 0, .int .i64 (n : Int), .int .i64 2]) ∧ Below W.heap.size W w') := Lib.hid fun W => tok_bad h (by omega) W
  clear h
  go_enter Tryd.func4, Tryd.ntmps4
  go_wp2_with (first | (go_at_call 9; refine (awakeX_any _).mono ?_; rintro e w1 ⟨rfl, h'⟩; replace hB := on hB h'; clear h') | (go_at_call 10; refine (HT.out _).mono ?_; rintro e w2 ⟨rfl, hb⟩; replace hB := on hB hb; clear hb))
  go_ret
  exact ⟨rfl, hB⟩
theorem bad_lt {n : Nat} : ∀ (m : Nat) (a : Nat) (l : List UInt8), l.length ≤ m → toksL a l = .bad n → n < a + l.length := by
  intro m
  induction m with
  | zero =>
    intro a l hl h
    have : l = [] := List.eq_nil_of_length_eq_zero (by omega)
    subst this
    rw [toks_end rfl] at h; cases h
  | succ m ih =>
    intro a l hl h
    by_cases he : l.drop (spanL sepC l) = []
    · rw [toks_end he] at h; cases h
    · have hsp : spanL sepC l < l.length := by
        rcases Nat.lt_or_ge (spanL sepC l) l.length with h' | h'
        · exact h'
        · exact absurd (List.drop_of_length_le h') he
      cases hf : firstL (l.drop (spanL sepC l)) with
      | none => rw [toks_bad he hf] at h; injection h with h; omega
      | some o =>
        obtain ⟨k, j⟩ := o
        have hp := first_pos hf
        rw [List.length_drop] at hp
        rw [toks_more hf] at h
        cases hr : toksL (a + spanL sepC l + j) (l.drop (spanL sepC l + j)) with
        | good r => rw [hr] at h; cases h
        | bad q =>
          rw [hr] at h
          simp only [Rs.pre, Rs.bad.injEq] at h
          subst h
          have := ih _ _ (by rw [List.length_drop]; omega) hr
          rw [List.length_drop] at this; omega
theorem bel_drawsX {B : Nat} {w u : World} (h : Below B w u) (k : Nat) : Below B w (u.drewN k) := ⟨h.os, h.tape, h.output, h.size, h.block⟩
theorem bs_app (a b : List UInt8) : bs (a ++ b) = bs a ++ bs b := by
  apply ls_inj; rw [ls_append]; rfl
theorem take_le {ts : List Tk} (k : Nat) : (joinL (ts.take k)).length ≤ sumT ts := by
  refine Nat.le_trans (joinL_len _) ?_
  unfold sumT
  conv => rhs; rw [← List.take_append_drop k ts, List.map_append, List.sum_append]
  omega
theorem each_le {ts : List Tk} {k : Nat} {t : Tk} (h : ts[k]? = some t) : t.t.length ≤ sumT ts := by
  rw [split_take h]; simp [sumT, List.sum_append]; omega
set_option maxRecDepth 20000 in
set_option maxHeartbeats 4000000 in
theorem walk_good (a0 : ByteArray) (ts us : List Tk) (w : World) (h0 : ¬ 400 < (a0.size : Int)) (h : toksL 0 (ls a0) = .good ts) (hs : sumT ts ≤ 800) (hl : ts.length ≤ 800) (hu : toksL 0 (joinL ts) = .good us) (hul : us.length = ts.length) (hsame : ∀ (i : Nat) (t u : Tk), ts[i]? = some t → us[i]? = some u → u.k = t.k ∧ u.t = t.t) :
    Calls Tryd.prog 4 #[.string a0] w fun e w' => e = .returned (.bool true) ∧ Below w.heap.size w w' := by
  have hB := Below.refl w.heap.size w
  have HT : Hid (∀ W, Calls Tryd.prog 10 #[.string a0] W fun e w' => ∃ (A : Option Addr) (c : Nat), e = .returned (.tuple #[.slice A ts.length c, .int .i64 0, .int .i64 0]) ∧ RdK w' A ts ∧ Below W.heap.size W w') := Lib.hid fun W => tok_good h (by omega) W
  have HU : Hid (∀ W, Calls Tryd.prog 10 #[.string (bs (joinL ts))] W fun e w' => ∃ (A : Option Addr) (c : Nat), e = .returned (.tuple #[.slice A us.length c, .int .i64 0, .int .i64 0]) ∧ RdK w' A us ∧ Below W.heap.size W w') := Lib.hid fun W => tok_good (s := bs (joinL ts)) hu (by have := joinL_len ts; rw [bs_size]; omega) W
  have HS := Lib.hid hsame; have HSU := Lib.hid hs; have HUL := Lib.hid hul
  clear h hu hsame hul
  go_enter Tryd.func4, Tryd.ntmps4
  go_wp2_with (first | (go_at_call 9; refine (awakeX_any _).mono ?_; rintro e w1 ⟨rfl, h'⟩; replace hB := on hB h'; clear h') | (go_at_call 10; refine (HT.out _).mono ?_; rintro e w2 ⟨A2, c2, rfl, hr, hb⟩; have HR2 := Lib.hid hr; have HB2 := Lib.hid (on hB hb); clear hr hb hB))
  go_loop [6, 43] (fun sv v => ∃ k : Nat, v = .int .i64 (k : Nat) ∧ k ≤ ts.length ∧ sv = .string (bs (joinL (ts.take k)))) (fun _ v => ts.length - (intOf v).toNat)
  case atStart => exact ⟨0, rfl, Nat.zero_le _, rfl⟩
  case round =>
    obtain ⟨k, rfl, hk, rfl⟩ := hrel
    by_cases hlt : k < ts.length
    · have hx := List.getElem?_eq_getElem hlt
      generalize ts[k] = t at hx
      obtain ⟨b, o, rfl, hbl, c0, c1, cc2⟩ := HR2.out k t hx
      have h1 : (bs (joinL (ts.take k))).size ≤ 800 := by rw [bs_size]; exact Nat.le_trans (take_le k) HSU.out
      have h2 : (bs t.t).size ≤ 800 := by rw [bs_size]; exact Nat.le_trans (each_le hx) HSU.out
      have hn1 : ¬ 9223372036854775807 < (bs (joinL (ts.take k))).size + (⟨#[32]⟩ : ByteArray).size := by rw [show ((⟨#[32]⟩ : ByteArray)).size = 1 from rfl]; omega
      have hn2 : ¬ 9223372036854775807 < (bs (joinL (ts.take k))).size + (bs t.t).size := by omega
      have hsz : (bs (joinL (ts.take k)) ++ ⟨#[32]⟩).size = (bs (joinL (ts.take k))).size + 1 := by rw [← ls_len, ls_append, List.length_append]; rfl
      have hn3 : ¬ 9223372036854775807 < (bs (joinL (ts.take k)) ++ ⟨#[32]⟩).size + (bs t.t).size := by rw [hsz]; omega
      have HX := Lib.hid hx
      clear hx hsz h1 h2 c0 cc2
      obtain ⟨s0, hs0⟩ : ∃ s0, bs (joinL (ts.take k)) = s0 := ⟨_, rfl⟩
      rw [hs0] at hn1 hn2 hn3 ⊢
      have HS0 := Lib.hid hs0
      clear hs0
      by_cases hk0 : 0 < (k : Int)
      · go_wp2
        go_round
        case rel =>
          refine ⟨k + 1, by go_num, by omega, ?_⟩
          rw [take_snoc' HX.out, joinL_snoc _ _ (fun e => by have := congrArg List.length e; rw [List.length_take, List.length_nil] at this; omega), bs_app, show (32 : UInt8) :: t.t = [32] ++ t.t from rfl, bs_app, ← ByteArray.append_assoc, HS0.out]; rfl
        case measure => simp [intOf]; omega
      · obtain rfl : k = 0 := by omega
        rw [Nat.zero_mul, Nat.add_zero] at c1
        clear hk0
        go_wp2
        go_round
        case rel =>
          refine ⟨1, by go_num, by omega, ?_⟩
          have : s0 ++ bs t.t = bs (joinL (ts.take (0 + 1))) := by
            rw [take_snoc' HX.out, ← HS0.out, List.take_zero]; apply ls_inj; rw [ls_append]; rfl
          rw [this]
        case measure => simp [intOf]; omega
    · obtain rfl : k = ts.length := by omega
      rw [List.take_length]
      go_wp2_with (go_at_call 10; refine (HU.out _).mono ?_; rintro e w3 ⟨A3, c3, rfl, hr, hb⟩; have HR3 := Lib.hid hr; have HR4 := Lib.hid (HR2.out.on hb); have HB3 := Lib.hid (on HB2.out hb); rw [HUL.out]; clear hr hb)
      clear hlt
      go_loopw [75] (fun v wr => ∃ k : Nat, v = .int .i64 (k : Nat) ∧ k ≤ ts.length ∧ Below w3.heap.size w3 wr) (fun v _ => ts.length - (intOf v).toNat)
      case atStart => exact ⟨0, rfl, Nat.zero_le _, Below.refl _ _⟩
      case round =>
        obtain ⟨k, rfl, hk, hBr⟩ := hrel
        have HBR := Lib.hid hBr
        by_cases hlt : k < ts.length
        · have hx := List.getElem?_eq_getElem hlt
          generalize ts[k] = t at hx
          have hy := List.getElem?_eq_getElem (show k < us.length by rw [HUL.out]; exact hlt)
          generalize us[k]'(by rw [HUL.out]; exact hlt) = u at hy
          obtain ⟨b, o, rfl, hbl, c0, c1, cc2⟩ := (HR4.out.on HBR.out) k t hx
          obtain ⟨b', o', rfl, hbl', d0, d1, dd2⟩ := (HR3.out.on HBR.out) k u hy
          obtain ⟨e0, e1⟩ := HS.out k t u hx hy
          rw [e0] at d0
          rw [e1] at d1
          have hne : ((t.k : Int) != (t.k : Int)) = false := by simp
          have hnt : ((bs t.t).toList != (bs t.t).toList) = false := by simp
          clear hx hy cc2 dd2 e0 e1 hBr
          go_wp2
          go_quiet (fail)
          go_wp2
          go_roundw
          case rel => exact ⟨k + 1, by go_num, by omega, bel_drawsX HBR.out _⟩
          case measure => simp [intOf]; omega
        · go_wp2
          go_ret
          exact ⟨rfl, on HB3.out HBR.out⟩
theorem walk (a0 : ByteArray) (w0 : a0.size ≤ maxLen) (w : World) :
    Calls Tryd.prog 4 #[.string a0] w fun e w' => e = .returned (.bool true) ∧ Below w.heap.size w w' := by
  by_cases h0 : 400 < (a0.size : Int)
  · exact walk_l0 a0 w h0
  cases h : toksL 0 (ls a0) with
  | bad n =>
    have := bad_lt _ 0 _ (Nat.le_refl _) h
    rw [ls_len] at this
    exact walk_bad a0 n w h0 (by omega) h
  | good ts =>
    have h1 := toks_sum _ _ _ (Nat.le_refl _) _ h
    have h2 := toks_len h
    rw [ls_len] at h1 h2
    obtain ⟨us, h3, h4, h5⟩ := toks_join ts (toks_each _ _ _ (Nat.le_refl _) _ h)
    exact walk_good a0 ts us w h0 h (by omega) (by omega) h3 h4 h5

theorem own : ownKnob Tryd.prog.godebug = none := by kernel_rfl

set_option maxRecDepth 100000 in
theorem lifted (os : Os) (started : os.Started) (H : Type) (enc : TypeId × Value → H) :
    ReturnsInHanded {} Tryd.checked os 4 .any (fun w args => (Rows.lexAgainSpec.pre enc Tryd.prog Tryd.f4 Rows.lexAgainRow.domain false w args ∧ laidMetH Tryd.prog Rows.lexAgainRow.laid w) ∧ sizedMet enc Tryd.prog Tryd.f4 (OpenSpec.ofChange Rows.lexAgainSpec) false w args) (Rows.lexAgainSpec.post enc Tryd.prog Tryd.f4 false true false false) := by
  refine returnsInHanded_of_change_and (C := Tryd.checked) (X := fun w _ => laidMetH Tryd.prog Rows.lexAgainRow.laid w) (fun _ _ _ hh h => h.of_heap hh) own started (by kernel_rfl) Tryd.func4
    (ChangeSpec.witness_shaped (enc := enc) (C := Tryd.checked) (os := os) (X := fun w _ => laidMetH Tryd.prog Rows.lexAgainRow.laid w) false (World.laidAll Tryd.prog os Rows.lexAgainRow.laid) #[.string ByteArray.empty] 8 (World.laidAll_os _ _ _)
      (World.shaped_of_ZipB (by kernel_rfl) (by kernel_rfl)) (by kernel_rfl) (by kernel_rfl) (by kernel_rfl)
      (by rw [MakeChecks.laidMetH_plain _ _ _ (by kernel_rfl)]; exact laidMet_laidAll _ (by kernel_rfl) (by kernel_rfl))) ?_
  intro W base args ds gs before hval0 hW hcnd _ hL _
  have hval : ∀ (j : Nat) t v, Tryd.f4.params[j]? = some t → args[j]? = some v → Value.okWide Tryd.prog W .any base t v := hval0
  have hW' := hW
  obtain ⟨p, q, hA0, hV, rfl, hfz, hnd⟩ := hW
  have hA : DataW.TrodAll enc Tryd.prog W 0 (fun _ => true) true Tryd.f4.params.toList args.toList ds p := hA0
  rw [Tryd.params4] at hA hval
  obtain ⟨v0, vs0, d0, ds0, p0, q0, hargs, rfl, rfl, h0, r0⟩ := trodAll_cons hA
  obtain ⟨rfl, rfl, rfl⟩ := trodAll_nil r0
  obtain rfl : args = #[v0] := by cases args; simp_all
  obtain ⟨rfl, rfl⟩ := trodVars_none hV
  obtain ⟨a0, rfl, rfl, rfl, w0⟩ := Go.ChangeMaps.open_string Tryd.underlying9 (hval 0 9 v0 rfl rfl) h0
  clear hA0 hval0
  simp only [List.append_nil] at hW'
  refine (walk a0 w0 W).mono fun e W' ⟨he, hg⟩ => ?_
  subst he
  exact ⟨_, rfl, post_plain hW' (fun _ _ _ => (trodAll_cons_mk (shut_bool Tryd.underlying4 _) trodAll_mk0)) (fun sp => (trodAll_cons_mk (Go.ChangeMaps.shut_string Tryd.underlying9 w0) trodAll_mk0)) (fun _ => rfl) hg (ok_one (by kernel_rfl) rfl (okWide_bool_mk Tryd.underlying4 _))⟩

theorem row_proved : Rows.LexAgainSaid :=
  OpenClaim.holds_of_wide 4 Tryd.f4 rfl rfl rfl rfl rfl rfl rfl ⟨rfl, rfl, rfl, rfl, rfl⟩ rfl rfl rfl rfl rfl (by kernel_rfl) Tryd.func4 (by kernel_rfl)
    (of_decide_eq_true (by kernel_rfl)) (by unfold Func.isWrapper; first | (rw [if_pos (by decide +kernel)]; kernel_rfl) | (rw [if_neg (by decide +kernel)]; exact ⟨rfl, rfl⟩))
    (fun os started H enc _ => lifted os started H enc)
theorem proved : Rows.LexAgainCardSaid :=
  Claim7.holds_tied_plain_at .later [] Rows.lexAgainCard.laidKinds Rows.lexAgainCard.laidTests Rows.lexAgainCard.stood.harness Rows.lexAgainCard.stood.looks row_proved (fun _ h => by cases h) (by kernel_rfl) (fun _ h => by cases h) lexAgain_row_tie rfl ⟨rfl, rfl⟩ (by kernel_rfl) rfl
    (fun f fn hf hfn => by
      obtain rfl : f = 4 := Option.some.inj ((show Tryd.prog.funcNamed "antecedent/antecedentlaw07.LexAgain" = some 4 by kernel_rfl).symm.trans hf) |>.symm
      obtain rfl : fn = Tryd.f4 := (Option.some.inj (Tryd.func4.symm.trans hfn)).symm
      exact ⟨by kernel_rfl, fun j t ht => by
        rw [Tryd.params4] at ht
        have hm : t ∈ [9] := by simpa using Array.mem_of_getElem? ht
        have hall : ([9].all fun u => !Tryd.prog.wantsStandIn u) = true := by kernel_rfl
        exact (show Tryd.prog.wantsStandIn t = false by simpa using List.all_eq_true.1 hall t hm)⟩)
    (by kernel_rfl)
#print axioms proved
end Go.Proofs.YtcnifjfekppeaaaDoor.lexAgain

/-
  ParsePostfix (layer 8, parse): for every text the call returns true: each path that is read has its steps as they must stand: no step lacks the one path, or the two, that it needs, and all of them together are one path. No condition.
-/
import Derived.Test.YtncafadjcelloaaDoorRows
import Derived.Test.YtncafadjcelloaaDoorCards
import Derived.Test.YtncafadjcelloaaDoorTie
import Derived.Test.YtncafadjcelloaaDoorPrsTop
import Derived.Test.YtncafadjcelloaaDoorPrsNo
import Derived.WalkKit
import Derived.ProofKit
import Derived.OpenShut
import Derived.LaidMore
import Derived.Lay
import Derived.SevenTiedAt
import Derived.Stop.Joined
import Derived.RegionTactic
import Derived.BigQuiet
import Derived.Lib.QuietBelow
namespace Go.Proofs.YtncafadjcelloaaDoor.parsePostfix
open Go.ChangeShapes Go.WideShapes Go.ChangeAt Go.RowKit FloM ValM Go.Shelf
set_option linter.unusedVariables false
set_option linter.unusedSimpArgs false
theorem ok_take {l : List St} : ∀ {n m : Nat} (k : Nat), okF n l = some m → ∃ q, okF n (l.take k) = some q := by
  intro n m k h
  rw [← List.take_append_drop k l, ok_app] at h
  cases e : okF n (l.take k) with
  | none => rw [e] at h; cases h
  | some q => exact ⟨q, rfl⟩
theorem ok_snoc {l : List St} {n k q : Nat} {s : St} (hs : l[k]? = some s) (h : okF n (l.take k) = some q) (h2 : ∃ r, okF n (l.take (k + 1)) = some r) : ∃ r, okF n (l.take (k + 1)) = some r ∧ stF q s = some r := by
  obtain ⟨r, hr⟩ := h2
  have e : l.take (k + 1) = l.take k ++ [s] := by rw [List.take_add_one, hs]; rfl
  rw [e, ok_app, h] at hr ⊢
  simp only [Option.bind, okF] at hr ⊢
  cases e2 : stF q s with
  | none => rw [e2] at hr; cases hr
  | some r2 => rw [e2] at hr; exact ⟨r, hr, by simpa [okF] using hr⟩
theorem steps_at {W : World} {base c : Nat} {A : Option Addr} {l : List St} (h : OwnS W base A c l) (hn : 0 < l.length) : ∃ g, A = some ⟨g, 0, none⟩ ∧ g < W.heap.size ∧ ∀ k s, l[k]? = some s → W.cell? ⟨g, k * 2, none⟩ = some (.int .i64 (s.k : Int)) ∧ W.cell? ⟨g, k * 2 + 1, none⟩ = some (.string (bs s.l)) := by
  unfold OwnS at h
  obtain ⟨g, e, _, hg, hc⟩ := own_cells h hn
  refine ⟨g, e, hg, fun k s hk => ?_⟩
  have hs : ∀ (l : List St) (k : Nat), l[k]? = some s → (scells l)[k * 2]? = some (.int .i64 (s.k : Int)) ∧ (scells l)[k * 2 + 1]? = some (.string (bs s.l)) := by
    intro l
    induction l with
    | nil => intro k h; simp at h
    | cons x l ih =>
      intro k h
      cases k with
      | zero => simp at h; subst h; exact ⟨rfl, rfl⟩
      | succ k =>
        have := ih k (by simpa using h)
        rw [show (k + 1) * 2 = k * 2 + 2 by omega, show k * 2 + 2 + 1 = (k * 2 + 1) + 2 by omega]
        exact this
  obtain ⟨h1, h2⟩ := hs l k hk
  exact ⟨hc _ _ h1, hc _ _ h2⟩
theorem st_split {m r sk : Nat} {lab : List UInt8} (h : stF m ⟨sk, lab⟩ = some r) :
    (sk = 1 ∧ lab ≠ [] ∧ r = m + 1) ∨ (sk = 2 ∧ lab ≠ [] ∧ r = m + 1) ∨ (sk = 3 ∧ lab = [] ∧ r = m - 1 ∧ 2 ≤ m) ∨ (sk = 4 ∧ lab = [] ∧ r = m - 1 ∧ 2 ≤ m) ∨ (sk ≠ 1 ∧ sk ≠ 2 ∧ sk ≠ 3 ∧ sk ≠ 4 ∧ (lab = [] ↔ 2 < sk) ∧ r = m ∧ 1 ≤ m) := by
  unfold stF at h
  simp only at h
  split at h
  · cases h
  · rename_i hb
    have hb' : (lab = [] ↔ 2 < sk) := by simpa using hb
    split at h
    · rename_i h12
      injection h with h
      rcases h12 with h1 | h1
      · exact .inl ⟨h1, fun e => by have := hb'.1 e; omega, h.symm⟩
      · exact .inr (.inl ⟨h1, fun e => by have := hb'.1 e; omega, h.symm⟩)
    · rename_i h12
      split at h
      · rename_i h34
        split at h
        · cases h
        · injection h with h
          rcases h34 with h1 | h1
          · exact .inr (.inr (.inl ⟨h1, hb'.2 (by omega), h.symm, by omega⟩))
          · exact .inr (.inr (.inr (.inl ⟨h1, hb'.2 (by omega), h.symm, by omega⟩)))
      · rename_i h34
        split at h
        · cases h
        · injection h with h
          exact .inr (.inr (.inr (.inr ⟨fun e => h12 (.inl e), fun e => h12 (.inr e), fun e => h34 (.inl e), fun e => h34 (.inr e), hb', h.symm, by omega⟩)))
set_option maxRecDepth 20000 in
set_option maxHeartbeats 4000000 in
theorem walk_long (a0 : ByteArray) (w : World) (h0 : 1500 < (a0.size : Int)) :
    Calls Tryd.prog 5 #[.string a0] w fun e w' => e = .returned (.bool true) ∧ Below w.heap.size w w' := by
  have hB := Below.refl w.heap.size w
  go_enter Tryd.func5, Tryd.ntmps5
  go_wp2_with (go_at_call 10; refine (awake8_any _).mono ?_; rintro e w1 ⟨rfl, h'⟩; replace hB := on hB h'; clear h')
  go_ret
  exact ⟨rfl, hB⟩
set_option maxRecDepth 20000 in
set_option maxHeartbeats 4000000 in
theorem walk_bad (a0 : ByteArray) (w : World) (h0 : ¬ 1500 < (a0.size : Int)) (a k : Nat) (hk : ((k : Int) != 0) = true) (h : pathS a0.size (toksL 0 (ls a0)) = .no a k) :
    Calls Tryd.prog 5 #[.string a0] w fun e w' => e = .returned (.bool true) ∧ Below w.heap.size w w' := by
  have hB := Below.refl w.heap.size w
  have HP : Hid (∀ V, Calls Tryd.prog 14 #[.string a0] V (PathR (.no a k) V)) := Lib.hid fun V => by
    have h1 := parsePath_any a0 V (by omega)
    rwa [h] at h1
  clear h
  go_enter Tryd.func5, Tryd.ntmps5
  go_wp2_with (first
    | (go_at_call 10; refine (awake8_any _).mono ?_; rintro e w1 ⟨rfl, h'⟩; replace hB := on hB h'; clear h')
    | (go_at_call 14; refine (HP.out _).mono ?_; rintro e w2 ⟨rfl, hb⟩; replace hB := on hB hb; clear hb))
  go_ret
  exact ⟨rfl, hB⟩
set_option maxRecDepth 20000 in
set_option maxHeartbeats 4000000 in
theorem walk_good (a0 : ByteArray) (w : World) (h0 : ¬ 1500 < (a0.size : Int)) (l : List St) (h : pathS a0.size (toksL 0 (ls a0)) = .ok l []) (hok : okF 0 l = some 1) (hpos : 0 < l.length) (h100 : l.length ≤ 100) (d : Nat) (hd : deepL (toksL 0 (ls a0)).ts = d) (hd32 : d ≤ 32) :
    Calls Tryd.prog 5 #[.string a0] w fun e w' => e = .returned (.bool true) ∧ Below w.heap.size w w' := by
  have hB := Below.refl w.heap.size w
  have HP : Hid (∀ V, Calls Tryd.prog 14 #[.string a0] V (PathR (.ok l []) V)) := Lib.hid fun V => by
    have h1 := parsePath_any a0 V (by omega)
    rwa [h] at h1
  have HD : Hid (∀ V, Calls Tryd.prog 15 #[.string a0] V fun e w' => e = .returned (.int .i64 (d : Nat)) ∧ Below V.heap.size V w') := Lib.hid fun V => by
    have h1 := deep_any a0 V (by omega)
    rwa [hd] at h1
  have HOK := Lib.hid hok
  have hd32' : (d : Int) ≤ 32 := by omega
  clear h hd hok
  go_enter Tryd.func5, Tryd.ntmps5
  go_wp2_with (first
    | (go_at_call 10; refine (awake8_any _).mono ?_; rintro e w1 ⟨rfl, h'⟩; replace hB := on hB h'; clear h')
    | (go_at_call 14; refine (HP.out _).mono ?_; rintro e w2 ⟨A, c, rfl, hown, hb⟩; obtain ⟨g, rfl, hgl, hst⟩ := steps_at hown hpos; have HST := Lib.hid hst; replace hB := on hB hb; clear hown hb hst))
  go_loopw [6, 29] (fun vn vi wr => ∃ k m : Nat, vi = .int .i64 (k : Nat) ∧ k ≤ l.length ∧ vn = .int .i64 (m : Nat) ∧ okF 0 (l.take k) = some m ∧ m ≤ k ∧ Below w2.heap.size w2 wr) (fun _ vi _ => l.length - (intOf vi).toNat)
  case atStart => exact ⟨0, 0, rfl, Nat.zero_le _, rfl, rfl, Nat.le_refl _, Below.refl _ _⟩
  case round =>
    obtain ⟨k, m, rfl, hk, rfl, hm, hmk, hb⟩ := hrel
    by_cases hlt : k < l.length
    · obtain ⟨s, hs⟩ : ∃ s, l[k]? = some s := ⟨_, List.getElem?_eq_getElem hlt⟩
      obtain ⟨r, hr, hst⟩ := ok_snoc hs hm (ok_take (k + 1) HOK.out)
      obtain ⟨c0, c1⟩ := HST.out k s hs
      have e0 := (keep hb _ _ hgl).trans c0
      have e1 := (keep hb _ _ hgl).trans c1
      have HR := Lib.hid hr
      have HST2 := Lib.hid hst
      clear hs hm hr hst c0 c1
      obtain ⟨sk, lab⟩ := s
      simp only at e0 e1
      have hsp := st_split HST2.out
      rcases hsp with ⟨rfl, hl, rfl⟩ | ⟨rfl, hl, rfl⟩ | ⟨rfl, rfl, rfl, h2⟩ | ⟨rfl, rfl, rfl, h2⟩ | ⟨hk1, hk2, hk3, hk4, hl, rfl, h2⟩
      · have f1 : ¬ ((m : Int) + 1 < 1) := by omega
        have f2 : ((bs lab).toList == []) = false := by rw [toList_ls, ls_bs]; simpa using hl
        have f3 : bs lab ≠ ⟨#[]⟩ := fun e => hl (by have := congrArg ls e; rwa [ls_bs] at this)
        go_wp2
        go_quiet (fail)
        go_wp2
        go_roundw
        case rel => exact ⟨k + 1, m + 1, by go_num, by omega, by go_num, HR.out, by omega, ⟨hb.os, hb.tape, hb.output, hb.size, hb.block⟩⟩
        case measure => simp [intOf]; omega
      · have f1 : ¬ ((m : Int) + 1 < 1) := by omega
        have f2 : ((bs lab).toList == []) = false := by rw [toList_ls, ls_bs]; simpa using hl
        have f3 : bs lab ≠ ⟨#[]⟩ := fun e => hl (by have := congrArg ls e; rwa [ls_bs] at this)
        go_wp2
        go_quiet (fail)
        go_wp2
        go_roundw
        case rel => exact ⟨k + 1, m + 1, by go_num, by omega, by go_num, HR.out, by omega, ⟨hb.os, hb.tape, hb.output, hb.size, hb.block⟩⟩
        case measure => simp [intOf]; omega
      · have f1 : ¬ ((m : Int) - 1 < 1) := by omega
        replace e1 : wr.cell? ⟨g, k * 2 + 1, none⟩ = some (.string ⟨#[]⟩) := e1
        go_wp2
        go_quiet (fail)
        go_wp2
        go_roundw
        case rel => exact ⟨k + 1, m - 1, by go_num, by omega, by go_num, HR.out, by omega, ⟨hb.os, hb.tape, hb.output, hb.size, hb.block⟩⟩
        case measure => simp [intOf]; omega
      · have f1 : ¬ ((m : Int) - 1 < 1) := by omega
        replace e1 : wr.cell? ⟨g, k * 2 + 1, none⟩ = some (.string ⟨#[]⟩) := e1
        go_wp2
        go_quiet (fail)
        go_wp2
        go_roundw
        case rel => exact ⟨k + 1, m - 1, by go_num, by omega, by go_num, HR.out, by omega, ⟨hb.os, hb.tape, hb.output, hb.size, hb.block⟩⟩
        case measure => simp [intOf]; omega
      · have f1 : ¬ ((r : Int) < 1) := by omega
        have g1 : ((sk : Int) == 1) = false := by rw [beq_eq_false_iff_ne]; omega
        have g2 : ((sk : Int) == 2) = false := by rw [beq_eq_false_iff_ne]; omega
        have g3 : ((sk : Int) == 3) = false := by rw [beq_eq_false_iff_ne]; omega
        have g4 : ((sk : Int) == 4) = false := by rw [beq_eq_false_iff_ne]; omega
        clear hk1 hk2 hk3 hk4
        by_cases h5 : 2 < sk
        · obtain rfl := hl.2 h5
          have f5 : 2 < (sk : Int) := by omega
          clear hl h5
          replace e1 : wr.cell? ⟨g, k * 2 + 1, none⟩ = some (.string ⟨#[]⟩) := e1
          go_wp2
          go_quiet (fail)
          go_wp2
          go_roundw
          case rel => exact ⟨k + 1, r, by go_num, by omega, by go_num, HR.out, by omega, ⟨hb.os, hb.tape, hb.output, hb.size, hb.block⟩⟩
          case measure => simp [intOf]; omega
        · have hl' : lab ≠ [] := fun e => h5 (hl.1 e)
          have f5 : ¬ 2 < (sk : Int) := by omega
          clear hl h5
          have f2 : ((bs lab).toList == []) = false := by rw [toList_ls, ls_bs]; simpa using hl'
          have f3 : bs lab ≠ ⟨#[]⟩ := fun e => hl' (by have := congrArg ls e; rwa [ls_bs] at this)
          go_wp2
          go_quiet (fail)
          go_wp2
          go_roundw
          case rel => exact ⟨k + 1, r, by go_num, by omega, by go_num, HR.out, by omega, ⟨hb.os, hb.tape, hb.output, hb.size, hb.block⟩⟩
          case measure => simp [intOf]; omega
    · obtain rfl : k = l.length := by omega
      have hm1 : m = 1 := by
        rw [List.take_of_length_le (Nat.le_refl _), HOK.out] at hm; injection hm with hm; exact hm.symm
      subst hm1
      clear hm
      go_wp2_with (go_at_call 15; refine (HD.out _).mono ?_; rintro e w3 ⟨rfl, hb3⟩; replace hb := on hb hb3; clear hb3)
      go_ret
      exact ⟨rfl, on hB hb⟩
theorem walk (a0 : ByteArray) (w0 : a0.size ≤ maxLen) (w : World) :
    Calls Tryd.prog 5 #[.string a0] w fun e w' => e = .returned (.bool true) ∧ Below w.heap.size w w' := by
  by_cases h0 : 1500 < (a0.size : Int)
  · exact walk_long a0 w h0
  · cases h : pathS a0.size (toksL 0 (ls a0)) with
    | no a k =>
      have := pathS_nz _ _ a k h
      exact walk_bad a0 w h0 a k (by rw [bne_iff_ne]; omega) h
    | ok l r =>
      have hr : r = [] := by
        cases hR : toksL 0 (ls a0) with
        | bad n => rw [hR] at h; cases h
        | good ts =>
          rw [hR] at h
          obtain ⟨y, q, e1, e2⟩ := bind_ok h
          cases q with
          | nil => cases e2; rfl
          | cons t q => cases e2
      subst hr
      obtain ⟨ts, e1, _, e2, e3, e4⟩ := paths_good h fun ts hR => tok_ok hR
      have hpos : 0 < l.length := by
        cases l with
        | nil => have := e2 0; simp [okF] at this
        | cons s l => simp
      exact walk_good a0 w h0 l h (e2 0) hpos e3 _ rfl (by rw [e1]; exact e4)

theorem own : ownKnob Tryd.prog.godebug = none := by kernel_rfl

set_option maxRecDepth 100000 in
theorem lifted (os : Os) (started : os.Started) (H : Type) (enc : TypeId × Value → H) :
    ReturnsInHanded {} Tryd.checked os 5 .any (fun w args => (Rows.parsePostfixSpec.pre enc Tryd.prog Tryd.f5 Rows.parsePostfixRow.domain false w args ∧ laidMetH Tryd.prog Rows.parsePostfixRow.laid w) ∧ sizedMet enc Tryd.prog Tryd.f5 (OpenSpec.ofChange Rows.parsePostfixSpec) false w args) (Rows.parsePostfixSpec.post enc Tryd.prog Tryd.f5 false true false false) := by
  refine returnsInHanded_of_change_and (C := Tryd.checked) (X := fun w _ => laidMetH Tryd.prog Rows.parsePostfixRow.laid w) (fun _ _ _ hh h => h.of_heap hh) own started (by kernel_rfl) Tryd.func5
    (ChangeSpec.witness_shaped (enc := enc) (C := Tryd.checked) (os := os) (X := fun w _ => laidMetH Tryd.prog Rows.parsePostfixRow.laid w) false (World.laidAll Tryd.prog os Rows.parsePostfixRow.laid) #[.string ByteArray.empty] 8 (World.laidAll_os _ _ _)
      (World.shaped_of_ZipB (by kernel_rfl) (by kernel_rfl)) (by kernel_rfl) (by kernel_rfl) (by kernel_rfl)
      (by rw [MakeChecks.laidMetH_plain _ _ _ (by kernel_rfl)]; exact laidMet_laidAll _ (by kernel_rfl) (by kernel_rfl))) ?_
  intro W base args ds gs before hval0 hW hcnd _ hL _
  have hval : ∀ (j : Nat) t v, Tryd.f5.params[j]? = some t → args[j]? = some v → Value.okWide Tryd.prog W .any base t v := hval0
  have hW' := hW
  obtain ⟨p, q, hA0, hV, rfl, hfz, hnd⟩ := hW
  have hA : DataW.TrodAll enc Tryd.prog W 0 (fun _ => true) true Tryd.f5.params.toList args.toList ds p := hA0
  rw [Tryd.params5] at hA hval
  obtain ⟨v0, vs0, d0, ds0, p0, q0, hargs, rfl, rfl, h0, r0⟩ := trodAll_cons hA
  obtain ⟨rfl, rfl, rfl⟩ := trodAll_nil r0
  obtain rfl : args = #[v0] := by cases args; simp_all
  obtain ⟨rfl, rfl⟩ := trodVars_none hV
  obtain ⟨a0, rfl, rfl, rfl, w0⟩ := Go.ChangeMaps.open_string Tryd.underlying9 (hval 0 9 v0 rfl rfl) h0
  clear hA0 hval0
  simp only [List.append_nil] at hW'
  refine (walk a0 w0 W).mono fun e W' ⟨he, hg⟩ => ?_
  subst he
  exact ⟨_, rfl, post_plain hW' (fun _ _ _ => (trodAll_cons_mk (shut_bool Tryd.underlying4 _) trodAll_mk0)) (fun sp => (trodAll_cons_mk (Go.ChangeMaps.shut_string Tryd.underlying9 w0) trodAll_mk0)) (fun _ => rfl) hg (ok_one (by kernel_rfl) rfl (okWide_bool_mk Tryd.underlying4 _))⟩

theorem row_proved : Rows.ParsePostfixSaid :=
  OpenClaim.holds_of_wide 5 Tryd.f5 rfl rfl rfl rfl rfl rfl rfl ⟨rfl, rfl, rfl, rfl, rfl⟩ rfl rfl rfl rfl rfl (by kernel_rfl) Tryd.func5 (by kernel_rfl)
    (of_decide_eq_true (by kernel_rfl)) (by unfold Func.isWrapper; first | (rw [if_pos (by decide +kernel)]; kernel_rfl) | (rw [if_neg (by decide +kernel)]; exact ⟨rfl, rfl⟩))
    (fun os started H enc _ => lifted os started H enc)
theorem proved : Rows.ParsePostfixCardSaid :=
  Claim7.holds_tied_plain_at .later [] Rows.parsePostfixCard.laidKinds Rows.parsePostfixCard.laidTests Rows.parsePostfixCard.stood.harness Rows.parsePostfixCard.stood.looks row_proved (fun _ h => by cases h) (by kernel_rfl) (fun _ h => by cases h) parsePostfix_row_tie rfl ⟨rfl, rfl⟩ (by kernel_rfl) rfl
    (fun f fn hf hfn => by
      obtain rfl : f = 5 := Option.some.inj ((show Tryd.prog.funcNamed "antecedent/antecedentlaw08.ParsePostfix" = some 5 by kernel_rfl).symm.trans hf) |>.symm
      obtain rfl : fn = Tryd.f5 := (Option.some.inj (Tryd.func5.symm.trans hfn)).symm
      exact ⟨by kernel_rfl, fun j t ht => by
        rw [Tryd.params5] at ht
        have hm : t ∈ [9] := by simpa using Array.mem_of_getElem? ht
        have hall : ([9].all fun u => !Tryd.prog.wantsStandIn u) = true := by kernel_rfl
        exact (show Tryd.prog.wantsStandIn t = false by simpa using List.all_eq_true.1 hall t hm)⟩)
    (by kernel_rfl)
#print axioms proved
end Go.Proofs.YtncafadjcelloaaDoor.parsePostfix

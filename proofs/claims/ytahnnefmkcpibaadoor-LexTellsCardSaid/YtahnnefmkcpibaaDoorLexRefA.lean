/-
  Contracts of the document's own lexer (antecedentref07): sign, Variable, run, mark.
-/
import Derived.Test.YtahnnefmkcpibaaDoorRefLexM
import Derived.Test.YtahnnefmkcpibaaDoorLexTok
namespace Go.Proofs.YtahnnefmkcpibaaDoor
open Go.RowKit FloM ValM Go.Shelf
set_option linter.unusedVariables false
set_option linter.unusedSimpArgs false

/-! ### sign -/
theorem cls8 (c : UInt8) : (97 ≤ c.toNat ∧ c.toNat ≤ 122) ∨ (65 ≤ c.toNat ∧ c.toNat ≤ 90) ∨ (48 ≤ c.toNat ∧ c.toNat ≤ 57) ∨ (c.toNat = 95) ∨ (c.toNat < 48) ∨ (57 < c.toNat ∧ c.toNat < 65) ∨ (90 < c.toNat ∧ c.toNat < 97 ∧ c.toNat ≠ 95) ∨ (122 < c.toNat) := by omega
set_option maxHeartbeats 1000000 in
theorem sign_any (c : UInt8) (w : World) : Calls Tryd.prog 21 #[.int .u8 (c.toNat : Int)] w fun e w' => e = .returned (.bool (nameC c)) ∧ w = w' := by
  rcases cls8 c with h | h | h | h | h | h | h | h
  · have hn : nameC c = true := by simp [nameC, lowC, uppC, digC]; omega
    have q0 : (97 : Int) ≤ (c.toNat : Int) := by omega
    have q1 : (c.toNat : Int) ≤ 122 := by omega
    have HN := Lib.hid hn
    clear h hn
    go_enter Tryd.func21, Tryd.ntmps21
    go_wp2
    go_ret
    exact ⟨ret_bool (by rw [HN.out]), rfl⟩
  · have hn : nameC c = true := by simp [nameC, lowC, uppC, digC]; omega
    have q0 : (c.toNat : Int) < 97 := by omega
    have r0 : decide ((97 : Int) ≤ (c.toNat : Int)) = false := by rw [decide_eq_false_iff_not]; omega
    have q1 : (65 : Int) ≤ (c.toNat : Int) := by omega
    have q2 : (c.toNat : Int) ≤ 90 := by omega
    have HN := Lib.hid hn
    clear h hn
    go_enter Tryd.func21, Tryd.ntmps21
    go_wp2
    go_ret
    exact ⟨ret_bool (by rw [HN.out]), rfl⟩
  · have hn : nameC c = true := by simp [nameC, lowC, uppC, digC]; omega
    have q0 : (c.toNat : Int) < 97 := by omega
    have r0 : decide ((97 : Int) ≤ (c.toNat : Int)) = false := by rw [decide_eq_false_iff_not]; omega
    have q1 : (c.toNat : Int) < 65 := by omega
    have r1 : decide ((65 : Int) ≤ (c.toNat : Int)) = false := by rw [decide_eq_false_iff_not]; omega
    have q2 : (48 : Int) ≤ (c.toNat : Int) := by omega
    have q3 : (c.toNat : Int) ≤ 57 := by omega
    have HN := Lib.hid hn
    clear h hn
    go_enter Tryd.func21, Tryd.ntmps21
    go_wp2
    go_ret
    exact ⟨ret_bool (by rw [HN.out]), rfl⟩
  · have hn : nameC c = true := by simp [nameC, lowC, uppC, digC]; omega
    have q0 : (c.toNat : Int) < 97 := by omega
    have r0 : decide ((97 : Int) ≤ (c.toNat : Int)) = false := by rw [decide_eq_false_iff_not]; omega
    have q1 : (65 : Int) ≤ (c.toNat : Int) := by omega
    have q2 : 90 < (c.toNat : Int) := by omega
    have r2 : decide ((c.toNat : Int) ≤ 90) = false := by rw [decide_eq_false_iff_not]; omega
    have q3 : (48 : Int) ≤ (c.toNat : Int) := by omega
    have q4 : 57 < (c.toNat : Int) := by omega
    have r4 : decide ((c.toNat : Int) ≤ 57) = false := by rw [decide_eq_false_iff_not]; omega
    have q5 : ((c.toNat : Int) == 95) = true := by rw [beq_iff_eq]; omega
    have HN := Lib.hid hn
    clear h hn
    go_enter Tryd.func21, Tryd.ntmps21
    go_wp2
    go_ret
    exact ⟨ret_bool (by rw [HN.out]), rfl⟩
  · have hn : nameC c = false := by rw [← Bool.not_eq_true]; simp [nameC, lowC, uppC, digC]; omega
    have q0 : (c.toNat : Int) < 97 := by omega
    have r0 : decide ((97 : Int) ≤ (c.toNat : Int)) = false := by rw [decide_eq_false_iff_not]; omega
    have q1 : (c.toNat : Int) < 65 := by omega
    have r1 : decide ((65 : Int) ≤ (c.toNat : Int)) = false := by rw [decide_eq_false_iff_not]; omega
    have q2 : (c.toNat : Int) < 48 := by omega
    have r2 : decide ((48 : Int) ≤ (c.toNat : Int)) = false := by rw [decide_eq_false_iff_not]; omega
    have q3 : ((c.toNat : Int) == 95) = false := by rw [beq_eq_false_iff_ne]; omega
    have HN := Lib.hid hn
    clear h hn
    go_enter Tryd.func21, Tryd.ntmps21
    go_wp2
    go_ret
    exact ⟨ret_bool (by rw [HN.out]), rfl⟩
  · have hn : nameC c = false := by rw [← Bool.not_eq_true]; simp [nameC, lowC, uppC, digC]; omega
    have q0 : (c.toNat : Int) < 97 := by omega
    have r0 : decide ((97 : Int) ≤ (c.toNat : Int)) = false := by rw [decide_eq_false_iff_not]; omega
    have q1 : (c.toNat : Int) < 65 := by omega
    have r1 : decide ((65 : Int) ≤ (c.toNat : Int)) = false := by rw [decide_eq_false_iff_not]; omega
    have q2 : (48 : Int) ≤ (c.toNat : Int) := by omega
    have q3 : 57 < (c.toNat : Int) := by omega
    have r3 : decide ((c.toNat : Int) ≤ 57) = false := by rw [decide_eq_false_iff_not]; omega
    have q4 : ((c.toNat : Int) == 95) = false := by rw [beq_eq_false_iff_ne]; omega
    have HN := Lib.hid hn
    clear h hn
    go_enter Tryd.func21, Tryd.ntmps21
    go_wp2
    go_ret
    exact ⟨ret_bool (by rw [HN.out]), rfl⟩
  · have hn : nameC c = false := by rw [← Bool.not_eq_true]; simp [nameC, lowC, uppC, digC]; omega
    have q0 : (c.toNat : Int) < 97 := by omega
    have r0 : decide ((97 : Int) ≤ (c.toNat : Int)) = false := by rw [decide_eq_false_iff_not]; omega
    have q1 : (65 : Int) ≤ (c.toNat : Int) := by omega
    have q2 : 90 < (c.toNat : Int) := by omega
    have r2 : decide ((c.toNat : Int) ≤ 90) = false := by rw [decide_eq_false_iff_not]; omega
    have q3 : (48 : Int) ≤ (c.toNat : Int) := by omega
    have q4 : 57 < (c.toNat : Int) := by omega
    have r4 : decide ((c.toNat : Int) ≤ 57) = false := by rw [decide_eq_false_iff_not]; omega
    have q5 : ((c.toNat : Int) == 95) = false := by rw [beq_eq_false_iff_ne]; omega
    have HN := Lib.hid hn
    clear h hn
    go_enter Tryd.func21, Tryd.ntmps21
    go_wp2
    go_ret
    exact ⟨ret_bool (by rw [HN.out]), rfl⟩
  · have hn : nameC c = false := by rw [← Bool.not_eq_true]; simp [nameC, lowC, uppC, digC]; omega
    have q0 : (97 : Int) ≤ (c.toNat : Int) := by omega
    have q1 : 122 < (c.toNat : Int) := by omega
    have r1 : decide ((c.toNat : Int) ≤ 122) = false := by rw [decide_eq_false_iff_not]; omega
    have q2 : (65 : Int) ≤ (c.toNat : Int) := by omega
    have q3 : 90 < (c.toNat : Int) := by omega
    have r3 : decide ((c.toNat : Int) ≤ 90) = false := by rw [decide_eq_false_iff_not]; omega
    have q4 : (48 : Int) ≤ (c.toNat : Int) := by omega
    have q5 : 57 < (c.toNat : Int) := by omega
    have r5 : decide ((c.toNat : Int) ≤ 57) = false := by rw [decide_eq_false_iff_not]; omega
    have q6 : ((c.toNat : Int) == 95) = false := by rw [beq_eq_false_iff_ne]; omega
    have HN := Lib.hid hn
    clear h hn
    go_enter Tryd.func21, Tryd.ntmps21
    go_wp2
    go_ret
    exact ⟨ret_bool (by rw [HN.out]), rfl⟩

/-! ### Variable -/
theorem ls_at (s : ByteArray) (k : Nat) (h : k < s.size) : (ls s)[k]? = some s[k] := by
  rw [List.getElem?_eq_getElem (by rw [ls_len]; exact h)]; rfl
theorem all_snoc {p : UInt8 → Bool} {l : List UInt8} {k : Nat} {c : UInt8} (h : l[k]? = some c) (ha : (l.take k).all p = true) (hc : p c = true) : (l.take (k + 1)).all p = true := by
  rw [take_snoc' h, List.all_append, ha]; simp [hc]
theorem not_all {p : UInt8 → Bool} {l : List UInt8} {k : Nat} {c : UInt8} (h : l[k]? = some c) (hc : p c = false) : l.all p = false := by
  rw [← Bool.not_eq_true, List.all_eq_true]
  intro ha
  have := ha c (List.mem_of_getElem? h)
  rw [hc] at this; cases this
theorem span_of {p : UInt8 → Bool} {l : List UInt8} {k : Nat} (ha : (l.take k).all p = true) (hk : k ≤ l.length) (hn : ∀ c, l[k]? = some c → p c = false) : spanL p l = k := by
  have h := span_eq (p := p) (a := l.take k) (b := l.drop k) (fun c r hd => hn c (by
    have := congrArg (fun m => m[0]?) hd
    simpa using this)) ha
  rw [List.take_append_drop, List.length_take] at h
  omega
set_option maxHeartbeats 2000000 in
theorem refVar_any (s : ByteArray) (w : World) (hs : s.size ≤ maxLen) : Calls Tryd.prog 10 #[.string s] w fun e w' => e = .returned (.bool (varL (ls s))) ∧ w = w' := by
  unfold maxLen at hs
  by_cases h0 : (s.size : Int) < 1
  · have hn : ls s = [] := by cases h : ls s with
      | nil => rfl
      | cons c r => have := ls_len s; rw [h] at this; simp at this; omega
    have HV : Hid (varL (ls s) = false) := Lib.hid (by rw [hn, varL_nil])
    clear hn
    go_enter Tryd.func10, Tryd.ntmps10
    go_wp2
    go_ret
    exact ⟨ret_bool (by rw [HV.out]), rfl⟩
  obtain ⟨c, r, hl⟩ : ∃ c r, ls s = c :: r := by
    cases h : ls s with
    | nil => have := ls_len s; rw [h] at this; simp at this; omega
    | cons c r => exact ⟨c, r, rfl⟩
  obtain ⟨hp, hc0⟩ := first_of hl
  have hv : varL (ls s) = (uppC s[0] && (ls s).all nameC && decide (s.size ≤ 40)) := by rw [← ls_len]; rw [hl, varL_cons, hc0]
  have HV := Lib.hid hv
  clear hv hc0 hl
  have h1 : 1 ≤ (s.size : Int) := by omega
  by_cases h2 : 40 < (s.size : Int)
  · have HF := Lib.hid (show varL (ls s) = false by rw [HV.out, decide_eq_false (by omega), Bool.and_false])
    go_enter Tryd.func10, Tryd.ntmps10
    go_wp2
    all_goals
      go_ret
      exact ⟨ret_bool (by rw [HF.out]), rfl⟩
  have h2' : (s.size : Int) ≤ 40 := by omega
  by_cases h3 : (s[0].toNat : Int) < 65
  · have HF := Lib.hid (show varL (ls s) = false by rw [HV.out, show uppC s[0] = false by simp [uppC]; omega]; rfl)
    go_enter Tryd.func10, Tryd.ntmps10
    go_wp2
    all_goals
      go_ret
      exact ⟨ret_bool (by rw [HF.out]), rfl⟩
  have h3' : 65 ≤ (s[0].toNat : Int) := by omega
  by_cases h4 : 90 < (s[0].toNat : Int)
  · have HF := Lib.hid (show varL (ls s) = false by rw [HV.out, show uppC s[0] = false by simp [uppC]; omega]; rfl)
    go_enter Tryd.func10, Tryd.ntmps10
    go_wp2
    all_goals
      go_ret
      exact ⟨ret_bool (by rw [HF.out]), rfl⟩
  have h4' : (s[0].toNat : Int) ≤ 90 := by omega
  have HU := Lib.hid (show uppC s[0] = true by simp [uppC]; omega)
  go_enter Tryd.func10, Tryd.ntmps10
  go_wp2
  go_loop [3] (fun v => ∃ k : Nat, k ≤ s.size ∧ v = .int .i64 k ∧ Hid (((ls s).take k).all nameC = true)) (fun v => s.size - (intOf v).toNat)
  case atStart => exact ⟨0, Nat.zero_le _, rfl, Lib.hid rfl⟩
  case round =>
    obtain ⟨k, hk, rfl, HA⟩ := hrel
    by_cases hlt : k < s.size
    · cases hn : nameC s[k] with
      | true =>
        have HN := Lib.hid hn; clear hn
        go_wp2_with (go_at_call 21; refine (sign_any _ _).mono ?_; rw [HN.out]; rintro e w' ⟨rfl, rfl⟩)
        go_round
        case rel => exact ⟨k + 1, by omega, by go_num, Lib.hid (all_snoc (ls_at s k hlt) HA.out HN.out)⟩
        case measure => simp [intOf]; omega
      | false =>
        have HN := Lib.hid hn; clear hn
        go_wp2_with (go_at_call 21; refine (sign_any _ _).mono ?_; rw [HN.out]; rintro e w' ⟨rfl, rfl⟩)
        go_ret
        exact ⟨ret_bool (by rw [HV.out, not_all (ls_at s k hlt) HN.out]; simp), rfl⟩
    · obtain rfl : k = s.size := by omega
      go_wp2
      go_ret
      refine ⟨ret_bool ?_, rfl⟩
      have ha := HA.out
      rw [List.take_of_length_le (by rw [ls_len]; exact Nat.le_refl _)] at ha
      rw [HV.out, ha, HU.out, decide_eq_true (by omega)]; rfl
/-! ### run -/
set_option maxHeartbeats 2000000 in
theorem refRun_any (s : ByteArray) (a : Nat) (sm : Bool) (w : World) (hs : s.size ≤ maxLen) (ha : a ≤ s.size) : Calls Tryd.prog 30 #[.string s, .int .i64 (a : Int), .bool sm] w fun e w' => e = .returned (.int .i64 (spanL (runP sm) ((ls s).drop a) : Nat)) ∧ w = w' := by
  unfold maxLen at hs
  have hdl : ((ls s).drop a).length = s.size - a := by rw [List.length_drop, ls_len]
  have HDL := Lib.hid hdl; clear hdl
  go_enter Tryd.func30, Tryd.ntmps30
  go_wp2
  go_loop [7] (fun v => ∃ k : Nat, a + k ≤ s.size ∧ v = .int .i64 k ∧ Hid ((((ls s).drop a).take k).all (runP sm) = true)) (fun v => s.size - (intOf v).toNat)
  case atStart => exact ⟨0, by omega, rfl, Lib.hid rfl⟩
  case round =>
    obtain ⟨k, hk, rfl, HA⟩ := hrel
    by_cases hlt : a + k < s.size
    · have hx : ((ls s).drop a)[k]? = some s[a + k] := by rw [List.getElem?_drop]; exact ls_at s (a + k) hlt
      have HX := Lib.hid hx; clear hx
      cases hn : nameC s[a + k] with
      | true =>
        have HN := Lib.hid hn; clear hn
        cases sm with
        | false =>
          have HP := Lib.hid (show runP false s[a + k] = true by rw [runP_name]; exact HN.out)
          go_wp2_with (go_at_call 21; refine (sign_any _ _).mono ?_; rw [HN.out]; rintro e w' ⟨rfl, rfl⟩)
          go_round
          case rel => exact ⟨k + 1, by omega, by go_num, Lib.hid (all_snoc HX.out HA.out HP.out)⟩
          case measure => simp [intOf]; omega
        | true =>
          by_cases h1 : (s[a + k].toNat : Int) < 65
          · have HP := Lib.hid (show runP true s[a + k] = true by simp only [runP, HN.out, uppC]; simp; omega)
            go_wp2_with (go_at_call 21; refine (sign_any _ _).mono ?_; rw [HN.out]; rintro e w' ⟨rfl, rfl⟩)
            go_round
            case rel => exact ⟨k + 1, by omega, by go_num, Lib.hid (all_snoc HX.out HA.out HP.out)⟩
            case measure => simp [intOf]; omega
          have h1' : 65 ≤ (s[a + k].toNat : Int) := by omega
          by_cases h2 : (s[a + k].toNat : Int) ≤ 90
          · have HP := Lib.hid (show runP true s[a + k] = false by simp only [runP, HN.out, uppC]; simp; omega)
            go_wp2_with (go_at_call 21; refine (sign_any _ _).mono ?_; rw [HN.out]; rintro e w' ⟨rfl, rfl⟩)
            all_goals
              go_ret
              exact ⟨ret_int (by rw [span_of HA.out (by rw [HDL.out]; omega) (fun c hc => by have := HX.out; rw [hc] at this; injection this with this; rw [this]; exact HP.out)]), rfl⟩
          have h2' : 90 < (s[a + k].toNat : Int) := by omega
          have r2 : decide ((s[a + k].toNat : Int) ≤ 90) = false := by rw [decide_eq_false_iff_not]; omega
          have HP := Lib.hid (show runP true s[a + k] = true by simp only [runP, HN.out, uppC]; simp; omega)
          go_wp2_with (go_at_call 21; refine (sign_any _ _).mono ?_; rw [HN.out]; rintro e w' ⟨rfl, rfl⟩)
          go_round
          case rel => exact ⟨k + 1, by omega, by go_num, Lib.hid (all_snoc HX.out HA.out HP.out)⟩
          case measure => simp [intOf]; omega
      | false =>
        have HN := Lib.hid hn; clear hn
        have HP := Lib.hid (show runP sm s[a + k] = false by simp only [runP, HN.out]; rfl)
        go_wp2_with (go_at_call 21; refine (sign_any _ _).mono ?_; rw [HN.out]; rintro e w' ⟨rfl, rfl⟩)
        all_goals
          go_ret
          exact ⟨ret_int (by rw [span_of HA.out (by rw [HDL.out]; omega) (fun c hc => by have := HX.out; rw [hc] at this; injection this with this; rw [this]; exact HP.out)]), rfl⟩
    · have hE : a + k = s.size := by omega
      have HE := Lib.hid hE; clear hE
      go_wp2
      go_ret
      exact ⟨ret_int (by rw [span_of HA.out (by rw [HDL.out]; have := HE.out; omega) (fun c hc => by
        have h1 := (List.getElem?_eq_some_iff.1 hc).1; have h2 := HDL.out; have h3 := HE.out; omega)]), rfl⟩

/-! ### mark -/
theorem two_take (l : List UInt8) : two l = (decide (l.take 2 = [60, 61]) || decide (l.take 2 = [33, 61]) || decide (l.take 2 = [58, 45]) || decide (l.take 2 = [63, 45])) := by
  have ub : ∀ (a : UInt8) (k : Nat), k < 256 → ((a.toNat = k) = (a = UInt8.ofNat k)) := fun a k hk => by
    rw [eq_iff_iff]; constructor
    · intro h; rw [← h, UInt8.ofNat_toNat]
    · intro h; rw [h]; simp; omega
  match l with
  | [] => rfl
  | [a] => simp [two]
  | a :: b :: r =>
    simp only [two, List.take_succ_cons, List.take_zero, List.cons.injEq, and_true]
    rw [Bool.eq_iff_iff]
    simp only [Bool.or_eq_true, decide_eq_true_eq, or_assoc]
    simp only [ub a 60 (by omega), ub b 61 (by omega), ub a 33 (by omega), ub a 58 (by omega), ub b 45 (by omega), ub a 63 (by omega)]
    rfl
/-- The text of two signs at a place, or the empty text. -/
def twoS (s : ByteArray) (a : Nat) : ByteArray := if a + 2 ≤ s.size then s.extract a (a + 2) else ByteArray.empty
theorem two_s (s : ByteArray) (a : Nat) : two ((ls s).drop a) = (((twoS s a).toList == [60, 61]) || ((twoS s a).toList == [33, 61]) || ((twoS s a).toList == [58, 45]) || ((twoS s a).toList == [63, 45])) := by
  unfold twoS
  by_cases h : a + 2 ≤ s.size
  · have e : ls (s.extract a (a + 2)) = ((ls s).drop a).take 2 := by rw [ls_extract]; congr 1; omega
    rw [if_pos h, two_take, ← e]
    simp only [beq_list]
  · rw [if_neg h]
    have hl : ((ls s).drop a).length ≤ 1 := by rw [List.length_drop, ls_len]; omega
    rw [show ByteArray.empty.toList = [] by rw [toList_ls]; rfl]
    match (ls s).drop a, hl with
    | [], _ => rfl
    | [x], _ => rfl
    | _ :: _ :: _, hl => simp at hl
theorem mark_bool (c : UInt8) : markC c = (decide (c.toNat = 40) || decide (c.toNat = 41) || decide (c.toNat = 44) || decide (c.toNat = 46) || decide (c.toNat = 60) || decide (c.toNat = 61) || decide (c.toNat = 47) || decide (c.toNat = 124) || decide (c.toNat = 42) || decide (c.toNat = 43) || decide (c.toNat = 63) || decide (c.toNat = 94)) := by
  unfold markC marks
  rw [Bool.eq_iff_iff]
  simp only [decide_eq_true_eq, List.mem_cons, List.not_mem_nil, or_false, Bool.or_eq_true, or_assoc]
set_option maxHeartbeats 4000000 in
theorem refMark_any (s : ByteArray) (a : Nat) (w : World) (hs : s.size ≤ 20000) (ha : a < s.size) : Calls Tryd.prog 33 #[.string s, .int .i64 (a : Int)] w fun e w' => e = .returned (.int .i64 (markL ((ls s).drop a) : Nat)) ∧ w = w' := by
  have hd : (ls s).drop a = s[a] :: (ls s).drop (a + 1) := drop_at (ls_at s a ha)
  obtain ⟨m, hm⟩ : ∃ m, markL ((ls s).drop a) = m := ⟨_, rfl⟩
  have hM2 : two ((ls s).drop a) = true → m = 2 := fun h => by rw [← hm]; unfold markL; rw [if_pos h]
  have hM1 : two ((ls s).drop a) = false → m = if markC s[a] then 1 else 0 := fun h => by rw [← hm, hd, mark_one (by rw [← hd]; exact h)]
  have H2 := two_s s a
  rw [hm]
  clear hm hd
  obtain ⟨u, hu⟩ : ∃ u, twoS s a = u := ⟨_, rfl⟩
  rw [hu] at H2
  have hsl : a + 2 ≤ s.size → ∀ W : World, (Instr.slice 9 (.string s) (some (.int .i64 (a : Int))) (some (.int .i64 ((a : Int) + 2))) none).run Tryd.prog W = .ok (.string u) W := fun h W => by
    have := run_slice_string (P := Tryd.prog) W 9 s .i64 .i64 (a : Int) ((a : Int) + 2) Tryd.underlying9 (by omega) (by omega) (by omega)
    rw [this, show ((a : Int) + 2).toNat = a + 2 by omega, show (a : Int).toNat = a by omega, ← hu]
    unfold twoS; rw [if_pos h]
  have hem : ¬ a + 2 ≤ s.size → u = ⟨#[]⟩ := fun h => by rw [← hu]; unfold twoS; rw [if_neg h]; rfl
  have HU := Lib.hid hu; clear hu
  have HM1 := Lib.hid hM1; have HM2 := Lib.hid hM2; clear hM1 hM2
  have hz : ((a : Int) + 2 ≤ (s.size : Int) ∧ ∀ W : World, (Instr.slice 9 (.string s) (some (.int .i64 (a : Int))) (some (.int .i64 ((a : Int) + 2))) none).run Tryd.prog W = .ok (.string u) W) ∨ ((s.size : Int) < (a : Int) + 2 ∧ u = ⟨#[]⟩) := by
    by_cases h : a + 2 ≤ s.size
    · exact .inl ⟨by omega, hsl h⟩
    · exact .inr ⟨by omega, hem h⟩
  clear hsl hem
  have hcl := mark_cls s[a]
  cases g0 : (u.toList == [60, 61]) with
  | true =>
    have HR := Lib.hid (HM2.out (by rw [H2]; simp [g0]))
    clear H2 hcl
    rcases hz with ⟨hz, hsl⟩ | ⟨hz, rfl⟩
    · go_enter Tryd.func33, Tryd.ntmps33
      go_wp2
      all_goals
        go_ret
        exact ⟨ret_int (by rw [HR.out]; rfl), rfl⟩
    · rw [toList_ls] at g0; cases g0
  | false =>
  cases g1 : (u.toList == [33, 61]) with
  | true =>
    have HR := Lib.hid (HM2.out (by rw [H2]; simp [g0, g1]))
    clear H2 hcl
    rcases hz with ⟨hz, hsl⟩ | ⟨hz, rfl⟩
    · go_enter Tryd.func33, Tryd.ntmps33
      go_wp2
      all_goals
        go_ret
        exact ⟨ret_int (by rw [HR.out]; rfl), rfl⟩
    · rw [toList_ls] at g1; cases g1
  | false =>
  cases g2 : (u.toList == [58, 45]) with
  | true =>
    have HR := Lib.hid (HM2.out (by rw [H2]; simp [g0, g1, g2]))
    clear H2 hcl
    rcases hz with ⟨hz, hsl⟩ | ⟨hz, rfl⟩
    · go_enter Tryd.func33, Tryd.ntmps33
      go_wp2
      all_goals
        go_ret
        exact ⟨ret_int (by rw [HR.out]; rfl), rfl⟩
    · rw [toList_ls] at g2; cases g2
  | false =>
  cases g3 : (u.toList == [63, 45]) with
  | true =>
    have HR := Lib.hid (HM2.out (by rw [H2]; simp [g0, g1, g2, g3]))
    clear H2 hcl
    rcases hz with ⟨hz, hsl⟩ | ⟨hz, rfl⟩
    · go_enter Tryd.func33, Tryd.ntmps33
      go_wp2
      all_goals
        go_ret
        exact ⟨ret_int (by rw [HR.out]; rfl), rfl⟩
    · rw [toList_ls] at g3; cases g3
  | false =>
  have HQ := Lib.hid (HM1.out (by rw [H2, g0, g1, g2, g3]; rfl))
  clear H2
  rcases hcl with hc | hc | hc | hc | hc | hc | hc | hc | hc | hc | hc | hc | hc
  · have HC := Lib.hid hc; clear hc
    have q0 : ((s[a].toNat : Int) == 40) = true := by rw [HC.out]; rfl
    have HR := Lib.hid (show m = 1 by rw [HQ.out, show markC s[a] = true by rw [mark_bool]; simp [HC.out]]; rfl)
    rcases hz with ⟨hz, hsl⟩ | ⟨hz, rfl⟩
    all_goals
      go_enter Tryd.func33, Tryd.ntmps33
      go_wp2
      all_goals
        go_ret
        exact ⟨ret_int (by rw [HR.out]; rfl), rfl⟩
  · have HC := Lib.hid hc; clear hc
    have q0 : ((s[a].toNat : Int) == 40) = false := by rw [HC.out]; rfl
    have q1 : ((s[a].toNat : Int) == 41) = true := by rw [HC.out]; rfl
    have HR := Lib.hid (show m = 1 by rw [HQ.out, show markC s[a] = true by rw [mark_bool]; simp [HC.out]]; rfl)
    rcases hz with ⟨hz, hsl⟩ | ⟨hz, rfl⟩
    all_goals
      go_enter Tryd.func33, Tryd.ntmps33
      go_wp2
      all_goals
        go_ret
        exact ⟨ret_int (by rw [HR.out]; rfl), rfl⟩
  · have HC := Lib.hid hc; clear hc
    have q0 : ((s[a].toNat : Int) == 40) = false := by rw [HC.out]; rfl
    have q1 : ((s[a].toNat : Int) == 41) = false := by rw [HC.out]; rfl
    have q2 : ((s[a].toNat : Int) == 44) = true := by rw [HC.out]; rfl
    have HR := Lib.hid (show m = 1 by rw [HQ.out, show markC s[a] = true by rw [mark_bool]; simp [HC.out]]; rfl)
    rcases hz with ⟨hz, hsl⟩ | ⟨hz, rfl⟩
    all_goals
      go_enter Tryd.func33, Tryd.ntmps33
      go_wp2
      all_goals
        go_ret
        exact ⟨ret_int (by rw [HR.out]; rfl), rfl⟩
  · have HC := Lib.hid hc; clear hc
    have q0 : ((s[a].toNat : Int) == 40) = false := by rw [HC.out]; rfl
    have q1 : ((s[a].toNat : Int) == 41) = false := by rw [HC.out]; rfl
    have q2 : ((s[a].toNat : Int) == 44) = false := by rw [HC.out]; rfl
    have q3 : ((s[a].toNat : Int) == 46) = true := by rw [HC.out]; rfl
    have HR := Lib.hid (show m = 1 by rw [HQ.out, show markC s[a] = true by rw [mark_bool]; simp [HC.out]]; rfl)
    rcases hz with ⟨hz, hsl⟩ | ⟨hz, rfl⟩
    all_goals
      go_enter Tryd.func33, Tryd.ntmps33
      go_wp2
      all_goals
        go_ret
        exact ⟨ret_int (by rw [HR.out]; rfl), rfl⟩
  · have HC := Lib.hid hc; clear hc
    have q0 : ((s[a].toNat : Int) == 40) = false := by rw [HC.out]; rfl
    have q1 : ((s[a].toNat : Int) == 41) = false := by rw [HC.out]; rfl
    have q2 : ((s[a].toNat : Int) == 44) = false := by rw [HC.out]; rfl
    have q3 : ((s[a].toNat : Int) == 46) = false := by rw [HC.out]; rfl
    have q4 : ((s[a].toNat : Int) == 60) = true := by rw [HC.out]; rfl
    have HR := Lib.hid (show m = 1 by rw [HQ.out, show markC s[a] = true by rw [mark_bool]; simp [HC.out]]; rfl)
    rcases hz with ⟨hz, hsl⟩ | ⟨hz, rfl⟩
    all_goals
      go_enter Tryd.func33, Tryd.ntmps33
      go_wp2
      all_goals
        go_ret
        exact ⟨ret_int (by rw [HR.out]; rfl), rfl⟩
  · have HC := Lib.hid hc; clear hc
    have q0 : ((s[a].toNat : Int) == 40) = false := by rw [HC.out]; rfl
    have q1 : ((s[a].toNat : Int) == 41) = false := by rw [HC.out]; rfl
    have q2 : ((s[a].toNat : Int) == 44) = false := by rw [HC.out]; rfl
    have q3 : ((s[a].toNat : Int) == 46) = false := by rw [HC.out]; rfl
    have q4 : ((s[a].toNat : Int) == 60) = false := by rw [HC.out]; rfl
    have q5 : ((s[a].toNat : Int) == 61) = true := by rw [HC.out]; rfl
    have HR := Lib.hid (show m = 1 by rw [HQ.out, show markC s[a] = true by rw [mark_bool]; simp [HC.out]]; rfl)
    rcases hz with ⟨hz, hsl⟩ | ⟨hz, rfl⟩
    all_goals
      go_enter Tryd.func33, Tryd.ntmps33
      go_wp2
      all_goals
        go_ret
        exact ⟨ret_int (by rw [HR.out]; rfl), rfl⟩
  · have HC := Lib.hid hc; clear hc
    have q0 : ((s[a].toNat : Int) == 40) = false := by rw [HC.out]; rfl
    have q1 : ((s[a].toNat : Int) == 41) = false := by rw [HC.out]; rfl
    have q2 : ((s[a].toNat : Int) == 44) = false := by rw [HC.out]; rfl
    have q3 : ((s[a].toNat : Int) == 46) = false := by rw [HC.out]; rfl
    have q4 : ((s[a].toNat : Int) == 60) = false := by rw [HC.out]; rfl
    have q5 : ((s[a].toNat : Int) == 61) = false := by rw [HC.out]; rfl
    have q6 : ((s[a].toNat : Int) == 47) = true := by rw [HC.out]; rfl
    have HR := Lib.hid (show m = 1 by rw [HQ.out, show markC s[a] = true by rw [mark_bool]; simp [HC.out]]; rfl)
    rcases hz with ⟨hz, hsl⟩ | ⟨hz, rfl⟩
    all_goals
      go_enter Tryd.func33, Tryd.ntmps33
      go_wp2
      all_goals
        go_ret
        exact ⟨ret_int (by rw [HR.out]; rfl), rfl⟩
  · have HC := Lib.hid hc; clear hc
    have q0 : ((s[a].toNat : Int) == 40) = false := by rw [HC.out]; rfl
    have q1 : ((s[a].toNat : Int) == 41) = false := by rw [HC.out]; rfl
    have q2 : ((s[a].toNat : Int) == 44) = false := by rw [HC.out]; rfl
    have q3 : ((s[a].toNat : Int) == 46) = false := by rw [HC.out]; rfl
    have q4 : ((s[a].toNat : Int) == 60) = false := by rw [HC.out]; rfl
    have q5 : ((s[a].toNat : Int) == 61) = false := by rw [HC.out]; rfl
    have q6 : ((s[a].toNat : Int) == 47) = false := by rw [HC.out]; rfl
    have q7 : ((s[a].toNat : Int) == 124) = true := by rw [HC.out]; rfl
    have HR := Lib.hid (show m = 1 by rw [HQ.out, show markC s[a] = true by rw [mark_bool]; simp [HC.out]]; rfl)
    rcases hz with ⟨hz, hsl⟩ | ⟨hz, rfl⟩
    all_goals
      go_enter Tryd.func33, Tryd.ntmps33
      go_wp2
      all_goals
        go_ret
        exact ⟨ret_int (by rw [HR.out]; rfl), rfl⟩
  · have HC := Lib.hid hc; clear hc
    have q0 : ((s[a].toNat : Int) == 40) = false := by rw [HC.out]; rfl
    have q1 : ((s[a].toNat : Int) == 41) = false := by rw [HC.out]; rfl
    have q2 : ((s[a].toNat : Int) == 44) = false := by rw [HC.out]; rfl
    have q3 : ((s[a].toNat : Int) == 46) = false := by rw [HC.out]; rfl
    have q4 : ((s[a].toNat : Int) == 60) = false := by rw [HC.out]; rfl
    have q5 : ((s[a].toNat : Int) == 61) = false := by rw [HC.out]; rfl
    have q6 : ((s[a].toNat : Int) == 47) = false := by rw [HC.out]; rfl
    have q7 : ((s[a].toNat : Int) == 124) = false := by rw [HC.out]; rfl
    have q8 : ((s[a].toNat : Int) == 42) = true := by rw [HC.out]; rfl
    have HR := Lib.hid (show m = 1 by rw [HQ.out, show markC s[a] = true by rw [mark_bool]; simp [HC.out]]; rfl)
    rcases hz with ⟨hz, hsl⟩ | ⟨hz, rfl⟩
    all_goals
      go_enter Tryd.func33, Tryd.ntmps33
      go_wp2
      all_goals
        go_ret
        exact ⟨ret_int (by rw [HR.out]; rfl), rfl⟩
  · have HC := Lib.hid hc; clear hc
    have q0 : ((s[a].toNat : Int) == 40) = false := by rw [HC.out]; rfl
    have q1 : ((s[a].toNat : Int) == 41) = false := by rw [HC.out]; rfl
    have q2 : ((s[a].toNat : Int) == 44) = false := by rw [HC.out]; rfl
    have q3 : ((s[a].toNat : Int) == 46) = false := by rw [HC.out]; rfl
    have q4 : ((s[a].toNat : Int) == 60) = false := by rw [HC.out]; rfl
    have q5 : ((s[a].toNat : Int) == 61) = false := by rw [HC.out]; rfl
    have q6 : ((s[a].toNat : Int) == 47) = false := by rw [HC.out]; rfl
    have q7 : ((s[a].toNat : Int) == 124) = false := by rw [HC.out]; rfl
    have q8 : ((s[a].toNat : Int) == 42) = false := by rw [HC.out]; rfl
    have q9 : ((s[a].toNat : Int) == 43) = true := by rw [HC.out]; rfl
    have HR := Lib.hid (show m = 1 by rw [HQ.out, show markC s[a] = true by rw [mark_bool]; simp [HC.out]]; rfl)
    rcases hz with ⟨hz, hsl⟩ | ⟨hz, rfl⟩
    all_goals
      go_enter Tryd.func33, Tryd.ntmps33
      go_wp2
      all_goals
        go_ret
        exact ⟨ret_int (by rw [HR.out]; rfl), rfl⟩
  · have HC := Lib.hid hc; clear hc
    have q0 : ((s[a].toNat : Int) == 40) = false := by rw [HC.out]; rfl
    have q1 : ((s[a].toNat : Int) == 41) = false := by rw [HC.out]; rfl
    have q2 : ((s[a].toNat : Int) == 44) = false := by rw [HC.out]; rfl
    have q3 : ((s[a].toNat : Int) == 46) = false := by rw [HC.out]; rfl
    have q4 : ((s[a].toNat : Int) == 60) = false := by rw [HC.out]; rfl
    have q5 : ((s[a].toNat : Int) == 61) = false := by rw [HC.out]; rfl
    have q6 : ((s[a].toNat : Int) == 47) = false := by rw [HC.out]; rfl
    have q7 : ((s[a].toNat : Int) == 124) = false := by rw [HC.out]; rfl
    have q8 : ((s[a].toNat : Int) == 42) = false := by rw [HC.out]; rfl
    have q9 : ((s[a].toNat : Int) == 43) = false := by rw [HC.out]; rfl
    have q10 : ((s[a].toNat : Int) == 63) = true := by rw [HC.out]; rfl
    have HR := Lib.hid (show m = 1 by rw [HQ.out, show markC s[a] = true by rw [mark_bool]; simp [HC.out]]; rfl)
    rcases hz with ⟨hz, hsl⟩ | ⟨hz, rfl⟩
    all_goals
      go_enter Tryd.func33, Tryd.ntmps33
      go_wp2
      all_goals
        go_ret
        exact ⟨ret_int (by rw [HR.out]; rfl), rfl⟩
  · have HC := Lib.hid hc; clear hc
    have q0 : ((s[a].toNat : Int) == 40) = false := by rw [HC.out]; rfl
    have q1 : ((s[a].toNat : Int) == 41) = false := by rw [HC.out]; rfl
    have q2 : ((s[a].toNat : Int) == 44) = false := by rw [HC.out]; rfl
    have q3 : ((s[a].toNat : Int) == 46) = false := by rw [HC.out]; rfl
    have q4 : ((s[a].toNat : Int) == 60) = false := by rw [HC.out]; rfl
    have q5 : ((s[a].toNat : Int) == 61) = false := by rw [HC.out]; rfl
    have q6 : ((s[a].toNat : Int) == 47) = false := by rw [HC.out]; rfl
    have q7 : ((s[a].toNat : Int) == 124) = false := by rw [HC.out]; rfl
    have q8 : ((s[a].toNat : Int) == 42) = false := by rw [HC.out]; rfl
    have q9 : ((s[a].toNat : Int) == 43) = false := by rw [HC.out]; rfl
    have q10 : ((s[a].toNat : Int) == 63) = false := by rw [HC.out]; rfl
    have q11 : ((s[a].toNat : Int) == 94) = true := by rw [HC.out]; rfl
    have HR := Lib.hid (show m = 1 by rw [HQ.out, show markC s[a] = true by rw [mark_bool]; simp [HC.out]]; rfl)
    rcases hz with ⟨hz, hsl⟩ | ⟨hz, rfl⟩
    all_goals
      go_enter Tryd.func33, Tryd.ntmps33
      go_wp2
      all_goals
        go_ret
        exact ⟨ret_int (by rw [HR.out]; rfl), rfl⟩
  · have HC := Lib.hid hc; clear hc
    have HD := Lib.hid ((mark_bool s[a]).symm.trans HC.out)
    have hd := HD.out
    simp only [Bool.or_eq_false_iff, decide_eq_false_iff_not] at hd
    obtain ⟨⟨⟨⟨⟨⟨⟨⟨⟨⟨⟨n0, n1⟩, n2⟩, n3⟩, n4⟩, n5⟩, n6⟩, n7⟩, n8⟩, n9⟩, n10⟩, n11⟩ := hd
    have q0 : ((s[a].toNat : Int) == 40) = false := by rw [beq_eq_false_iff_ne]; omega
    have q1 : ((s[a].toNat : Int) == 41) = false := by rw [beq_eq_false_iff_ne]; omega
    have q2 : ((s[a].toNat : Int) == 44) = false := by rw [beq_eq_false_iff_ne]; omega
    have q3 : ((s[a].toNat : Int) == 46) = false := by rw [beq_eq_false_iff_ne]; omega
    have q4 : ((s[a].toNat : Int) == 60) = false := by rw [beq_eq_false_iff_ne]; omega
    have q5 : ((s[a].toNat : Int) == 61) = false := by rw [beq_eq_false_iff_ne]; omega
    have q6 : ((s[a].toNat : Int) == 47) = false := by rw [beq_eq_false_iff_ne]; omega
    have q7 : ((s[a].toNat : Int) == 124) = false := by rw [beq_eq_false_iff_ne]; omega
    have q8 : ((s[a].toNat : Int) == 42) = false := by rw [beq_eq_false_iff_ne]; omega
    have q9 : ((s[a].toNat : Int) == 43) = false := by rw [beq_eq_false_iff_ne]; omega
    have q10 : ((s[a].toNat : Int) == 63) = false := by rw [beq_eq_false_iff_ne]; omega
    have q11 : ((s[a].toNat : Int) == 94) = false := by rw [beq_eq_false_iff_ne]; omega
    clear n0 n1 n2 n3 n4 n5 n6 n7 n8 n9 n10 n11
    have HR := Lib.hid (show m = 0 by rw [HQ.out, HC.out]; rfl)
    rcases hz with ⟨hz, hsl⟩ | ⟨hz, rfl⟩
    all_goals
      go_enter Tryd.func33, Tryd.ntmps33
      go_wp2
      all_goals
        go_ret
        exact ⟨ret_int (by rw [HR.out]; rfl), rfl⟩
end Go.Proofs.YtahnnefmkcpibaaDoor

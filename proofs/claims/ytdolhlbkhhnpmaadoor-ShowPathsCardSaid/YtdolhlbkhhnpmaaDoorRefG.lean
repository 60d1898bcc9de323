/-
  Contracts of the document's own lexer (antecedentref07): sign, Variable, run, mark.
-/
import Derived.Test.YtdolhlbkhhnpmaaDoorLexG
import Derived.Test.YtdolhlbkhhnpmaaDoorLexTok
import Derived.Test.YtdolhlbkhhnpmaaDoorValNum
import Derived.Test.YtdolhlbkhhnpmaaDoorValRow
import Derived.Test.YtdolhlbkhhnpmaaDoorValG
import Derived.Test.YtdolhlbkhhnpmaaDoorValRef
import Derived.Test.YtdolhlbkhhnpmaaDoorLexKey
import Derived.Test.YtdolhlbkhhnpmaaDoorLexAwake
import Derived.BigQuiet
namespace Go.Proofs.YtdolhlbkhhnpmaaDoor
open Go.RowKit FloM ValM Go.Shelf
set_option linter.unusedVariables false
set_option linter.unusedSimpArgs false

/-! ### sign -/
theorem cls8 (c : UInt8) : (97 ≤ c.toNat ∧ c.toNat ≤ 122) ∨ (65 ≤ c.toNat ∧ c.toNat ≤ 90) ∨ (48 ≤ c.toNat ∧ c.toNat ≤ 57) ∨ (c.toNat = 95) ∨ (c.toNat < 48) ∨ (57 < c.toNat ∧ c.toNat < 65) ∨ (90 < c.toNat ∧ c.toNat < 97 ∧ c.toNat ≠ 95) ∨ (122 < c.toNat) := by omega
set_option maxRecDepth 20000 in
set_option maxHeartbeats 1000000 in
theorem sign_any (c : UInt8) (w : World) : Calls Tryd.prog 90 #[.int .u8 (c.toNat : Int)] w fun e w' => e = .returned (.bool (nameC c)) ∧ w = w' := by
  rcases cls8 c with h | h | h | h | h | h | h | h
  · have hn : nameC c = true := by simp [nameC, lowC, uppC, digC]; omega
    have q0 : (97 : Int) ≤ (c.toNat : Int) := by omega
    have q1 : (c.toNat : Int) ≤ 122 := by omega
    have HN := Lib.hid hn
    clear h hn
    go_enter Tryd.func90, Tryd.ntmps90
    go_wp2
    go_ret
    exact ⟨ret_bool (by rw [HN.out]), rfl⟩
  · have hn : nameC c = true := by simp [nameC, lowC, uppC, digC]; omega
    have q0 : (c.toNat : Int) < 97 := by omega
    have r0 : decide ((97 : Int) ≤ (c.toNat : Int)) = false := by rw [decide_eq_false_iff_not]; omega
    have q1 : (65 : Int) ≤ (c.toNat : Int) := by omega
    have q2 : (c.toNat : Int) ≤ 90 := by omega
    have HN := Lib.hid hn
    clear h hn
    go_enter Tryd.func90, Tryd.ntmps90
    go_wp2
    go_ret
    exact ⟨ret_bool (by rw [HN.out]), rfl⟩
  · have hn : nameC c = true := by simp [nameC, lowC, uppC, digC]; omega
    have q0 : (c.toNat : Int) < 97 := by omega
    have r0 : decide ((97 : Int) ≤ (c.toNat : Int)) = false := by rw [decide_eq_false_iff_not]; omega
    have q1 : (c.toNat : Int) < 65 := by omega
    have r1 : decide ((65 : Int) ≤ (c.toNat : Int)) = false := by rw [decide_eq_false_iff_not]; omega
    have q2 : (48 : Int) ≤ (c.toNat : Int) := by omega
    have q3 : (c.toNat : Int) ≤ 57 := by omega
    have HN := Lib.hid hn
    clear h hn
    go_enter Tryd.func90, Tryd.ntmps90
    go_wp2
    go_ret
    exact ⟨ret_bool (by rw [HN.out]), rfl⟩
  · have hn : nameC c = true := by simp [nameC, lowC, uppC, digC]; omega
    have q0 : (c.toNat : Int) < 97 := by omega
    have r0 : decide ((97 : Int) ≤ (c.toNat : Int)) = false := by rw [decide_eq_false_iff_not]; omega
    have q1 : (65 : Int) ≤ (c.toNat : Int) := by omega
    have q2 : 90 < (c.toNat : Int) := by omega
    have r2 : decide ((c.toNat : Int) ≤ 90) = false := by rw [decide_eq_false_iff_not]; omega
    have q3 : (48 : Int) ≤ (c.toNat : Int) := by omega
    have q4 : 57 < (c.toNat : Int) := by omega
    have r4 : decide ((c.toNat : Int) ≤ 57) = false := by rw [decide_eq_false_iff_not]; omega
    have q5 : ((c.toNat : Int) == 95) = true := by rw [beq_iff_eq]; omega
    have HN := Lib.hid hn
    clear h hn
    go_enter Tryd.func90, Tryd.ntmps90
    go_wp2
    go_ret
    exact ⟨ret_bool (by rw [HN.out]), rfl⟩
  · have hn : nameC c = false := by rw [← Bool.not_eq_true]; simp [nameC, lowC, uppC, digC]; omega
    have q0 : (c.toNat : Int) < 97 := by omega
    have r0 : decide ((97 : Int) ≤ (c.toNat : Int)) = false := by rw [decide_eq_false_iff_not]; omega
    have q1 : (c.toNat : Int) < 65 := by omega
    have r1 : decide ((65 : Int) ≤ (c.toNat : Int)) = false := by rw [decide_eq_false_iff_not]; omega
    have q2 : (c.toNat : Int) < 48 := by omega
    have r2 : decide ((48 : Int) ≤ (c.toNat : Int)) = false := by rw [decide_eq_false_iff_not]; omega
    have q3 : ((c.toNat : Int) == 95) = false := by rw [beq_eq_false_iff_ne]; omega
    have HN := Lib.hid hn
    clear h hn
    go_enter Tryd.func90, Tryd.ntmps90
    go_wp2
    go_ret
    exact ⟨ret_bool (by rw [HN.out]), rfl⟩
  · have hn : nameC c = false := by rw [← Bool.not_eq_true]; simp [nameC, lowC, uppC, digC]; omega
    have q0 : (c.toNat : Int) < 97 := by omega
    have r0 : decide ((97 : Int) ≤ (c.toNat : Int)) = false := by rw [decide_eq_false_iff_not]; omega
    have q1 : (c.toNat : Int) < 65 := by omega
    have r1 : decide ((65 : Int) ≤ (c.toNat : Int)) = false := by rw [decide_eq_false_iff_not]; omega
    have q2 : (48 : Int) ≤ (c.toNat : Int) := by omega
    have q3 : 57 < (c.toNat : Int) := by omega
    have r3 : decide ((c.toNat : Int) ≤ 57) = false := by rw [decide_eq_false_iff_not]; omega
    have q4 : ((c.toNat : Int) == 95) = false := by rw [beq_eq_false_iff_ne]; omega
    have HN := Lib.hid hn
    clear h hn
    go_enter Tryd.func90, Tryd.ntmps90
    go_wp2
    go_ret
    exact ⟨ret_bool (by rw [HN.out]), rfl⟩
  · have hn : nameC c = false := by rw [← Bool.not_eq_true]; simp [nameC, lowC, uppC, digC]; omega
    have q0 : (c.toNat : Int) < 97 := by omega
    have r0 : decide ((97 : Int) ≤ (c.toNat : Int)) = false := by rw [decide_eq_false_iff_not]; omega
    have q1 : (65 : Int) ≤ (c.toNat : Int) := by omega
    have q2 : 90 < (c.toNat : Int) := by omega
    have r2 : decide ((c.toNat : Int) ≤ 90) = false := by rw [decide_eq_false_iff_not]; omega
    have q3 : (48 : Int) ≤ (c.toNat : Int) := by omega
    have q4 : 57 < (c.toNat : Int) := by omega
    have r4 : decide ((c.toNat : Int) ≤ 57) = false := by rw [decide_eq_false_iff_not]; omega
    have q5 : ((c.toNat : Int) == 95) = false := by rw [beq_eq_false_iff_ne]; omega
    have HN := Lib.hid hn
    clear h hn
    go_enter Tryd.func90, Tryd.ntmps90
    go_wp2
    go_ret
    exact ⟨ret_bool (by rw [HN.out]), rfl⟩
  · have hn : nameC c = false := by rw [← Bool.not_eq_true]; simp [nameC, lowC, uppC, digC]; omega
    have q0 : (97 : Int) ≤ (c.toNat : Int) := by omega
    have q1 : 122 < (c.toNat : Int) := by omega
    have r1 : decide ((c.toNat : Int) ≤ 122) = false := by rw [decide_eq_false_iff_not]; omega
    have q2 : (65 : Int) ≤ (c.toNat : Int) := by omega
    have q3 : 90 < (c.toNat : Int) := by omega
    have r3 : decide ((c.toNat : Int) ≤ 90) = false := by rw [decide_eq_false_iff_not]; omega
    have q4 : (48 : Int) ≤ (c.toNat : Int) := by omega
    have q5 : 57 < (c.toNat : Int) := by omega
    have r5 : decide ((c.toNat : Int) ≤ 57) = false := by rw [decide_eq_false_iff_not]; omega
    have q6 : ((c.toNat : Int) == 95) = false := by rw [beq_eq_false_iff_ne]; omega
    have HN := Lib.hid hn
    clear h hn
    go_enter Tryd.func90, Tryd.ntmps90
    go_wp2
    go_ret
    exact ⟨ret_bool (by rw [HN.out]), rfl⟩

/-! ### Variable -/
theorem ls_at (s : ByteArray) (k : Nat) (h : k < s.size) : (ls s)[k]? = some s[k] := by
  rw [List.getElem?_eq_getElem (by rw [ls_len]; exact h)]; rfl
theorem all_snoc {p : UInt8 → Bool} {l : List UInt8} {k : Nat} {c : UInt8} (h : l[k]? = some c) (ha : (l.take k).all p = true) (hc : p c = true) : (l.take (k + 1)).all p = true := by
  rw [take_snoc' h, List.all_append, ha]; simp [hc]
theorem not_all {p : UInt8 → Bool} {l : List UInt8} {k : Nat} {c : UInt8} (h : l[k]? = some c) (hc : p c = false) : l.all p = false := by
  rw [← Bool.not_eq_true, List.all_eq_true]
  intro ha
  have := ha c (List.mem_of_getElem? h)
  rw [hc] at this; cases this
theorem span_of {p : UInt8 → Bool} {l : List UInt8} {k : Nat} (ha : (l.take k).all p = true) (hk : k ≤ l.length) (hn : ∀ c, l[k]? = some c → p c = false) : spanL p l = k := by
  have h := span_eq (p := p) (a := l.take k) (b := l.drop k) (fun c r hd => hn c (by
    have := congrArg (fun m => m[0]?) hd
    simpa using this)) ha
  rw [List.take_append_drop, List.length_take] at h
  omega
set_option maxRecDepth 20000 in
set_option maxHeartbeats 2000000 in
theorem refVar_any (s : ByteArray) (w : World) (hs : s.size ≤ maxLen) : Calls Tryd.prog 72 #[.string s] w fun e w' => e = .returned (.bool (varL (ls s))) ∧ w = w' := by
  unfold maxLen at hs
  by_cases h0 : (s.size : Int) < 1
  · have hn : ls s = [] := by cases h : ls s with
      | nil => rfl
      | cons c r => have := ls_len s; rw [h] at this; simp at this; omega
    have HV : Hid (varL (ls s) = false) := Lib.hid (by rw [hn, varL_nil])
    clear hn
    go_enter Tryd.func72, Tryd.ntmps72
    go_wp2
    go_ret
    exact ⟨ret_bool (by rw [HV.out]), rfl⟩
  obtain ⟨c, r, hl⟩ : ∃ c r, ls s = c :: r := by
    cases h : ls s with
    | nil => have := ls_len s; rw [h] at this; simp at this; omega
    | cons c r => exact ⟨c, r, rfl⟩
  obtain ⟨hp, hc0⟩ := first_of hl
  have hv : varL (ls s) = (uppC s[0] && (ls s).all nameC && decide (s.size ≤ 40)) := by rw [← ls_len]; rw [hl, varL_cons, hc0]
  have HV := Lib.hid hv
  clear hv hc0 hl
  have h1 : 1 ≤ (s.size : Int) := by omega
  by_cases h2 : 40 < (s.size : Int)
  · have HF := Lib.hid (show varL (ls s) = false by rw [HV.out, decide_eq_false (by omega), Bool.and_false])
    go_enter Tryd.func72, Tryd.ntmps72
    go_wp2
    all_goals
      go_ret
      exact ⟨ret_bool (by rw [HF.out]), rfl⟩
  have h2' : (s.size : Int) ≤ 40 := by omega
  by_cases h3 : (s[0].toNat : Int) < 65
  · have HF := Lib.hid (show varL (ls s) = false by rw [HV.out, show uppC s[0] = false by simp [uppC]; omega]; rfl)
    go_enter Tryd.func72, Tryd.ntmps72
    go_wp2
    all_goals
      go_ret
      exact ⟨ret_bool (by rw [HF.out]), rfl⟩
  have h3' : 65 ≤ (s[0].toNat : Int) := by omega
  by_cases h4 : 90 < (s[0].toNat : Int)
  · have HF := Lib.hid (show varL (ls s) = false by rw [HV.out, show uppC s[0] = false by simp [uppC]; omega]; rfl)
    go_enter Tryd.func72, Tryd.ntmps72
    go_wp2
    all_goals
      go_ret
      exact ⟨ret_bool (by rw [HF.out]), rfl⟩
  have h4' : (s[0].toNat : Int) ≤ 90 := by omega
  have HU := Lib.hid (show uppC s[0] = true by simp [uppC]; omega)
  go_enter Tryd.func72, Tryd.ntmps72
  go_wp2
  go_loop [3] (fun v => ∃ k : Nat, k ≤ s.size ∧ v = .int .i64 k ∧ Hid (((ls s).take k).all nameC = true)) (fun v => s.size - (intOf v).toNat)
  case atStart => exact ⟨0, Nat.zero_le _, rfl, Lib.hid rfl⟩
  case round =>
    obtain ⟨k, hk, rfl, HA⟩ := hrel
    by_cases hlt : k < s.size
    · cases hn : nameC s[k] with
      | true =>
        have HN := Lib.hid hn; clear hn
        go_wp2_with (go_at_call 90; refine (sign_any _ _).mono ?_; rw [HN.out]; rintro e w' ⟨rfl, rfl⟩)
        go_round
        case rel => exact ⟨k + 1, by omega, by go_num, Lib.hid (all_snoc (ls_at s k hlt) HA.out HN.out)⟩
        case measure => simp [intOf]; omega
      | false =>
        have HN := Lib.hid hn; clear hn
        go_wp2_with (go_at_call 90; refine (sign_any _ _).mono ?_; rw [HN.out]; rintro e w' ⟨rfl, rfl⟩)
        go_ret
        exact ⟨ret_bool (by rw [HV.out, not_all (ls_at s k hlt) HN.out]; simp), rfl⟩
    · obtain rfl : k = s.size := by omega
      go_wp2
      go_ret
      refine ⟨ret_bool ?_, rfl⟩
      have ha := HA.out
      rw [List.take_of_length_le (by rw [ls_len]; exact Nat.le_refl _)] at ha
      rw [HV.out, ha, HU.out, decide_eq_true (by omega)]; rfl
/-! ### run -/
set_option maxRecDepth 20000 in
set_option maxHeartbeats 2000000 in
theorem refRun_any (s : ByteArray) (a : Nat) (sm : Bool) (w : World) (hs : s.size ≤ maxLen) (ha : a ≤ s.size) : Calls Tryd.prog 71 #[.string s, .int .i64 (a : Int), .bool sm] w fun e w' => e = .returned (.int .i64 (spanL (runP sm) ((ls s).drop a) : Nat)) ∧ w = w' := by
  unfold maxLen at hs
  have hdl : ((ls s).drop a).length = s.size - a := by rw [List.length_drop, ls_len]
  have HDL := Lib.hid hdl; clear hdl
  go_enter Tryd.func71, Tryd.ntmps71
  go_wp2
  go_loop [7] (fun v => ∃ k : Nat, a + k ≤ s.size ∧ v = .int .i64 k ∧ Hid ((((ls s).drop a).take k).all (runP sm) = true)) (fun v => s.size - (intOf v).toNat)
  case atStart => exact ⟨0, by omega, rfl, Lib.hid rfl⟩
  case round =>
    obtain ⟨k, hk, rfl, HA⟩ := hrel
    by_cases hlt : a + k < s.size
    · have hx : ((ls s).drop a)[k]? = some s[a + k] := by rw [List.getElem?_drop]; exact ls_at s (a + k) hlt
      have HX := Lib.hid hx; clear hx
      cases hn : nameC s[a + k] with
      | true =>
        have HN := Lib.hid hn; clear hn
        cases sm with
        | false =>
          have HP := Lib.hid (show runP false s[a + k] = true by rw [runP_name]; exact HN.out)
          go_wp2_with (go_at_call 90; refine (sign_any _ _).mono ?_; rw [HN.out]; rintro e w' ⟨rfl, rfl⟩)
          go_round
          case rel => exact ⟨k + 1, by omega, by go_num, Lib.hid (all_snoc HX.out HA.out HP.out)⟩
          case measure => simp [intOf]; omega
        | true =>
          by_cases h1 : (s[a + k].toNat : Int) < 65
          · have HP := Lib.hid (show runP true s[a + k] = true by simp only [runP, HN.out, uppC]; simp; omega)
            go_wp2_with (go_at_call 90; refine (sign_any _ _).mono ?_; rw [HN.out]; rintro e w' ⟨rfl, rfl⟩)
            go_round
            case rel => exact ⟨k + 1, by omega, by go_num, Lib.hid (all_snoc HX.out HA.out HP.out)⟩
            case measure => simp [intOf]; omega
          have h1' : 65 ≤ (s[a + k].toNat : Int) := by omega
          by_cases h2 : (s[a + k].toNat : Int) ≤ 90
          · have HP := Lib.hid (show runP true s[a + k] = false by simp only [runP, HN.out, uppC]; simp; omega)
            go_wp2_with (go_at_call 90; refine (sign_any _ _).mono ?_; rw [HN.out]; rintro e w' ⟨rfl, rfl⟩)
            all_goals
              go_ret
              exact ⟨ret_int (by rw [span_of HA.out (by rw [HDL.out]; omega) (fun c hc => by have := HX.out; rw [hc] at this; injection this with this; rw [this]; exact HP.out)]), rfl⟩
          have h2' : 90 < (s[a + k].toNat : Int) := by omega
          have r2 : decide ((s[a + k].toNat : Int) ≤ 90) = false := by rw [decide_eq_false_iff_not]; omega
          have HP := Lib.hid (show runP true s[a + k] = true by simp only [runP, HN.out, uppC]; simp; omega)
          go_wp2_with (go_at_call 90; refine (sign_any _ _).mono ?_; rw [HN.out]; rintro e w' ⟨rfl, rfl⟩)
          go_round
          case rel => exact ⟨k + 1, by omega, by go_num, Lib.hid (all_snoc HX.out HA.out HP.out)⟩
          case measure => simp [intOf]; omega
      | false =>
        have HN := Lib.hid hn; clear hn
        have HP := Lib.hid (show runP sm s[a + k] = false by simp only [runP, HN.out]; rfl)
        go_wp2_with (go_at_call 90; refine (sign_any _ _).mono ?_; rw [HN.out]; rintro e w' ⟨rfl, rfl⟩)
        all_goals
          go_ret
          exact ⟨ret_int (by rw [span_of HA.out (by rw [HDL.out]; omega) (fun c hc => by have := HX.out; rw [hc] at this; injection this with this; rw [this]; exact HP.out)]), rfl⟩
    · have hE : a + k = s.size := by omega
      have HE := Lib.hid hE; clear hE
      go_wp2
      go_ret
      exact ⟨ret_int (by rw [span_of HA.out (by rw [HDL.out]; have := HE.out; omega) (fun c hc => by
        have h1 := (List.getElem?_eq_some_iff.1 hc).1; have h2 := HDL.out; have h3 := HE.out; omega)]), rfl⟩

/-! ### mark -/
theorem two_take (l : List UInt8) : two l = (decide (l.take 2 = [60, 61]) || decide (l.take 2 = [33, 61]) || decide (l.take 2 = [58, 45]) || decide (l.take 2 = [63, 45])) := by
  have ub : ∀ (a : UInt8) (k : Nat), k < 256 → ((a.toNat = k) = (a = UInt8.ofNat k)) := fun a k hk => by
    rw [eq_iff_iff]; constructor
    · intro h; rw [← h, UInt8.ofNat_toNat]
    · intro h; rw [h]; simp; omega
  match l with
  | [] => rfl
  | [a] => simp [two]
  | a :: b :: r =>
    simp only [two, List.take_succ_cons, List.take_zero, List.cons.injEq, and_true]
    rw [Bool.eq_iff_iff]
    simp only [Bool.or_eq_true, decide_eq_true_eq, or_assoc]
    simp only [ub a 60 (by omega), ub b 61 (by omega), ub a 33 (by omega), ub a 58 (by omega), ub b 45 (by omega), ub a 63 (by omega)]
    rfl
/-- The text of two signs at a place, or the empty text. -/
def twoS (s : ByteArray) (a : Nat) : ByteArray := if a + 2 ≤ s.size then s.extract a (a + 2) else ByteArray.empty
theorem two_s (s : ByteArray) (a : Nat) : two ((ls s).drop a) = (((twoS s a).toList == [60, 61]) || ((twoS s a).toList == [33, 61]) || ((twoS s a).toList == [58, 45]) || ((twoS s a).toList == [63, 45])) := by
  unfold twoS
  by_cases h : a + 2 ≤ s.size
  · have e : ls (s.extract a (a + 2)) = ((ls s).drop a).take 2 := by rw [ls_extract]; congr 1; omega
    rw [if_pos h, two_take, ← e]
    simp only [beq_list]
  · rw [if_neg h]
    have hl : ((ls s).drop a).length ≤ 1 := by rw [List.length_drop, ls_len]; omega
    rw [show ByteArray.empty.toList = [] by rw [toList_ls]; rfl]
    match (ls s).drop a, hl with
    | [], _ => rfl
    | [x], _ => rfl
    | _ :: _ :: _, hl => simp at hl
theorem mark_bool (c : UInt8) : markC c = (decide (c.toNat = 40) || decide (c.toNat = 41) || decide (c.toNat = 44) || decide (c.toNat = 46) || decide (c.toNat = 60) || decide (c.toNat = 61) || decide (c.toNat = 47) || decide (c.toNat = 124) || decide (c.toNat = 42) || decide (c.toNat = 43) || decide (c.toNat = 63) || decide (c.toNat = 94)) := by
  unfold markC marks
  rw [Bool.eq_iff_iff]
  simp only [decide_eq_true_eq, List.mem_cons, List.not_mem_nil, or_false, Bool.or_eq_true, or_assoc]
set_option maxRecDepth 20000 in
set_option maxHeartbeats 4000000 in
theorem refMark_any (s : ByteArray) (a : Nat) (w : World) (hs : s.size ≤ 20000) (ha : a < s.size) : Calls Tryd.prog 74 #[.string s, .int .i64 (a : Int)] w fun e w' => e = .returned (.int .i64 (markL ((ls s).drop a) : Nat)) ∧ w = w' := by
  have hd : (ls s).drop a = s[a] :: (ls s).drop (a + 1) := drop_at (ls_at s a ha)
  obtain ⟨m, hm⟩ : ∃ m, markL ((ls s).drop a) = m := ⟨_, rfl⟩
  have hM2 : two ((ls s).drop a) = true → m = 2 := fun h => by rw [← hm]; unfold markL; rw [if_pos h]
  have hM1 : two ((ls s).drop a) = false → m = if markC s[a] then 1 else 0 := fun h => by rw [← hm, hd, mark_one (by rw [← hd]; exact h)]
  have H2 := two_s s a
  rw [hm]
  clear hm hd
  obtain ⟨u, hu⟩ : ∃ u, twoS s a = u := ⟨_, rfl⟩
  rw [hu] at H2
  have hsl : a + 2 ≤ s.size → ∀ W : World, (Instr.slice 9 (.string s) (some (.int .i64 (a : Int))) (some (.int .i64 ((a : Int) + 2))) none).run Tryd.prog W = .ok (.string u) W := fun h W => by
    have := run_slice_string (P := Tryd.prog) W 9 s .i64 .i64 (a : Int) ((a : Int) + 2) Tryd.underlying9 (by omega) (by omega) (by omega)
    rw [this, show ((a : Int) + 2).toNat = a + 2 by omega, show (a : Int).toNat = a by omega, ← hu]
    unfold twoS; rw [if_pos h]
  have hem : ¬ a + 2 ≤ s.size → u = ⟨#[]⟩ := fun h => by rw [← hu]; unfold twoS; rw [if_neg h]; rfl
  have HU := Lib.hid hu; clear hu
  have HM1 := Lib.hid hM1; have HM2 := Lib.hid hM2; clear hM1 hM2
  have hz : ((a : Int) + 2 ≤ (s.size : Int) ∧ ∀ W : World, (Instr.slice 9 (.string s) (some (.int .i64 (a : Int))) (some (.int .i64 ((a : Int) + 2))) none).run Tryd.prog W = .ok (.string u) W) ∨ ((s.size : Int) < (a : Int) + 2 ∧ u = ⟨#[]⟩) := by
    by_cases h : a + 2 ≤ s.size
    · exact .inl ⟨by omega, hsl h⟩
    · exact .inr ⟨by omega, hem h⟩
  clear hsl hem
  have hcl := mark_cls s[a]
  cases g0 : (u.toList == [60, 61]) with
  | true =>
    have HR := Lib.hid (HM2.out (by rw [H2]; simp [g0]))
    clear H2 hcl
    rcases hz with ⟨hz, hsl⟩ | ⟨hz, rfl⟩
    · go_enter Tryd.func74, Tryd.ntmps74
      go_wp2
      all_goals
        go_ret
        exact ⟨ret_int (by rw [HR.out]; rfl), rfl⟩
    · rw [toList_ls] at g0; cases g0
  | false =>
  cases g1 : (u.toList == [33, 61]) with
  | true =>
    have HR := Lib.hid (HM2.out (by rw [H2]; simp [g0, g1]))
    clear H2 hcl
    rcases hz with ⟨hz, hsl⟩ | ⟨hz, rfl⟩
    · go_enter Tryd.func74, Tryd.ntmps74
      go_wp2
      all_goals
        go_ret
        exact ⟨ret_int (by rw [HR.out]; rfl), rfl⟩
    · rw [toList_ls] at g1; cases g1
  | false =>
  cases g2 : (u.toList == [58, 45]) with
  | true =>
    have HR := Lib.hid (HM2.out (by rw [H2]; simp [g0, g1, g2]))
    clear H2 hcl
    rcases hz with ⟨hz, hsl⟩ | ⟨hz, rfl⟩
    · go_enter Tryd.func74, Tryd.ntmps74
      go_wp2
      all_goals
        go_ret
        exact ⟨ret_int (by rw [HR.out]; rfl), rfl⟩
    · rw [toList_ls] at g2; cases g2
  | false =>
  cases g3 : (u.toList == [63, 45]) with
  | true =>
    have HR := Lib.hid (HM2.out (by rw [H2]; simp [g0, g1, g2, g3]))
    clear H2 hcl
    rcases hz with ⟨hz, hsl⟩ | ⟨hz, rfl⟩
    · go_enter Tryd.func74, Tryd.ntmps74
      go_wp2
      all_goals
        go_ret
        exact ⟨ret_int (by rw [HR.out]; rfl), rfl⟩
    · rw [toList_ls] at g3; cases g3
  | false =>
  have HQ := Lib.hid (HM1.out (by rw [H2, g0, g1, g2, g3]; rfl))
  clear H2
  rcases hcl with hc | hc | hc | hc | hc | hc | hc | hc | hc | hc | hc | hc | hc
  · have HC := Lib.hid hc; clear hc
    have q0 : ((s[a].toNat : Int) == 40) = true := by rw [HC.out]; rfl
    have HR := Lib.hid (show m = 1 by rw [HQ.out, show markC s[a] = true by rw [mark_bool]; simp [HC.out]]; rfl)
    rcases hz with ⟨hz, hsl⟩ | ⟨hz, rfl⟩
    all_goals
      go_enter Tryd.func74, Tryd.ntmps74
      go_wp2
      all_goals
        go_ret
        exact ⟨ret_int (by rw [HR.out]; rfl), rfl⟩
  · have HC := Lib.hid hc; clear hc
    have q0 : ((s[a].toNat : Int) == 40) = false := by rw [HC.out]; rfl
    have q1 : ((s[a].toNat : Int) == 41) = true := by rw [HC.out]; rfl
    have HR := Lib.hid (show m = 1 by rw [HQ.out, show markC s[a] = true by rw [mark_bool]; simp [HC.out]]; rfl)
    rcases hz with ⟨hz, hsl⟩ | ⟨hz, rfl⟩
    all_goals
      go_enter Tryd.func74, Tryd.ntmps74
      go_wp2
      all_goals
        go_ret
        exact ⟨ret_int (by rw [HR.out]; rfl), rfl⟩
  · have HC := Lib.hid hc; clear hc
    have q0 : ((s[a].toNat : Int) == 40) = false := by rw [HC.out]; rfl
    have q1 : ((s[a].toNat : Int) == 41) = false := by rw [HC.out]; rfl
    have q2 : ((s[a].toNat : Int) == 44) = true := by rw [HC.out]; rfl
    have HR := Lib.hid (show m = 1 by rw [HQ.out, show markC s[a] = true by rw [mark_bool]; simp [HC.out]]; rfl)
    rcases hz with ⟨hz, hsl⟩ | ⟨hz, rfl⟩
    all_goals
      go_enter Tryd.func74, Tryd.ntmps74
      go_wp2
      all_goals
        go_ret
        exact ⟨ret_int (by rw [HR.out]; rfl), rfl⟩
  · have HC := Lib.hid hc; clear hc
    have q0 : ((s[a].toNat : Int) == 40) = false := by rw [HC.out]; rfl
    have q1 : ((s[a].toNat : Int) == 41) = false := by rw [HC.out]; rfl
    have q2 : ((s[a].toNat : Int) == 44) = false := by rw [HC.out]; rfl
    have q3 : ((s[a].toNat : Int) == 46) = true := by rw [HC.out]; rfl
    have HR := Lib.hid (show m = 1 by rw [HQ.out, show markC s[a] = true by rw [mark_bool]; simp [HC.out]]; rfl)
    rcases hz with ⟨hz, hsl⟩ | ⟨hz, rfl⟩
    all_goals
      go_enter Tryd.func74, Tryd.ntmps74
      go_wp2
      all_goals
        go_ret
        exact ⟨ret_int (by rw [HR.out]; rfl), rfl⟩
  · have HC := Lib.hid hc; clear hc
    have q0 : ((s[a].toNat : Int) == 40) = false := by rw [HC.out]; rfl
    have q1 : ((s[a].toNat : Int) == 41) = false := by rw [HC.out]; rfl
    have q2 : ((s[a].toNat : Int) == 44) = false := by rw [HC.out]; rfl
    have q3 : ((s[a].toNat : Int) == 46) = false := by rw [HC.out]; rfl
    have q4 : ((s[a].toNat : Int) == 60) = true := by rw [HC.out]; rfl
    have HR := Lib.hid (show m = 1 by rw [HQ.out, show markC s[a] = true by rw [mark_bool]; simp [HC.out]]; rfl)
    rcases hz with ⟨hz, hsl⟩ | ⟨hz, rfl⟩
    all_goals
      go_enter Tryd.func74, Tryd.ntmps74
      go_wp2
      all_goals
        go_ret
        exact ⟨ret_int (by rw [HR.out]; rfl), rfl⟩
  · have HC := Lib.hid hc; clear hc
    have q0 : ((s[a].toNat : Int) == 40) = false := by rw [HC.out]; rfl
    have q1 : ((s[a].toNat : Int) == 41) = false := by rw [HC.out]; rfl
    have q2 : ((s[a].toNat : Int) == 44) = false := by rw [HC.out]; rfl
    have q3 : ((s[a].toNat : Int) == 46) = false := by rw [HC.out]; rfl
    have q4 : ((s[a].toNat : Int) == 60) = false := by rw [HC.out]; rfl
    have q5 : ((s[a].toNat : Int) == 61) = true := by rw [HC.out]; rfl
    have HR := Lib.hid (show m = 1 by rw [HQ.out, show markC s[a] = true by rw [mark_bool]; simp [HC.out]]; rfl)
    rcases hz with ⟨hz, hsl⟩ | ⟨hz, rfl⟩
    all_goals
      go_enter Tryd.func74, Tryd.ntmps74
      go_wp2
      all_goals
        go_ret
        exact ⟨ret_int (by rw [HR.out]; rfl), rfl⟩
  · have HC := Lib.hid hc; clear hc
    have q0 : ((s[a].toNat : Int) == 40) = false := by rw [HC.out]; rfl
    have q1 : ((s[a].toNat : Int) == 41) = false := by rw [HC.out]; rfl
    have q2 : ((s[a].toNat : Int) == 44) = false := by rw [HC.out]; rfl
    have q3 : ((s[a].toNat : Int) == 46) = false := by rw [HC.out]; rfl
    have q4 : ((s[a].toNat : Int) == 60) = false := by rw [HC.out]; rfl
    have q5 : ((s[a].toNat : Int) == 61) = false := by rw [HC.out]; rfl
    have q6 : ((s[a].toNat : Int) == 47) = true := by rw [HC.out]; rfl
    have HR := Lib.hid (show m = 1 by rw [HQ.out, show markC s[a] = true by rw [mark_bool]; simp [HC.out]]; rfl)
    rcases hz with ⟨hz, hsl⟩ | ⟨hz, rfl⟩
    all_goals
      go_enter Tryd.func74, Tryd.ntmps74
      go_wp2
      all_goals
        go_ret
        exact ⟨ret_int (by rw [HR.out]; rfl), rfl⟩
  · have HC := Lib.hid hc; clear hc
    have q0 : ((s[a].toNat : Int) == 40) = false := by rw [HC.out]; rfl
    have q1 : ((s[a].toNat : Int) == 41) = false := by rw [HC.out]; rfl
    have q2 : ((s[a].toNat : Int) == 44) = false := by rw [HC.out]; rfl
    have q3 : ((s[a].toNat : Int) == 46) = false := by rw [HC.out]; rfl
    have q4 : ((s[a].toNat : Int) == 60) = false := by rw [HC.out]; rfl
    have q5 : ((s[a].toNat : Int) == 61) = false := by rw [HC.out]; rfl
    have q6 : ((s[a].toNat : Int) == 47) = false := by rw [HC.out]; rfl
    have q7 : ((s[a].toNat : Int) == 124) = true := by rw [HC.out]; rfl
    have HR := Lib.hid (show m = 1 by rw [HQ.out, show markC s[a] = true by rw [mark_bool]; simp [HC.out]]; rfl)
    rcases hz with ⟨hz, hsl⟩ | ⟨hz, rfl⟩
    all_goals
      go_enter Tryd.func74, Tryd.ntmps74
      go_wp2
      all_goals
        go_ret
        exact ⟨ret_int (by rw [HR.out]; rfl), rfl⟩
  · have HC := Lib.hid hc; clear hc
    have q0 : ((s[a].toNat : Int) == 40) = false := by rw [HC.out]; rfl
    have q1 : ((s[a].toNat : Int) == 41) = false := by rw [HC.out]; rfl
    have q2 : ((s[a].toNat : Int) == 44) = false := by rw [HC.out]; rfl
    have q3 : ((s[a].toNat : Int) == 46) = false := by rw [HC.out]; rfl
    have q4 : ((s[a].toNat : Int) == 60) = false := by rw [HC.out]; rfl
    have q5 : ((s[a].toNat : Int) == 61) = false := by rw [HC.out]; rfl
    have q6 : ((s[a].toNat : Int) == 47) = false := by rw [HC.out]; rfl
    have q7 : ((s[a].toNat : Int) == 124) = false := by rw [HC.out]; rfl
    have q8 : ((s[a].toNat : Int) == 42) = true := by rw [HC.out]; rfl
    have HR := Lib.hid (show m = 1 by rw [HQ.out, show markC s[a] = true by rw [mark_bool]; simp [HC.out]]; rfl)
    rcases hz with ⟨hz, hsl⟩ | ⟨hz, rfl⟩
    all_goals
      go_enter Tryd.func74, Tryd.ntmps74
      go_wp2
      all_goals
        go_ret
        exact ⟨ret_int (by rw [HR.out]; rfl), rfl⟩
  · have HC := Lib.hid hc; clear hc
    have q0 : ((s[a].toNat : Int) == 40) = false := by rw [HC.out]; rfl
    have q1 : ((s[a].toNat : Int) == 41) = false := by rw [HC.out]; rfl
    have q2 : ((s[a].toNat : Int) == 44) = false := by rw [HC.out]; rfl
    have q3 : ((s[a].toNat : Int) == 46) = false := by rw [HC.out]; rfl
    have q4 : ((s[a].toNat : Int) == 60) = false := by rw [HC.out]; rfl
    have q5 : ((s[a].toNat : Int) == 61) = false := by rw [HC.out]; rfl
    have q6 : ((s[a].toNat : Int) == 47) = false := by rw [HC.out]; rfl
    have q7 : ((s[a].toNat : Int) == 124) = false := by rw [HC.out]; rfl
    have q8 : ((s[a].toNat : Int) == 42) = false := by rw [HC.out]; rfl
    have q9 : ((s[a].toNat : Int) == 43) = true := by rw [HC.out]; rfl
    have HR := Lib.hid (show m = 1 by rw [HQ.out, show markC s[a] = true by rw [mark_bool]; simp [HC.out]]; rfl)
    rcases hz with ⟨hz, hsl⟩ | ⟨hz, rfl⟩
    all_goals
      go_enter Tryd.func74, Tryd.ntmps74
      go_wp2
      all_goals
        go_ret
        exact ⟨ret_int (by rw [HR.out]; rfl), rfl⟩
  · have HC := Lib.hid hc; clear hc
    have q0 : ((s[a].toNat : Int) == 40) = false := by rw [HC.out]; rfl
    have q1 : ((s[a].toNat : Int) == 41) = false := by rw [HC.out]; rfl
    have q2 : ((s[a].toNat : Int) == 44) = false := by rw [HC.out]; rfl
    have q3 : ((s[a].toNat : Int) == 46) = false := by rw [HC.out]; rfl
    have q4 : ((s[a].toNat : Int) == 60) = false := by rw [HC.out]; rfl
    have q5 : ((s[a].toNat : Int) == 61) = false := by rw [HC.out]; rfl
    have q6 : ((s[a].toNat : Int) == 47) = false := by rw [HC.out]; rfl
    have q7 : ((s[a].toNat : Int) == 124) = false := by rw [HC.out]; rfl
    have q8 : ((s[a].toNat : Int) == 42) = false := by rw [HC.out]; rfl
    have q9 : ((s[a].toNat : Int) == 43) = false := by rw [HC.out]; rfl
    have q10 : ((s[a].toNat : Int) == 63) = true := by rw [HC.out]; rfl
    have HR := Lib.hid (show m = 1 by rw [HQ.out, show markC s[a] = true by rw [mark_bool]; simp [HC.out]]; rfl)
    rcases hz with ⟨hz, hsl⟩ | ⟨hz, rfl⟩
    all_goals
      go_enter Tryd.func74, Tryd.ntmps74
      go_wp2
      all_goals
        go_ret
        exact ⟨ret_int (by rw [HR.out]; rfl), rfl⟩
  · have HC := Lib.hid hc; clear hc
    have q0 : ((s[a].toNat : Int) == 40) = false := by rw [HC.out]; rfl
    have q1 : ((s[a].toNat : Int) == 41) = false := by rw [HC.out]; rfl
    have q2 : ((s[a].toNat : Int) == 44) = false := by rw [HC.out]; rfl
    have q3 : ((s[a].toNat : Int) == 46) = false := by rw [HC.out]; rfl
    have q4 : ((s[a].toNat : Int) == 60) = false := by rw [HC.out]; rfl
    have q5 : ((s[a].toNat : Int) == 61) = false := by rw [HC.out]; rfl
    have q6 : ((s[a].toNat : Int) == 47) = false := by rw [HC.out]; rfl
    have q7 : ((s[a].toNat : Int) == 124) = false := by rw [HC.out]; rfl
    have q8 : ((s[a].toNat : Int) == 42) = false := by rw [HC.out]; rfl
    have q9 : ((s[a].toNat : Int) == 43) = false := by rw [HC.out]; rfl
    have q10 : ((s[a].toNat : Int) == 63) = false := by rw [HC.out]; rfl
    have q11 : ((s[a].toNat : Int) == 94) = true := by rw [HC.out]; rfl
    have HR := Lib.hid (show m = 1 by rw [HQ.out, show markC s[a] = true by rw [mark_bool]; simp [HC.out]]; rfl)
    rcases hz with ⟨hz, hsl⟩ | ⟨hz, rfl⟩
    all_goals
      go_enter Tryd.func74, Tryd.ntmps74
      go_wp2
      all_goals
        go_ret
        exact ⟨ret_int (by rw [HR.out]; rfl), rfl⟩
  · have HC := Lib.hid hc; clear hc
    have HD := Lib.hid ((mark_bool s[a]).symm.trans HC.out)
    have hd := HD.out
    simp only [Bool.or_eq_false_iff, decide_eq_false_iff_not] at hd
    obtain ⟨⟨⟨⟨⟨⟨⟨⟨⟨⟨⟨n0, n1⟩, n2⟩, n3⟩, n4⟩, n5⟩, n6⟩, n7⟩, n8⟩, n9⟩, n10⟩, n11⟩ := hd
    have q0 : ((s[a].toNat : Int) == 40) = false := by rw [beq_eq_false_iff_ne]; omega
    have q1 : ((s[a].toNat : Int) == 41) = false := by rw [beq_eq_false_iff_ne]; omega
    have q2 : ((s[a].toNat : Int) == 44) = false := by rw [beq_eq_false_iff_ne]; omega
    have q3 : ((s[a].toNat : Int) == 46) = false := by rw [beq_eq_false_iff_ne]; omega
    have q4 : ((s[a].toNat : Int) == 60) = false := by rw [beq_eq_false_iff_ne]; omega
    have q5 : ((s[a].toNat : Int) == 61) = false := by rw [beq_eq_false_iff_ne]; omega
    have q6 : ((s[a].toNat : Int) == 47) = false := by rw [beq_eq_false_iff_ne]; omega
    have q7 : ((s[a].toNat : Int) == 124) = false := by rw [beq_eq_false_iff_ne]; omega
    have q8 : ((s[a].toNat : Int) == 42) = false := by rw [beq_eq_false_iff_ne]; omega
    have q9 : ((s[a].toNat : Int) == 43) = false := by rw [beq_eq_false_iff_ne]; omega
    have q10 : ((s[a].toNat : Int) == 63) = false := by rw [beq_eq_false_iff_ne]; omega
    have q11 : ((s[a].toNat : Int) == 94) = false := by rw [beq_eq_false_iff_ne]; omega
    clear n0 n1 n2 n3 n4 n5 n6 n7 n8 n9 n10 n11
    have HR := Lib.hid (show m = 0 by rw [HQ.out, HC.out]; rfl)
    rcases hz with ⟨hz, hsl⟩ | ⟨hz, rfl⟩
    all_goals
      go_enter Tryd.func74, Tryd.ntmps74
      go_wp2
      all_goals
        go_ret
        exact ⟨ret_int (by rw [HR.out]; rfl), rfl⟩
end Go.Proofs.YtdolhlbkhhnpmaaDoor
namespace Go.Proofs.YtdolhlbkhhnpmaaDoor
open Go.RowKit FloM ValM

/-! ### Digits -/
def strOf : Value → ByteArray | .string s => s | _ => ByteArray.empty
def DigRel (b n0 : Nat) (w : World) (v0 v5 : Value) (wr : World) : Prop := ∃ (n : Nat) (acc : List UInt8), v0 = .int .u64 n ∧ v5 = .string (bs acc) ∧ acc.length ≤ 20 ∧ n < b ^ (20 - acc.length) ∧ n ≤ n0 ∧
  padTo (1 - acc.length) (digs b n) ++ acc = padTo 1 (digs b n0) ∧ Below w.heap.size w wr
theorem one_byte (w : World) (c : UInt8) (x : Int) (hx : x = c.toNat) : (convert 113 9 (.slice (some ⟨w.heap.size, 0, none⟩) 1 1)).run Tryd.prog (w.alloc (.cells #[.int .u8 x] 5)) = .ok (.string (bs [c])) (w.alloc (.cells #[.int .u8 x] 5)) := by
  have h : Row 5 (w.alloc (.cells #[.int .u8 x] 5)) w.heap.size ([] ++ [c].map bval) := by
    subst hx; exact heap_alloc_new w _
  exact conv_row h Tryd.underlying113 Tryd.underlying5 Tryd.underlying9 1
theorem bs_cons (c : UInt8) (acc : List UInt8) : bs [c] ++ bs acc = bs (c :: acc) := by apply ls_inj; rw [ls_append]; rfl
theorem dig_pos (b n : Nat) (acc : List UInt8) (hb : 2 ≤ b) (hlen : acc.length ≤ 20) (hlt : n < b ^ (20 - acc.length)) (h : 0 < n ∨ acc = []) : acc.length < 20 ∧ n / b < b ^ (20 - (acc.length + 1)) := by
  have h20 : acc.length < 20 := by
    rcases h with h | rfl
    · rcases Nat.lt_or_eq_of_le hlen with h' | h'
      · exact h'
      · rw [h'] at hlt; simp at hlt; omega
    · simp
  refine ⟨h20, ?_⟩
  rw [Nat.div_lt_iff_lt_mul (by omega), ← Nat.pow_succ, show (20 - (acc.length + 1)).succ = 20 - acc.length from by omega]; exact hlt

set_option maxRecDepth 20000 in
set_option maxHeartbeats 4000000 in
theorem refDigits_10 (n0 : Nat) (w : World) (hn : n0 < 18446744073709551616) :
    Calls Tryd.prog 106 #[.int .u64 n0, .int .u64 10] w fun e w' => e = .returned (.string (bs (padTo 1 (digs 10 n0)))) ∧ Below w.heap.size w w' := by
  go_enter Tryd.func106, Tryd.ntmps106
  go_wp2
  go_loopw [0, 5, 6, 7] (fun n s _ _ wr => DigRel 10 n0 w n s wr) (fun n s _ _ _ => (intOf n).toNat + (1 - (strOf s).size))
  case atStart => exact ⟨n0, [], rfl, rfl, Nat.zero_le _, by simp; omega, Nat.le_refl _, by simp, Below.refl _ _⟩
  case round =>
    obtain ⟨n, acc, rfl, rfl, hlen, hlt, hle, hpad, hbel⟩ := hrel
    have HP := Lib.hid hpad; clear hpad
    by_cases h0 : 0 < n
    · have HQ := Lib.hid (dig_pos 10 n acc (by omega) hlen hlt (.inl h0)); clear hlt
      have HS := Lib.hid (pad_step 10 1 n acc (by omega) (.inl h0))
      have hd := Nat.mod_lt n (show 0 < 10 by omega)
      have hd9 : (n : Int) % 10 ≤ 9 := by omega
      have hcv := one_byte wr (dch (n % 10)) (48 + (n : Int) % 10) (by rw [dch_toNat _ (by omega)]; split <;> omega)
      have hsz : ¬ 9223372036854775807 < (bs [dch (n % 10)]).size + (bs acc).size := by rw [bs_size, bs_size]; simp; omega
      go_wp2
      go_roundw
      case rel =>
        obtain ⟨p1, p2⟩ := HQ.out
        exact ⟨n / 10, dch (n % 10) :: acc, by first | rfl | go_num, congrArg Value.string (bs_cons _ _), by rw [List.length_cons]; omega, by rw [List.length_cons]; exact p2, by omega, (HS.out).symm.trans HP.out, (hbel.alloc hbel.size _)⟩
      case measure => simp [intOf, strOf, bs_cons, bs_size] <;> omega
    · obtain rfl : n = 0 := by omega
      by_cases ha : acc = []
      · have HQ := Lib.hid (dig_pos 10 0 acc (by omega) hlen hlt (.inr ha)); clear hlt
        have HS := Lib.hid (pad_step 10 1 0 acc (by omega) (.inr (by rw [ha]; simp)))
        have hem : (bs acc).toList = [] := by rw [toList_ls, ls_bs, ha]
        have hem' : (bs acc).toList.isEmpty = true := by rw [hem]; rfl
        have hal : acc.length = 0 := by rw [ha]; rfl
        have HA := Lib.hid hal; clear hal ha
        have hcv := one_byte wr (dch (0 % 10)) 48 (by rw [dch_toNat _ (by omega)]; rfl)
        have hsz : ¬ 9223372036854775807 < (bs [dch (0 % 10)]).size + (bs acc).size := by rw [bs_size, bs_size]; simp; omega
        go_wp2
        go_roundw
        case rel =>
          obtain ⟨p1, p2⟩ := HQ.out
          exact ⟨0 / 10, dch (0 % 10) :: acc, by first | rfl | go_num, congrArg Value.string (bs_cons _ _), by rw [List.length_cons]; omega, by rw [List.length_cons]; exact p2, by omega, (HS.out).symm.trans HP.out, (hbel.alloc hbel.size _)⟩
        case measure => have := HA.out; simp [intOf, strOf, bs_cons, bs_size] <;> omega
      · have hal : 0 < acc.length := List.length_pos_iff.2 ha
        have hem := ne_list (u := bs acc) (by rw [bs_size]; exact hal)
        have hem' := ne_list' (u := bs acc) (by rw [bs_size]; exact hal)
        have HR := Lib.hid (show padTo 1 (digs 10 n0) = acc by rw [← HP.out]; exact pad_done 10 1 acc hal)
        clear hlt ha
        go_wp2
        go_ret
        exact ⟨ret_str (by rw [HR.out]), hbel⟩

set_option maxRecDepth 20000 in
set_option maxHeartbeats 4000000 in
theorem refDigits_16 (n0 : Nat) (w : World) (hn : n0 < 18446744073709551616) :
    Calls Tryd.prog 106 #[.int .u64 n0, .int .u64 16] w fun e w' => e = .returned (.string (bs (padTo 1 (digs 16 n0)))) ∧ Below w.heap.size w w' := by
  go_enter Tryd.func106, Tryd.ntmps106
  go_wp2
  go_loopw [0, 5, 6, 7] (fun n s _ _ wr => DigRel 16 n0 w n s wr) (fun n s _ _ _ => (intOf n).toNat + (1 - (strOf s).size))
  case atStart => exact ⟨n0, [], rfl, rfl, Nat.zero_le _, by simp; omega, Nat.le_refl _, by simp, Below.refl _ _⟩
  case round =>
    obtain ⟨n, acc, rfl, rfl, hlen, hlt, hle, hpad, hbel⟩ := hrel
    have HP := Lib.hid hpad; clear hpad
    by_cases h0 : 0 < n
    · have HQ := Lib.hid (dig_pos 16 n acc (by omega) hlen hlt (.inl h0)); clear hlt
      have HS := Lib.hid (pad_step 16 1 n acc (by omega) (.inl h0))
      have hd := Nat.mod_lt n (show 0 < 16 by omega)
      by_cases hd9 : (n : Int) % 16 ≤ 9
      · have hcv := one_byte wr (dch (n % 16)) (48 + (n : Int) % 16) (by rw [dch_toNat _ (by omega)]; split <;> omega)
        have hsz : ¬ 9223372036854775807 < (bs [dch (n % 16)]).size + (bs acc).size := by rw [bs_size, bs_size]; simp; omega
        go_wp2
        go_roundw
        case rel =>
          obtain ⟨p1, p2⟩ := HQ.out
          exact ⟨n / 16, dch (n % 16) :: acc, by first | rfl | go_num, congrArg Value.string (bs_cons _ _), by rw [List.length_cons]; omega, by rw [List.length_cons]; exact p2, by omega, (HS.out).symm.trans HP.out, (hbel.alloc hbel.size _)⟩
        case measure => simp [intOf, strOf, bs_cons, bs_size] <;> omega
      · have hd9' : 9 < (n : Int) % 16 := by omega
        have hcv := one_byte wr (dch (n % 16)) (97 + (n : Int) % 16 - 10) (by rw [dch_toNat _ (by omega)]; split <;> omega)
        have hsz : ¬ 9223372036854775807 < (bs [dch (n % 16)]).size + (bs acc).size := by rw [bs_size, bs_size]; simp; omega
        go_wp2
        go_roundw
        case rel =>
          obtain ⟨p1, p2⟩ := HQ.out
          exact ⟨n / 16, dch (n % 16) :: acc, by first | rfl | go_num, congrArg Value.string (bs_cons _ _), by rw [List.length_cons]; omega, by rw [List.length_cons]; exact p2, by omega, (HS.out).symm.trans HP.out, (hbel.alloc hbel.size _)⟩
        case measure => simp [intOf, strOf, bs_cons, bs_size] <;> omega
    · obtain rfl : n = 0 := by omega
      by_cases ha : acc = []
      · have HQ := Lib.hid (dig_pos 16 0 acc (by omega) hlen hlt (.inr ha)); clear hlt
        have HS := Lib.hid (pad_step 16 1 0 acc (by omega) (.inr (by rw [ha]; simp)))
        have hem : (bs acc).toList = [] := by rw [toList_ls, ls_bs, ha]
        have hem' : (bs acc).toList.isEmpty = true := by rw [hem]; rfl
        have hal : acc.length = 0 := by rw [ha]; rfl
        have HA := Lib.hid hal; clear hal ha
        have hcv := one_byte wr (dch (0 % 16)) 48 (by rw [dch_toNat _ (by omega)]; rfl)
        have hsz : ¬ 9223372036854775807 < (bs [dch (0 % 16)]).size + (bs acc).size := by rw [bs_size, bs_size]; simp; omega
        go_wp2
        go_roundw
        case rel =>
          obtain ⟨p1, p2⟩ := HQ.out
          exact ⟨0 / 16, dch (0 % 16) :: acc, by first | rfl | go_num, congrArg Value.string (bs_cons _ _), by rw [List.length_cons]; omega, by rw [List.length_cons]; exact p2, by omega, (HS.out).symm.trans HP.out, (hbel.alloc hbel.size _)⟩
        case measure => have := HA.out; simp [intOf, strOf, bs_cons, bs_size] <;> omega
      · have hal : 0 < acc.length := List.length_pos_iff.2 ha
        have hem := ne_list (u := bs acc) (by rw [bs_size]; exact hal)
        have hem' := ne_list' (u := bs acc) (by rw [bs_size]; exact hal)
        have HR := Lib.hid (show padTo 1 (digs 16 n0) = acc by rw [← HP.out]; exact pad_done 16 1 acc hal)
        clear hlt ha
        go_wp2
        go_ret
        exact ⟨ret_str (by rw [HR.out]), hbel⟩
end Go.Proofs.YtdolhlbkhhnpmaaDoor
namespace Go.Proofs.YtdolhlbkhhnpmaaDoor
open Go.RowKit FloM ValM

/-! ### Text -/
set_option maxRecDepth 20000 in
set_option maxHeartbeats 1000000 in
theorem refText_bad (k n : Int) (s : ByteArray) (w : World) (h : rightV ⟨k, n, s⟩ = false) : Calls Tryd.prog 92 #[.agg #[.int .i64 k, .int .i64 n, .string s]] w (TextV ⟨k, n, s⟩ w) := by
  have hB := Below.refl w.heap.size w
  go_enter Tryd.func92, Tryd.ntmps92
  go_wp2_with (first | (go_at_call 105; refine (refRight_go _ _ _ _).mono ?_; rintro e w1 ⟨rfl, h'⟩; have hs' := h'.size; (try simp at hs'); have hz0 : w.heap.size < w1.heap.size := (by omega); replace hB := nxt hB (by repeat (first | exact Below.refl _ _ | refine Below.setCell ?_ (by simp) _ | refine Below.alloc ?_ (by simp) _)) h'; have hc := keep h'; clear h'))
  go_ret
  exact TextV.mk (by unfold textV; rw [h]; rfl) (on hB (by repeat (first | exact Below.refl _ _ | refine Below.setCell ?_ (by simp) _ | refine Below.alloc ?_ (by simp) _)))
set_option maxRecDepth 20000 in
set_option maxHeartbeats 1000000 in
theorem refText_sym (n : Int) (s : ByteArray) (w : World) (h : rightV ⟨3, n, s⟩ = true) : Calls Tryd.prog 92 #[.agg #[.int .i64 3, .int .i64 n, .string s]] w (TextV ⟨3, n, s⟩ w) := by
  have hB := Below.refl w.heap.size w
  go_enter Tryd.func92, Tryd.ntmps92
  go_wp2_with (first | (go_at_call 105; refine (refRight_go _ _ _ _).mono ?_; rintro e w1 ⟨rfl, h'⟩; have hs' := h'.size; (try simp at hs'); have hz0 : w.heap.size < w1.heap.size := (by omega); replace hB := nxt hB (by repeat (first | exact Below.refl _ _ | refine Below.setCell ?_ (by simp) _ | refine Below.alloc ?_ (by simp) _)) h'; have hc := keep h'; clear h'))
  go_ret
  exact TextV.mk (by unfold textV; rw [h]; rfl) (on hB (by repeat (first | exact Below.refl _ _ | refine Below.setCell ?_ (by simp) _ | refine Below.alloc ?_ (by simp) _)))
set_option maxRecDepth 20000 in
set_option maxHeartbeats 1000000 in
theorem refText_pos (n : Nat) (s : ByteArray) (w : World) (h : rightV ⟨1, n, s⟩ = true) (h1 : n < 9223372036854775808) : Calls Tryd.prog 92 #[.agg #[.int .i64 1, .int .i64 n, .string s]] w (TextV ⟨1, n, s⟩ w) := by
  have h0 : 0 ≤ (n : Int) := by omega
  have hB := Below.refl w.heap.size w
  go_enter Tryd.func92, Tryd.ntmps92
  go_wp2_with (first | (go_at_call 105; refine (refRight_go _ _ _ _).mono ?_; rintro e w1 ⟨rfl, h'⟩; have hs' := h'.size; (try simp at hs'); have hz0 : w.heap.size < w1.heap.size := (by omega); replace hB := nxt hB (by repeat (first | exact Below.refl _ _ | refine Below.setCell ?_ (by simp) _ | refine Below.alloc ?_ (by simp) _)) h'; have hc := keep h'; clear h') | (go_at_call 106; refine (refDigits_10 n _ (by omega)).mono ?_; rintro e w2 ⟨rfl, h'⟩; replace hB := nxt hB (by repeat (first | exact Below.refl _ _ | refine Below.setCell ?_ (by simp) _ | refine Below.alloc ?_ (by simp) _)) h'; clear h'))
  go_ret
  exact TextV.mk (by unfold textV intTextL; rw [h, if_pos rfl, if_pos rfl, if_neg (show ¬ (n : Int) < 0 by omega)]; rfl) (on hB (by repeat (first | exact Below.refl _ _ | refine Below.setCell ?_ (by simp) _ | refine Below.alloc ?_ (by simp) _)))
set_option maxRecDepth 20000 in
set_option maxHeartbeats 1000000 in
theorem refText_neg (n : Nat) (s : ByteArray) (w : World) (h : rightV ⟨1, -(n : Int), s⟩ = true) (h0 : 0 < n) (h1 : n ≤ 9223372036854775808) : Calls Tryd.prog 92 #[.agg #[.int .i64 1, .int .i64 (-(n : Int)), .string s]] w (TextV ⟨1, -(n : Int), s⟩ w) := by
  have hneg : -(n : Int) < 0 := by omega
  have hw : IntKind.u64.wrap (-IntKind.u64.wrap (-(n : Int))) = n := by simp [IntKind.wrap, IntKind.bits, IntKind.signed]; omega
  have hw' : IntKind.u64.wrap (0 - IntKind.u64.wrap (-(n : Int))) = n := by simp [IntKind.wrap, IntKind.bits, IntKind.signed]; omega
  have hsz : ¬ 9223372036854775807 < 1 + (bs (padTo 1 (digs 10 n))).size := by
    have := digs_len 10 n 20 (by omega) (by omega)
    rw [bs_size, padTo_len]; omega
  have hB := Below.refl w.heap.size w
  go_enter Tryd.func92, Tryd.ntmps92
  go_wp2_with (first | (go_at_call 105; refine (refRight_go _ _ _ _).mono ?_; rintro e w1 ⟨rfl, h'⟩; have hs' := h'.size; (try simp at hs'); have hz0 : w.heap.size < w1.heap.size := (by omega); replace hB := nxt hB (by repeat (first | exact Below.refl _ _ | refine Below.setCell ?_ (by simp) _ | refine Below.alloc ?_ (by simp) _)) h'; have hc := keep h'; clear h') | (go_at_call 106; refine (refDigits_10 n _ (by omega)).mono ?_; rintro e w2 ⟨rfl, h'⟩; replace hB := nxt hB (by repeat (first | exact Below.refl _ _ | refine Below.setCell ?_ (by simp) _ | refine Below.alloc ?_ (by simp) _)) h'; clear h'))
  go_ret
  exact TextV.mk (by unfold textV intTextL; rw [h, if_pos rfl, if_pos rfl, if_pos (show -(n : Int) < 0 by omega), show (-(n : Int)).natAbs = n from by omega]; rfl) (on hB (by repeat (first | exact Below.refl _ _ | refine Below.setCell ?_ (by simp) _ | refine Below.alloc ?_ (by simp) _)))

def PadRel (l : List UInt8) (v : Value) : Prop := ∃ j : Nat, v = .string (bs (List.replicate j 48 ++ l)) ∧ j + l.length ≤ 16
theorem pad_again (l : List UInt8) : padTo 16 (padTo 1 l) = padTo 16 l := by
  cases l with
  | nil => rfl
  | cons c r => rw [padTo_self 1 (c :: r) (by simp)]
set_option maxRecDepth 20000 in
set_option maxHeartbeats 2000000 in
theorem refText_flo (n : Int) (N : Nat) (s : ByteArray) (w : World) (h : rightV ⟨2, n, s⟩ = true) (hw : IntKind.u64.wrap n = N) (hN : N < 18446744073709551616) : Calls Tryd.prog 92 #[.agg #[.int .i64 2, .int .i64 n, .string s]] w (TextV ⟨2, n, s⟩ w) := by
  have hT : textV ⟨2, n, s⟩ = 35 :: padTo 16 (digs 16 N) := by unfold textV; rw [h, if_pos rfl, if_neg (show ¬ (2 : Int) = 1 by decide), if_pos rfl, hw]; rfl
  have hl : (padTo 1 (digs 16 N)).length ≤ 16 := by
    have := digs_len 16 N 16 (by omega) (by omega)
    rw [padTo_len]; omega
  have HT := Lib.hid hT; clear hT
  have hB := Below.refl w.heap.size w
  go_enter Tryd.func92, Tryd.ntmps92
  go_wp2_with (first | (go_at_call 105; refine (refRight_go _ _ _ _).mono ?_; rintro e w1 ⟨rfl, h'⟩; have hs' := h'.size; (try simp at hs'); have hz0 : w.heap.size < w1.heap.size := (by omega); replace hB := nxt hB (by repeat (first | exact Below.refl _ _ | refine Below.setCell ?_ (by simp) _ | refine Below.alloc ?_ (by simp) _)) h'; have hc := keep h'; clear h') | (go_at_call 106; refine (refDigits_16 N _ (by omega)).mono ?_; rintro e w2 ⟨rfl, h'⟩; replace hB := nxt hB (by repeat (first | exact Below.refl _ _ | refine Below.setCell ?_ (by simp) _ | refine Below.alloc ?_ (by simp) _)) h'; clear h'))
  obtain ⟨l, hL⟩ : ∃ l, padTo 1 (digs 16 N) = l := ⟨_, rfl⟩
  rw [hL] at hl ⊢
  have HL := Lib.hid hL; clear hL
  go_loop [3] (fun v => PadRel l v) (fun v => 16 - (strOf v).size)
  case atStart => exact ⟨0, rfl, by omega⟩
  case round =>
    obtain ⟨j, rfl, hj⟩ := hrel
    have hsz : (bs (List.replicate j 48 ++ l)).size = j + l.length := by rw [bs_size, List.length_append, List.length_replicate]
    by_cases hlt : j + l.length < 16
    · have h1 : ((bs (List.replicate j 48 ++ l)).size : Int) < 16 := by omega
      have h2 : ¬ 9223372036854775807 < 1 + (bs (List.replicate j 48 ++ l)).size := by omega
      have HZ := Lib.hid hsz; clear hsz
      go_wp2
      go_round
      case rel => exact ⟨j + 1, congrArg Value.string (bs_cons 48 _), by omega⟩
      case measure =>
        have e : strOf (.string (ByteArray.mk #[48] ++ bs (List.replicate j 48 ++ l))) = bs (48 :: (List.replicate j 48 ++ l)) := bs_cons 48 _
        have e2 := HZ.out
        rw [bs_size] at e2
        rw [e, bs_size, List.length_cons, e2]
        show _ < 16 - (bs (List.replicate j 48 ++ l)).size
        rw [bs_size, e2]; omega
    · have h1 : 16 ≤ ((bs (List.replicate j 48 ++ l)).size : Int) := by omega
      have h2 : ¬ 9223372036854775807 < 1 + (bs (List.replicate j 48 ++ l)).size := by omega
      have HZ := Lib.hid hsz; clear hsz
      go_wp2
      go_ret
      refine TextV.mk ?_ (on hB (by repeat (first | exact Below.refl _ _ | refine Below.setCell ?_ (by simp) _ | refine Below.alloc ?_ (by simp) _)))
      show ls (bs [35] ++ bs (List.replicate j 48 ++ l)) = _
      rw [bs_cons, ls_bs, HT.out, ← pad_again, HL.out]
      unfold padTo
      rw [show 16 - l.length = j from by omega]
theorem refText_go (k n : Int) (s : ByteArray) (w : World) (h0 : -9223372036854775808 ≤ n) (h1 : n < 9223372036854775808) : Calls Tryd.prog 92 #[.agg #[.int .i64 k, .int .i64 n, .string s]] w (TextV ⟨k, n, s⟩ w) := by
  by_cases h : rightV ⟨k, n, s⟩ = true
  · by_cases k1 : k = 1
    · subst k1
      by_cases hn : n < 0
      · have e : -((n.natAbs : Nat) : Int) = n := by omega
        have := refText_neg n.natAbs s w (by rw [e]; exact h) (by omega) (by omega)
        rw [e] at this; exact this
      · have e : ((n.natAbs : Nat) : Int) = n := by omega
        have := refText_pos n.natAbs s w (by rw [e]; exact h) (by omega)
        rw [e] at this; exact this
    · by_cases k2 : k = 2
      · subst k2
        obtain ⟨N, hw, hN⟩ := u64_nat n
        exact refText_flo n N s w h hw hN
      · by_cases k3 : k = 3
        · subst k3; exact refText_sym n s w h
        · exfalso; simp [rightV, k1, k2, k3] at h
  · exact refText_bad k n s w (by simpa using h)
end Go.Proofs.YtdolhlbkhhnpmaaDoor
namespace Go.Proofs.YtdolhlbkhhnpmaaDoor
open Go.RowKit FloM ValM

theorem u64_mod (x : Int) : IntKind.u64.wrap x = x % 18446744073709551616 := by simp [IntKind.wrap, IntKind.bits, IntKind.signed]
theorem width_pos (s : ByteArray) (pos : Nat) (h : pos < s.size) : 1 ≤ (Utf8.decode s pos).2 := by
  by_cases ha : (s[pos]'h).toNat < 128
  · rw [decode_ascii s pos h ha]; exact Nat.le_refl _
  · exact (decode_high s pos h (by omega)).2
theorem isDig_at {b : Nat} (s : ByteArray) (k : Nat) (h : k < s.size) (ha : allDig b (ls s) = true) : isDig b s[k] = true := by
  unfold allDig at ha; rw [split_at s k h, List.all_append, List.all_cons, Bool.and_eq_true, Bool.and_eq_true] at ha; exact ha.2.1

/-! ### number -/
def SaysU (P : Int → Prop) (w : World) (e : Ending) (w' : World) : Prop := ∃ n : Int, e = .returned (.int .u64 n) ∧ P n ∧ Below w.heap.size w w'
def NumRel (w : World) (s : ByteArray) (n : Value) (wr : World) : Prop := ∃ (pos : Nat) (m : Int), wr = w.iter s pos ∧ n = .int .u64 m
set_option maxRecDepth 20000 in
set_option maxHeartbeats 2000000 in
theorem number_any (s : ByteArray) (b : Int) (w : World) : Calls Tryd.prog 91 #[.string s, .int .u64 b] w (SaysU (fun _ => True) w) := by
  go_enter Tryd.func91, Tryd.ntmps91
  go_wp2
  go_loopw [5, 6, 7, 8] (fun n _ _ _ wr => NumRel w s n wr) (fun _ _ _ _ wr => s.size - wr.iterPos w.heap.size)
  case atStart => exact ⟨0, 0, rfl, rfl⟩
  case round =>
    obtain ⟨pos, m, rfl, rfl⟩ := hrel
    by_cases hlt : pos < s.size
    · have hnx : ∀ ty, (Instr.next (.pointer (some ⟨w.heap.size, 0, none⟩)) true ty).run Tryd.prog (w.iter s pos) = _ := fun ty => run_next_any w s pos ty hlt
      have hwd := width_pos s pos hlt
      go_wp2
      all_goals
        go_roundw
        case rel => exact ⟨_, _, rfl, rfl⟩
        case measure => simp; omega
    · have hnx : ∀ ty, (Instr.next (.pointer (some ⟨w.heap.size, 0, none⟩)) true ty).run Tryd.prog (w.iter s pos) = _ := fun ty => run_next_end w s pos ty hlt
      go_wp2
      go_ret
      exact ⟨_, rfl, trivial, iter_below _ _ _⟩

def NumRel10 (w : World) (s : ByteArray) (n : Value) (wr : World) : Prop := ∃ (pos m : Nat), wr = w.iter s pos ∧ pos ≤ s.size ∧ n = .int .u64 m ∧ m = numOf 10 ((ls s).take pos) % 18446744073709551616
set_option maxRecDepth 20000 in
set_option maxHeartbeats 2000000 in
theorem number_10 (s : ByteArray) (w : World) (hd : allDig 10 (ls s) = true) : Calls Tryd.prog 91 #[.string s, .int .u64 10] w (SaysU (fun n => n = ((numOf 10 (ls s) % 18446744073709551616 : Nat) : Int)) w) := by
  have HD := Lib.hid hd; clear hd
  go_enter Tryd.func91, Tryd.ntmps91
  go_wp2
  go_loopw [5, 6, 7, 8] (fun n _ _ _ wr => NumRel10 w s n wr) (fun _ _ _ _ wr => s.size - wr.iterPos w.heap.size)
  case atStart => exact ⟨0, 0, rfl, Nat.zero_le _, rfl, rfl⟩
  case round =>
    obtain ⟨pos, m, rfl, hpos, rfl, hm⟩ := hrel
    have HM := Lib.hid hm; clear hm
    by_cases hlt : pos < s.size
    · have hc := isDig_at s pos hlt HD.out
      rw [isDig_iff] at hc
      have hnx : ∀ ty, (Instr.next (.pointer (some ⟨w.heap.size, 0, none⟩)) true ty).run Tryd.prog (w.iter s pos) = _ := fun ty => run_next_ascii w s pos ty hlt (by omega)
      have hst : numOf 10 ((ls s).take (pos + 1)) = numOf 10 ((ls s).take pos) * 10 + dval s[pos] := by rw [take_snoc s pos hlt, numOf_snoc]
      unfold dval at hst
      by_cases h97 : 97 ≤ (s[pos].toNat : Int)
      · have HS := Lib.hid hst; clear hst
        have hu : (s[pos].toNat : Int) ≤ 102 := by omega
        have HC := Lib.hid hc; clear hc
        go_wp2
        go_roundw
        case rel =>
          have e1 := HS.out; rw [if_pos (by omega)] at e1
          have e2 := HM.out
          refine ⟨pos + 1, numOf 10 ((ls s).take (pos + 1)) % 18446744073709551616, rfl, by omega, ?_, rfl⟩
          congr 1
          rw [e1]; simp only [u64_mod]; omega
        case measure => simp; omega
      · have HS := Lib.hid hst; clear hst
        have hl : 48 ≤ (s[pos].toNat : Int) := by omega
        have hu : (s[pos].toNat : Int) ≤ 57 := by omega
        have HC := Lib.hid hc; clear hc
        go_wp2
        go_roundw
        case rel =>
          have e1 := HS.out; rw [if_neg (by omega)] at e1
          have e2 := HM.out
          refine ⟨pos + 1, numOf 10 ((ls s).take (pos + 1)) % 18446744073709551616, rfl, by omega, ?_, rfl⟩
          congr 1
          rw [e1]; simp only [u64_mod]; omega
        case measure => simp; omega
    · have hnx : ∀ ty, (Instr.next (.pointer (some ⟨w.heap.size, 0, none⟩)) true ty).run Tryd.prog (w.iter s pos) = _ := fun ty => run_next_end w s pos ty hlt
      go_wp2
      go_ret
      refine ⟨_, rfl, ?_, iter_below _ _ _⟩
      rw [HM.out, take_all s pos (by omega)]

def NumRel16 (w : World) (s : ByteArray) (n : Value) (wr : World) : Prop := ∃ (pos m : Nat), wr = w.iter s pos ∧ pos ≤ s.size ∧ n = .int .u64 m ∧ m = numOf 16 ((ls s).take pos) % 18446744073709551616
set_option maxRecDepth 20000 in
set_option maxHeartbeats 2000000 in
theorem number_16 (s : ByteArray) (w : World) (hd : allDig 16 (ls s) = true) : Calls Tryd.prog 91 #[.string s, .int .u64 16] w (SaysU (fun n => n = ((numOf 16 (ls s) % 18446744073709551616 : Nat) : Int)) w) := by
  have HD := Lib.hid hd; clear hd
  go_enter Tryd.func91, Tryd.ntmps91
  go_wp2
  go_loopw [5, 6, 7, 8] (fun n _ _ _ wr => NumRel16 w s n wr) (fun _ _ _ _ wr => s.size - wr.iterPos w.heap.size)
  case atStart => exact ⟨0, 0, rfl, Nat.zero_le _, rfl, rfl⟩
  case round =>
    obtain ⟨pos, m, rfl, hpos, rfl, hm⟩ := hrel
    have HM := Lib.hid hm; clear hm
    by_cases hlt : pos < s.size
    · have hc := isDig_at s pos hlt HD.out
      rw [isDig_iff] at hc
      have hnx : ∀ ty, (Instr.next (.pointer (some ⟨w.heap.size, 0, none⟩)) true ty).run Tryd.prog (w.iter s pos) = _ := fun ty => run_next_ascii w s pos ty hlt (by omega)
      have hst : numOf 16 ((ls s).take (pos + 1)) = numOf 16 ((ls s).take pos) * 16 + dval s[pos] := by rw [take_snoc s pos hlt, numOf_snoc]
      unfold dval at hst
      by_cases h97 : 97 ≤ (s[pos].toNat : Int)
      · have HS := Lib.hid hst; clear hst
        have hu : (s[pos].toNat : Int) ≤ 102 := by omega
        have HC := Lib.hid hc; clear hc
        go_wp2
        go_roundw
        case rel =>
          have e1 := HS.out; rw [if_pos (by omega)] at e1
          have e2 := HM.out
          refine ⟨pos + 1, numOf 16 ((ls s).take (pos + 1)) % 18446744073709551616, rfl, by omega, ?_, rfl⟩
          congr 1
          rw [e1]; simp only [u64_mod]; omega
        case measure => simp; omega
      · have HS := Lib.hid hst; clear hst
        have hl : 48 ≤ (s[pos].toNat : Int) := by omega
        have hu : (s[pos].toNat : Int) ≤ 57 := by omega
        have HC := Lib.hid hc; clear hc
        go_wp2
        go_roundw
        case rel =>
          have e1 := HS.out; rw [if_neg (by omega)] at e1
          have e2 := HM.out
          refine ⟨pos + 1, numOf 16 ((ls s).take (pos + 1)) % 18446744073709551616, rfl, by omega, ?_, rfl⟩
          congr 1
          rw [e1]; simp only [u64_mod]; omega
        case measure => simp; omega
    · have hnx : ∀ ty, (Instr.next (.pointer (some ⟨w.heap.size, 0, none⟩)) true ty).run Tryd.prog (w.iter s pos) = _ := fun ty => run_next_end w s pos ty hlt
      go_wp2
      go_ret
      refine ⟨_, rfl, ?_, iter_below _ _ _⟩
      rw [HM.out, take_all s pos (by omega)]

end Go.Proofs.YtdolhlbkhhnpmaaDoor
namespace Go.Proofs.YtdolhlbkhhnpmaaDoor
open Go.RowKit FloM ValM
set_option linter.unusedVariables false
set_option linter.unusedSimpArgs false

theorem keepF {W w1 : World} (hb : Below W.heap.size W w1) : ∀ b o, b < W.heap.size → w1.frozen? ⟨b, o, none⟩ = W.frozen? ⟨b, o, none⟩ := fun b o h => hb.frozen (p := ⟨b, o, none⟩) h
theorem no_text {t : ByteArray} (h : readV t = none) (ht : 0 < t.size) (v : V) (hv : Fits v.n) : ((bs (textV v)).toList == t.toList) = false := by
  rw [str_eq, decide_eq_false]
  intro e
  by_cases hr : rightV v = true
  · have := read_text v hr hv
    rw [e, h] at this; cases this
  · have hr : rightV v = false := by simpa using hr
    rw [text_empty hr] at e
    rw [← e] at ht
    exact absurd ht (by decide)
def OtherText (t : ByteArray) (w : World) (e : Ending) (w' : World) : Prop := ∃ u : ByteArray, e = .returned (.string u) ∧ (u.toList == t.toList) = false ∧ Below w.heap.size w w'
theorem refText_no {t : ByteArray} (h : readV t = none) (ht : 0 < t.size) (k n : Int) (s : ByteArray) (w : World) (hn : Fits n) : Calls Tryd.prog 92 #[.agg #[.int .i64 k, .int .i64 n, .string s]] w (OtherText t w) :=
  (refText_go k n s w hn.1 hn.2).mono fun _ _ ⟨he, hb⟩ => ⟨_, he, no_text h ht ⟨k, n, s⟩ hn, hb⟩
theorem refText_yes {t : ByteArray} (k n : Int) (s : ByteArray) (w : World) (hn : Fits n) (ht : bs (textV ⟨k, n, s⟩) = t) : Calls Tryd.prog 92 #[.agg #[.int .i64 k, .int .i64 n, .string s]] w fun e w' => e = .returned (.string t) ∧ Below w.heap.size w w' :=
  (refText_go k n s w hn.1 hn.2).mono fun _ _ ⟨he, hb⟩ => ⟨by rw [he, ht], hb⟩
theorem fin3 {t : TypeId} {u : World} {g : Nat} {a b c : Value} (h : Row t u g [a, b, c]) (x y z : Value) :
    (u.setCell ⟨g, 0, none⟩ x).cell? ⟨g, 0, none⟩ = some x ∧ ((u.setCell ⟨g, 0, none⟩ x).setCell ⟨g, 1, none⟩ y).cell? ⟨g, 1, none⟩ = some y ∧ (((u.setCell ⟨g, 0, none⟩ x).setCell ⟨g, 1, none⟩ y).setCell ⟨g, 2, none⟩ z).cell? ⟨g, 2, none⟩ = some z := by
  have r1 := Row.set (pre := []) (post := [b, c]) h x
  have r2 := Row.set (pre := [x]) (post := [c]) r1 y
  have r3 := Row.set (pre := [x, y]) (post := []) r2 z
  exact ⟨r1.cell 0, r2.cell 1, r3.cell 2⟩
theorem fits_wrap (n : Int) : Fits (wrap64 n) := by unfold Fits wrap64; omega
theorem fits_zero : Fits 0 := by unfold Fits; decide
set_option maxRecDepth 20000 in
set_option maxHeartbeats 2000000 in
theorem rr_empty (w : World) : Calls Tryd.prog 73 #[.string ByteArray.empty] w (ReadV ByteArray.empty w) := by
  have hB := Below.refl w.heap.size w
  go_enter Tryd.func73, Tryd.ntmps73
  go_wp2
  refine bodyPost_ret (v := .tuple #[.agg #[.int .i64 0, .int .i64 0, .string ByteArray.empty], .int .i64 2]) (by simp [results, Tryd.results73, go_sem]; rfl) rfl (.inr ⟨read_empty, rfl, (by repeat (first | exact hB | refine Below.setCell ?_ (by simp) _ | refine Below.alloc ?_ (by have := hB.size; first | omega | (simp [World.setCell]; omega) | simp [World.setCell]) _))⟩)
set_option maxRecDepth 20000 in
set_option maxHeartbeats 2000000 in
theorem rr_hash (t : ByteArray) (w : World) (ht : 0 < t.size) (h : readV t = none) (h1 : ((t[0].toNat : Int) == 35) = true) : Calls Tryd.prog 73 #[.string t] w (ReadV t w) := by
  have H := Lib.hid h; clear h
  have hu := ne_list ht
  have hu' := ne_list' ht
  have hB := Below.refl w.heap.size w
  go_enter Tryd.func73, Tryd.ntmps73
  go_wp2_with (first | (go_at_call 91; refine (number_any _ _ _).mono ?_; rintro e w1 ⟨n, rfl, hn, h'⟩; clear hn; have hs' := h'.size; (try simp at hs'); have hz0 : w.heap.size < w1.heap.size := (by omega); have hz1 : w.heap.size + 1 < w1.heap.size := (by omega); replace hB := on (W := w) (by repeat (first | exact hB | refine Below.setCell ?_ (by simp) _ | refine Below.alloc ?_ (by have := hB.size; first | omega | (simp [World.setCell]; omega) | simp [World.setCell]) _)) h'; have hc := keep h'; have hf := keepF h'; have hR : Row 37 w1 w.heap.size [.int .i64 0, .int .i64 0, .string ⟨#[]⟩] := rowOn (by repeat (first | exact hR | exact row_new _ _ | refine Row.alloc ?_ _ | refine Row.far ?_ (by simp) _)) h'; clear h') | (go_at_call 92; refine (refText_no H.out ht _ _ _ _ (fits_wrap _)).mono ?_; rintro e w2 ⟨u, rfl, hno, h'⟩; have hs2 := h'.size; (try simp [World.setCell] at hs2); have hz2 : w.heap.size < w2.heap.size := (by omega); have hz3 : w.heap.size + 1 < w2.heap.size := (by omega); replace hB := on (W := w) (by repeat (first | exact hB | refine Below.setCell ?_ (by simp) _ | refine Below.alloc ?_ (by have := hB.size; first | omega | (simp [World.setCell]; omega) | simp [World.setCell]) _)) h'; have hc2 := keep h'; have hf2 := keepF h'; have hR : Row 37 w2 w.heap.size [.int .i64 0, .int .i64 0, .string ⟨#[]⟩] := rowOn (by repeat (first | exact hR | exact row_new _ _ | refine Row.alloc ?_ _ | refine Row.far ?_ (by simp) _)) h'; clear h'))
  obtain ⟨e0, e1, e2⟩ := fin3 hR (.int .i64 0) (.int .i64 0) (.string ⟨#[]⟩)
  refine bodyPost_ret (v := .tuple #[.agg #[.int .i64 0, .int .i64 0, .string ByteArray.empty], .int .i64 2]) (by simp [results, Tryd.results73, go_sem, e0, e1, e2]; rfl) rfl (.inr ⟨H.out, rfl, (by repeat (first | exact hB | refine Below.setCell ?_ (by simp) _ | refine Below.alloc ?_ (by have := hB.size; first | omega | (simp [World.setCell]; omega) | simp [World.setCell]) _))⟩)
set_option maxRecDepth 20000 in
set_option maxHeartbeats 2000000 in
theorem rr_minus (t : ByteArray) (w : World) (ht : 0 < t.size) (h : readV t = none) (h1 : ((t[0].toNat : Int) == 35) = false) (h2 : ((t[0].toNat : Int) == 45) = true) : Calls Tryd.prog 73 #[.string t] w (ReadV t w) := by
  have H := Lib.hid h; clear h
  have hu := ne_list ht
  have hu' := ne_list' ht
  have hB := Below.refl w.heap.size w
  go_enter Tryd.func73, Tryd.ntmps73
  go_wp2_with (first | (go_at_call 91; refine (number_any _ _ _).mono ?_; rintro e w1 ⟨n, rfl, hn, h'⟩; clear hn; have hs' := h'.size; (try simp at hs'); have hz0 : w.heap.size < w1.heap.size := (by omega); have hz1 : w.heap.size + 1 < w1.heap.size := (by omega); replace hB := on (W := w) (by repeat (first | exact hB | refine Below.setCell ?_ (by simp) _ | refine Below.alloc ?_ (by have := hB.size; first | omega | (simp [World.setCell]; omega) | simp [World.setCell]) _)) h'; have hc := keep h'; have hf := keepF h'; have hR : Row 37 w1 w.heap.size [.int .i64 0, .int .i64 0, .string ⟨#[]⟩] := rowOn (by repeat (first | exact hR | exact row_new _ _ | refine Row.alloc ?_ _ | refine Row.far ?_ (by simp) _)) h'; clear h') | (go_at_call 92; refine (refText_no H.out ht _ _ _ _ (fits_wrap _)).mono ?_; rintro e w2 ⟨u, rfl, hno, h'⟩; have hs2 := h'.size; (try simp [World.setCell] at hs2); have hz2 : w.heap.size < w2.heap.size := (by omega); have hz3 : w.heap.size + 1 < w2.heap.size := (by omega); replace hB := on (W := w) (by repeat (first | exact hB | refine Below.setCell ?_ (by simp) _ | refine Below.alloc ?_ (by have := hB.size; first | omega | (simp [World.setCell]; omega) | simp [World.setCell]) _)) h'; have hc2 := keep h'; have hf2 := keepF h'; have hR : Row 37 w2 w.heap.size [.int .i64 0, .int .i64 0, .string ⟨#[]⟩] := rowOn (by repeat (first | exact hR | exact row_new _ _ | refine Row.alloc ?_ _ | refine Row.far ?_ (by simp) _)) h'; clear h'))
  obtain ⟨e0, e1, e2⟩ := fin3 hR (.int .i64 0) (.int .i64 0) (.string ⟨#[]⟩)
  refine bodyPost_ret (v := .tuple #[.agg #[.int .i64 0, .int .i64 0, .string ByteArray.empty], .int .i64 2]) (by simp [results, Tryd.results73, go_sem, e0, e1, e2]; rfl) rfl (.inr ⟨H.out, rfl, (by repeat (first | exact hB | refine Below.setCell ?_ (by simp) _ | refine Below.alloc ?_ (by have := hB.size; first | omega | (simp [World.setCell]; omega) | simp [World.setCell]) _))⟩)
set_option maxRecDepth 20000 in
set_option maxHeartbeats 2000000 in
theorem rr_digit (t : ByteArray) (w : World) (ht : 0 < t.size) (h : readV t = none) (h1 : ((t[0].toNat : Int) == 35) = false) (h2 : ((t[0].toNat : Int) == 45) = false) (h3 : 48 ≤ (t[0].toNat : Int)) (h4 : (t[0].toNat : Int) ≤ 57) : Calls Tryd.prog 73 #[.string t] w (ReadV t w) := by
  have H := Lib.hid h; clear h
  have hu := ne_list ht
  have hu' := ne_list' ht
  have hB := Below.refl w.heap.size w
  go_enter Tryd.func73, Tryd.ntmps73
  go_wp2_with (first | (go_at_call 91; refine (number_any _ _ _).mono ?_; rintro e w1 ⟨n, rfl, hn, h'⟩; clear hn; have hs' := h'.size; (try simp at hs'); have hz0 : w.heap.size < w1.heap.size := (by omega); have hz1 : w.heap.size + 1 < w1.heap.size := (by omega); replace hB := on (W := w) (by repeat (first | exact hB | refine Below.setCell ?_ (by simp) _ | refine Below.alloc ?_ (by have := hB.size; first | omega | (simp [World.setCell]; omega) | simp [World.setCell]) _)) h'; have hc := keep h'; have hf := keepF h'; have hR : Row 37 w1 w.heap.size [.int .i64 0, .int .i64 0, .string ⟨#[]⟩] := rowOn (by repeat (first | exact hR | exact row_new _ _ | refine Row.alloc ?_ _ | refine Row.far ?_ (by simp) _)) h'; clear h') | (go_at_call 92; refine (refText_no H.out ht _ _ _ _ (fits_wrap _)).mono ?_; rintro e w2 ⟨u, rfl, hno, h'⟩; have hs2 := h'.size; (try simp [World.setCell] at hs2); have hz2 : w.heap.size < w2.heap.size := (by omega); have hz3 : w.heap.size + 1 < w2.heap.size := (by omega); replace hB := on (W := w) (by repeat (first | exact hB | refine Below.setCell ?_ (by simp) _ | refine Below.alloc ?_ (by have := hB.size; first | omega | (simp [World.setCell]; omega) | simp [World.setCell]) _)) h'; have hc2 := keep h'; have hf2 := keepF h'; have hR : Row 37 w2 w.heap.size [.int .i64 0, .int .i64 0, .string ⟨#[]⟩] := rowOn (by repeat (first | exact hR | exact row_new _ _ | refine Row.alloc ?_ _ | refine Row.far ?_ (by simp) _)) h'; clear h'))
  obtain ⟨e0, e1, e2⟩ := fin3 hR (.int .i64 0) (.int .i64 0) (.string ⟨#[]⟩)
  refine bodyPost_ret (v := .tuple #[.agg #[.int .i64 0, .int .i64 0, .string ByteArray.empty], .int .i64 2]) (by simp [results, Tryd.results73, go_sem, e0, e1, e2]; rfl) rfl (.inr ⟨H.out, rfl, (by repeat (first | exact hB | refine Below.setCell ?_ (by simp) _ | refine Below.alloc ?_ (by have := hB.size; first | omega | (simp [World.setCell]; omega) | simp [World.setCell]) _))⟩)
set_option maxRecDepth 20000 in
set_option maxHeartbeats 2000000 in
theorem rr_low (t : ByteArray) (w : World) (ht : 0 < t.size) (h : readV t = none) (h1 : ((t[0].toNat : Int) == 35) = false) (h2 : ((t[0].toNat : Int) == 45) = false) (h3 : (t[0].toNat : Int) < 48) : Calls Tryd.prog 73 #[.string t] w (ReadV t w) := by
  have H := Lib.hid h; clear h
  have hu := ne_list ht
  have hu' := ne_list' ht
  have hB := Below.refl w.heap.size w
  go_enter Tryd.func73, Tryd.ntmps73
  go_wp2_with (first | (go_at_call 92; refine (refText_no H.out ht _ _ _ _ fits_zero).mono ?_; rintro e w2 ⟨u, rfl, hno, h'⟩; have hs2 := h'.size; (try simp [World.setCell] at hs2); have hz2 : w.heap.size < w2.heap.size := (by omega); have hz3 : w.heap.size + 1 < w2.heap.size := (by omega); replace hB := on (W := w) (by repeat (first | exact hB | refine Below.setCell ?_ (by simp) _ | refine Below.alloc ?_ (by have := hB.size; first | omega | (simp [World.setCell]; omega) | simp [World.setCell]) _)) h'; have hc2 := keep h'; have hf2 := keepF h'; have hR : Row 37 w2 w.heap.size [.int .i64 0, .int .i64 0, .string ⟨#[]⟩] := rowOn (by repeat (first | exact hR | exact row_new _ _ | refine Row.alloc ?_ _ | refine Row.far ?_ (by simp) _)) h'; clear h'))
  obtain ⟨e0, e1, e2⟩ := fin3 hR (.int .i64 0) (.int .i64 0) (.string ⟨#[]⟩)
  refine bodyPost_ret (v := .tuple #[.agg #[.int .i64 0, .int .i64 0, .string ByteArray.empty], .int .i64 2]) (by simp [results, Tryd.results73, go_sem, e0, e1, e2]; rfl) rfl (.inr ⟨H.out, rfl, (by repeat (first | exact hB | refine Below.setCell ?_ (by simp) _ | refine Below.alloc ?_ (by have := hB.size; first | omega | (simp [World.setCell]; omega) | simp [World.setCell]) _))⟩)
set_option maxRecDepth 20000 in
set_option maxHeartbeats 2000000 in
theorem rr_high (t : ByteArray) (w : World) (ht : 0 < t.size) (h : readV t = none) (h1 : ((t[0].toNat : Int) == 35) = false) (h2 : ((t[0].toNat : Int) == 45) = false) (h3 : 48 ≤ (t[0].toNat : Int)) (h4 : 57 < (t[0].toNat : Int)) : Calls Tryd.prog 73 #[.string t] w (ReadV t w) := by
  have H := Lib.hid h; clear h
  have hu := ne_list ht
  have hu' := ne_list' ht
  have hB := Below.refl w.heap.size w
  go_enter Tryd.func73, Tryd.ntmps73
  go_wp2_with (first | (go_at_call 92; refine (refText_no H.out ht _ _ _ _ fits_zero).mono ?_; rintro e w2 ⟨u, rfl, hno, h'⟩; have hs2 := h'.size; (try simp [World.setCell] at hs2); have hz2 : w.heap.size < w2.heap.size := (by omega); have hz3 : w.heap.size + 1 < w2.heap.size := (by omega); replace hB := on (W := w) (by repeat (first | exact hB | refine Below.setCell ?_ (by simp) _ | refine Below.alloc ?_ (by have := hB.size; first | omega | (simp [World.setCell]; omega) | simp [World.setCell]) _)) h'; have hc2 := keep h'; have hf2 := keepF h'; have hR : Row 37 w2 w.heap.size [.int .i64 0, .int .i64 0, .string ⟨#[]⟩] := rowOn (by repeat (first | exact hR | exact row_new _ _ | refine Row.alloc ?_ _ | refine Row.far ?_ (by simp) _)) h'; clear h'))
  obtain ⟨e0, e1, e2⟩ := fin3 hR (.int .i64 0) (.int .i64 0) (.string ⟨#[]⟩)
  refine bodyPost_ret (v := .tuple #[.agg #[.int .i64 0, .int .i64 0, .string ByteArray.empty], .int .i64 2]) (by simp [results, Tryd.results73, go_sem, e0, e1, e2]; rfl) rfl (.inr ⟨H.out, rfl, (by repeat (first | exact hB | refine Below.setCell ?_ (by simp) _ | refine Below.alloc ?_ (by have := hB.size; first | omega | (simp [World.setCell]; omega) | simp [World.setCell]) _))⟩)
end Go.Proofs.YtdolhlbkhhnpmaaDoor
namespace Go.Proofs.YtdolhlbkhhnpmaaDoor
open Go.RowKit FloM ValM
set_option linter.unusedVariables false
set_option linter.unusedSimpArgs false

set_option maxRecDepth 20000 in
set_option maxHeartbeats 2000000 in
theorem rs_sym (t : ByteArray) (w : World) (ht : 0 < t.size) (h : readV t = some ⟨3, 0, t⟩) (hT : bs (textV ⟨3, 0, t⟩) = t) (h1 : ((t[0].toNat : Int) == 35) = false) (h2 : ((t[0].toNat : Int) == 45) = false) (h3 : 48 ≤ (t[0].toNat : Int)) (h4 : 57 < (t[0].toNat : Int)) : Calls Tryd.prog 73 #[.string t] w (ReadV t w) := by
  have H := Lib.hid h; clear h
  have hu := ne_list ht
  have hu' := ne_list' ht
  have hB := Below.refl w.heap.size w
  go_enter Tryd.func73, Tryd.ntmps73
  go_wp2_with (first | (go_at_call 92; refine (refText_yes _ _ _ _ fits_zero hT).mono ?_; rintro e w2 ⟨rfl, h'⟩; have hs2 := h'.size; (try simp [World.setCell] at hs2); have hz2 : w.heap.size < w2.heap.size := (by omega); have hz3 : w.heap.size + 1 < w2.heap.size := (by omega); replace hB := on (W := w) (by repeat (first | exact hB | refine Below.setCell ?_ (by simp) _ | refine Below.alloc ?_ (by have := hB.size; first | omega | (simp [World.setCell]; omega) | simp [World.setCell]) _)) h'; have hc2 := keep h'; have hf2 := keepF h'; have hR : Row 37 w2 w.heap.size [.int .i64 0, .int .i64 0, .string ⟨#[]⟩] := rowOn (by repeat (first | exact hR | exact row_new _ _ | refine Row.alloc ?_ _ | refine Row.far ?_ (by simp) _)) h'; clear h'))
  obtain ⟨e0, e1, e2⟩ := fin3 hR (.int .i64 3) (.int .i64 (0)) (.string t)
  refine bodyPost_ret (v := .tuple #[.agg #[.int .i64 3, .int .i64 (0), .string t], .int .i64 0]) (by simp [results, Tryd.results73, go_sem, e0, e1, e2]) rfl (.inl ⟨⟨3, 0, t⟩, H.out, rfl, (by repeat (first | exact hB | refine Below.setCell ?_ (by simp) _ | refine Below.alloc ?_ (by have := hB.size; first | omega | (simp [World.setCell]; omega) | simp [World.setCell]) _))⟩)
set_option maxRecDepth 20000 in
set_option maxHeartbeats 2000000 in
theorem rs_hash (t : ByteArray) (w : World) (ht : 0 < t.size) (N : Nat) (h : readV t = some ⟨2, wrap64 N, ByteArray.mk #[]⟩) (hd : allDig 16 (ls (t.extract 1 t.size)) = true) (hN : ((numOf 16 (ls (t.extract 1 t.size)) % 18446744073709551616 : Nat) : Int) = N) (hT : bs (textV ⟨2, wrap64 N, ByteArray.mk #[]⟩) = t) (h1 : ((t[0].toNat : Int) == 35) = true) : Calls Tryd.prog 73 #[.string t] w (ReadV t w) := by
  have H := Lib.hid h; clear h
  have hu := ne_list ht
  have hu' := ne_list' ht
  have hB := Below.refl w.heap.size w
  go_enter Tryd.func73, Tryd.ntmps73
  go_wp2_with (first | (go_at_call 91; refine (number_16 _ _ hd).mono ?_; rintro e w1 ⟨n, rfl, rfl, h'⟩; have hs' := h'.size; (try simp at hs'); have hz0 : w.heap.size < w1.heap.size := (by omega); have hz1 : w.heap.size + 1 < w1.heap.size := (by omega); replace hB := on (W := w) (by repeat (first | exact hB | refine Below.setCell ?_ (by simp) _ | refine Below.alloc ?_ (by have := hB.size; first | omega | (simp [World.setCell]; omega) | simp [World.setCell]) _)) h'; have hc := keep h'; have hf := keepF h'; have hR : Row 37 w1 w.heap.size [.int .i64 0, .int .i64 0, .string ⟨#[]⟩] := rowOn (by repeat (first | exact hR | exact row_new _ _ | refine Row.alloc ?_ _ | refine Row.far ?_ (by simp) _)) h'; clear h') | (go_at_call 92; refine (refText_yes _ _ _ _ (fits_wrap _) hT).mono ?_; rintro e w2 ⟨rfl, h'⟩; have hs2 := h'.size; (try simp [World.setCell] at hs2); have hz2 : w.heap.size < w2.heap.size := (by omega); have hz3 : w.heap.size + 1 < w2.heap.size := (by omega); replace hB := on (W := w) (by repeat (first | exact hB | refine Below.setCell ?_ (by simp) _ | refine Below.alloc ?_ (by have := hB.size; first | omega | (simp [World.setCell]; omega) | simp [World.setCell]) _)) h'; have hc2 := keep h'; have hf2 := keepF h'; have hR : Row 37 w2 w.heap.size [.int .i64 0, .int .i64 0, .string ⟨#[]⟩] := rowOn (by repeat (first | exact hR | exact row_new _ _ | refine Row.alloc ?_ _ | refine Row.far ?_ (by simp) _)) h'; clear h'))
  obtain ⟨e0, e1, e2⟩ := fin3 hR (.int .i64 2) (.int .i64 (wrap64 N)) (.string (ByteArray.mk #[]))
  refine bodyPost_ret (v := .tuple #[.agg #[.int .i64 2, .int .i64 (wrap64 N), .string (ByteArray.mk #[])], .int .i64 0]) (by simp [results, Tryd.results73, go_sem, e0, e1, e2]) rfl (.inl ⟨⟨2, wrap64 N, ByteArray.mk #[]⟩, H.out, rfl, (by repeat (first | exact hB | refine Below.setCell ?_ (by simp) _ | refine Below.alloc ?_ (by have := hB.size; first | omega | (simp [World.setCell]; omega) | simp [World.setCell]) _))⟩)
set_option maxRecDepth 20000 in
set_option maxHeartbeats 2000000 in
theorem rs_digit (t : ByteArray) (w : World) (ht : 0 < t.size) (N : Nat) (h : readV t = some ⟨1, wrap64 N, ByteArray.mk #[]⟩) (hd : allDig 10 (ls t) = true) (hN : ((numOf 10 (ls t) % 18446744073709551616 : Nat) : Int) = N) (hT : bs (textV ⟨1, wrap64 N, ByteArray.mk #[]⟩) = t) (h1 : ((t[0].toNat : Int) == 35) = false) (h2 : ((t[0].toNat : Int) == 45) = false) (h3 : 48 ≤ (t[0].toNat : Int)) (h4 : (t[0].toNat : Int) ≤ 57) : Calls Tryd.prog 73 #[.string t] w (ReadV t w) := by
  have H := Lib.hid h; clear h
  have hu := ne_list ht
  have hu' := ne_list' ht
  have hB := Below.refl w.heap.size w
  go_enter Tryd.func73, Tryd.ntmps73
  go_wp2_with (first | (go_at_call 91; refine (number_10 _ _ hd).mono ?_; rintro e w1 ⟨n, rfl, rfl, h'⟩; have hs' := h'.size; (try simp at hs'); have hz0 : w.heap.size < w1.heap.size := (by omega); have hz1 : w.heap.size + 1 < w1.heap.size := (by omega); replace hB := on (W := w) (by repeat (first | exact hB | refine Below.setCell ?_ (by simp) _ | refine Below.alloc ?_ (by have := hB.size; first | omega | (simp [World.setCell]; omega) | simp [World.setCell]) _)) h'; have hc := keep h'; have hf := keepF h'; have hR : Row 37 w1 w.heap.size [.int .i64 0, .int .i64 0, .string ⟨#[]⟩] := rowOn (by repeat (first | exact hR | exact row_new _ _ | refine Row.alloc ?_ _ | refine Row.far ?_ (by simp) _)) h'; clear h') | (go_at_call 92; refine (refText_yes _ _ _ _ (fits_wrap _) hT).mono ?_; rintro e w2 ⟨rfl, h'⟩; have hs2 := h'.size; (try simp [World.setCell] at hs2); have hz2 : w.heap.size < w2.heap.size := (by omega); have hz3 : w.heap.size + 1 < w2.heap.size := (by omega); replace hB := on (W := w) (by repeat (first | exact hB | refine Below.setCell ?_ (by simp) _ | refine Below.alloc ?_ (by have := hB.size; first | omega | (simp [World.setCell]; omega) | simp [World.setCell]) _)) h'; have hc2 := keep h'; have hf2 := keepF h'; have hR : Row 37 w2 w.heap.size [.int .i64 0, .int .i64 0, .string ⟨#[]⟩] := rowOn (by repeat (first | exact hR | exact row_new _ _ | refine Row.alloc ?_ _ | refine Row.far ?_ (by simp) _)) h'; clear h'))
  obtain ⟨e0, e1, e2⟩ := fin3 hR (.int .i64 1) (.int .i64 (wrap64 N)) (.string (ByteArray.mk #[]))
  refine bodyPost_ret (v := .tuple #[.agg #[.int .i64 1, .int .i64 (wrap64 N), .string (ByteArray.mk #[])], .int .i64 0]) (by simp [results, Tryd.results73, go_sem, e0, e1, e2]) rfl (.inl ⟨⟨1, wrap64 N, ByteArray.mk #[]⟩, H.out, rfl, (by repeat (first | exact hB | refine Below.setCell ?_ (by simp) _ | refine Below.alloc ?_ (by have := hB.size; first | omega | (simp [World.setCell]; omega) | simp [World.setCell]) _))⟩)
set_option maxRecDepth 20000 in
set_option maxHeartbeats 2000000 in
theorem rs_minus (t : ByteArray) (w : World) (ht : 0 < t.size) (N : Nat) (m : Int) (h : readV t = some ⟨1, m, ByteArray.mk #[]⟩) (hd : allDig 10 (ls (t.extract 1 t.size)) = true) (hN : ((numOf 10 (ls (t.extract 1 t.size)) % 18446744073709551616 : Nat) : Int) = N) (hm : wrap64 (IntKind.u64.wrap (-(N : Int))) = m) (hfm : Fits m) (hT : bs (textV ⟨1, m, ByteArray.mk #[]⟩) = t) (h1 : ((t[0].toNat : Int) == 35) = false) (h2 : ((t[0].toNat : Int) == 45) = true) : Calls Tryd.prog 73 #[.string t] w (ReadV t w) := by
  have H := Lib.hid h; clear h
  have hu := ne_list ht
  have hu' := ne_list' ht
  have hB := Below.refl w.heap.size w
  go_enter Tryd.func73, Tryd.ntmps73
  go_wp2_with (first | (go_at_call 91; refine (number_10 _ _ hd).mono ?_; rintro e w1 ⟨n, rfl, rfl, h'⟩; have hs' := h'.size; (try simp at hs'); have hz0 : w.heap.size < w1.heap.size := (by omega); have hz1 : w.heap.size + 1 < w1.heap.size := (by omega); replace hB := on (W := w) (by repeat (first | exact hB | refine Below.setCell ?_ (by simp) _ | refine Below.alloc ?_ (by have := hB.size; first | omega | (simp [World.setCell]; omega) | simp [World.setCell]) _)) h'; have hc := keep h'; have hf := keepF h'; have hR : Row 37 w1 w.heap.size [.int .i64 0, .int .i64 0, .string ⟨#[]⟩] := rowOn (by repeat (first | exact hR | exact row_new _ _ | refine Row.alloc ?_ _ | refine Row.far ?_ (by simp) _)) h'; clear h') | (go_at_call 92; refine (refText_yes _ _ _ _ hfm hT).mono ?_; rintro e w2 ⟨rfl, h'⟩; have hs2 := h'.size; (try simp [World.setCell] at hs2); have hz2 : w.heap.size < w2.heap.size := (by omega); have hz3 : w.heap.size + 1 < w2.heap.size := (by omega); replace hB := on (W := w) (by repeat (first | exact hB | refine Below.setCell ?_ (by simp) _ | refine Below.alloc ?_ (by have := hB.size; first | omega | (simp [World.setCell]; omega) | simp [World.setCell]) _)) h'; have hc2 := keep h'; have hf2 := keepF h'; have hR : Row 37 w2 w.heap.size [.int .i64 0, .int .i64 0, .string ⟨#[]⟩] := rowOn (by repeat (first | exact hR | exact row_new _ _ | refine Row.alloc ?_ _ | refine Row.far ?_ (by simp) _)) h'; clear h'))
  obtain ⟨e0, e1, e2⟩ := fin3 hR (.int .i64 1) (.int .i64 (m)) (.string (ByteArray.mk #[]))
  refine bodyPost_ret (v := .tuple #[.agg #[.int .i64 1, .int .i64 (m), .string (ByteArray.mk #[])], .int .i64 0]) (by simp [results, Tryd.results73, go_sem, e0, e1, e2]) rfl (.inl ⟨⟨1, m, ByteArray.mk #[]⟩, H.out, rfl, (by repeat (first | exact hB | refine Below.setCell ?_ (by simp) _ | refine Below.alloc ?_ (by have := hB.size; first | omega | (simp [World.setCell]; omega) | simp [World.setCell]) _))⟩)
end Go.Proofs.YtdolhlbkhhnpmaaDoor
namespace Go.Proofs.YtdolhlbkhhnpmaaDoor
open Go.RowKit FloM ValM

theorem byte_ne {c d : UInt8} (k : Nat) (hd : d.toNat = k) (h : c ≠ d) : ((c.toNat : Int) == (k : Int)) = false := (byte_eq k hd).trans (decide_eq_false h)
theorem byte_is {c d : UInt8} (k : Nat) (hd : d.toNat = k) (h : c = d) : ((c.toNat : Int) == (k : Int)) = true := (byte_eq k hd).trans (decide_eq_true h)
theorem refRead_go (t : ByteArray) (w : World) : Calls Tryd.prog 73 #[.string t] w (ReadV t w) := by
  cases e : ls t with
  | nil =>
    obtain rfl : t = ByteArray.empty := ls_inj e
    exact rr_empty w
  | cons c r =>
    obtain ⟨ht, h0⟩ := first_of e
    have e35 : ∀ b, ((c.toNat : Int) == 35) = b → ((t[0].toNat : Int) == 35) = b := fun b h => by rw [h0]; exact h
    have e45 : ∀ b, ((c.toNat : Int) == 45) = b → ((t[0].toNat : Int) == 45) = b := fun b h => by rw [h0]; exact h
    have hx : ls (t.extract 1 t.size) = r := by rw [extract_tail, e]; rfl
    cases hr : readV t with
    | none =>
      by_cases c1 : c = 35
      · exact rr_hash t w ht hr (e35 _ (byte_is 35 rfl c1))
      · have q1 := e35 _ (byte_ne 35 rfl c1)
        by_cases c2 : c = 45
        · exact rr_minus t w ht hr q1 (e45 _ (byte_is 45 rfl c2))
        · have q2 := e45 _ (byte_ne 45 rfl c2)
          by_cases c3 : (t[0].toNat : Int) < 48
          · exact rr_low t w ht hr q1 q2 c3
          · by_cases c4 : (t[0].toNat : Int) ≤ 57
            · exact rr_digit t w ht hr q1 q2 (by omega) c4
            · exact rr_high t w ht hr q1 q2 (by omega) (by omega)
    | some v =>
      obtain ⟨hv, hT, hf0⟩ := text_read t v hr
      obtain ⟨k, n, s⟩ := v
      have hf : Fits n := hf0
      clear hf0
      have hn : ∃ N : Nat, IntKind.u64.wrap n = N ∧ N < 18446744073709551616 := u64_nat n
      have hTl : textV ⟨k, n, s⟩ = c :: r := by rw [← ls_bs (textV _), hT, e]
      by_cases k1 : k = 1
      · subst k1
        have hs : s = ByteArray.empty := by simpa [rightV] using hv
        subst hs
        have hTi : intTextL n = c :: r := by rw [← hTl]; unfold textV; rw [hv]; rfl
        rcases Int.lt_trichotomy n 0 with hn0 | hn0 | hn0
        · obtain ⟨d, q, h1, h2, h3, h4⟩ := intTextL_neg n hn0
          rw [hTi] at h1
          injection h1 with h1 h1'
          subst h1
          unfold Fits at hf
          have hmod : numOf 10 r % 18446744073709551616 = n.natAbs := by rw [h1', h4, Nat.mod_eq_of_lt (show n.natAbs < 18446744073709551616 by omega)]
          refine rs_minus t w ht n.natAbs n hr (by rw [hx, h1']; exact h3) (by rw [hx, hmod]) ?_ hf hT (e35 _ (byte_ne (d := 35) 35 rfl (by decide))) (e45 _ (byte_is (d := 45) 45 rfl rfl))
          rw [wrap_neg _ (by omega) (by omega)]; omega
        · subst hn0
          rw [intTextL_zero] at hTi
          injection hTi with h1 h1'
          have hl : ls t = [48] := by rw [e, ← h1, ← h1']
          have hc : (t[0].toNat : Int) = 48 := by rw [h0, ← h1]; rfl
          have ew : wrap64 ((0 : Nat) : Int) = 0 := by unfold wrap64; decide
          exact rs_digit t w ht 0 (by rw [ew]; exact hr) (by rw [hl]; decide) (by rw [hl]; decide) (by rw [ew]; exact hT) (e35 _ (byte_ne (d := 35) 35 rfl (by rw [← h1]; decide))) (e45 _ (byte_ne (d := 45) 45 rfl (by rw [← h1]; decide))) (by omega) (by omega)
        · obtain ⟨d, q, h1, h2, h3, h4, h5⟩ := intTextL_pos n hn0
          rw [hTi] at h1
          injection h1 with h1 h1'
          subst h1 h1'
          have hd := dig10 h2
          unfold Fits at hf
          have e1 : wrap64 ((n.natAbs : Nat) : Int) = n := by unfold wrap64; omega
          refine rs_digit t w ht n.natAbs (by rw [e1]; exact hr) (by rw [e]; exact h4) (by rw [e, h5, Nat.mod_eq_of_lt (show n.natAbs < 18446744073709551616 by omega)]) (by rw [e1]; exact hT) (e35 _ (byte_ne (d := 35) 35 rfl (ne_of_toNat (by show c.toNat ≠ 35; omega)))) (e45 _ (byte_ne (d := 45) 45 rfl (ne_of_toNat (by show c.toNat ≠ 45; omega)))) (by rw [h0]; omega) (by rw [h0]; omega)
      · by_cases k2 : k = 2
        · subst k2
          obtain ⟨hs, hrt⟩ : s = ByteArray.empty ∧ right n = true := by simpa [rightV] using hv
          subst hs
          obtain ⟨N, hw, hN⟩ := hn
          have hTf : 35 :: padTo 16 (digs 16 N) = c :: r := by
            rw [← hTl]; unfold textV; rw [hv, if_pos rfl, if_neg (show ¬ (2 : Int) = 1 by decide), if_pos rfl, hw]; rfl
          injection hTf with h1 h1'
          obtain ⟨n1, n2⟩ := num_pad 16 16 N (.inr rfl)
          have e1 := wrap_back n N hf hw
          exact rs_hash t w ht N (by rw [e1]; exact hr) (by rw [hx, ← h1']; exact n2) (by rw [hx, ← h1', n1, Nat.mod_eq_of_lt hN]) (by rw [e1]; exact hT) (e35 _ (byte_is 35 rfl h1.symm))
        · by_cases k3 : k = 3
          · subst k3
            obtain ⟨hn0, hs⟩ : n = 0 ∧ name s = true := by simpa [rightV] using hv
            subst hn0
            have hst : s = t := by
              apply ls_inj
              rw [e, ← hTl]; unfold textV; rw [hv]; rfl
            subst hst
            have hnm : nameL (c :: r) = true := by rw [← e]; exact hs
            have hh := name_head hnm
            exact rs_sym s w ht hr hT (e35 _ (byte_ne (d := 35) 35 rfl (ne_of_toNat (by show c.toNat ≠ 35; omega)))) (e45 _ (byte_ne (d := 45) 45 rfl (ne_of_toNat (by show c.toNat ≠ 45; omega)))) (by rw [h0]; omega) (by rw [h0]; omega)
          · exfalso; simp [rightV, k1, k2, k3] at hv
end Go.Proofs.YtdolhlbkhhnpmaaDoor
namespace Go.Proofs.YtdolhlbkhhnpmaaDoor
open Go.RowKit FloM ValM Go.Shelf
set_option linter.unusedVariables false
set_option linter.unusedSimpArgs false

/-- The token at a place, and whether it is one. -/
def NextQ (l : List UInt8) (a : Nat) (w : World) (e : Ending) (w' : World) : Prop :=
  e = .returned (.tuple #[.agg #[.int .i64 ((measL l).1 : Nat), .string (bs (l.take (measL l).2)), .int .i64 (a : Nat)], .bool (okL (measL l).1 (l.take (measL l).2))]) ∧ Below w.heap.size w w'
theorem next_fin {l : List UInt8} {a k n : Nat} {v : ByteArray} {b : Bool} {w : World} {e : Ending} {w' : World} (hm : measL l = (k, n)) (hv : ls v = l.take n) (hb : okL k (ls v) = b)
    (he : e = .returned (.tuple #[.agg #[.int .i64 (k : Nat), .string v, .int .i64 (a : Nat)], .bool b])) (hB : Below w.heap.size w w') : NextQ l a w e w' := by
  unfold NextQ
  rw [hm]
  simp only [← hv, bs_ls, hb]
  exact ⟨he, hB⟩
/-- What is cut out of a text. -/
theorem cut_s (s : ByteArray) (a n : Nat) (hs : s.size ≤ 20000) (h : a + n ≤ s.size) : ∃ v : ByteArray, ls v = ((ls s).drop a).take n ∧ v.size = n ∧ ∀ W : World, (Instr.slice 9 (.string s) (some (.int .i64 (a : Int))) (some (.int .i64 ((a : Int) + (n : Int)))) none).run Tryd.prog W = .ok (.string v) W := by
  have hl : ls (s.extract a (a + n)) = ((ls s).drop a).take n := by rw [ls_extract]; congr 1; omega
  refine ⟨_, hl, by rw [← ls_len, hl, List.length_take, List.length_drop, ls_len]; omega, fun W => ?_⟩
  have := run_slice_string (P := Tryd.prog) W 9 s .i64 .i64 (a : Int) ((a : Int) + (n : Int)) Tryd.underlying9 (by omega) (by omega) (by omega)
  rw [this, show ((a : Int) + (n : Int)).toNat = a + n by omega, show (a : Int).toNat = a by omega]
theorem drop_c (s : ByteArray) (a : Nat) (ha : a < s.size) : (ls s).drop a = s[a] :: (ls s).drop (a + 1) := drop_at (ls_at s a ha)
theorem name_ok (v : ByteArray) : okL 1 (ls v) = name v := rfl
theorem var_ok (v : ByteArray) : okL 2 (ls v) = varL (ls v) := rfl
theorem val_ok (v : ByteArray) : okL 3 (ls v) = (readV v).isSome := by show (readV (bs (ls v))).isSome = _; rw [bs_ls]
theorem len_cut {s : ByteArray} {a : Nat} (ha : a ≤ s.size) (p : UInt8 → Bool) : a + spanL p ((ls s).drop a) ≤ s.size := by
  have := span_le p ((ls s).drop a); rw [List.length_drop, ls_len] at this; omega
set_option maxRecDepth 20000 in
set_option maxHeartbeats 4000000 in
theorem refNext_low (s : ByteArray) (a : Nat) (w : World) (hs : s.size ≤ 20000) (ha : a < s.size) (hc : lowC s[a] = true) :
    Calls Tryd.prog 58 #[.string s, .int .i64 (a : Int)] w (NextQ ((ls s).drop a) a w) := by
  have hm := meas_low (r := (ls s).drop (a + 1)) hc
  rw [← drop_c s a ha] at hm
  have hn := len_cut (Nat.le_of_lt ha) (p := wordC)
  have hru := refRun_any s a true
  rw [runP_word] at hru
  obtain ⟨n, hnn⟩ : ∃ n, spanL wordC ((ls s).drop a) = n := ⟨_, rfl⟩
  rw [hnn] at hm hn hru
  obtain ⟨v, hv, hvs, hsl⟩ := cut_s s a n hs hn
  have HRU : Hid (∀ W, Calls Tryd.prog 71 #[.string s, .int .i64 (a : Int), .bool true] W fun e w' => e = .returned (.int .i64 (n : Nat)) ∧ W = w') := Lib.hid fun W => hru W (by unfold maxLen; omega) (by omega)
  have HNM := Lib.hid fun W => refName_any v W
  have HM := Lib.hid hm; have HV := Lib.hid hv; have HN := Lib.hid hnn
  simp only [lowC, decide_eq_true_eq] at hc
  have q1 : 97 ≤ (s[a].toNat : Int) := by omega
  have q2 : (s[a].toNat : Int) ≤ 122 := by omega
  clear hm hv hnn hru hc hvs
  have HB2 : Hid (Below w.heap.size w (w.alloc (.cells #[.int .i64 0, .string ByteArray.empty, .int .i64 0] 86))) := Lib.hid ((Below.refl _ w).alloc (Nat.le_refl _) _)
  go_enter Tryd.func58, Tryd.ntmps58
  go_wp2_with (first | (go_at_call 71; refine (HRU.out _).mono ?_; rintro e w1 ⟨rfl, rfl⟩) | (go_at_call 56; refine (HNM.out _).mono ?_; rintro e w2 ⟨rfl, h'⟩; replace HB2 := Lib.hid (on HB2.out h'); have HR2 := Lib.hid (rowOn (row_new (t := 86) w [.int .i64 0, .string ByteArray.empty, .int .i64 0]) h'); have d0 := HR2.out.cell 0; have d1 := HR2.out.cell 1; have d2 := HR2.out.cell 2; have f0 := HR2.out.frozen 0; have f1 := HR2.out.frozen 1; have f2 := HR2.out.frozen 2; have hz2 := HR2.out.lt; simp only [List.getElem?_cons_zero, List.getElem?_cons_succ] at d0 d1 d2; clear h'))
  obtain ⟨e0, e1, e2⟩ := fin3 (HR2.out) (.int .i64 1) (.string v) (.int .i64 (a : Int))
  refine bodyPost_ret (v := .tuple #[.agg #[.int .i64 1, .string v, .int .i64 (a : Int)], .bool (name v)]) (by simp [results, Tryd.results58, go_sem, e0, e1, e2]) rfl (next_fin (k := 1) HM.out HV.out (name_ok v) rfl (by repeat (first | exact HB2.out | exact Below.refl _ _ | refine Below.setCell ?_ (by simp) _ | refine Below.alloc ?_ (by first | exact Nat.le_refl _ | (have := HB2.out.size; omega) | simp) _)))
set_option maxRecDepth 20000 in
set_option maxHeartbeats 4000000 in
theorem refNext_upp (s : ByteArray) (a : Nat) (w : World) (hs : s.size ≤ 20000) (ha : a < s.size) (hc : uppC s[a] = true) :
    Calls Tryd.prog 58 #[.string s, .int .i64 (a : Int)] w (NextQ ((ls s).drop a) a w) := by
  have hm := meas_upp (r := (ls s).drop (a + 1)) hc
  rw [← drop_c s a ha] at hm
  have hn := len_cut (Nat.le_of_lt ha) (p := nameC)
  have hru := refRun_any s a false
  rw [runP_name] at hru
  obtain ⟨n, hnn⟩ : ∃ n, spanL nameC ((ls s).drop a) = n := ⟨_, rfl⟩
  rw [hnn] at hm hn hru
  obtain ⟨v, hv, hvs, hsl⟩ := cut_s s a n hs hn
  have HRU : Hid (∀ W, Calls Tryd.prog 71 #[.string s, .int .i64 (a : Int), .bool false] W fun e w' => e = .returned (.int .i64 (n : Nat)) ∧ W = w') := Lib.hid fun W => hru W (by unfold maxLen; omega) (by omega)
  have HNM := Lib.hid fun W => refVar_any v W (by unfold maxLen; omega)
  have HM := Lib.hid hm; have HV := Lib.hid hv; have HN := Lib.hid hnn
  simp only [uppC, decide_eq_true_eq] at hc
  have q0 : (s[a].toNat : Int) < 97 := by omega
  have r0 : decide (97 ≤ (s[a].toNat : Int)) = false := by rw [decide_eq_false_iff_not]; omega
  have q1 : 65 ≤ (s[a].toNat : Int) := by omega
  have q2 : (s[a].toNat : Int) ≤ 90 := by omega
  clear hm hv hnn hru hc hvs
  have HB2 : Hid (Below w.heap.size w (w.alloc (.cells #[.int .i64 0, .string ByteArray.empty, .int .i64 0] 86))) := Lib.hid ((Below.refl _ w).alloc (Nat.le_refl _) _)
  go_enter Tryd.func58, Tryd.ntmps58
  go_wp2_with (first | (go_at_call 71; refine (HRU.out _).mono ?_; rintro e w1 ⟨rfl, rfl⟩) | (go_at_call 72; refine (HNM.out _).mono ?_; rintro e w2 ⟨rfl, rfl⟩))
  obtain ⟨e0, e1, e2⟩ := fin3 (row_new (t := 86) w [.int .i64 0, .string ByteArray.empty, .int .i64 0]) (.int .i64 2) (.string v) (.int .i64 (a : Int))
  refine bodyPost_ret (v := .tuple #[.agg #[.int .i64 2, .string v, .int .i64 (a : Int)], .bool (varL (ls v))]) (by simp [results, Tryd.results58, go_sem, e0, e1, e2]) rfl (next_fin (k := 2) HM.out HV.out (var_ok v) rfl (by repeat (first | exact HB2.out | exact Below.refl _ _ | refine Below.setCell ?_ (by simp) _ | refine Below.alloc ?_ (by first | exact Nat.le_refl _ | (have := HB2.out.size; omega) | simp) _)))
set_option maxRecDepth 20000 in
set_option maxHeartbeats 4000000 in
theorem refNext_v35n (s : ByteArray) (a : Nat) (w : World) (hs : s.size ≤ 20000) (ha : a < s.size) (hc : s[a].toNat = 35) (v : ByteArray) (n : Nat) (hn : a + (1 + n) ≤ s.size) (hm : measL ((ls s).drop a) = (3, 1 + n)) (hv : ls v = ((ls s).drop a).take (1 + n)) (hsl : ∀ W : World, (Instr.slice 9 (.string s) (some (.int .i64 (a : Int))) (some (.int .i64 ((a : Int) + 1 + (n : Int)))) none).run Tryd.prog W = .ok (.string v) W)
    (HRU : Hid (∀ W, Calls Tryd.prog 71 #[.string s, .int .i64 ((a : Int) + 1), .bool false] W fun e w' => e = .returned (.int .i64 (n : Nat)) ∧ W = w')) (h : readV v = none) :
    Calls Tryd.prog 58 #[.string s, .int .i64 (a : Int)] w (NextQ ((ls s).drop a) a w) := by
  have HRD := Lib.hid fun W => refRead_go v W
  have H := Lib.hid h; have HM := Lib.hid hm; have HV := Lib.hid hv
  have q0 : (s[a].toNat : Int) < 97 := by omega
  have q0d : decide (97 ≤ (s[a].toNat : Int)) = false := by rw [decide_eq_false_iff_not]; omega
  have q1 : (s[a].toNat : Int) < 65 := by omega
  have q1d : decide (65 ≤ (s[a].toNat : Int)) = false := by rw [decide_eq_false_iff_not]; omega
  have q2 : ((s[a].toNat : Int) == 35) = true := by rw [beq_iff_eq]; omega
  clear h hm hv hc
  have HB2 : Hid (Below w.heap.size w (w.alloc (.cells #[.int .i64 0, .string ByteArray.empty, .int .i64 0] 86))) := Lib.hid ((Below.refl _ w).alloc (Nat.le_refl _) _)
  go_enter Tryd.func58, Tryd.ntmps58
  go_wp2_with (first | (go_at_call 71; refine (HRU.out _).mono ?_; rintro e w1 ⟨rfl, rfl⟩) | (go_at_call 73; refine (HRD.out _).mono ?_; intro e w2 h'; replace h' := read_no H.out h'; obtain ⟨rfl, h'⟩ := h'; replace HB2 := Lib.hid (on HB2.out h'); have HR2 := Lib.hid (rowOn (row_new (t := 86) w [.int .i64 0, .string ByteArray.empty, .int .i64 0]) h'); have d0 := HR2.out.cell 0; have d1 := HR2.out.cell 1; have d2 := HR2.out.cell 2; have f0 := HR2.out.frozen 0; have f1 := HR2.out.frozen 1; have f2 := HR2.out.frozen 2; have hz2 := HR2.out.lt; simp only [List.getElem?_cons_zero, List.getElem?_cons_succ] at d0 d1 d2; clear h'))
  have R3 := Row.set (pre := [.int .i64 3, .string v]) (post := []) (Row.set (pre := [.int .i64 3]) (post := [.int .i64 0]) (Row.set (pre := []) (post := [.string ByteArray.empty, .int .i64 0]) HR2.out (.int .i64 3)) (.string v)) (.int .i64 (a : Int))
  have a0 : ∀ o, _ := fun o => (Row.alloc R3 o).cell 0
  have a1 : ∀ o, _ := fun o => (Row.alloc R3 o).cell 1
  have a2 : ∀ o, _ := fun o => (Row.alloc R3 o).cell 2
  simp only [List.nil_append, List.cons_append, List.length_nil, List.length_cons, List.getElem?_cons_zero, List.getElem?_cons_succ] at a0 a1 a2
  obtain ⟨e0, e1, e2⟩ := fin3 (HR2.out) (.int .i64 3) (.string v) (.int .i64 (a : Int))
  refine bodyPost_ret (v := .tuple #[.agg #[.int .i64 3, .string v, .int .i64 (a : Int)], .bool false]) (by simp [results, Tryd.results58, go_sem, e0, e1, e2, a0, a1, a2]) rfl (next_fin (k := 3) HM.out HV.out (by rw [val_ok, H.out]; rfl) rfl (by repeat (first | exact HB2.out | exact Below.refl _ _ | refine Below.setCell ?_ (by simp) _ | refine Below.alloc ?_ (by have := HB2.out.size; first | exact Nat.le_refl _ | omega | (simp; omega) | simp) _)))
set_option maxRecDepth 20000 in
set_option maxHeartbeats 4000000 in
theorem refNext_v35y (s : ByteArray) (a : Nat) (w : World) (hs : s.size ≤ 20000) (ha : a < s.size) (hc : s[a].toNat = 35) (v : ByteArray) (n : Nat) (hn : a + (1 + n) ≤ s.size) (hm : measL ((ls s).drop a) = (3, 1 + n)) (hv : ls v = ((ls s).drop a).take (1 + n)) (hsl : ∀ W : World, (Instr.slice 9 (.string s) (some (.int .i64 (a : Int))) (some (.int .i64 ((a : Int) + 1 + (n : Int)))) none).run Tryd.prog W = .ok (.string v) W)
    (HRU : Hid (∀ W, Calls Tryd.prog 71 #[.string s, .int .i64 ((a : Int) + 1), .bool false] W fun e w' => e = .returned (.int .i64 (n : Nat)) ∧ W = w')) (x : V) (h : readV v = some x) :
    Calls Tryd.prog 58 #[.string s, .int .i64 (a : Int)] w (NextQ ((ls s).drop a) a w) := by
  have HRD := Lib.hid fun W => refRead_go v W
  have H := Lib.hid h; have HM := Lib.hid hm; have HV := Lib.hid hv
  have q0 : (s[a].toNat : Int) < 97 := by omega
  have q0d : decide (97 ≤ (s[a].toNat : Int)) = false := by rw [decide_eq_false_iff_not]; omega
  have q1 : (s[a].toNat : Int) < 65 := by omega
  have q1d : decide (65 ≤ (s[a].toNat : Int)) = false := by rw [decide_eq_false_iff_not]; omega
  have q2 : ((s[a].toNat : Int) == 35) = true := by rw [beq_iff_eq]; omega
  clear h hm hv hc
  have HB2 : Hid (Below w.heap.size w (w.alloc (.cells #[.int .i64 0, .string ByteArray.empty, .int .i64 0] 86))) := Lib.hid ((Below.refl _ w).alloc (Nat.le_refl _) _)
  go_enter Tryd.func58, Tryd.ntmps58
  go_wp2_with (first | (go_at_call 71; refine (HRU.out _).mono ?_; rintro e w1 ⟨rfl, rfl⟩) | (go_at_call 73; refine (HRD.out _).mono ?_; intro e w2 h'; replace h' := read_some H.out h'; obtain ⟨rfl, h'⟩ := h'; replace HB2 := Lib.hid (on HB2.out h'); have HR2 := Lib.hid (rowOn (row_new (t := 86) w [.int .i64 0, .string ByteArray.empty, .int .i64 0]) h'); have d0 := HR2.out.cell 0; have d1 := HR2.out.cell 1; have d2 := HR2.out.cell 2; have f0 := HR2.out.frozen 0; have f1 := HR2.out.frozen 1; have f2 := HR2.out.frozen 2; have hz2 := HR2.out.lt; simp only [List.getElem?_cons_zero, List.getElem?_cons_succ] at d0 d1 d2; clear h'))
  have R3 := Row.set (pre := [.int .i64 3, .string v]) (post := []) (Row.set (pre := [.int .i64 3]) (post := [.int .i64 0]) (Row.set (pre := []) (post := [.string ByteArray.empty, .int .i64 0]) HR2.out (.int .i64 3)) (.string v)) (.int .i64 (a : Int))
  have a0 : ∀ o, _ := fun o => (Row.alloc R3 o).cell 0
  have a1 : ∀ o, _ := fun o => (Row.alloc R3 o).cell 1
  have a2 : ∀ o, _ := fun o => (Row.alloc R3 o).cell 2
  simp only [List.nil_append, List.cons_append, List.length_nil, List.length_cons, List.getElem?_cons_zero, List.getElem?_cons_succ] at a0 a1 a2
  obtain ⟨e0, e1, e2⟩ := fin3 (HR2.out) (.int .i64 3) (.string v) (.int .i64 (a : Int))
  refine bodyPost_ret (v := .tuple #[.agg #[.int .i64 3, .string v, .int .i64 (a : Int)], .bool true]) (by simp [results, Tryd.results58, go_sem, e0, e1, e2, a0, a1, a2]) rfl (next_fin (k := 3) HM.out HV.out (by rw [val_ok, H.out]; rfl) rfl (by repeat (first | exact HB2.out | exact Below.refl _ _ | refine Below.setCell ?_ (by simp) _ | refine Below.alloc ?_ (by have := HB2.out.size; first | exact Nat.le_refl _ | omega | (simp; omega) | simp) _)))
theorem refNext_v35 (s : ByteArray) (a : Nat) (w : World) (hs : s.size ≤ 20000) (ha : a < s.size) (hc : s[a].toNat = 35) :
    Calls Tryd.prog 58 #[.string s, .int .i64 (a : Int)] w (NextQ ((ls s).drop a) a w) := by
  have hm := meas_hsh (r := (ls s).drop (a + 1)) hc
  rw [← drop_c s a ha] at hm
  have hn := len_cut (show a + 1 ≤ s.size by omega) (p := nameC)
  have hru := refRun_any s (a + 1) false
  rw [runP_name] at hru
  obtain ⟨n, hnn⟩ : ∃ n, spanL nameC ((ls s).drop (a + 1)) = n := ⟨_, rfl⟩
  rw [hnn] at hm hn hru
  obtain ⟨v, hv, hvs, hsl⟩ := cut_s s a (1 + n) hs (by omega)
  have hsl' : ∀ W : World, (Instr.slice 9 (.string s) (some (.int .i64 (a : Int))) (some (.int .i64 ((a : Int) + 1 + (n : Int)))) none).run Tryd.prog W = .ok (.string v) W := fun W => by
    have := hsl W; rwa [show (a : Int) + ((1 + n : Nat) : Int) = (a : Int) + 1 + (n : Int) by omega] at this
  have HRU : Hid (∀ W, Calls Tryd.prog 71 #[.string s, .int .i64 ((a : Int) + 1), .bool false] W fun e w' => e = .returned (.int .i64 (n : Nat)) ∧ W = w') := Lib.hid fun W => hru W (by unfold maxLen; omega) (by omega)
  cases h : readV v with
  | none => exact refNext_v35n s a w hs ha hc v n (by omega) hm hv hsl' HRU h
  | some x => exact refNext_v35y s a w hs ha hc v n (by omega) hm hv hsl' HRU x h
set_option maxRecDepth 20000 in
set_option maxHeartbeats 4000000 in
theorem refNext_vdgn (s : ByteArray) (a : Nat) (w : World) (hs : s.size ≤ 20000) (ha : a < s.size) (hc : digC s[a] = true) (v : ByteArray) (n : Nat) (hn : a + (1 + n) ≤ s.size) (hm : measL ((ls s).drop a) = (3, 1 + n)) (hv : ls v = ((ls s).drop a).take (1 + n)) (hsl : ∀ W : World, (Instr.slice 9 (.string s) (some (.int .i64 (a : Int))) (some (.int .i64 ((a : Int) + 1 + (n : Int)))) none).run Tryd.prog W = .ok (.string v) W)
    (HRU : Hid (∀ W, Calls Tryd.prog 71 #[.string s, .int .i64 ((a : Int) + 1), .bool false] W fun e w' => e = .returned (.int .i64 (n : Nat)) ∧ W = w')) (h : readV v = none) :
    Calls Tryd.prog 58 #[.string s, .int .i64 (a : Int)] w (NextQ ((ls s).drop a) a w) := by
  have HRD := Lib.hid fun W => refRead_go v W
  have H := Lib.hid h; have HM := Lib.hid hm; have HV := Lib.hid hv
  simp only [digC, decide_eq_true_eq] at hc
  have q0 : (s[a].toNat : Int) < 97 := by omega
  have q0d : decide (97 ≤ (s[a].toNat : Int)) = false := by rw [decide_eq_false_iff_not]; omega
  have q1 : (s[a].toNat : Int) < 65 := by omega
  have q1d : decide (65 ≤ (s[a].toNat : Int)) = false := by rw [decide_eq_false_iff_not]; omega
  have q2 : ((s[a].toNat : Int) == 35) = false := by rw [beq_eq_false_iff_ne]; omega
  have q3 : 48 ≤ (s[a].toNat : Int) := by omega
  have q4 : (s[a].toNat : Int) ≤ 57 := by omega
  clear h hm hv hc
  have HB2 : Hid (Below w.heap.size w (w.alloc (.cells #[.int .i64 0, .string ByteArray.empty, .int .i64 0] 86))) := Lib.hid ((Below.refl _ w).alloc (Nat.le_refl _) _)
  go_enter Tryd.func58, Tryd.ntmps58
  go_wp2_with (first | (go_at_call 71; refine (HRU.out _).mono ?_; rintro e w1 ⟨rfl, rfl⟩) | (go_at_call 73; refine (HRD.out _).mono ?_; intro e w2 h'; replace h' := read_no H.out h'; obtain ⟨rfl, h'⟩ := h'; replace HB2 := Lib.hid (on HB2.out h'); have HR2 := Lib.hid (rowOn (row_new (t := 86) w [.int .i64 0, .string ByteArray.empty, .int .i64 0]) h'); have d0 := HR2.out.cell 0; have d1 := HR2.out.cell 1; have d2 := HR2.out.cell 2; have f0 := HR2.out.frozen 0; have f1 := HR2.out.frozen 1; have f2 := HR2.out.frozen 2; have hz2 := HR2.out.lt; simp only [List.getElem?_cons_zero, List.getElem?_cons_succ] at d0 d1 d2; clear h'))
  have R3 := Row.set (pre := [.int .i64 3, .string v]) (post := []) (Row.set (pre := [.int .i64 3]) (post := [.int .i64 0]) (Row.set (pre := []) (post := [.string ByteArray.empty, .int .i64 0]) HR2.out (.int .i64 3)) (.string v)) (.int .i64 (a : Int))
  have a0 : ∀ o, _ := fun o => (Row.alloc R3 o).cell 0
  have a1 : ∀ o, _ := fun o => (Row.alloc R3 o).cell 1
  have a2 : ∀ o, _ := fun o => (Row.alloc R3 o).cell 2
  simp only [List.nil_append, List.cons_append, List.length_nil, List.length_cons, List.getElem?_cons_zero, List.getElem?_cons_succ] at a0 a1 a2
  obtain ⟨e0, e1, e2⟩ := fin3 (HR2.out) (.int .i64 3) (.string v) (.int .i64 (a : Int))
  refine bodyPost_ret (v := .tuple #[.agg #[.int .i64 3, .string v, .int .i64 (a : Int)], .bool false]) (by simp [results, Tryd.results58, go_sem, e0, e1, e2, a0, a1, a2]) rfl (next_fin (k := 3) HM.out HV.out (by rw [val_ok, H.out]; rfl) rfl (by repeat (first | exact HB2.out | exact Below.refl _ _ | refine Below.setCell ?_ (by simp) _ | refine Below.alloc ?_ (by have := HB2.out.size; first | exact Nat.le_refl _ | omega | (simp; omega) | simp) _)))
set_option maxRecDepth 20000 in
set_option maxHeartbeats 4000000 in
theorem refNext_vdgy (s : ByteArray) (a : Nat) (w : World) (hs : s.size ≤ 20000) (ha : a < s.size) (hc : digC s[a] = true) (v : ByteArray) (n : Nat) (hn : a + (1 + n) ≤ s.size) (hm : measL ((ls s).drop a) = (3, 1 + n)) (hv : ls v = ((ls s).drop a).take (1 + n)) (hsl : ∀ W : World, (Instr.slice 9 (.string s) (some (.int .i64 (a : Int))) (some (.int .i64 ((a : Int) + 1 + (n : Int)))) none).run Tryd.prog W = .ok (.string v) W)
    (HRU : Hid (∀ W, Calls Tryd.prog 71 #[.string s, .int .i64 ((a : Int) + 1), .bool false] W fun e w' => e = .returned (.int .i64 (n : Nat)) ∧ W = w')) (x : V) (h : readV v = some x) :
    Calls Tryd.prog 58 #[.string s, .int .i64 (a : Int)] w (NextQ ((ls s).drop a) a w) := by
  have HRD := Lib.hid fun W => refRead_go v W
  have H := Lib.hid h; have HM := Lib.hid hm; have HV := Lib.hid hv
  simp only [digC, decide_eq_true_eq] at hc
  have q0 : (s[a].toNat : Int) < 97 := by omega
  have q0d : decide (97 ≤ (s[a].toNat : Int)) = false := by rw [decide_eq_false_iff_not]; omega
  have q1 : (s[a].toNat : Int) < 65 := by omega
  have q1d : decide (65 ≤ (s[a].toNat : Int)) = false := by rw [decide_eq_false_iff_not]; omega
  have q2 : ((s[a].toNat : Int) == 35) = false := by rw [beq_eq_false_iff_ne]; omega
  have q3 : 48 ≤ (s[a].toNat : Int) := by omega
  have q4 : (s[a].toNat : Int) ≤ 57 := by omega
  clear h hm hv hc
  have HB2 : Hid (Below w.heap.size w (w.alloc (.cells #[.int .i64 0, .string ByteArray.empty, .int .i64 0] 86))) := Lib.hid ((Below.refl _ w).alloc (Nat.le_refl _) _)
  go_enter Tryd.func58, Tryd.ntmps58
  go_wp2_with (first | (go_at_call 71; refine (HRU.out _).mono ?_; rintro e w1 ⟨rfl, rfl⟩) | (go_at_call 73; refine (HRD.out _).mono ?_; intro e w2 h'; replace h' := read_some H.out h'; obtain ⟨rfl, h'⟩ := h'; replace HB2 := Lib.hid (on HB2.out h'); have HR2 := Lib.hid (rowOn (row_new (t := 86) w [.int .i64 0, .string ByteArray.empty, .int .i64 0]) h'); have d0 := HR2.out.cell 0; have d1 := HR2.out.cell 1; have d2 := HR2.out.cell 2; have f0 := HR2.out.frozen 0; have f1 := HR2.out.frozen 1; have f2 := HR2.out.frozen 2; have hz2 := HR2.out.lt; simp only [List.getElem?_cons_zero, List.getElem?_cons_succ] at d0 d1 d2; clear h'))
  have R3 := Row.set (pre := [.int .i64 3, .string v]) (post := []) (Row.set (pre := [.int .i64 3]) (post := [.int .i64 0]) (Row.set (pre := []) (post := [.string ByteArray.empty, .int .i64 0]) HR2.out (.int .i64 3)) (.string v)) (.int .i64 (a : Int))
  have a0 : ∀ o, _ := fun o => (Row.alloc R3 o).cell 0
  have a1 : ∀ o, _ := fun o => (Row.alloc R3 o).cell 1
  have a2 : ∀ o, _ := fun o => (Row.alloc R3 o).cell 2
  simp only [List.nil_append, List.cons_append, List.length_nil, List.length_cons, List.getElem?_cons_zero, List.getElem?_cons_succ] at a0 a1 a2
  obtain ⟨e0, e1, e2⟩ := fin3 (HR2.out) (.int .i64 3) (.string v) (.int .i64 (a : Int))
  refine bodyPost_ret (v := .tuple #[.agg #[.int .i64 3, .string v, .int .i64 (a : Int)], .bool true]) (by simp [results, Tryd.results58, go_sem, e0, e1, e2, a0, a1, a2]) rfl (next_fin (k := 3) HM.out HV.out (by rw [val_ok, H.out]; rfl) rfl (by repeat (first | exact HB2.out | exact Below.refl _ _ | refine Below.setCell ?_ (by simp) _ | refine Below.alloc ?_ (by have := HB2.out.size; first | exact Nat.le_refl _ | omega | (simp; omega) | simp) _)))
theorem refNext_vdg (s : ByteArray) (a : Nat) (w : World) (hs : s.size ≤ 20000) (ha : a < s.size) (hc : digC s[a] = true) :
    Calls Tryd.prog 58 #[.string s, .int .i64 (a : Int)] w (NextQ ((ls s).drop a) a w) := by
  have hm := meas_dig (r := (ls s).drop (a + 1)) hc
  rw [← drop_c s a ha] at hm
  have hn := len_cut (show a + 1 ≤ s.size by omega) (p := nameC)
  have hru := refRun_any s (a + 1) false
  rw [runP_name] at hru
  obtain ⟨n, hnn⟩ : ∃ n, spanL nameC ((ls s).drop (a + 1)) = n := ⟨_, rfl⟩
  rw [hnn] at hm hn hru
  obtain ⟨v, hv, hvs, hsl⟩ := cut_s s a (1 + n) hs (by omega)
  have hsl' : ∀ W : World, (Instr.slice 9 (.string s) (some (.int .i64 (a : Int))) (some (.int .i64 ((a : Int) + 1 + (n : Int)))) none).run Tryd.prog W = .ok (.string v) W := fun W => by
    have := hsl W; rwa [show (a : Int) + ((1 + n : Nat) : Int) = (a : Int) + 1 + (n : Int) by omega] at this
  have HRU : Hid (∀ W, Calls Tryd.prog 71 #[.string s, .int .i64 ((a : Int) + 1), .bool false] W fun e w' => e = .returned (.int .i64 (n : Nat)) ∧ W = w') := Lib.hid fun W => hru W (by unfold maxLen; omega) (by omega)
  cases h : readV v with
  | none => exact refNext_vdgn s a w hs ha hc v n (by omega) hm hv hsl' HRU h
  | some x => exact refNext_vdgy s a w hs ha hc v n (by omega) hm hv hsl' HRU x h
set_option maxRecDepth 20000 in
set_option maxHeartbeats 4000000 in
theorem refNext_vmnn (s : ByteArray) (a : Nat) (w : World) (hs : s.size ≤ 20000) (ha : a < s.size) (hc : s[a].toNat = 45) (h1 : a + 1 < s.size) (hd : digC s[a + 1] = true) (v : ByteArray) (n : Nat) (hn : a + (1 + n) ≤ s.size) (hm : measL ((ls s).drop a) = (3, 1 + n)) (hv : ls v = ((ls s).drop a).take (1 + n)) (hsl : ∀ W : World, (Instr.slice 9 (.string s) (some (.int .i64 (a : Int))) (some (.int .i64 ((a : Int) + 1 + (n : Int)))) none).run Tryd.prog W = .ok (.string v) W)
    (HRU : Hid (∀ W, Calls Tryd.prog 71 #[.string s, .int .i64 ((a : Int) + 1), .bool false] W fun e w' => e = .returned (.int .i64 (n : Nat)) ∧ W = w')) (h : readV v = none) :
    Calls Tryd.prog 58 #[.string s, .int .i64 (a : Int)] w (NextQ ((ls s).drop a) a w) := by
  have HRD := Lib.hid fun W => refRead_go v W
  have H := Lib.hid h; have HM := Lib.hid hm; have HV := Lib.hid hv
  simp only [digC, decide_eq_true_eq] at hd
  have q0 : (s[a].toNat : Int) < 97 := by omega
  have q0d : decide (97 ≤ (s[a].toNat : Int)) = false := by rw [decide_eq_false_iff_not]; omega
  have q1 : (s[a].toNat : Int) < 65 := by omega
  have q1d : decide (65 ≤ (s[a].toNat : Int)) = false := by rw [decide_eq_false_iff_not]; omega
  have q2 : ((s[a].toNat : Int) == 35) = false := by rw [beq_eq_false_iff_ne]; omega
  have q3 : (s[a].toNat : Int) < 48 := by omega
  have q3d : decide (48 ≤ (s[a].toNat : Int)) = false := by rw [decide_eq_false_iff_not]; omega
  have q4 : ((s[a].toNat : Int) == 45) = true := by rw [beq_iff_eq]; omega
  have q5 : (a : Int) + 1 < (s.size : Int) := by omega
  have q6 : 48 ≤ (s[a + 1].toNat : Int) := by omega
  have q7 : (s[a + 1].toNat : Int) ≤ 57 := by omega
  clear h hm hv hc hd
  have HB2 : Hid (Below w.heap.size w (w.alloc (.cells #[.int .i64 0, .string ByteArray.empty, .int .i64 0] 86))) := Lib.hid ((Below.refl _ w).alloc (Nat.le_refl _) _)
  go_enter Tryd.func58, Tryd.ntmps58
  go_wp2_with (first | (go_at_call 71; refine (HRU.out _).mono ?_; rintro e w1 ⟨rfl, rfl⟩) | (go_at_call 73; refine (HRD.out _).mono ?_; intro e w2 h'; replace h' := read_no H.out h'; obtain ⟨rfl, h'⟩ := h'; replace HB2 := Lib.hid (on HB2.out h'); have HR2 := Lib.hid (rowOn (row_new (t := 86) w [.int .i64 0, .string ByteArray.empty, .int .i64 0]) h'); have d0 := HR2.out.cell 0; have d1 := HR2.out.cell 1; have d2 := HR2.out.cell 2; have f0 := HR2.out.frozen 0; have f1 := HR2.out.frozen 1; have f2 := HR2.out.frozen 2; have hz2 := HR2.out.lt; simp only [List.getElem?_cons_zero, List.getElem?_cons_succ] at d0 d1 d2; clear h'))
  have R3 := Row.set (pre := [.int .i64 3, .string v]) (post := []) (Row.set (pre := [.int .i64 3]) (post := [.int .i64 0]) (Row.set (pre := []) (post := [.string ByteArray.empty, .int .i64 0]) HR2.out (.int .i64 3)) (.string v)) (.int .i64 (a : Int))
  have a0 : ∀ o, _ := fun o => (Row.alloc R3 o).cell 0
  have a1 : ∀ o, _ := fun o => (Row.alloc R3 o).cell 1
  have a2 : ∀ o, _ := fun o => (Row.alloc R3 o).cell 2
  simp only [List.nil_append, List.cons_append, List.length_nil, List.length_cons, List.getElem?_cons_zero, List.getElem?_cons_succ] at a0 a1 a2
  obtain ⟨e0, e1, e2⟩ := fin3 (HR2.out) (.int .i64 3) (.string v) (.int .i64 (a : Int))
  refine bodyPost_ret (v := .tuple #[.agg #[.int .i64 3, .string v, .int .i64 (a : Int)], .bool false]) (by simp [results, Tryd.results58, go_sem, e0, e1, e2, a0, a1, a2]) rfl (next_fin (k := 3) HM.out HV.out (by rw [val_ok, H.out]; rfl) rfl (by repeat (first | exact HB2.out | exact Below.refl _ _ | refine Below.setCell ?_ (by simp) _ | refine Below.alloc ?_ (by have := HB2.out.size; first | exact Nat.le_refl _ | omega | (simp; omega) | simp) _)))
set_option maxRecDepth 20000 in
set_option maxHeartbeats 4000000 in
theorem refNext_vmny (s : ByteArray) (a : Nat) (w : World) (hs : s.size ≤ 20000) (ha : a < s.size) (hc : s[a].toNat = 45) (h1 : a + 1 < s.size) (hd : digC s[a + 1] = true) (v : ByteArray) (n : Nat) (hn : a + (1 + n) ≤ s.size) (hm : measL ((ls s).drop a) = (3, 1 + n)) (hv : ls v = ((ls s).drop a).take (1 + n)) (hsl : ∀ W : World, (Instr.slice 9 (.string s) (some (.int .i64 (a : Int))) (some (.int .i64 ((a : Int) + 1 + (n : Int)))) none).run Tryd.prog W = .ok (.string v) W)
    (HRU : Hid (∀ W, Calls Tryd.prog 71 #[.string s, .int .i64 ((a : Int) + 1), .bool false] W fun e w' => e = .returned (.int .i64 (n : Nat)) ∧ W = w')) (x : V) (h : readV v = some x) :
    Calls Tryd.prog 58 #[.string s, .int .i64 (a : Int)] w (NextQ ((ls s).drop a) a w) := by
  have HRD := Lib.hid fun W => refRead_go v W
  have H := Lib.hid h; have HM := Lib.hid hm; have HV := Lib.hid hv
  simp only [digC, decide_eq_true_eq] at hd
  have q0 : (s[a].toNat : Int) < 97 := by omega
  have q0d : decide (97 ≤ (s[a].toNat : Int)) = false := by rw [decide_eq_false_iff_not]; omega
  have q1 : (s[a].toNat : Int) < 65 := by omega
  have q1d : decide (65 ≤ (s[a].toNat : Int)) = false := by rw [decide_eq_false_iff_not]; omega
  have q2 : ((s[a].toNat : Int) == 35) = false := by rw [beq_eq_false_iff_ne]; omega
  have q3 : (s[a].toNat : Int) < 48 := by omega
  have q3d : decide (48 ≤ (s[a].toNat : Int)) = false := by rw [decide_eq_false_iff_not]; omega
  have q4 : ((s[a].toNat : Int) == 45) = true := by rw [beq_iff_eq]; omega
  have q5 : (a : Int) + 1 < (s.size : Int) := by omega
  have q6 : 48 ≤ (s[a + 1].toNat : Int) := by omega
  have q7 : (s[a + 1].toNat : Int) ≤ 57 := by omega
  clear h hm hv hc hd
  have HB2 : Hid (Below w.heap.size w (w.alloc (.cells #[.int .i64 0, .string ByteArray.empty, .int .i64 0] 86))) := Lib.hid ((Below.refl _ w).alloc (Nat.le_refl _) _)
  go_enter Tryd.func58, Tryd.ntmps58
  go_wp2_with (first | (go_at_call 71; refine (HRU.out _).mono ?_; rintro e w1 ⟨rfl, rfl⟩) | (go_at_call 73; refine (HRD.out _).mono ?_; intro e w2 h'; replace h' := read_some H.out h'; obtain ⟨rfl, h'⟩ := h'; replace HB2 := Lib.hid (on HB2.out h'); have HR2 := Lib.hid (rowOn (row_new (t := 86) w [.int .i64 0, .string ByteArray.empty, .int .i64 0]) h'); have d0 := HR2.out.cell 0; have d1 := HR2.out.cell 1; have d2 := HR2.out.cell 2; have f0 := HR2.out.frozen 0; have f1 := HR2.out.frozen 1; have f2 := HR2.out.frozen 2; have hz2 := HR2.out.lt; simp only [List.getElem?_cons_zero, List.getElem?_cons_succ] at d0 d1 d2; clear h'))
  have R3 := Row.set (pre := [.int .i64 3, .string v]) (post := []) (Row.set (pre := [.int .i64 3]) (post := [.int .i64 0]) (Row.set (pre := []) (post := [.string ByteArray.empty, .int .i64 0]) HR2.out (.int .i64 3)) (.string v)) (.int .i64 (a : Int))
  have a0 : ∀ o, _ := fun o => (Row.alloc R3 o).cell 0
  have a1 : ∀ o, _ := fun o => (Row.alloc R3 o).cell 1
  have a2 : ∀ o, _ := fun o => (Row.alloc R3 o).cell 2
  simp only [List.nil_append, List.cons_append, List.length_nil, List.length_cons, List.getElem?_cons_zero, List.getElem?_cons_succ] at a0 a1 a2
  obtain ⟨e0, e1, e2⟩ := fin3 (HR2.out) (.int .i64 3) (.string v) (.int .i64 (a : Int))
  refine bodyPost_ret (v := .tuple #[.agg #[.int .i64 3, .string v, .int .i64 (a : Int)], .bool true]) (by simp [results, Tryd.results58, go_sem, e0, e1, e2, a0, a1, a2]) rfl (next_fin (k := 3) HM.out HV.out (by rw [val_ok, H.out]; rfl) rfl (by repeat (first | exact HB2.out | exact Below.refl _ _ | refine Below.setCell ?_ (by simp) _ | refine Below.alloc ?_ (by have := HB2.out.size; first | exact Nat.le_refl _ | omega | (simp; omega) | simp) _)))
theorem refNext_vmn (s : ByteArray) (a : Nat) (w : World) (hs : s.size ≤ 20000) (ha : a < s.size) (hc : s[a].toNat = 45) (h1 : a + 1 < s.size) (hd : digC s[a + 1] = true) :
    Calls Tryd.prog 58 #[.string s, .int .i64 (a : Int)] w (NextQ ((ls s).drop a) a w) := by
  have hm := meas_min (r := (ls s).drop (a + 1 + 1)) hc hd
  rw [← drop_c s (a + 1) h1, ← drop_c s a ha] at hm
  have hn := len_cut (show a + 1 ≤ s.size by omega) (p := nameC)
  have hru := refRun_any s (a + 1) false
  rw [runP_name] at hru
  obtain ⟨n, hnn⟩ : ∃ n, spanL nameC ((ls s).drop (a + 1)) = n := ⟨_, rfl⟩
  rw [hnn] at hm hn hru
  obtain ⟨v, hv, hvs, hsl⟩ := cut_s s a (1 + n) hs (by omega)
  have hsl' : ∀ W : World, (Instr.slice 9 (.string s) (some (.int .i64 (a : Int))) (some (.int .i64 ((a : Int) + 1 + (n : Int)))) none).run Tryd.prog W = .ok (.string v) W := fun W => by
    have := hsl W; rwa [show (a : Int) + ((1 + n : Nat) : Int) = (a : Int) + 1 + (n : Int) by omega] at this
  have HRU : Hid (∀ W, Calls Tryd.prog 71 #[.string s, .int .i64 ((a : Int) + 1), .bool false] W fun e w' => e = .returned (.int .i64 (n : Nat)) ∧ W = w') := Lib.hid fun W => hru W (by unfold maxLen; omega) (by omega)
  cases h : readV v with
  | none => exact refNext_vmnn s a w hs ha hc h1 hd v n (by omega) hm hv hsl' HRU h
  | some x => exact refNext_vmny s a w hs ha hc h1 hd v n (by omega) hm hv hsl' HRU x h
set_option maxRecDepth 20000 in
set_option maxHeartbeats 4000000 in
theorem refNext_ma (s : ByteArray) (a : Nat) (w : World) (hs : s.size ≤ 20000) (ha : a < s.size) (n : Nat) (hnn : markL ((ls s).drop a) = n) (hm : measL ((ls s).drop a) = (4, n)) (hn : a + n ≤ s.size) (hc : s[a].toNat < 48) (h35 : s[a].toNat ≠ 35) (h45 : s[a].toNat ≠ 45) :
    Calls Tryd.prog 58 #[.string s, .int .i64 (a : Int)] w (NextQ ((ls s).drop a) a w) := by
  obtain ⟨v, hv, hvs, hsl⟩ := cut_s s a n hs hn
  have hmk := refMark_any s a
  rw [hnn] at hmk
  have HMK : Hid (∀ W, Calls Tryd.prog 74 #[.string s, .int .i64 (a : Int)] W fun e w' => e = .returned (.int .i64 (n : Nat)) ∧ W = w') := Lib.hid fun W => hmk W hs ha
  have hok : okL 4 (ls v) = decide (0 < (n : Int)) := by
    show decide (ls v ≠ []) = _
    have := ls_len v
    rw [hvs] at this
    cases hl : ls v with
    | nil => rw [hl] at this; simp at this; simp; omega
    | cons x r => rw [hl] at this; simp at this; simp; omega
  have HM := Lib.hid hm; have HV := Lib.hid hv; have HN := Lib.hid hnn; have HOK := Lib.hid hok
  have q0 : (s[a].toNat : Int) < 97 := by omega
  have q0d : decide (97 ≤ (s[a].toNat : Int)) = false := by rw [decide_eq_false_iff_not]; omega
  have q1 : (s[a].toNat : Int) < 65 := by omega
  have q1d : decide (65 ≤ (s[a].toNat : Int)) = false := by rw [decide_eq_false_iff_not]; omega
  have q2 : ((s[a].toNat : Int) == 35) = false := by rw [beq_eq_false_iff_ne]; omega
  have q3 : (s[a].toNat : Int) < 48 := by omega
  have q3d : decide (48 ≤ (s[a].toNat : Int)) = false := by rw [decide_eq_false_iff_not]; omega
  have q4 : ((s[a].toNat : Int) == 45) = false := by rw [beq_eq_false_iff_ne]; omega
  clear hm hv hnn hmk hok hvs hc h35 h45
  have HB2 : Hid (Below w.heap.size w (w.alloc (.cells #[.int .i64 0, .string ByteArray.empty, .int .i64 0] 86))) := Lib.hid ((Below.refl _ w).alloc (Nat.le_refl _) _)
  by_cases h0 : 0 < (n : Int)
  · go_enter Tryd.func58, Tryd.ntmps58
    go_wp2_with (go_at_call 74; refine (HMK.out _).mono ?_; rintro e w1 ⟨rfl, rfl⟩)
    have h0n : 0 < n := by omega
    obtain ⟨e0, e1, e2⟩ := fin3 (row_new (t := 86) w [.int .i64 0, .string ByteArray.empty, .int .i64 0]) (.int .i64 4) (.string v) (.int .i64 (a : Int))
    refine bodyPost_ret (v := .tuple #[.agg #[.int .i64 4, .string v, .int .i64 (a : Int)], .bool true]) (by simp [results, Tryd.results58, go_sem, e0, e1, e2, h0n]) rfl (next_fin (k := 4) HM.out HV.out (by rw [HOK.out, decide_eq_true (by omega)]) rfl (by repeat (first | exact HB2.out | exact Below.refl _ _ | refine Below.setCell ?_ (by simp) _ | refine Below.alloc ?_ (by have := HB2.out.size; first | exact Nat.le_refl _ | omega | (simp; omega) | simp) _)))
  · go_enter Tryd.func58, Tryd.ntmps58
    go_wp2_with (go_at_call 74; refine (HMK.out _).mono ?_; rintro e w1 ⟨rfl, rfl⟩)
    have h0n : n = 0 := by omega
    obtain ⟨e0, e1, e2⟩ := fin3 (row_new (t := 86) w [.int .i64 0, .string ByteArray.empty, .int .i64 0]) (.int .i64 4) (.string v) (.int .i64 (a : Int))
    refine bodyPost_ret (v := .tuple #[.agg #[.int .i64 4, .string v, .int .i64 (a : Int)], .bool false]) (by simp [results, Tryd.results58, go_sem, e0, e1, e2, h0n]) rfl (next_fin (k := 4) HM.out HV.out (by rw [HOK.out, decide_eq_false (by omega)]) rfl (by repeat (first | exact HB2.out | exact Below.refl _ _ | refine Below.setCell ?_ (by simp) _ | refine Below.alloc ?_ (by have := HB2.out.size; first | exact Nat.le_refl _ | omega | (simp; omega) | simp) _)))
set_option maxRecDepth 20000 in
set_option maxHeartbeats 4000000 in
theorem refNext_mb (s : ByteArray) (a : Nat) (w : World) (hs : s.size ≤ 20000) (ha : a < s.size) (n : Nat) (hnn : markL ((ls s).drop a) = n) (hm : measL ((ls s).drop a) = (4, n)) (hn : a + n ≤ s.size) (hc : 57 < s[a].toNat) (hd : s[a].toNat < 65) :
    Calls Tryd.prog 58 #[.string s, .int .i64 (a : Int)] w (NextQ ((ls s).drop a) a w) := by
  obtain ⟨v, hv, hvs, hsl⟩ := cut_s s a n hs hn
  have hmk := refMark_any s a
  rw [hnn] at hmk
  have HMK : Hid (∀ W, Calls Tryd.prog 74 #[.string s, .int .i64 (a : Int)] W fun e w' => e = .returned (.int .i64 (n : Nat)) ∧ W = w') := Lib.hid fun W => hmk W hs ha
  have hok : okL 4 (ls v) = decide (0 < (n : Int)) := by
    show decide (ls v ≠ []) = _
    have := ls_len v
    rw [hvs] at this
    cases hl : ls v with
    | nil => rw [hl] at this; simp at this; simp; omega
    | cons x r => rw [hl] at this; simp at this; simp; omega
  have HM := Lib.hid hm; have HV := Lib.hid hv; have HN := Lib.hid hnn; have HOK := Lib.hid hok
  have q0 : (s[a].toNat : Int) < 97 := by omega
  have q0d : decide (97 ≤ (s[a].toNat : Int)) = false := by rw [decide_eq_false_iff_not]; omega
  have q1 : (s[a].toNat : Int) < 65 := by omega
  have q1d : decide (65 ≤ (s[a].toNat : Int)) = false := by rw [decide_eq_false_iff_not]; omega
  have q2 : ((s[a].toNat : Int) == 35) = false := by rw [beq_eq_false_iff_ne]; omega
  have q3 : 48 ≤ (s[a].toNat : Int) := by omega
  have q3b : 57 < (s[a].toNat : Int) := by omega
  have q3bd : decide ((s[a].toNat : Int) ≤ 57) = false := by rw [decide_eq_false_iff_not]; omega
  have q4 : ((s[a].toNat : Int) == 45) = false := by rw [beq_eq_false_iff_ne]; omega
  clear hm hv hnn hmk hok hvs hc hd
  have HB2 : Hid (Below w.heap.size w (w.alloc (.cells #[.int .i64 0, .string ByteArray.empty, .int .i64 0] 86))) := Lib.hid ((Below.refl _ w).alloc (Nat.le_refl _) _)
  by_cases h0 : 0 < (n : Int)
  · go_enter Tryd.func58, Tryd.ntmps58
    go_wp2_with (go_at_call 74; refine (HMK.out _).mono ?_; rintro e w1 ⟨rfl, rfl⟩)
    have h0n : 0 < n := by omega
    obtain ⟨e0, e1, e2⟩ := fin3 (row_new (t := 86) w [.int .i64 0, .string ByteArray.empty, .int .i64 0]) (.int .i64 4) (.string v) (.int .i64 (a : Int))
    refine bodyPost_ret (v := .tuple #[.agg #[.int .i64 4, .string v, .int .i64 (a : Int)], .bool true]) (by simp [results, Tryd.results58, go_sem, e0, e1, e2, h0n]) rfl (next_fin (k := 4) HM.out HV.out (by rw [HOK.out, decide_eq_true (by omega)]) rfl (by repeat (first | exact HB2.out | exact Below.refl _ _ | refine Below.setCell ?_ (by simp) _ | refine Below.alloc ?_ (by have := HB2.out.size; first | exact Nat.le_refl _ | omega | (simp; omega) | simp) _)))
  · go_enter Tryd.func58, Tryd.ntmps58
    go_wp2_with (go_at_call 74; refine (HMK.out _).mono ?_; rintro e w1 ⟨rfl, rfl⟩)
    have h0n : n = 0 := by omega
    obtain ⟨e0, e1, e2⟩ := fin3 (row_new (t := 86) w [.int .i64 0, .string ByteArray.empty, .int .i64 0]) (.int .i64 4) (.string v) (.int .i64 (a : Int))
    refine bodyPost_ret (v := .tuple #[.agg #[.int .i64 4, .string v, .int .i64 (a : Int)], .bool false]) (by simp [results, Tryd.results58, go_sem, e0, e1, e2, h0n]) rfl (next_fin (k := 4) HM.out HV.out (by rw [HOK.out, decide_eq_false (by omega)]) rfl (by repeat (first | exact HB2.out | exact Below.refl _ _ | refine Below.setCell ?_ (by simp) _ | refine Below.alloc ?_ (by have := HB2.out.size; first | exact Nat.le_refl _ | omega | (simp; omega) | simp) _)))
set_option maxRecDepth 20000 in
set_option maxHeartbeats 4000000 in
theorem refNext_mc (s : ByteArray) (a : Nat) (w : World) (hs : s.size ≤ 20000) (ha : a < s.size) (n : Nat) (hnn : markL ((ls s).drop a) = n) (hm : measL ((ls s).drop a) = (4, n)) (hn : a + n ≤ s.size) (hc : 90 < s[a].toNat) (hd : s[a].toNat < 97) :
    Calls Tryd.prog 58 #[.string s, .int .i64 (a : Int)] w (NextQ ((ls s).drop a) a w) := by
  obtain ⟨v, hv, hvs, hsl⟩ := cut_s s a n hs hn
  have hmk := refMark_any s a
  rw [hnn] at hmk
  have HMK : Hid (∀ W, Calls Tryd.prog 74 #[.string s, .int .i64 (a : Int)] W fun e w' => e = .returned (.int .i64 (n : Nat)) ∧ W = w') := Lib.hid fun W => hmk W hs ha
  have hok : okL 4 (ls v) = decide (0 < (n : Int)) := by
    show decide (ls v ≠ []) = _
    have := ls_len v
    rw [hvs] at this
    cases hl : ls v with
    | nil => rw [hl] at this; simp at this; simp; omega
    | cons x r => rw [hl] at this; simp at this; simp; omega
  have HM := Lib.hid hm; have HV := Lib.hid hv; have HN := Lib.hid hnn; have HOK := Lib.hid hok
  have q0 : (s[a].toNat : Int) < 97 := by omega
  have q0d : decide (97 ≤ (s[a].toNat : Int)) = false := by rw [decide_eq_false_iff_not]; omega
  have q1 : 65 ≤ (s[a].toNat : Int) := by omega
  have q1b : 90 < (s[a].toNat : Int) := by omega
  have q1bd : decide ((s[a].toNat : Int) ≤ 90) = false := by rw [decide_eq_false_iff_not]; omega
  have q2 : ((s[a].toNat : Int) == 35) = false := by rw [beq_eq_false_iff_ne]; omega
  have q3 : 48 ≤ (s[a].toNat : Int) := by omega
  have q3b : 57 < (s[a].toNat : Int) := by omega
  have q3bd : decide ((s[a].toNat : Int) ≤ 57) = false := by rw [decide_eq_false_iff_not]; omega
  have q4 : ((s[a].toNat : Int) == 45) = false := by rw [beq_eq_false_iff_ne]; omega
  clear hm hv hnn hmk hok hvs hc hd
  have HB2 : Hid (Below w.heap.size w (w.alloc (.cells #[.int .i64 0, .string ByteArray.empty, .int .i64 0] 86))) := Lib.hid ((Below.refl _ w).alloc (Nat.le_refl _) _)
  by_cases h0 : 0 < (n : Int)
  · go_enter Tryd.func58, Tryd.ntmps58
    go_wp2_with (go_at_call 74; refine (HMK.out _).mono ?_; rintro e w1 ⟨rfl, rfl⟩)
    have h0n : 0 < n := by omega
    obtain ⟨e0, e1, e2⟩ := fin3 (row_new (t := 86) w [.int .i64 0, .string ByteArray.empty, .int .i64 0]) (.int .i64 4) (.string v) (.int .i64 (a : Int))
    refine bodyPost_ret (v := .tuple #[.agg #[.int .i64 4, .string v, .int .i64 (a : Int)], .bool true]) (by simp [results, Tryd.results58, go_sem, e0, e1, e2, h0n]) rfl (next_fin (k := 4) HM.out HV.out (by rw [HOK.out, decide_eq_true (by omega)]) rfl (by repeat (first | exact HB2.out | exact Below.refl _ _ | refine Below.setCell ?_ (by simp) _ | refine Below.alloc ?_ (by have := HB2.out.size; first | exact Nat.le_refl _ | omega | (simp; omega) | simp) _)))
  · go_enter Tryd.func58, Tryd.ntmps58
    go_wp2_with (go_at_call 74; refine (HMK.out _).mono ?_; rintro e w1 ⟨rfl, rfl⟩)
    have h0n : n = 0 := by omega
    obtain ⟨e0, e1, e2⟩ := fin3 (row_new (t := 86) w [.int .i64 0, .string ByteArray.empty, .int .i64 0]) (.int .i64 4) (.string v) (.int .i64 (a : Int))
    refine bodyPost_ret (v := .tuple #[.agg #[.int .i64 4, .string v, .int .i64 (a : Int)], .bool false]) (by simp [results, Tryd.results58, go_sem, e0, e1, e2, h0n]) rfl (next_fin (k := 4) HM.out HV.out (by rw [HOK.out, decide_eq_false (by omega)]) rfl (by repeat (first | exact HB2.out | exact Below.refl _ _ | refine Below.setCell ?_ (by simp) _ | refine Below.alloc ?_ (by have := HB2.out.size; first | exact Nat.le_refl _ | omega | (simp; omega) | simp) _)))
set_option maxRecDepth 20000 in
set_option maxHeartbeats 4000000 in
theorem refNext_md (s : ByteArray) (a : Nat) (w : World) (hs : s.size ≤ 20000) (ha : a < s.size) (n : Nat) (hnn : markL ((ls s).drop a) = n) (hm : measL ((ls s).drop a) = (4, n)) (hn : a + n ≤ s.size) (hc : 122 < s[a].toNat) :
    Calls Tryd.prog 58 #[.string s, .int .i64 (a : Int)] w (NextQ ((ls s).drop a) a w) := by
  obtain ⟨v, hv, hvs, hsl⟩ := cut_s s a n hs hn
  have hmk := refMark_any s a
  rw [hnn] at hmk
  have HMK : Hid (∀ W, Calls Tryd.prog 74 #[.string s, .int .i64 (a : Int)] W fun e w' => e = .returned (.int .i64 (n : Nat)) ∧ W = w') := Lib.hid fun W => hmk W hs ha
  have hok : okL 4 (ls v) = decide (0 < (n : Int)) := by
    show decide (ls v ≠ []) = _
    have := ls_len v
    rw [hvs] at this
    cases hl : ls v with
    | nil => rw [hl] at this; simp at this; simp; omega
    | cons x r => rw [hl] at this; simp at this; simp; omega
  have HM := Lib.hid hm; have HV := Lib.hid hv; have HN := Lib.hid hnn; have HOK := Lib.hid hok
  have q0 : 97 ≤ (s[a].toNat : Int) := by omega
  have q0b : 122 < (s[a].toNat : Int) := by omega
  have q0bd : decide ((s[a].toNat : Int) ≤ 122) = false := by rw [decide_eq_false_iff_not]; omega
  have q1 : 65 ≤ (s[a].toNat : Int) := by omega
  have q1b : 90 < (s[a].toNat : Int) := by omega
  have q1bd : decide ((s[a].toNat : Int) ≤ 90) = false := by rw [decide_eq_false_iff_not]; omega
  have q2 : ((s[a].toNat : Int) == 35) = false := by rw [beq_eq_false_iff_ne]; omega
  have q3 : 48 ≤ (s[a].toNat : Int) := by omega
  have q3b : 57 < (s[a].toNat : Int) := by omega
  have q3bd : decide ((s[a].toNat : Int) ≤ 57) = false := by rw [decide_eq_false_iff_not]; omega
  have q4 : ((s[a].toNat : Int) == 45) = false := by rw [beq_eq_false_iff_ne]; omega
  clear hm hv hnn hmk hok hvs hc
  have HB2 : Hid (Below w.heap.size w (w.alloc (.cells #[.int .i64 0, .string ByteArray.empty, .int .i64 0] 86))) := Lib.hid ((Below.refl _ w).alloc (Nat.le_refl _) _)
  by_cases h0 : 0 < (n : Int)
  · go_enter Tryd.func58, Tryd.ntmps58
    go_wp2_with (go_at_call 74; refine (HMK.out _).mono ?_; rintro e w1 ⟨rfl, rfl⟩)
    have h0n : 0 < n := by omega
    obtain ⟨e0, e1, e2⟩ := fin3 (row_new (t := 86) w [.int .i64 0, .string ByteArray.empty, .int .i64 0]) (.int .i64 4) (.string v) (.int .i64 (a : Int))
    refine bodyPost_ret (v := .tuple #[.agg #[.int .i64 4, .string v, .int .i64 (a : Int)], .bool true]) (by simp [results, Tryd.results58, go_sem, e0, e1, e2, h0n]) rfl (next_fin (k := 4) HM.out HV.out (by rw [HOK.out, decide_eq_true (by omega)]) rfl (by repeat (first | exact HB2.out | exact Below.refl _ _ | refine Below.setCell ?_ (by simp) _ | refine Below.alloc ?_ (by have := HB2.out.size; first | exact Nat.le_refl _ | omega | (simp; omega) | simp) _)))
  · go_enter Tryd.func58, Tryd.ntmps58
    go_wp2_with (go_at_call 74; refine (HMK.out _).mono ?_; rintro e w1 ⟨rfl, rfl⟩)
    have h0n : n = 0 := by omega
    obtain ⟨e0, e1, e2⟩ := fin3 (row_new (t := 86) w [.int .i64 0, .string ByteArray.empty, .int .i64 0]) (.int .i64 4) (.string v) (.int .i64 (a : Int))
    refine bodyPost_ret (v := .tuple #[.agg #[.int .i64 4, .string v, .int .i64 (a : Int)], .bool false]) (by simp [results, Tryd.results58, go_sem, e0, e1, e2, h0n]) rfl (next_fin (k := 4) HM.out HV.out (by rw [HOK.out, decide_eq_false (by omega)]) rfl (by repeat (first | exact HB2.out | exact Below.refl _ _ | refine Below.setCell ?_ (by simp) _ | refine Below.alloc ?_ (by have := HB2.out.size; first | exact Nat.le_refl _ | omega | (simp; omega) | simp) _)))
set_option maxRecDepth 20000 in
set_option maxHeartbeats 4000000 in
theorem refNext_me (s : ByteArray) (a : Nat) (w : World) (hs : s.size ≤ 20000) (ha : a < s.size) (n : Nat) (hnn : markL ((ls s).drop a) = n) (hm : measL ((ls s).drop a) = (4, n)) (hn : a + n ≤ s.size) (hc : s[a].toNat = 45) (h1 : ¬ a + 1 < s.size) :
    Calls Tryd.prog 58 #[.string s, .int .i64 (a : Int)] w (NextQ ((ls s).drop a) a w) := by
  obtain ⟨v, hv, hvs, hsl⟩ := cut_s s a n hs hn
  have hmk := refMark_any s a
  rw [hnn] at hmk
  have HMK : Hid (∀ W, Calls Tryd.prog 74 #[.string s, .int .i64 (a : Int)] W fun e w' => e = .returned (.int .i64 (n : Nat)) ∧ W = w') := Lib.hid fun W => hmk W hs ha
  have hok : okL 4 (ls v) = decide (0 < (n : Int)) := by
    show decide (ls v ≠ []) = _
    have := ls_len v
    rw [hvs] at this
    cases hl : ls v with
    | nil => rw [hl] at this; simp at this; simp; omega
    | cons x r => rw [hl] at this; simp at this; simp; omega
  have HM := Lib.hid hm; have HV := Lib.hid hv; have HN := Lib.hid hnn; have HOK := Lib.hid hok
  have q0 : (s[a].toNat : Int) < 97 := by omega
  have q0d : decide (97 ≤ (s[a].toNat : Int)) = false := by rw [decide_eq_false_iff_not]; omega
  have q1 : (s[a].toNat : Int) < 65 := by omega
  have q1d : decide (65 ≤ (s[a].toNat : Int)) = false := by rw [decide_eq_false_iff_not]; omega
  have q2 : ((s[a].toNat : Int) == 35) = false := by rw [beq_eq_false_iff_ne]; omega
  have q3 : (s[a].toNat : Int) < 48 := by omega
  have q3d : decide (48 ≤ (s[a].toNat : Int)) = false := by rw [decide_eq_false_iff_not]; omega
  have q4 : ((s[a].toNat : Int) == 45) = true := by rw [beq_iff_eq]; omega
  have q5 : ¬ (a : Int) + 1 < (s.size : Int) := by omega
  have q5d : decide ((a : Int) + 1 < (s.size : Int)) = false := by rw [decide_eq_false_iff_not]; omega
  clear hm hv hnn hmk hok hvs hc
  have HB2 : Hid (Below w.heap.size w (w.alloc (.cells #[.int .i64 0, .string ByteArray.empty, .int .i64 0] 86))) := Lib.hid ((Below.refl _ w).alloc (Nat.le_refl _) _)
  by_cases h0 : 0 < (n : Int)
  · go_enter Tryd.func58, Tryd.ntmps58
    go_wp2_with (go_at_call 74; refine (HMK.out _).mono ?_; rintro e w1 ⟨rfl, rfl⟩)
    have h0n : 0 < n := by omega
    obtain ⟨e0, e1, e2⟩ := fin3 (row_new (t := 86) w [.int .i64 0, .string ByteArray.empty, .int .i64 0]) (.int .i64 4) (.string v) (.int .i64 (a : Int))
    refine bodyPost_ret (v := .tuple #[.agg #[.int .i64 4, .string v, .int .i64 (a : Int)], .bool true]) (by simp [results, Tryd.results58, go_sem, e0, e1, e2, h0n]) rfl (next_fin (k := 4) HM.out HV.out (by rw [HOK.out, decide_eq_true (by omega)]) rfl (by repeat (first | exact HB2.out | exact Below.refl _ _ | refine Below.setCell ?_ (by simp) _ | refine Below.alloc ?_ (by have := HB2.out.size; first | exact Nat.le_refl _ | omega | (simp; omega) | simp) _)))
  · go_enter Tryd.func58, Tryd.ntmps58
    go_wp2_with (go_at_call 74; refine (HMK.out _).mono ?_; rintro e w1 ⟨rfl, rfl⟩)
    have h0n : n = 0 := by omega
    obtain ⟨e0, e1, e2⟩ := fin3 (row_new (t := 86) w [.int .i64 0, .string ByteArray.empty, .int .i64 0]) (.int .i64 4) (.string v) (.int .i64 (a : Int))
    refine bodyPost_ret (v := .tuple #[.agg #[.int .i64 4, .string v, .int .i64 (a : Int)], .bool false]) (by simp [results, Tryd.results58, go_sem, e0, e1, e2, h0n]) rfl (next_fin (k := 4) HM.out HV.out (by rw [HOK.out, decide_eq_false (by omega)]) rfl (by repeat (first | exact HB2.out | exact Below.refl _ _ | refine Below.setCell ?_ (by simp) _ | refine Below.alloc ?_ (by have := HB2.out.size; first | exact Nat.le_refl _ | omega | (simp; omega) | simp) _)))
set_option maxRecDepth 20000 in
set_option maxHeartbeats 4000000 in
theorem refNext_mf (s : ByteArray) (a : Nat) (w : World) (hs : s.size ≤ 20000) (ha : a < s.size) (n : Nat) (hnn : markL ((ls s).drop a) = n) (hm : measL ((ls s).drop a) = (4, n)) (hn : a + n ≤ s.size) (hc : s[a].toNat = 45) (h1 : a + 1 < s.size) (hd : s[a + 1].toNat < 48) :
    Calls Tryd.prog 58 #[.string s, .int .i64 (a : Int)] w (NextQ ((ls s).drop a) a w) := by
  obtain ⟨v, hv, hvs, hsl⟩ := cut_s s a n hs hn
  have hmk := refMark_any s a
  rw [hnn] at hmk
  have HMK : Hid (∀ W, Calls Tryd.prog 74 #[.string s, .int .i64 (a : Int)] W fun e w' => e = .returned (.int .i64 (n : Nat)) ∧ W = w') := Lib.hid fun W => hmk W hs ha
  have hok : okL 4 (ls v) = decide (0 < (n : Int)) := by
    show decide (ls v ≠ []) = _
    have := ls_len v
    rw [hvs] at this
    cases hl : ls v with
    | nil => rw [hl] at this; simp at this; simp; omega
    | cons x r => rw [hl] at this; simp at this; simp; omega
  have HM := Lib.hid hm; have HV := Lib.hid hv; have HN := Lib.hid hnn; have HOK := Lib.hid hok
  have q0 : (s[a].toNat : Int) < 97 := by omega
  have q0d : decide (97 ≤ (s[a].toNat : Int)) = false := by rw [decide_eq_false_iff_not]; omega
  have q1 : (s[a].toNat : Int) < 65 := by omega
  have q1d : decide (65 ≤ (s[a].toNat : Int)) = false := by rw [decide_eq_false_iff_not]; omega
  have q2 : ((s[a].toNat : Int) == 35) = false := by rw [beq_eq_false_iff_ne]; omega
  have q3 : (s[a].toNat : Int) < 48 := by omega
  have q3d : decide (48 ≤ (s[a].toNat : Int)) = false := by rw [decide_eq_false_iff_not]; omega
  have q4 : ((s[a].toNat : Int) == 45) = true := by rw [beq_iff_eq]; omega
  have q5 : (a : Int) + 1 < (s.size : Int) := by omega
  have q6 : (s[a + 1].toNat : Int) < 48 := by omega
  have q6d : decide (48 ≤ (s[a + 1].toNat : Int)) = false := by rw [decide_eq_false_iff_not]; omega
  clear hm hv hnn hmk hok hvs hc hd
  have HB2 : Hid (Below w.heap.size w (w.alloc (.cells #[.int .i64 0, .string ByteArray.empty, .int .i64 0] 86))) := Lib.hid ((Below.refl _ w).alloc (Nat.le_refl _) _)
  by_cases h0 : 0 < (n : Int)
  · go_enter Tryd.func58, Tryd.ntmps58
    go_wp2_with (go_at_call 74; refine (HMK.out _).mono ?_; rintro e w1 ⟨rfl, rfl⟩)
    have h0n : 0 < n := by omega
    obtain ⟨e0, e1, e2⟩ := fin3 (row_new (t := 86) w [.int .i64 0, .string ByteArray.empty, .int .i64 0]) (.int .i64 4) (.string v) (.int .i64 (a : Int))
    refine bodyPost_ret (v := .tuple #[.agg #[.int .i64 4, .string v, .int .i64 (a : Int)], .bool true]) (by simp [results, Tryd.results58, go_sem, e0, e1, e2, h0n]) rfl (next_fin (k := 4) HM.out HV.out (by rw [HOK.out, decide_eq_true (by omega)]) rfl (by repeat (first | exact HB2.out | exact Below.refl _ _ | refine Below.setCell ?_ (by simp) _ | refine Below.alloc ?_ (by have := HB2.out.size; first | exact Nat.le_refl _ | omega | (simp; omega) | simp) _)))
  · go_enter Tryd.func58, Tryd.ntmps58
    go_wp2_with (go_at_call 74; refine (HMK.out _).mono ?_; rintro e w1 ⟨rfl, rfl⟩)
    have h0n : n = 0 := by omega
    obtain ⟨e0, e1, e2⟩ := fin3 (row_new (t := 86) w [.int .i64 0, .string ByteArray.empty, .int .i64 0]) (.int .i64 4) (.string v) (.int .i64 (a : Int))
    refine bodyPost_ret (v := .tuple #[.agg #[.int .i64 4, .string v, .int .i64 (a : Int)], .bool false]) (by simp [results, Tryd.results58, go_sem, e0, e1, e2, h0n]) rfl (next_fin (k := 4) HM.out HV.out (by rw [HOK.out, decide_eq_false (by omega)]) rfl (by repeat (first | exact HB2.out | exact Below.refl _ _ | refine Below.setCell ?_ (by simp) _ | refine Below.alloc ?_ (by have := HB2.out.size; first | exact Nat.le_refl _ | omega | (simp; omega) | simp) _)))
set_option maxRecDepth 20000 in
set_option maxHeartbeats 4000000 in
theorem refNext_mg (s : ByteArray) (a : Nat) (w : World) (hs : s.size ≤ 20000) (ha : a < s.size) (n : Nat) (hnn : markL ((ls s).drop a) = n) (hm : measL ((ls s).drop a) = (4, n)) (hn : a + n ≤ s.size) (hc : s[a].toNat = 45) (h1 : a + 1 < s.size) (hd : 57 < s[a + 1].toNat) :
    Calls Tryd.prog 58 #[.string s, .int .i64 (a : Int)] w (NextQ ((ls s).drop a) a w) := by
  obtain ⟨v, hv, hvs, hsl⟩ := cut_s s a n hs hn
  have hmk := refMark_any s a
  rw [hnn] at hmk
  have HMK : Hid (∀ W, Calls Tryd.prog 74 #[.string s, .int .i64 (a : Int)] W fun e w' => e = .returned (.int .i64 (n : Nat)) ∧ W = w') := Lib.hid fun W => hmk W hs ha
  have hok : okL 4 (ls v) = decide (0 < (n : Int)) := by
    show decide (ls v ≠ []) = _
    have := ls_len v
    rw [hvs] at this
    cases hl : ls v with
    | nil => rw [hl] at this; simp at this; simp; omega
    | cons x r => rw [hl] at this; simp at this; simp; omega
  have HM := Lib.hid hm; have HV := Lib.hid hv; have HN := Lib.hid hnn; have HOK := Lib.hid hok
  have q0 : (s[a].toNat : Int) < 97 := by omega
  have q0d : decide (97 ≤ (s[a].toNat : Int)) = false := by rw [decide_eq_false_iff_not]; omega
  have q1 : (s[a].toNat : Int) < 65 := by omega
  have q1d : decide (65 ≤ (s[a].toNat : Int)) = false := by rw [decide_eq_false_iff_not]; omega
  have q2 : ((s[a].toNat : Int) == 35) = false := by rw [beq_eq_false_iff_ne]; omega
  have q3 : (s[a].toNat : Int) < 48 := by omega
  have q3d : decide (48 ≤ (s[a].toNat : Int)) = false := by rw [decide_eq_false_iff_not]; omega
  have q4 : ((s[a].toNat : Int) == 45) = true := by rw [beq_iff_eq]; omega
  have q5 : (a : Int) + 1 < (s.size : Int) := by omega
  have q6 : 48 ≤ (s[a + 1].toNat : Int) := by omega
  have q7 : 57 < (s[a + 1].toNat : Int) := by omega
  have q7d : decide ((s[a + 1].toNat : Int) ≤ 57) = false := by rw [decide_eq_false_iff_not]; omega
  clear hm hv hnn hmk hok hvs hc hd
  have HB2 : Hid (Below w.heap.size w (w.alloc (.cells #[.int .i64 0, .string ByteArray.empty, .int .i64 0] 86))) := Lib.hid ((Below.refl _ w).alloc (Nat.le_refl _) _)
  by_cases h0 : 0 < (n : Int)
  · go_enter Tryd.func58, Tryd.ntmps58
    go_wp2_with (go_at_call 74; refine (HMK.out _).mono ?_; rintro e w1 ⟨rfl, rfl⟩)
    have h0n : 0 < n := by omega
    obtain ⟨e0, e1, e2⟩ := fin3 (row_new (t := 86) w [.int .i64 0, .string ByteArray.empty, .int .i64 0]) (.int .i64 4) (.string v) (.int .i64 (a : Int))
    refine bodyPost_ret (v := .tuple #[.agg #[.int .i64 4, .string v, .int .i64 (a : Int)], .bool true]) (by simp [results, Tryd.results58, go_sem, e0, e1, e2, h0n]) rfl (next_fin (k := 4) HM.out HV.out (by rw [HOK.out, decide_eq_true (by omega)]) rfl (by repeat (first | exact HB2.out | exact Below.refl _ _ | refine Below.setCell ?_ (by simp) _ | refine Below.alloc ?_ (by have := HB2.out.size; first | exact Nat.le_refl _ | omega | (simp; omega) | simp) _)))
  · go_enter Tryd.func58, Tryd.ntmps58
    go_wp2_with (go_at_call 74; refine (HMK.out _).mono ?_; rintro e w1 ⟨rfl, rfl⟩)
    have h0n : n = 0 := by omega
    obtain ⟨e0, e1, e2⟩ := fin3 (row_new (t := 86) w [.int .i64 0, .string ByteArray.empty, .int .i64 0]) (.int .i64 4) (.string v) (.int .i64 (a : Int))
    refine bodyPost_ret (v := .tuple #[.agg #[.int .i64 4, .string v, .int .i64 (a : Int)], .bool false]) (by simp [results, Tryd.results58, go_sem, e0, e1, e2, h0n]) rfl (next_fin (k := 4) HM.out HV.out (by rw [HOK.out, decide_eq_false (by omega)]) rfl (by repeat (first | exact HB2.out | exact Below.refl _ _ | refine Below.setCell ?_ (by simp) _ | refine Below.alloc ?_ (by have := HB2.out.size; first | exact Nat.le_refl _ | omega | (simp; omega) | simp) _)))
theorem refNext_any (s : ByteArray) (a : Nat) (w : World) (hs : s.size ≤ 20000) (ha : a < s.size) :
    Calls Tryd.prog 58 #[.string s, .int .i64 (a : Int)] w (NextQ ((ls s).drop a) a w) := by
  cases h1 : lowC s[a] with
  | true => exact refNext_low s a w hs ha h1
  | false =>
  cases h2 : uppC s[a] with
  | true => exact refNext_upp s a w hs ha h2
  | false =>
  by_cases h3 : s[a].toNat = 35
  · exact refNext_v35 s a w hs ha h3
  cases h4 : digC s[a] with
  | true => exact refNext_vdg s a w hs ha h4
  | false =>
  have hcs : (s[a].toNat = 45 ∧ ∃ h : a + 1 < s.size, digC s[a + 1] = true) ∨ (s[a].toNat = 45 → ∀ d r, (ls s).drop (a + 1) = d :: r → digC d = false) := by
    by_cases h45 : s[a].toNat = 45
    · by_cases hl : a + 1 < s.size
      · cases hd : digC s[a + 1] with
        | true => exact .inl ⟨h45, hl, hd⟩
        | false => exact .inr fun _ d r hr => by rw [drop_c s (a + 1) hl] at hr; injection hr with hr _; rw [← hr]; exact hd
      · exact .inr fun _ d r hr => by
          have := congrArg List.length hr; rw [List.length_drop, ls_len] at this; simp at this; omega
    · exact .inr fun h => absurd h h45
  rcases hcs with ⟨h45, hl, hd⟩ | h5
  · exact refNext_vmn s a w hs ha h45 hl hd
  have hm := meas_mrk (r := (ls s).drop (a + 1)) h1 h2 h3 h4 h5
  rw [← drop_c s a ha] at hm
  have hle := meas_le (l := (ls s).drop a) (by rw [drop_c s a ha]; simp)
  rw [hm, List.length_drop, ls_len] at hle
  have hn : a + markL ((ls s).drop a) ≤ s.size := by simp only at hle; omega
  simp only [lowC, uppC, digC, decide_eq_false_iff_not] at h1 h2 h4
  by_cases h45 : s[a].toNat = 45
  · by_cases hl : a + 1 < s.size
    · have hd := h5 h45 _ _ (drop_c s (a + 1) hl)
      simp only [digC, decide_eq_false_iff_not] at hd
      by_cases h48 : s[a + 1].toNat < 48
      · exact refNext_mf s a w hs ha _ rfl hm hn h45 hl h48
      · exact refNext_mg s a w hs ha _ rfl hm hn h45 hl (by omega)
    · exact refNext_me s a w hs ha _ rfl hm hn h45 hl
  by_cases k1 : s[a].toNat < 48
  · exact refNext_ma s a w hs ha _ rfl hm hn k1 h3 h45
  by_cases k2 : s[a].toNat < 65
  · exact refNext_mb s a w hs ha _ rfl hm hn (by omega) k2
  by_cases k3 : s[a].toNat < 97
  · exact refNext_mc s a w hs ha _ rfl hm hn (by omega) k3
  · exact refNext_md s a w hs ha _ rfl hm hn (by omega)
end Go.Proofs.YtdolhlbkhhnpmaaDoor
namespace Go.Proofs.YtdolhlbkhhnpmaaDoor
open Go.RowKit FloM ValM Go.Shelf
set_option linter.unusedVariables false
set_option linter.unusedSimpArgs false

/-! ### Tokens -/
theorem toks_sep {c : UInt8} {r : List UInt8} (hc : sepC c = true) (a : Nat) : toksL a (c :: r) = toksL (a + 1) r := by
  rw [toks_skip a (c :: r), toks_skip (a + 1) r, span_yes hc]
  rw [show a + (spanL sepC r + 1) = a + 1 + spanL sepC r by omega]; rfl
set_option maxRecDepth 20000 in
set_option maxHeartbeats 1000000 in
theorem refTok_long (s : ByteArray) (w : World) (hs : 20000 < (s.size : Int)) :
    Calls Tryd.prog 36 #[.string s] w fun e w' => e = .returned (.tuple #[.slice none 0 0, .int .i64 0, .int .i64 4]) ∧ w = w' := by
  go_enter Tryd.func36, Tryd.ntmps36
  go_wp2
  go_ret3
  exact ⟨rfl, rfl⟩
theorem info_rtok : (Tryd.prog.info? 86).map (fun i => (i.zero, i.size, i.bytes)) = some (some (.agg #[.int .i64 0, .string ByteArray.empty, .int .i64 0]), 3, 32) := by kernel_rfl
/-- The document's Tokens at the head of its loop: k bytes are done. -/
def RTokRel (s : ByteArray) (w : World) (k : Nat) (ts : List Tk) (A : Option Addr) (c : Nat) (wr : World) : Prop := k ≤ s.size ∧ ts.length ≤ k ∧ toksL 0 (ls s) = (toksL k ((ls s).drop k)).lay ts ∧
  wr.ownsRow w.heap.size 86 3 (.slice A ts.length c) ts.length (tcells ts) ∧ Below w.heap.size w wr
set_option maxRecDepth 20000 in
set_option maxHeartbeats 8000000 in
theorem refTok_any (s : ByteArray) (w : World) (hs : ¬ 20000 < (s.size : Int)) :
    Calls Tryd.prog 36 #[.string s] w (SaysK (toksL 0 (ls s)) w) := by
  go_enter Tryd.func36, Tryd.ntmps36
  go_wp2
  go_loopw [5, 6] (fun u v wr => ∃ (k : Nat) (ts : List Tk) (A : Option Addr) (c : Nat), u = .slice A ts.length c ∧ v = .int .i64 (k : Nat) ∧ RTokRel s w k ts A c wr) (fun _ v _ => s.size - (intOf v).toNat)
  case atStart => exact ⟨0, [], none, 0, rfl, rfl, Nat.zero_le _, Nat.le_refl _, by rw [lay_nil]; rfl, own_nil _ _ _ _, Below.refl _ _⟩
  case round =>
    obtain ⟨k, ts, A, cp, rfl, rfl, hk, htk, hR, hown, hB⟩ := hrel
    have HR := Lib.hid hR; have HO := Lib.hid hown; have HB := Lib.hid hB
    clear hR hown hB
    by_cases hlt : k < s.size
    · cases hsp : sepC s[k] with
      | true =>
        have HS := Lib.hid hsp
        have hcs : ((s[k].toNat : Int) == 32) = true ∨ (((s[k].toNat : Int) == 32) = false ∧ ((s[k].toNat : Int) == 9) = true) ∨ (((s[k].toNat : Int) == 32) = false ∧ ((s[k].toNat : Int) == 9) = false ∧ ((s[k].toNat : Int) == 10) = true) := by
          simp only [sepC, decide_eq_true_eq] at hsp
          simp only [beq_iff_eq, beq_eq_false_iff_ne]; omega
        clear hsp
        rcases hcs with q0 | ⟨q0, q1⟩ | ⟨q0, q1, q2⟩
        all_goals
          go_wp2
          go_roundw
          case rel => exact ⟨k + 1, ts, A, cp, rfl, by go_num, by omega, by omega, by rw [HR.out, drop_c s k hlt, toks_sep HS.out], HO.out, HB.out⟩
          case measure => simp [intOf]; omega
      | false =>
        have h0 : spanL sepC ((ls s).drop k) = 0 := by rw [drop_c s k hlt, span_no hsp]
        have H0 := Lib.hid h0
        obtain ⟨q0, q1, q2⟩ : ((s[k].toNat : Int) == 32) = false ∧ ((s[k].toNat : Int) == 9) = false ∧ ((s[k].toNat : Int) == 10) = false := by
          simp only [sepC, decide_eq_false_iff_not] at hsp
          simp only [beq_eq_false_iff_ne]; omega
        clear hsp h0
        obtain ⟨i0, hi0, hz0, hz1, hz2⟩ := info_parts info_rtok
        have HI := Lib.hid (And.intro hi0 (And.intro hz0 (And.intro hz1 hz2)))
        clear hi0 hz0 hz1 hz2
        obtain ⟨kd, n, hm⟩ : ∃ kd n, measL ((ls s).drop k) = (kd, n) := ⟨_, _, rfl⟩
        obtain ⟨v, hv⟩ : ∃ v : ByteArray, ls v = ((ls s).drop k).take n := ⟨bs _, ls_bs _⟩
        have hnx : Hid (∀ W, Calls Tryd.prog 58 #[.string s, .int .i64 (k : Int)] W fun e w' => e = .returned (.tuple #[.agg #[.int .i64 (kd : Nat), .string v, .int .i64 (k : Nat)], .bool (okL kd (ls v))]) ∧ Below W.heap.size W w') := Lib.hid fun W => by
          have := refNext_any s k W (by omega) hlt
          unfold NextQ at this
          rw [hm] at this
          simp only [← hv, bs_ls] at this
          exact this
        cases ho : okL kd (ls v) with
        | false =>
          have hf : firstL ((ls s).drop k) = none := by unfold firstL; rw [hm, ← hv, ho]; rfl
          have hbad : toksL 0 (ls s) = .bad k := by
            rw [HR.out, toks_bad (by rw [H0.out, List.drop_zero, drop_c s k hlt]; simp) (by rw [H0.out]; simpa using hf), H0.out]; rfl
          have HBD := Lib.hid hbad
          rw [ho] at hnx
          clear hf hbad hm hv ho
          go_wp2_with (go_at_call 58; refine (hnx.out _).mono ?_; rintro e w2 ⟨rfl, hb⟩; have HB2 := Lib.hid hb; clear hb)
          go_ret3
          rw [HBD.out]
          exact ⟨rfl, (on HB.out HB2.out).alloc (on HB.out HB2.out).size _⟩
        | true =>
          have hf : firstL ((ls s).drop k) = some (kd, n) := by unfold firstL; rw [hm, ← hv, ho]; rfl
          have hp := first_pos hf
          rw [List.length_drop, ls_len] at hp
          have hvs : v.size = n := by rw [← ls_len, hv, List.length_take, List.length_drop, ls_len]; omega
          have hmore : toksL 0 (ls s) = (toksL (k + v.size) ((ls s).drop (k + v.size))).lay (ts ++ [⟨kd, ls v, k⟩]) := by
            rw [HR.out, toks_more (k := kd) (n := n) (by rw [H0.out]; simpa using hf), H0.out, lay_pre, hv, hvs]
            simp [List.drop_drop]
          have HM := Lib.hid hmore
          have hps : 0 < v.size ∧ k + v.size ≤ s.size := by omega
          rw [ho] at hnx
          clear hf hmore hm hv ho hvs hp
          obtain ⟨hp1, hp2⟩ := hps
          go_wp2_with (first | (go_at_call 58; refine (hnx.out _).mono ?_; rintro e w2 ⟨rfl, hb⟩; have HB2 := Lib.hid hb; have hw2 : w.heap.size ≤ w2.heap.size := (on HB.out hb).size; clear hb) | (at_builtin; refine wpList_append_own _ rfl (.tmp 43) (.tmp 45) _ rfl w.heap.size 86 i0 _ 3 32 Tryd.underlying83 HI.out.1 HI.out.2.1 HI.out.2.2.1 HI.out.2.2.2 rfl (by omega) (.slice A ts.length cp) ts.length _ rfl (own_on (own_on HO.out HB2.out) (((Below.refl _ _).alloc (Nat.le_refl _) _).alloc (by simp) _)) ⟨w2.heap.size + 1, 0, none⟩ 1 1 [.int .i64 (kd : Int), .string v, .int .i64 (k : Int)] rfl (by simp) (news_two w2 _ #[.int .i64 (kd : Int), .string v, .int .i64 (k : Int)] _) (by simp [Value.oneCell']) (by unfold maxLen; omega) (by omega) (by simp; omega) ?_; intro v' w' ho' hg' _; obtain ⟨A2, cp2, rfl⟩ := own_form ho'; have HO2 := Lib.hid ho'; have HG := Lib.hid hg'; have e3 := app_new hg' (fun e => by have := own_lt (own_on HO.out HB2.out) _ e.symm; omega) 1; simp only [List.getElem?_toArray, List.getElem?_cons_zero, List.getElem?_cons_succ] at e3; clear ho' hg'))
          go_roundw
          case rel =>
            have hbw : Below w.heap.size w w' := by
              have h1 := on (on HB.out HB2.out) (((Below.refl _ w2).alloc (Nat.le_refl _) (.cells #[.int .i64 (kd : Int), .string v, .int .i64 (k : Int)] 86)).alloc (by simp) (.cells #[.int .i64 (kd : Int), .string v, .int .i64 (k : Int)] 86))
              exact h1.grown HG.out h1.size (fun q hq => by have := own_base HO.out q hq; omega)
            have hlen : (ts ++ [(⟨kd, ls v, k⟩ : Tk)]).length = ts.length + 1 := by simp
            refine ⟨k + v.size, ts ++ [⟨kd, ls v, k⟩], A2, cp2, by rw [hlen], by go_num, hp2, by rw [hlen]; omega, HM.out, ?_, hbw⟩
            rw [hlen, tcells_app, tcells_one, bs_ls]
            exact HO2.out
          case measure => simp [intOf]; omega
    · obtain rfl : k = s.size := by omega
      have hfin : toksL 0 (ls s) = .good ts := by
        rw [HR.out, List.drop_of_length_le (by rw [ls_len]; exact Nat.le_refl _), toks_end rfl]; simp [Rs.lay]
      have HF := Lib.hid hfin
      clear hfin
      go_wp2
      go_ret3
      rw [HF.out]
      exact ⟨A, cp, rfl, own_rdK HO.out, HB.out⟩

/-! ### same -/
theorem bel_drawsR {B : Nat} {w u : World} (h : Below B w u) (k : Nat) : Below B w (u.drewN k) := ⟨h.os, h.tape, h.output, h.size, h.block⟩
end Go.Proofs.YtdolhlbkhhnpmaaDoor

/-
  Contracts of strings.CutPrefix at a prefix of one byte, and of value.readDigits.
-/
import Derived.Test.YtncafadjcelloaaDoorValName
namespace Go.Proofs.YtncafadjcelloaaDoor
open Go.RowKit FloM ValM

set_option maxRecDepth 20000 in
set_option maxHeartbeats 400000 in
theorem hasPre_any (s p : ByteArray) (w : World) (hp : p.size ≤ s.size) : Calls Tryd.prog 140 #[.string s, .string p] w fun e w' => e = .returned (.bool ((s.extract 0 p.size).toList == p.toList)) ∧ w = w' := by
  go_enter Tryd.func140, Tryd.ntmps140
  go_wp2
  go_ret
  exact ⟨rfl, rfl⟩
set_option maxRecDepth 20000 in
set_option maxHeartbeats 400000 in
theorem hasPre_short (s p : ByteArray) (w : World) (hp : s.size < p.size) : Calls Tryd.prog 140 #[.string s, .string p] w fun e w' => e = .returned (.bool false) ∧ w = w' := by
  go_enter Tryd.func140, Tryd.ntmps140
  go_wp2
  go_ret
  exact ⟨rfl, rfl⟩
def hasP (s p : ByteArray) : Bool := decide (p.size ≤ s.size) && ((s.extract 0 p.size).toList == p.toList)
theorem hasP_any (s p : ByteArray) (w : World) : Calls Tryd.prog 140 #[.string s, .string p] w fun e w' => e = .returned (.bool (hasP s p)) ∧ w = w' := by
  by_cases h : p.size ≤ s.size
  · refine (hasPre_any s p w h).mono ?_
    rintro e w' ⟨rfl, rfl⟩
    exact ⟨ret_bool (by unfold hasP; rw [decide_eq_true h]; rfl), rfl⟩
  · refine (hasPre_short s p w (by omega)).mono ?_
    rintro e w' ⟨rfl, rfl⟩
    exact ⟨ret_bool (by unfold hasP; rw [decide_eq_false h]; rfl), rfl⟩
theorem hasP_le {s p : ByteArray} (h : hasP s p = true) : p.size ≤ s.size := by
  unfold hasP at h; rw [Bool.and_eq_true, decide_eq_true_eq] at h; exact h.1

set_option maxRecDepth 20000 in
set_option maxHeartbeats 400000 in
theorem cutL_no (s p : ByteArray) (w : World) (h : hasP s p = false) : Calls Tryd.prog 137 #[.string s, .string p] w fun e w' => e = .returned (.tuple #[.string s, .bool false]) ∧ w = w' := by
  go_enter Tryd.func137, Tryd.ntmps137
  go_wp2_with (go_at_call 140; refine (hasP_any _ _ _).mono ?_; rintro e w' ⟨rfl, rfl⟩)
  go_ret2
  exact ⟨rfl, rfl⟩
set_option maxRecDepth 20000 in
set_option maxHeartbeats 400000 in
theorem cutL_yes (s p : ByteArray) (w : World) (h : hasP s p = true) : Calls Tryd.prog 137 #[.string s, .string p] w fun e w' => e = .returned (.tuple #[.string (s.extract p.size s.size), .bool true]) ∧ w = w' := by
  have hp := hasP_le h
  go_enter Tryd.func137, Tryd.ntmps137
  go_wp2_with (go_at_call 140; refine (hasP_any _ _ _).mono ?_; rintro e w' ⟨rfl, rfl⟩)
  go_ret2
  exact ⟨rfl, rfl⟩
set_option maxRecDepth 20000 in
set_option maxHeartbeats 400000 in
theorem cut_no (s p : ByteArray) (w : World) (h : hasP s p = false) : Calls Tryd.prog 123 #[.string s, .string p] w fun e w' => e = .returned (.tuple #[.string s, .bool false]) ∧ w = w' := by
  go_enter Tryd.func123, Tryd.ntmps123
  go_wp2_with (go_at_call 137; refine (cutL_no _ _ _ h).mono ?_; rintro e w' ⟨rfl, rfl⟩)
  go_ret2
  exact ⟨rfl, rfl⟩
set_option maxRecDepth 20000 in
set_option maxHeartbeats 400000 in
theorem cut_yes (s p : ByteArray) (w : World) (h : hasP s p = true) : Calls Tryd.prog 123 #[.string s, .string p] w fun e w' => e = .returned (.tuple #[.string (s.extract p.size s.size), .bool true]) ∧ w = w' := by
  go_enter Tryd.func123, Tryd.ntmps123
  go_wp2_with (go_at_call 137; refine (cutL_yes _ _ _ h).mono ?_; rintro e w' ⟨rfl, rfl⟩)
  go_ret2
  exact ⟨rfl, rfl⟩

/-! ### readDigits -/
def digOk (b most : Nat) (l : List UInt8) : Bool := allDig b l && decide (numOf b l ≤ most)
def ReadsAs (b most : Nat) (l : List UInt8) (w : World) (e : Ending) (w' : World) : Prop :=
  ∃ n : Nat, e = .returned (.tuple #[.int .u64 n, .bool (digOk b most l)]) ∧ n ≤ most ∧ (digOk b most l = true → n = numOf b l) ∧ w = w'
theorem ReadsAs.bad {b most n : Nat} {l : List UInt8} {w : World} (h : digOk b most l = false) (hn : n ≤ most) : ReadsAs b most l w (.returned (.tuple #[.int .u64 n, .bool false])) w :=
  ⟨n, by rw [h], hn, fun h' => absurd (h.symm.trans h') Bool.false_ne_true, rfl⟩
theorem ReadsAs.good {b most n : Nat} {l : List UInt8} {w : World} (h : digOk b most l = true) (hn : n ≤ most) (he : n = numOf b l) : ReadsAs b most l w (.returned (.tuple #[.int .u64 n, .bool true])) w :=
  ⟨n, by rw [h], hn, fun _ => he, rfl⟩
theorem dig_bad (b most : Nat) (s : ByteArray) (k : Nat) (h : k < s.size) (hc : isDig b s[k] = false) : digOk b most (ls s) = false := by
  unfold digOk allDig; rw [split_at s k h]; simp [hc]
theorem dig_over (b most : Nat) (hb : 1 ≤ b) (s : ByteArray) (k : Nat) (h : k < s.size) (hc : most < numOf b ((ls s).take k) * b + dval s[k]) : digOk b most (ls s) = false := by
  have := numOf_mono b hb ((ls s).take (k + 1)) ((ls s).drop (k + 1))
  rw [List.take_append_drop, take_snoc s k h, numOf_snoc] at this
  unfold digOk; rw [decide_eq_false (by omega)]; simp
theorem dig_step (b : Nat) (s : ByteArray) (k n : Nat) (h : k < s.size) (ha : allDig b ((ls s).take k) = true ∧ numOf b ((ls s).take k) = n) (hc : isDig b s[k] = true) :
    allDig b ((ls s).take (k + 1)) = true ∧ numOf b ((ls s).take (k + 1)) = n * b + dval s[k] := by
  rw [take_snoc s k h, allDig_snoc, numOf_snoc, ha.1, ha.2, hc]; exact ⟨rfl, rfl⟩
def RdRel (b most : Nat) (s : ByteArray) (n i : Value) : Prop := ∃ k m : Nat, k ≤ s.size ∧ i = .int .i64 k ∧ n = .int .u64 m ∧ m ≤ most ∧ allDig b ((ls s).take k) = true ∧ numOf b ((ls s).take k) = m

set_option maxRecDepth 20000 in
set_option maxHeartbeats 2000000 in
theorem readDigits_10 (s : ByteArray) (most : Nat) (w : World) (hs : s.size ≤ maxLen) (h0 : 16 ≤ most) (h1 : most < 18446744073709551616) :
    Calls Tryd.prog 124 #[.string s, .int .u64 10, .int .u64 most] w (ReadsAs 10 most (ls s) w) := by
  unfold maxLen at hs
  go_enter Tryd.func124, Tryd.ntmps124
  go_wp2
  go_step3
  go_wp2
  go_step3
  go_wp2
  go_loop [8, 9, 10, 11] (fun n i _ _ => RdRel 10 most s n i) (fun _ i _ _ => s.size - (intOf i).toNat)
  case atStart => exact ⟨0, 0, Nat.zero_le _, rfl, rfl, Nat.zero_le _, rfl, rfl⟩
  case round =>
    obtain ⟨k, m, hk, rfl, rfl, hm, ha, hn⟩ := hrel
    have HA := Lib.hid (And.intro ha hn); clear ha hn
    by_cases hlt : k < s.size
    · have hc : s[k].toNat < 256 := s[k].toNat_lt
      by_cases hd : 48 ≤ (s[k].toNat : Int) ∧ (s[k].toNat : Int) ≤ 57
      · obtain ⟨hd1, hd2⟩ := hd
        have hv : dval s[k] = s[k].toNat - 48 := by unfold dval; split <;> omega
        have HD := Lib.hid (show isDig 10 s[k] = true by rw [isDig_iff]; omega)
        have HV := Lib.hid hv; clear hv
        by_cases hle : m * 10 + (s[k].toNat - 48) ≤ most
        · have hq : ((m : Int)) ≤ ((most : Int) - ((s[k].toNat : Int) - 48)) / 10 := by omega
          go_wp2
          go_round
          case rel =>
            have hst := dig_step 10 s k m hlt HA.out HD.out
            exact ⟨k + 1, m * 10 + (s[k].toNat - 48), by omega, by go_num, by first | rfl | go_num | (congr 1; omega), hle, hst.1, by rw [hst.2, HV.out]⟩
          case measure => simp [intOf]; omega
        · have hq : ((most : Int) - ((s[k].toNat : Int) - 48)) / 10 < (m : Int) := by omega
          have hne : ((k : Int) == (s.size : Int)) = false := by rw [beq_eq_false_iff_ne]; omega
          have HO := Lib.hid (dig_over 10 most (by omega) s k hlt (by rw [HA.out.2, HV.out]; omega)); clear hle
          go_wp2
          go_ret2
          exact ReadsAs.bad HO.out hm
      · have HC := Lib.hid (dig_bad 10 most s k hlt (by rw [← Bool.not_eq_true, isDig_iff]; omega))
        have hne : ((k : Int) == (s.size : Int)) = false := by rw [beq_eq_false_iff_ne]; omega
        go_wp2
        all_goals
          go_ret2
          exact ReadsAs.bad HC.out hm
    · obtain rfl : k = s.size := by omega
      have hne : (((s.size : Nat) : Int) == (s.size : Int)) = true := by simp
      have HE := Lib.hid (show digOk 10 most (ls s) = true ∧ m = numOf 10 (ls s) by
        have := HA.out; rw [take_all s s.size (Nat.le_refl _)] at this
        exact ⟨by unfold digOk; rw [this.1, this.2, decide_eq_true hm]; rfl, this.2.symm⟩)
      go_wp2
      go_ret2
      exact ReadsAs.good HE.out.1 hm HE.out.2

set_option maxRecDepth 20000 in
set_option maxHeartbeats 2000000 in
theorem readDigits_16 (s : ByteArray) (most : Nat) (w : World) (hs : s.size ≤ maxLen) (h0 : 16 ≤ most) (h1 : most < 18446744073709551616) :
    Calls Tryd.prog 124 #[.string s, .int .u64 16, .int .u64 most] w (ReadsAs 16 most (ls s) w) := by
  unfold maxLen at hs
  go_enter Tryd.func124, Tryd.ntmps124
  go_wp2
  go_step3
  go_wp2
  go_step3
  go_wp2
  go_loop [8, 9, 10, 11] (fun n i _ _ => RdRel 16 most s n i) (fun _ i _ _ => s.size - (intOf i).toNat)
  case atStart => exact ⟨0, 0, Nat.zero_le _, rfl, rfl, Nat.zero_le _, rfl, rfl⟩
  case round =>
    obtain ⟨k, m, hk, rfl, rfl, hm, ha, hn⟩ := hrel
    have HA := Lib.hid (And.intro ha hn); clear ha hn
    by_cases hlt : k < s.size
    · have hc : s[k].toNat < 256 := s[k].toNat_lt
      by_cases hd : 48 ≤ (s[k].toNat : Int) ∧ (s[k].toNat : Int) ≤ 57
      · obtain ⟨hd1, hd2⟩ := hd
        have hv : dval s[k] = s[k].toNat - 48 := by unfold dval; split <;> omega
        have HD := Lib.hid (show isDig 16 s[k] = true by rw [isDig_iff]; omega)
        have HV := Lib.hid hv; clear hv
        by_cases hle : m * 16 + (s[k].toNat - 48) ≤ most
        · have hq : ((m : Int)) ≤ ((most : Int) - ((s[k].toNat : Int) - 48)) / 16 := by omega
          go_wp2
          go_round
          case rel =>
            have hst := dig_step 16 s k m hlt HA.out HD.out
            exact ⟨k + 1, m * 16 + (s[k].toNat - 48), by omega, by go_num, by first | rfl | go_num | (congr 1; omega), hle, hst.1, by rw [hst.2, HV.out]⟩
          case measure => simp [intOf]; omega
        · have hq : ((most : Int) - ((s[k].toNat : Int) - 48)) / 16 < (m : Int) := by omega
          have hne : ((k : Int) == (s.size : Int)) = false := by rw [beq_eq_false_iff_ne]; omega
          have HO := Lib.hid (dig_over 16 most (by omega) s k hlt (by rw [HA.out.2, HV.out]; omega)); clear hle
          go_wp2
          go_ret2
          exact ReadsAs.bad HO.out hm
      · by_cases ha : 97 ≤ (s[k].toNat : Int) ∧ (s[k].toNat : Int) ≤ 102
        · obtain ⟨ha1, ha2⟩ := ha
          have hd1 : 57 < (s[k].toNat : Int) := by omega
          clear hd
          have hv : dval s[k] = s[k].toNat - 87 := by unfold dval; split <;> omega
          have HD := Lib.hid (show isDig 16 s[k] = true by rw [isDig_iff]; omega)
          have HV := Lib.hid hv; clear hv
          by_cases hle : m * 16 + (s[k].toNat - 87) ≤ most
          · have hq : ((m : Int)) ≤ ((most : Int) - ((s[k].toNat : Int) - 87)) / 16 := by omega
            go_wp2
            go_round
            case rel =>
              have hst := dig_step 16 s k m hlt HA.out HD.out
              exact ⟨k + 1, m * 16 + (s[k].toNat - 87), by omega, by go_num, by first | rfl | go_num | (congr 1; omega), hle, hst.1, by rw [hst.2, HV.out]⟩
            case measure => simp [intOf]; omega
          · have hq : ((most : Int) - ((s[k].toNat : Int) - 87)) / 16 < (m : Int) := by omega
            have hne : ((k : Int) == (s.size : Int)) = false := by rw [beq_eq_false_iff_ne]; omega
            have HO := Lib.hid (dig_over 16 most (by omega) s k hlt (by rw [HA.out.2, HV.out]; omega)); clear hle
            go_wp2
            go_ret2
            exact ReadsAs.bad HO.out hm
        · have HC := Lib.hid (dig_bad 16 most s k hlt (by rw [← Bool.not_eq_true, isDig_iff]; omega))
          have hne : ((k : Int) == (s.size : Int)) = false := by rw [beq_eq_false_iff_ne]; omega
          go_wp2
          all_goals
            go_ret2
            exact ReadsAs.bad HC.out hm
    · obtain rfl : k = s.size := by omega
      have hne : (((s.size : Nat) : Int) == (s.size : Int)) = true := by simp
      have HE := Lib.hid (show digOk 16 most (ls s) = true ∧ m = numOf 16 (ls s) by
        have := HA.out; rw [take_all s s.size (Nat.le_refl _)] at this
        exact ⟨by unfold digOk; rw [this.1, this.2, decide_eq_true hm]; rfl, this.2.symm⟩)
      go_wp2
      go_ret2
      exact ReadsAs.good HE.out.1 hm HE.out.2
end Go.Proofs.YtncafadjcelloaaDoor

/-
  Contracts of antecedentref02.Digits, Text, Read.
-/
import Derived.Test.YtahnnefmkcpibaaDoorValNum
namespace Go.Proofs.YtahnnefmkcpibaaDoor
open Go.RowKit FloM ValM

/-! ### Digits -/
def strOf : Value → ByteArray | .string s => s | _ => ByteArray.empty
def DigRel (b n0 : Nat) (w : World) (v0 v5 : Value) (wr : World) : Prop := ∃ (n : Nat) (acc : List UInt8), v0 = .int .u64 n ∧ v5 = .string (bs acc) ∧ acc.length ≤ 20 ∧ n < b ^ (20 - acc.length) ∧ n ≤ n0 ∧
  padTo (1 - acc.length) (digs b n) ++ acc = padTo 1 (digs b n0) ∧ Below w.heap.size w wr
theorem one_byte (w : World) (c : UInt8) (x : Int) (hx : x = c.toNat) : (convert 71 9 (.slice (some ⟨w.heap.size, 0, none⟩) 1 1)).run Tryd.prog (w.alloc (.cells #[.int .u8 x] 5)) = .ok (.string (bs [c])) (w.alloc (.cells #[.int .u8 x] 5)) := by
  have h : Row 5 (w.alloc (.cells #[.int .u8 x] 5)) w.heap.size ([] ++ [c].map bval) := by
    subst hx; exact heap_alloc_new w _
  exact conv_row h Tryd.underlying71 Tryd.underlying5 Tryd.underlying9 1
theorem bs_cons (c : UInt8) (acc : List UInt8) : bs [c] ++ bs acc = bs (c :: acc) := by apply ls_inj; rw [ls_append]; rfl
theorem dig_pos (b n : Nat) (acc : List UInt8) (hb : 2 ≤ b) (hlen : acc.length ≤ 20) (hlt : n < b ^ (20 - acc.length)) (h : 0 < n ∨ acc = []) : acc.length < 20 ∧ n / b < b ^ (20 - (acc.length + 1)) := by
  have h20 : acc.length < 20 := by
    rcases h with h | rfl
    · rcases Nat.lt_or_eq_of_le hlen with h' | h'
      · exact h'
      · rw [h'] at hlt; simp at hlt; omega
    · simp
  refine ⟨h20, ?_⟩
  rw [Nat.div_lt_iff_lt_mul (by omega), ← Nat.pow_succ, show (20 - (acc.length + 1)).succ = 20 - acc.length from by omega]; exact hlt

set_option maxHeartbeats 4000000 in
theorem refDigits_10 (n0 : Nat) (w : World) (hn : n0 < 18446744073709551616) :
    Calls Tryd.prog 50 #[.int .u64 n0, .int .u64 10] w fun e w' => e = .returned (.string (bs (padTo 1 (digs 10 n0)))) ∧ Below w.heap.size w w' := by
  go_enter Tryd.func50, Tryd.ntmps50
  go_wp2
  go_loopw [0, 5, 6, 7] (fun n s _ _ wr => DigRel 10 n0 w n s wr) (fun n s _ _ _ => (intOf n).toNat + (1 - (strOf s).size))
  case atStart => exact ⟨n0, [], rfl, rfl, Nat.zero_le _, by simp; omega, Nat.le_refl _, by simp, Below.refl _ _⟩
  case round =>
    obtain ⟨n, acc, rfl, rfl, hlen, hlt, hle, hpad, hbel⟩ := hrel
    have HP := Lib.hid hpad; clear hpad
    by_cases h0 : 0 < n
    · have HQ := Lib.hid (dig_pos 10 n acc (by omega) hlen hlt (.inl h0)); clear hlt
      have HS := Lib.hid (pad_step 10 1 n acc (by omega) (.inl h0))
      have hd := Nat.mod_lt n (show 0 < 10 by omega)
      have hd9 : (n : Int) % 10 ≤ 9 := by omega
      have hcv := one_byte wr (dch (n % 10)) (48 + (n : Int) % 10) (by rw [dch_toNat _ (by omega)]; split <;> omega)
      have hsz : ¬ 9223372036854775807 < (bs [dch (n % 10)]).size + (bs acc).size := by rw [bs_size, bs_size]; simp; omega
      go_wp2
      go_roundw
      case rel =>
        obtain ⟨p1, p2⟩ := HQ.out
        exact ⟨n / 10, dch (n % 10) :: acc, by first | rfl | go_num, congrArg Value.string (bs_cons _ _), by rw [List.length_cons]; omega, by rw [List.length_cons]; exact p2, by omega, (HS.out).symm.trans HP.out, (hbel.alloc hbel.size _)⟩
      case measure => simp [intOf, strOf, bs_cons, bs_size] <;> omega
    · obtain rfl : n = 0 := by omega
      by_cases ha : acc = []
      · have HQ := Lib.hid (dig_pos 10 0 acc (by omega) hlen hlt (.inr ha)); clear hlt
        have HS := Lib.hid (pad_step 10 1 0 acc (by omega) (.inr (by rw [ha]; simp)))
        have hem : (bs acc).toList = [] := by rw [toList_ls, ls_bs, ha]
        have hem' : (bs acc).toList.isEmpty = true := by rw [hem]; rfl
        have hal : acc.length = 0 := by rw [ha]; rfl
        have HA := Lib.hid hal; clear hal ha
        have hcv := one_byte wr (dch (0 % 10)) 48 (by rw [dch_toNat _ (by omega)]; rfl)
        have hsz : ¬ 9223372036854775807 < (bs [dch (0 % 10)]).size + (bs acc).size := by rw [bs_size, bs_size]; simp; omega
        go_wp2
        go_roundw
        case rel =>
          obtain ⟨p1, p2⟩ := HQ.out
          exact ⟨0 / 10, dch (0 % 10) :: acc, by first | rfl | go_num, congrArg Value.string (bs_cons _ _), by rw [List.length_cons]; omega, by rw [List.length_cons]; exact p2, by omega, (HS.out).symm.trans HP.out, (hbel.alloc hbel.size _)⟩
        case measure => have := HA.out; simp [intOf, strOf, bs_cons, bs_size] <;> omega
      · have hal : 0 < acc.length := List.length_pos_iff.2 ha
        have hem := ne_list (u := bs acc) (by rw [bs_size]; exact hal)
        have hem' := ne_list' (u := bs acc) (by rw [bs_size]; exact hal)
        have HR := Lib.hid (show padTo 1 (digs 10 n0) = acc by rw [← HP.out]; exact pad_done 10 1 acc hal)
        clear hlt ha
        go_wp2
        go_ret
        exact ⟨ret_str (by rw [HR.out]), hbel⟩

set_option maxHeartbeats 4000000 in
theorem refDigits_16 (n0 : Nat) (w : World) (hn : n0 < 18446744073709551616) :
    Calls Tryd.prog 50 #[.int .u64 n0, .int .u64 16] w fun e w' => e = .returned (.string (bs (padTo 1 (digs 16 n0)))) ∧ Below w.heap.size w w' := by
  go_enter Tryd.func50, Tryd.ntmps50
  go_wp2
  go_loopw [0, 5, 6, 7] (fun n s _ _ wr => DigRel 16 n0 w n s wr) (fun n s _ _ _ => (intOf n).toNat + (1 - (strOf s).size))
  case atStart => exact ⟨n0, [], rfl, rfl, Nat.zero_le _, by simp; omega, Nat.le_refl _, by simp, Below.refl _ _⟩
  case round =>
    obtain ⟨n, acc, rfl, rfl, hlen, hlt, hle, hpad, hbel⟩ := hrel
    have HP := Lib.hid hpad; clear hpad
    by_cases h0 : 0 < n
    · have HQ := Lib.hid (dig_pos 16 n acc (by omega) hlen hlt (.inl h0)); clear hlt
      have HS := Lib.hid (pad_step 16 1 n acc (by omega) (.inl h0))
      have hd := Nat.mod_lt n (show 0 < 16 by omega)
      by_cases hd9 : (n : Int) % 16 ≤ 9
      · have hcv := one_byte wr (dch (n % 16)) (48 + (n : Int) % 16) (by rw [dch_toNat _ (by omega)]; split <;> omega)
        have hsz : ¬ 9223372036854775807 < (bs [dch (n % 16)]).size + (bs acc).size := by rw [bs_size, bs_size]; simp; omega
        go_wp2
        go_roundw
        case rel =>
          obtain ⟨p1, p2⟩ := HQ.out
          exact ⟨n / 16, dch (n % 16) :: acc, by first | rfl | go_num, congrArg Value.string (bs_cons _ _), by rw [List.length_cons]; omega, by rw [List.length_cons]; exact p2, by omega, (HS.out).symm.trans HP.out, (hbel.alloc hbel.size _)⟩
        case measure => simp [intOf, strOf, bs_cons, bs_size] <;> omega
      · have hd9' : 9 < (n : Int) % 16 := by omega
        have hcv := one_byte wr (dch (n % 16)) (97 + (n : Int) % 16 - 10) (by rw [dch_toNat _ (by omega)]; split <;> omega)
        have hsz : ¬ 9223372036854775807 < (bs [dch (n % 16)]).size + (bs acc).size := by rw [bs_size, bs_size]; simp; omega
        go_wp2
        go_roundw
        case rel =>
          obtain ⟨p1, p2⟩ := HQ.out
          exact ⟨n / 16, dch (n % 16) :: acc, by first | rfl | go_num, congrArg Value.string (bs_cons _ _), by rw [List.length_cons]; omega, by rw [List.length_cons]; exact p2, by omega, (HS.out).symm.trans HP.out, (hbel.alloc hbel.size _)⟩
        case measure => simp [intOf, strOf, bs_cons, bs_size] <;> omega
    · obtain rfl : n = 0 := by omega
      by_cases ha : acc = []
      · have HQ := Lib.hid (dig_pos 16 0 acc (by omega) hlen hlt (.inr ha)); clear hlt
        have HS := Lib.hid (pad_step 16 1 0 acc (by omega) (.inr (by rw [ha]; simp)))
        have hem : (bs acc).toList = [] := by rw [toList_ls, ls_bs, ha]
        have hem' : (bs acc).toList.isEmpty = true := by rw [hem]; rfl
        have hal : acc.length = 0 := by rw [ha]; rfl
        have HA := Lib.hid hal; clear hal ha
        have hcv := one_byte wr (dch (0 % 16)) 48 (by rw [dch_toNat _ (by omega)]; rfl)
        have hsz : ¬ 9223372036854775807 < (bs [dch (0 % 16)]).size + (bs acc).size := by rw [bs_size, bs_size]; simp; omega
        go_wp2
        go_roundw
        case rel =>
          obtain ⟨p1, p2⟩ := HQ.out
          exact ⟨0 / 16, dch (0 % 16) :: acc, by first | rfl | go_num, congrArg Value.string (bs_cons _ _), by rw [List.length_cons]; omega, by rw [List.length_cons]; exact p2, by omega, (HS.out).symm.trans HP.out, (hbel.alloc hbel.size _)⟩
        case measure => have := HA.out; simp [intOf, strOf, bs_cons, bs_size] <;> omega
      · have hal : 0 < acc.length := List.length_pos_iff.2 ha
        have hem := ne_list (u := bs acc) (by rw [bs_size]; exact hal)
        have hem' := ne_list' (u := bs acc) (by rw [bs_size]; exact hal)
        have HR := Lib.hid (show padTo 1 (digs 16 n0) = acc by rw [← HP.out]; exact pad_done 16 1 acc hal)
        clear hlt ha
        go_wp2
        go_ret
        exact ⟨ret_str (by rw [HR.out]), hbel⟩
end Go.Proofs.YtahnnefmkcpibaaDoor

/-
  Contracts of package flo: Code, Right, Back, Add, Sub, Mul, Div, Of; of math.IsNaN, math.NaN; of the statements' own 'awake' and 'same'.
-/
import Derived.Test.YtljpeehnjjbebaaChecked
import Derived.Test.YtljpeehnjjbebaaFloMath
import Derived.WalkKit
import Derived.WalkLawsBesides
import Derived.Laws.FloatArith
import Derived.Laws.BitsAllLaws
import Derived.Laws.Externs
import Derived.Lib.Hide
import Derived.RowKit3
import Derived.BigQuiet
namespace Go.Proofs.Ytljpeehnjjbebaa
open Go.RowKit FloM

/-! ### The world after draws -/
def Drawn (w w' : World) : Prop := ∃ n, w' = w.drewN n
theorem Drawn.refl (w : World) : Drawn w w := ⟨0, rfl⟩
theorem Drawn.trans {a b c : World} (h : Drawn a b) (g : Drawn b c) : Drawn a c := by
  obtain ⟨n, rfl⟩ := h; obtain ⟨m, rfl⟩ := g; exact ⟨n + m, by rw [World.drewN_drewN]⟩
theorem Drawn.grown {w w' : World} (h : Drawn w w') : Grown w w' := by
  obtain ⟨n, rfl⟩ := h
  induction n with
  | zero => exact Grown.refl w
  | succ n ih => exact ih
theorem Drawn.drew (w : World) : Drawn w w.drew := ⟨1, rfl⟩

@[go_sem] theorem bitsOf (x : Nat) (w : World) : (callFunc 24 #[.float .f64 x]).run Try.prog w = .ok (.value (.int .u64 x)) w := by
  rw [run_callFunc_extern Try.func24 (by kernel_rfl) (by kernel_rfl) (by kernel_rfl) (e := Extern.MathFloatBits.float64bits) (by kernel_rfl)]; rfl
@[go_sem] theorem bitsFrom (n : Int) (w : World) : (callFunc 28 #[.int .u64 n]).run Try.prog w = .ok (.value (.float .f64 n.toNat)) w := by
  rw [run_callFunc_extern Try.func28 (by kernel_rfl) (by kernel_rfl) (by kernel_rfl) (e := Extern.MathFloatBits.float64frombits) (by kernel_rfl)]; rfl

/-! ### Bits of words -/
theorem and_sign (x : Nat) (h : x < 9223372036854775808) : (bits .and .u64 (x : Int) 9223372036854775808 == 0) = true := by
  have := u64_and_nat x 9223372036854775808 (by omega) (by omega)
  rw [show ((9223372036854775808 : Nat) : Int) = (9223372036854775808 : Int) from rfl] at this
  have h0 : x &&& 2 ^ 63 = 0 := by
    refine Nat.eq_of_testBit_eq fun i => ?_
    rw [Nat.testBit_and, Nat.testBit_two_pow, Nat.zero_testBit]
    by_cases hi : 63 = i
    · subst hi; rw [Nat.testBit_lt_two_pow (by simpa using h)]; rfl
    · simp [hi]
  rw [this, show (9223372036854775808 : Nat) = 2 ^ 63 from by decide, h0]; rfl
theorem and_sign' (x : Nat) (h : x < 18446744073709551616) (h1 : 9223372036854775808 ≤ x) : (bits .and .u64 (x : Int) 9223372036854775808 == 0) = false := by
  have := u64_and_nat x 9223372036854775808 (by omega) (by omega)
  rw [show ((9223372036854775808 : Nat) : Int) = (9223372036854775808 : Int) from rfl] at this
  obtain ⟨r, rfl⟩ : ∃ r, x = 2 ^ 63 + r := ⟨x - 9223372036854775808, by simp; omega⟩
  have h0 : (2 ^ 63 + r) &&& 2 ^ 63 ≠ 0 := by
    intro hz
    have ht := congrArg (fun n => Nat.testBit n 63) hz
    simp only [Nat.testBit_and, Nat.testBit_two_pow_add_eq, Nat.testBit_two_pow, Nat.zero_testBit] at ht
    rw [Nat.testBit_lt_two_pow (by simp at h ⊢; omega)] at ht
    exact absurd ht (by decide)
  rw [this, show (9223372036854775808 : Nat) = 2 ^ 63 from by decide, beq_eq_false_iff_ne]
  omega
theorem andNot_sign (x : Nat) (h : x < 18446744073709551616) : bits .andNot .u64 (x : Int) 9223372036854775808 = ((x % 9223372036854775808 : Nat) : Int) := by
  have := u64_andNot_nat x 9223372036854775808 (by omega) (by omega)
  rw [show ((9223372036854775808 : Nat) : Int) = (9223372036854775808 : Int) from rfl] at this
  rw [this, show (18446744073709551615 - 9223372036854775808 : Nat) = 2 ^ 63 - 1 from by decide, Nat.and_two_pow_sub_one_eq_mod]
theorem or_sign (n : Int) (h0 : 0 ≤ n) (h : n < 9223372036854775808) : bits .or .u64 n 9223372036854775808 = n + 9223372036854775808 := by
  obtain ⟨x, rfl⟩ := Int.eq_ofNat_of_zero_le h0
  have := u64_or_nat x 9223372036854775808 (by omega) (by omega)
  rw [show ((9223372036854775808 : Nat) : Int) = (9223372036854775808 : Int) from rfl] at this
  have h2 := Nat.two_pow_add_eq_or_of_lt (i := 63) (b := x) (by simp; omega) 1
  rw [Nat.mul_one] at h2
  rw [this, Nat.or_comm, show (9223372036854775808 : Nat) = 2 ^ 63 from by decide, ← h2]
  omega

theorem ret_int {k : IntKind} {a b : Int} (h : a = b) : Ending.returned (.int k a) = .returned (.int k b) := by rw [h]
theorem ret_flo {k : FloatKind} {a b : Nat} (h : a = b) : Ending.returned (.float k a) = .returned (.float k b) := by rw [h]
theorem ret_bool {a b : Bool} (h : a = b) : Ending.returned (.bool a) = .returned (.bool b) := by rw [h]

/-! ### Code -/
theorem w64_id (n : Int) (h : -9223372036854775808 ≤ n) (h2 : n < 9223372036854775808) : wrap64 n = n := by unfold wrap64; omega

set_option maxHeartbeats 400000 in
theorem code_nan (x : Nat) (w : World) (hn : (FloatKind.f64.format.order x x != some .eq) = true) :
    Calls Try.prog 11 #[.float .f64 x] w fun e w' => e = .returned (.int .i64 9221120237041090561) ∧ w = w' := by
  go_enter Try.func11, Try.ntmps11
  go_wp2
  go_ret
  exact ⟨rfl, rfl⟩
set_option maxHeartbeats 400000 in
theorem code_pos (x : Nat) (w : World) (hn : (FloatKind.f64.format.order x x != some .eq) = false) (ha : (bits .and .u64 (x : Int) 9223372036854775808 == 0) = true) :
    Calls Try.prog 11 #[.float .f64 x] w fun e w' => e = .returned (.int .i64 (wrap64 x)) ∧ w = w' := by
  go_enter Try.func11, Try.ntmps11
  go_wp2
  go_ret
  exact ⟨rfl, rfl⟩
set_option maxHeartbeats 400000 in
theorem code_neg (x : Nat) (w : World) (hn : (FloatKind.f64.format.order x x != some .eq) = false) (ha : (bits .and .u64 (x : Int) 9223372036854775808 == 0) = false) :
    Calls Try.prog 11 #[.float .f64 x] w fun e w' => e = .returned (.int .i64 (wrap64 (-1 - wrap64 (bits .andNot .u64 (x : Int) 9223372036854775808)))) ∧ w = w' := by
  go_enter Try.func11, Try.ntmps11
  go_wp2
  go_ret
  exact ⟨rfl, rfl⟩

theorem code_any (x : Nat) (w : World) (hx : x < 18446744073709551616) :
    Calls Try.prog 11 #[.float .f64 x] w fun e w' => e = .returned (.int .i64 (codeW x)) ∧ w = w' := by
  have ho := order_self x hx
  by_cases hn : isN x = true
  · rw [codeW_isN hn]; exact code_nan x w (by rw [← hn, ← ho]; rfl)
  · have hn' : (FloatKind.f64.format.order x x != some .eq) = false := by rw [show (FloatKind.f64.format.order x x != some .eq) = isN x from ho]; simpa using hn
    have hr : ¬ infR < x % 9223372036854775808 := by simpa [isN] using hn
    unfold infR at hr
    by_cases h1 : 9223372036854775808 ≤ x
    · refine (code_neg x w hn' (and_sign' x hx h1)).mono ?_
      rintro e w' ⟨rfl, rfl⟩
      refine ⟨ret_int ?_, rfl⟩
      rw [andNot_sign x hx, w64_id ((x % 9223372036854775808 : Nat) : Int) (by omega) (by omega), w64_id _ (by omega) (by omega)]
      unfold codeW code infR; rw [if_neg hr]; simp [h1]
    · refine (code_pos x w hn' (and_sign x (by omega))).mono ?_
      rintro e w' ⟨rfl, rfl⟩
      refine ⟨ret_int ?_, rfl⟩
      rw [w64_id _ (by omega) (by omega)]
      unfold codeW code infR; rw [if_neg hr]; simp [h1]; omega

/-! ### Right and Back -/
set_option maxHeartbeats 400000 in
theorem right_any (n : Int) (w : World) : Calls Try.prog 13 #[.int .i64 n] w fun e w' => e = .returned (.bool (right n)) ∧ w = w' := by
  by_cases h1 : -9218868437227405313 ≤ n
  · by_cases h2 : n ≤ 9218868437227405312
    · have e : right n = true := by rw [right_iff]; exact .inl ⟨h1, h2⟩
      rw [e]; clear e
      go_enter Try.func13, Try.ntmps13
      go_wp2
      all_goals (go_ret; exact ⟨rfl, rfl⟩)
    · have e : right n = (n == 9221120237041090561) := by unfold right NaNc; simp [h2]
      rw [e]; clear e
      go_enter Try.func13, Try.ntmps13
      go_wp2
      all_goals (go_ret; exact ⟨rfl, rfl⟩)
  · have e : right n = (n == 9221120237041090561) := by unfold right NaNc; simp [h1]
    rw [e]; clear e
    go_enter Try.func13, Try.ntmps13
    go_wp2
    all_goals (go_ret; exact ⟨rfl, rfl⟩)

set_option maxHeartbeats 400000 in
theorem nan_any (w : World) : Calls Try.prog 27 #[] w fun e w' => e = .returned (.float .f64 9221120237041090561) ∧ w = w' := by
  go_enter Try.func27, Try.ntmps27
  go_wp2
  go_ret
  exact ⟨rfl, rfl⟩

set_option maxHeartbeats 400000 in
theorem back_bad (n : Int) (w : World) (h : right n = false) : Calls Try.prog 16 #[.int .i64 n] w fun e w' => e = .returned (.float .f64 9221120237041090561) ∧ w = w' := by
  go_enter Try.func16, Try.ntmps16
  go_wp2_with (first | (go_at_call 13; refine (right_any _ _).mono ?_; rintro e w' ⟨rfl, rfl⟩) | (go_at_call 27; refine (nan_any _).mono ?_; rintro e w' ⟨rfl, rfl⟩))
  go_ret
  exact ⟨rfl, rfl⟩
set_option maxHeartbeats 400000 in
theorem back_pos (n : Int) (w : World) (h : right n = true) (h0 : 0 ≤ n) : Calls Try.prog 16 #[.int .i64 n] w fun e w' => e = .returned (.float .f64 (IntKind.u64.wrap n).toNat) ∧ w = w' := by
  go_enter Try.func16, Try.ntmps16
  go_wp2_with (first | (go_at_call 13; refine (right_any _ _).mono ?_; rintro e w' ⟨rfl, rfl⟩) | (go_at_call 27; refine (nan_any _).mono ?_; rintro e w' ⟨rfl, rfl⟩))
  go_ret
  exact ⟨rfl, rfl⟩
set_option maxHeartbeats 400000 in
theorem back_neg (n : Int) (w : World) (h : right n = true) (h0 : n < 0) : Calls Try.prog 16 #[.int .i64 n] w fun e w' => e = .returned (.float .f64 (bits .or .u64 (IntKind.u64.wrap (wrap64 (-1 - n))) 9223372036854775808).toNat) ∧ w = w' := by
  go_enter Try.func16, Try.ntmps16
  go_wp2_with (first | (go_at_call 13; refine (right_any _ _).mono ?_; rintro e w' ⟨rfl, rfl⟩) | (go_at_call 27; refine (nan_any _).mono ?_; rintro e w' ⟨rfl, rfl⟩))
  go_ret
  exact ⟨rfl, rfl⟩

theorem back_any (n : Int) (w : World) : Calls Try.prog 16 #[.int .i64 n] w fun e w' => e = .returned (.float .f64 (backW n)) ∧ w = w' := by
  by_cases h : right n = true
  · have hb := (right_iff n).1 h
    unfold NaNc at hb
    by_cases h0 : 0 ≤ n
    · refine (back_pos n w h h0).mono ?_
      rintro e w' ⟨rfl, rfl⟩
      refine ⟨ret_flo ?_, rfl⟩
      have e1 : IntKind.u64.wrap n = n := by simp [IntKind.wrap, IntKind.bits, IntKind.signed]; omega
      rw [e1]
      unfold backW backS backR wd
      simp [h, h0, show ¬ n < 0 from by omega]
    · refine (back_neg n w h (by omega)).mono ?_
      rintro e w' ⟨rfl, rfl⟩
      refine ⟨ret_flo ?_, rfl⟩
      have e1 : IntKind.u64.wrap (-1 - n) = -1 - n := by simp [IntKind.wrap, IntKind.bits, IntKind.signed]; omega
      rw [w64_id _ (by omega) (by omega), e1, or_sign _ (by omega) (by omega)]
      unfold backW backS backR wd
      simp [h, h0, show n < 0 from by omega]; omega
  · have h : right n = false := by simpa using h
    refine (back_bad n w h).mono ?_
    rintro e w' ⟨rfl, rfl⟩
    refine ⟨ret_flo ?_, rfl⟩
    unfold backW backS backR wd; rw [h]; rfl
end Go.Proofs.Ytljpeehnjjbebaa

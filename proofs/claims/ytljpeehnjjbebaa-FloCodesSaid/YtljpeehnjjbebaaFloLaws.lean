/-
  The plain mathematics of layer 1, more: what is reckoned with codes, case by case; the order of codes. No program is named here.
-/
import Derived.Test.YtljpeehnjjbebaaFloMath
namespace FloM
open Ieee

theorem sum_comm (d e : Datum) : d.sum e = e.sum d := by
  cases d with
  | nan a b => cases e <;> rfl
  | infinity s =>
    cases e with
    | nan a b => rfl
    | infinity t => cases s <;> cases t <;> rfl
    | number t n j => rfl
  | number s m i =>
    cases e with
    | nan a b => rfl
    | infinity t => rfl
    | number t n j =>
      simp only [Datum.sum]
      rw [Int.min_comm j i, Int.add_comm (signed t n _), Bool.and_comm t s]
theorem product_comm (d e : Datum) : d.product e = e.product d := by
  cases d with
  | nan a b => cases e <;> rfl
  | infinity s =>
    cases e with
    | nan a b => rfl
    | infinity t => cases s <;> cases t <;> rfl
    | number t n j => rfl
  | number s m i =>
    cases e with
    | nan a b => rfl
    | infinity t => rfl
    | number t n j =>
      simp only [Datum.product]
      rw [Bool.xor_comm t s, Nat.mul_comm n m, Int.add_comm j i]
theorem add_comm' (x y : Nat) : double.add x y = double.add y x := by unfold Format.add; rw [sum_comm]
theorem mul_comm' (x y : Nat) : double.mul x y = double.mul y x := by unfold Format.mul; rw [product_comm]

theorem add_nanR (x y : Nat) (hy : y < 18446744073709551616) (h : isN y = true) : double.add x y = none := by
  obtain ⟨s, f, h⟩ := read_isN hy h; unfold Format.add; rw [h]; cases double.read x <;> rfl
theorem sub_nanR (x y : Nat) (hy : y < 18446744073709551616) (h : isN y = true) : double.sub x y = none := by
  obtain ⟨s, f, h⟩ := read_isN hy h; unfold Format.sub; rw [h]; cases double.read x <;> rfl
theorem mul_nanR (x y : Nat) (hy : y < 18446744073709551616) (h : isN y = true) : double.mul x y = none := by
  obtain ⟨s, f, h⟩ := read_isN hy h; unfold Format.mul; rw [h]; cases double.read x <;> rfl
theorem div_nanR (x y : Nat) (hy : y < 18446744073709551616) (h : isN y = true) : double.div x y = none := by
  obtain ⟨s, f, h⟩ := read_isN hy h; unfold Format.div; rw [h]; cases double.read x <;> rfl
theorem div_nanL (x y : Nat) (hx : x < 18446744073709551616) (h : isN x = true) : double.div x y = none := by
  obtain ⟨s, f, h⟩ := read_isN hx h; unfold Format.div; rw [h]; cases double.read y <;> rfl

/-- A number is no code, or NaN's, or that of a sign and a rung. -/
theorem back_cases (n : Int) : ((right n = false ∨ n = NaNc) ∧ isN (backW n) = true) ∨ (right n = true ∧ n ≠ NaNc ∧ ∃ s r, r ≤ infR ∧ backW n = wd s r ∧ n = code s r ∧ n = if s then -1 - (r : Int) else r) := by
  by_cases h : right n = true
  · by_cases hn : n = NaNc
    · left; exact ⟨.inr hn, by subst hn; decide⟩
    · right
      refine ⟨h, hn, backS n, backR n, ?_, rfl, ?_, ?_⟩
      · have hb := (right_iff n).1 h
        unfold backR infR; unfold NaNc at *; rw [if_pos h]; split <;> omega
      · rw [← codeW_wd _ _ (backR_lt n)]; exact (code_back n h).symm
      · have hb := (right_iff n).1 h
        unfold backS backR; rw [h]; unfold NaNc at *
        by_cases h0 : 0 ≤ n
        · simp [h0, show ¬ n < 0 from by omega]; omega
        · simp [h0, show n < 0 from by omega]; omega
  · left
    have h : right n = false := by simpa using h
    exact ⟨.inl h, by unfold backW backS backR; rw [h]; rfl⟩

theorem infR_lt : infR < 9223372036854775808 := by decide

theorem code_of {s : Bool} {r : Nat} (h : r ≤ infR) : code s r = if s then -1 - (r : Int) else r := by unfold code; rw [if_neg (by omega)]

theorem codeO_wd {s : Bool} {r : Nat} (h : r ≤ infR) : codeO (some (wd s r)) = code s r := codeW_wd s r (Nat.lt_of_le_of_lt h infR_lt)

/-! ### The other sign -/
theorem read_neg (s : Bool) (r : Nat) (h : r ≤ infR) : double.read (wd (!s) r) = (double.read (wd s r)).opposite := by
  rcases Nat.lt_or_eq_of_le h with h | rfl
  · rw [read_wd _ r h, read_wd _ r h]; rfl
  · rw [read_inf, read_inf]; rfl
theorem sub_eq_add (x : Nat) (s : Bool) (r : Nat) (h : r ≤ infR) : double.sub x (wd s r) = double.add x (wd (!s) r) := by
  unfold Format.sub Format.add; rw [read_neg s r h]
theorem mul_minus (s : Bool) (r : Nat) (h : r ≤ infR) : double.mul 13830554455654793216 (wd s r) = some (wd (!s) r) := by
  have h1 : double.read 13830554455654793216 = .number true 4503599627370496 (-52) := by decide
  unfold Format.mul
  rcases Nat.lt_or_eq_of_le h with h | rfl
  · rw [h1, read_wd s r h, ← nearest_rung (!s) r (by omega)]
    simp only [Datum.product, Option.map_some, Format.write, Bool.true_xor, Option.some.injEq]
    refine nearest_same double (!s) 0 52 ?_ (by omega)
    rw [Nat.shiftLeft_zero, Nat.shiftLeft_eq, Nat.mul_comm]
  · rw [h1, read_inf]
    cases s <;> rfl

/-! ### Sums with infinity, and with itself -/
theorem add_inf (s t : Bool) (r : Nat) (h : r < infR) : double.add (wd s r) (wd t infR) = some (wd t infR) := by
  unfold Format.add; rw [read_wd s r h, read_inf]; cases t <;> rfl
theorem div_inf (s t : Bool) (r : Nat) (h : r < infR) : double.div (wd s r) (wd t infR) = some (wd (s ^^ t) 0) := by
  unfold Format.div; rw [read_wd s r h, read_inf]; cases s <;> cases t <;> rfl
theorem sub_self (s : Bool) (r : Nat) (h : r < infR) : double.sub (wd s r) (wd s r) = some 0 := by
  unfold Format.sub; rw [read_wd s r h]
  simp only [Datum.opposite, Datum.sum, Option.map_some, Format.write, Option.some.injEq]
  have e : signed s (mg r) (pl r - min (pl r) (pl r)).toNat + signed (!s) (mg r) (pl r - min (pl r) (pl r)).toNat = 0 := by
    unfold signed; cases s <;> simp <;> omega
  rw [e]
  cases s <;> simp [Format.nearest, word_eq, wd]

/-! ### Twice -/
theorem mg_up (r : Nat) (h : 4503599627370496 ≤ r) : mg (r + 4503599627370496) = mg r := by unfold mg; rw [if_neg (by omega), if_neg (by omega)]; omega
theorem pl_up (r : Nat) (h : 4503599627370496 ≤ r) : pl (r + 4503599627370496) = pl r + 1 := by unfold pl; rw [if_neg (by omega), if_neg (by omega)]; omega
theorem mul_two_wd (s : Bool) (r : Nat) (h : 4503599627370496 ≤ r) (h2 : r + 4503599627370496 < infR) : double.mul (wd s r) 4611686018427387904 = some (wd s (r + 4503599627370496)) := by
  have hr : r < infR := by omega
  rw [wd_F s r hr, mul_two s (fits_rung_of r hr), wd_F s _ h2, mg_up r h, pl_up r h]
theorem div_two_wd (s : Bool) (r : Nat) (h : 4503599627370496 ≤ r) (h2 : r + 4503599627370496 < infR) : double.div (wd s (r + 4503599627370496)) 4611686018427387904 = some (wd s r) := by
  have hr : r < infR := by omega
  rw [wd_F s _ h2, div_two s (fits_rung_of _ h2), wd_F s r hr, mg_up r h, pl_up r h, show pl r + 1 - 1 = pl r from by omega]
theorem add_self_wd (s : Bool) (r : Nat) (h : 4503599627370496 ≤ r) (h2 : r + 4503599627370496 < infR) : double.add (wd s r) (wd s r) = some (wd s (r + 4503599627370496)) := by
  have hr : r < infR := by omega
  have hm : mg r ≠ 0 := by unfold mg; split <;> omega
  rw [wd_F s _ h2, mg_up r h, pl_up r h]
  unfold Format.add F; rw [read_wd s r hr]
  simp only [Datum.sum, Option.map_some, Format.write, Option.some.injEq]
  have e1 : (pl r - min (pl r) (pl r)).toNat = 0 := by omega
  have e2 : signed s (mg r) 0 + signed s (mg r) 0 = signed s (mg r) 1 := by
    unfold signed; rw [Nat.shiftLeft_zero, Nat.shiftLeft_eq]; cases s <;> simp <;> omega
  have e3 : (signed s (mg r) 1).natAbs = mg r <<< 1 := by unfold signed; cases s <;> simp only [Bool.false_eq_true, if_true, if_false, Int.natAbs_neg, Int.natAbs_natCast]
  have e4 : signed s (mg r) 1 ≠ 0 := by unfold signed; rw [Nat.shiftLeft_eq]; cases s <;> simp <;> omega
  have e5 : decide (signed s (mg r) 1 < 0) = s := by unfold signed; rw [Nat.shiftLeft_eq]; cases s <;> simp <;> omega
  rw [e1, e2, e3, if_neg e4, e5, Int.min_self]
  exact nearest_same double s 0 1 (by rw [Nat.shiftLeft_zero]) (by omega)

/-! ### The order of codes -/
def val (r : Nat) : Nat := mg r <<< (pl r + 1074).toNat
theorem val_mono {r q : Nat} (h : r < q) : val r < val q := by
  unfold val
  rw [Nat.shiftLeft_eq, Nat.shiftLeft_eq]
  have hr := rung_eq r
  have hq := rung_eq q
  have hmr := mg_lt r
  have hmq := mg_lt q
  have fr := fit_mgpl r
  have fq := fit_mgpl q
  have gr := pl_ge r
  have gq := pl_ge q
  obtain ⟨i, hi⟩ : ∃ i, i = (pl r + 1074).toNat := ⟨_, rfl⟩
  obtain ⟨j, hj⟩ : ∃ j, j = (pl q + 1074).toNat := ⟨_, rfl⟩
  rw [← hi] at hr ⊢; rw [← hj] at hq ⊢
  have fr : i = 0 ∨ 4503599627370496 ≤ mg r := by omega
  have fq : j = 0 ∨ 4503599627370496 ≤ mg q := by omega
  generalize mg r = m at *
  generalize mg q = n at *
  by_cases hij : i = j
  · subst hij; exact Nat.mul_lt_mul_of_pos_right (by omega) (Nat.two_pow_pos i)
  · have hlt : i < j := by omega
    obtain ⟨k, rfl⟩ : ∃ k, j = i + 1 + k := ⟨j - (i + 1), by omega⟩
    have h1 : m * 2 ^ i < 9007199254740992 * 2 ^ i := Nat.mul_lt_mul_of_pos_right hmr (Nat.two_pow_pos i)
    have h2 : 9007199254740992 * 2 ^ i ≤ n * 2 ^ (i + 1 + k) := by
      rw [Nat.pow_add, Nat.pow_succ]
      have hk := Nat.two_pow_pos k
      have hi := Nat.two_pow_pos i
      have h3 : n * (2 ^ i * 2) ≤ n * (2 ^ i * 2 * 2 ^ k) := Nat.mul_le_mul_left _ (Nat.le_mul_of_pos_right _ hk)
      have h4 : 4503599627370496 * (2 ^ i * 2) ≤ n * (2 ^ i * 2) := Nat.mul_le_mul_right _ (by omega)
      omega
    omega
theorem val_zero : val 0 = 0 := by decide
theorem val_inj {r q : Nat} : val r = val q ↔ r = q := by
  refine ⟨fun h => ?_, fun h => by rw [h]⟩
  rcases Nat.lt_trichotomy r q with h1 | h1 | h1
  · have := val_mono h1; omega
  · exact h1
  · have := val_mono h1; omega
theorem val_lt {r q : Nat} : val r < val q ↔ r < q := by
  refine ⟨fun h => ?_, val_mono⟩
  rcases Nat.lt_trichotomy r q with h1 | h1 | h1
  · exact h1
  · subst h1; omega
  · have := val_mono h1; omega

def sv (s : Bool) (r : Nat) : Int := if s then -(val r : Int) else val r

theorem order_fin (s t : Bool) (r q : Nat) (h : r < infR) (g : q < infR) : double.order (wd s r) (wd t q) = some (compare (sv s r) (sv t q)) := by
  rw [wd_F s r h, wd_F t q g, order_F s t (fits_rung_of r h) (fits_rung_of q g) (-1074) (pl_ge r) (pl_ge q)]
  rfl

theorem cmp_lt (a b : Int) : (some (compare a b) == some Ordering.lt) = decide (a < b) := by
  simp only [compare, compareOfLessAndEq]; split <;> rename_i h
  · simp [h]
  · split <;> simp [h]
theorem cmp_eq (a b : Int) : (some (compare a b) == some Ordering.eq) = decide (a = b) := by
  simp only [compare, compareOfLessAndEq]; split <;> rename_i h
  · simp; omega
  · split <;> rename_i g <;> simp [g]
theorem cmp_gt (a b : Int) : (some (compare a b) == some Ordering.gt) = decide (b < a) := by
  simp only [compare, compareOfLessAndEq]; split <;> rename_i h
  · simp; omega
  · split <;> rename_i g
    · simp; omega
    · simp; omega

/-- Codes lie as the numbers do, but at the zeros. -/
theorem order_codes (s t : Bool) (r q : Nat) (h : r ≤ infR) (g : q ≤ infR) (hz : ¬ (r = 0 ∧ q = 0)) :
    (double.order (wd s r) (wd t q) == some .lt) = decide (code s r < code t q) ∧ (double.order (wd s r) (wd t q) == some .eq) = decide (code s r = code t q) := by
  rw [code_of h, code_of g]
  rcases Nat.lt_or_eq_of_le h with h | rfl
  · rcases Nat.lt_or_eq_of_le g with g | rfl
    · rw [order_fin s t r q h g, cmp_lt, cmp_eq]
      unfold sv
      have l1 := @val_lt r q
      have l2 := @val_lt q r
      have l3 := @val_inj r q
      have z1 := @val_inj r 0
      have z2 := @val_inj q 0
      rw [val_zero] at z1 z2
      constructor
      · refine decide_eq_decide.2 ?_
        cases s <;> cases t <;> simp <;> omega
      · refine decide_eq_decide.2 ?_
        cases s <;> cases t <;> simp <;> omega
    · unfold Format.order; rw [read_wd s r h, read_inf]; simp only [Datum.order]; unfold infR at *
      cases s <;> cases t <;> simp <;> omega
  · rcases Nat.lt_or_eq_of_le g with g | rfl
    · unfold Format.order; rw [read_wd t q g, read_inf]; simp only [Datum.order]; unfold infR at *
      cases s <;> cases t <;> simp <;> omega
    · unfold Format.order; rw [read_inf, read_inf]
      cases s <;> cases t <;> decide

theorem order_zeros (s t : Bool) : double.order (wd s 0) (wd t 0) = some .eq := by cases s <;> cases t <;> decide
theorem one_div_zero (s : Bool) : double.div 4607182418800017408 (wd s 0) = some (wd s infR) := by cases s <;> decide
/-- Is a word alike to 0? -/
theorem order_zero (s : Bool) (r : Nat) (h : r ≤ infR) : (double.order (wd s r) 0 == some .eq) = decide (r = 0) := by
  by_cases h0 : r = 0
  · subst h0; cases s <;> decide
  · have := (order_codes s false r 0 h (by decide) (by omega)).2
    rw [code_of h, code_of (by decide)] at this
    rw [show double.order (wd s r) 0 = double.order (wd s r) (wd false 0) from rfl, this]
    refine decide_eq_decide.2 ?_
    cases s <;> simp <;> omega
end FloM

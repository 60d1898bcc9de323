/-
  The plain mathematics of the document's own way for layer 1: halving, doubling, and digit by digit. No program is named here.
-/
import Derived.Test.YtljpeehnjjbebaaFloLaws
namespace FloM
open Ieee

theorem fits_pow (c : Int) (h : -1074 ≤ c) (h2 : c ≤ 1023) : Fits 1 c := ⟨by omega, h, .inr (by rw [show Nat.log2 1 = 0 from by decide]; omega)⟩

theorem order_pow {M : Nat} {R c : Int} (h : Fits M R) (h1 : -1074 ≤ c) (h2 : c ≤ 1023) :
    double.order (F false M R) (F false 1 c) = some (compare ((M * 2 ^ (R + 1074).toNat : Nat) : Int) ((2 ^ (c + 1074).toNat : Nat) : Int)) := by
  rw [order_F false false h (fits_pow c h1 h2) (-1074) h.2.1 h1]
  simp only [signed, Bool.false_eq_true, if_false, Nat.shiftLeft_eq, Nat.one_mul, show R - -1074 = R + 1074 from by omega, show c - -1074 = c + 1074 from by omega]

theorem F_lt {M k : Nat} {R c : Int} (h : Fits M R) (h1 : -1074 ≤ c) (h2 : c ≤ 1023) (hM : M < 2 ^ k) (hR : R + k ≤ c) : double.order (F false M R) (F false 1 c) = some .lt := by
  rw [order_pow h h1 h2]
  have hp := h.2.1
  have e : (c + 1074).toNat = k + (R + 1074).toNat + (c - R - k).toNat := by omega
  have : M * 2 ^ (R + 1074).toNat < 2 ^ (c + 1074).toNat := by
    rw [e, Nat.pow_add]
    refine Nat.lt_of_lt_of_le ?_ (Nat.le_mul_of_pos_right _ (Nat.two_pow_pos _))
    rw [Nat.pow_add]
    exact Nat.mul_lt_mul_of_pos_right hM (Nat.two_pow_pos _)
  simp only [compare, compareOfLessAndEq]
  rw [if_pos (by omega)]

theorem F_ge {M k : Nat} {R c : Int} (h : Fits M R) (h1 : -1074 ≤ c) (h2 : c ≤ 1023) (hM : 2 ^ k ≤ M) (hR : c ≤ R + k) : double.order (F false M R) (F false 1 c) = some .gt ∨ double.order (F false M R) (F false 1 c) = some .eq := by
  rw [order_pow h h1 h2]
  have hp := h.2.1
  have e : k + (R + 1074).toNat = (c + 1074).toNat + (R + k - c).toNat := by omega
  have : 2 ^ (c + 1074).toNat ≤ M * 2 ^ (R + 1074).toNat := by
    refine Nat.le_trans ?_ (Nat.mul_le_mul_right _ hM)
    rw [← Nat.pow_add, e, Nat.pow_add]
    exact Nat.le_mul_of_pos_right _ (Nat.two_pow_pos _)
  simp only [compare, compareOfLessAndEq]
  rw [if_neg (by omega)]
  split
  · exact .inr rfl
  · exact .inl rfl

theorem ge_of {o : Option Ordering} (h : o = some .gt ∨ o = some .eq) : (o == some .gt || o == some .eq) = true ∧ (o == some .lt) = false := by
  rcases h with rfl | rfl <;> decide
theorem lt_of {o : Option Ordering} (h : o = some .lt) : (o == some .gt || o == some .eq) = false ∧ (o == some .lt) = true := by
  subst h; decide

/-- What is left of one behind 1. -/
theorem sub_one {m : Nat} {i : Nat} (hi : i ≤ 52) (hm : m < 2 ^ (53 - i)) (hg : 2 ^ (52 - i) ≤ m) : double.sub (F false m ((i : Int) - 52)) 4607182418800017408 = some (F false (m - 2 ^ (52 - i)) ((i : Int) - 52)) := by
  have hm' : m < 9007199254740992 := Nat.lt_of_lt_of_le hm (by rw [show (9007199254740992 : Nat) = 2 ^ 53 from by decide]; exact Nat.pow_le_pow_right (by omega) (by omega))
  have hl := log2_le52 hm'
  have hf : Fits m ((i : Int) - 52) := ⟨hm', by omega, .inr (by omega)⟩
  have h0 : m ≠ 0 := by have := Nat.two_pow_pos (52 - i); omega
  obtain ⟨m', p', hr, hc, _, _⟩ := read_F false hf
  rcases hc with ⟨hz, _⟩ | ⟨_, k, rfl, rfl⟩
  · exact absurd hz h0
  have h1 : double.read 4607182418800017408 = .number false 4503599627370496 (-52) := by decide
  unfold Format.sub
  rw [hr, h1]
  simp only [Datum.opposite, Datum.sum, Option.map_some, Format.write, Option.some.injEq, Bool.not_false, Bool.false_and]
  obtain ⟨b, hb⟩ : ∃ b : Int, b = min ((i : Int) - 52 - k) (-52) := ⟨_, rfl⟩
  rw [← hb]
  -- in units of place b
  obtain ⟨u, hu⟩ : ∃ u : Nat, (i : Int) - 52 - b = u := ⟨((i : Int) - 52 - b).toNat, by omega⟩
  have e1 : signed false (m <<< k) ((i : Int) - 52 - k - b).toNat = ((m * 2 ^ u : Nat) : Int) := by
    unfold signed
    rw [if_neg (by decide), ← Nat.shiftLeft_add, Nat.shiftLeft_eq, show k + ((i : Int) - 52 - k - b).toNat = u from by omega]
  have e2 : signed true 4503599627370496 (-52 - b).toNat = -((2 ^ (52 - i) * 2 ^ u : Nat) : Int) := by
    unfold signed
    rw [if_pos rfl, Nat.shiftLeft_eq, show (4503599627370496 : Nat) = 2 ^ 52 from by decide, ← Nat.pow_add, ← Nat.pow_add, show 52 + (-52 - b).toNat = 52 - i + u from by omega]
  have e3 : ((m * 2 ^ u : Nat) : Int) + -((2 ^ (52 - i) * 2 ^ u : Nat) : Int) = (((m - 2 ^ (52 - i)) * 2 ^ u : Nat) : Int) := by
    have : 2 ^ (52 - i) * 2 ^ u ≤ m * 2 ^ u := Nat.mul_le_mul_right _ hg
    rw [Nat.sub_mul]; omega
  rw [e1, e2, e3, show (decide ((((m - 2 ^ (52 - i)) * 2 ^ u : Nat) : Int) < 0)) = false from by simp only [decide_eq_false_iff_not]; omega, Int.natAbs_natCast]
  rw [show (if (((m - 2 ^ (52 - i)) * 2 ^ u : Nat) : Int) = 0 then false else false) = false from by split <;> rfl]
  unfold F
  refine nearest_same double false 0 u ?_ (by omega)
  rw [Nat.shiftLeft_zero, Nat.shiftLeft_eq]

theorem rung_less (p : Int) (m r : Nat) (h : (p + 1074).toNat * 4503599627370496 + m = r) (hp : -1074 < p) : (p - 1 + 1074).toNat * 4503599627370496 + m = r - 4503599627370496 := by
  obtain ⟨a, ha⟩ : ∃ a : Nat, p = (a : Int) - 1073 := ⟨(p + 1073).toNat, by omega⟩
  subst ha
  rw [show ((a : Int) - 1073 + 1074).toNat = a + 1 from by omega, Nat.add_mul] at h
  rw [show ((a : Int) - 1073 - 1 + 1074).toNat = a from by omega]
  refine Nat.eq_sub_of_add_eq ?_
  rw [← h, Nat.one_mul, Nat.add_right_comm]
/-- Half of a finite number that is not 0 lies below it. -/
theorem half_lt (r : Nat) (h0 : r ≠ 0) (h : r < infR) : ∃ q, q < r ∧ double.div (wd false r) 4611686018427387904 = some (wd false q) := by
  rw [wd_F false r h, div_two false (fits_rung_of r h)]
  by_cases hp : pl r = -1074
  · have hm : mg r = r := by have := rung_eq r; rw [hp] at this; simpa using this
    rw [hp, hm]
    have hlt := mg_lt r
    rw [hm] at hlt
    have hl := log2_le52 hlt
    have e1 : double.binade = 4503599627370496 := rfl
    have e2 : double.infRung = infR := rfl
    have e3 : double.leastPlace = -1074 := rfl
    have e4 : (double.fractionBits : Int) = 52 := rfl
    refine ⟨Toward.even.cut false r 1, ?_, ?_⟩
    · unfold Toward.cut
      simp only [show min 1 (r.log2 + 2) = 1 from by omega, show (1 : Nat) <<< 1 = 2 from rfl]
      rcases Nat.mod_two_eq_zero_or_one r with hr | hr
      · rw [hr]; simp; omega
      · rw [hr]
        by_cases hone : r = 1
        · subst hone; decide
        · have : ∀ b : Bool, r / 2 + b.toNat < r := by intro b; cases b <;> simp <;> omega
          exact this _
    · unfold F Format.nearest
      rw [if_neg h0]
      simp only [e1, e2, e3, e4, word_eq, Option.some.injEq]
      rw [show max (-1074 - 1 + (r.log2 : Int) - 52) (-1074) = -1074 from by omega]
      simp only [show ((-1074 : Int) - 1 - -1074).toNat = 0 from by decide, show ((-1074 : Int) - (-1074 - 1)).toNat = 1 from by decide, show ((-1074 : Int) - -1074).toNat = 0 from by decide, Nat.zero_mul, Nat.zero_add, Nat.shiftLeft_zero]
      congr 1
      have : Toward.even.cut false r 1 ≤ r := by
        unfold Toward.cut
        simp only [show min 1 (r.log2 + 2) = 1 from by omega, show (1 : Nat) <<< 1 = 2 from rfl]
        have : ∀ b : Bool, r / 2 + b.toNat ≤ r := by intro b; cases b <;> simp <;> omega
        exact this _
      omega
  · have hg := pl_ge r
    have hm : 4503599627370496 ≤ mg r := by rcases fit_mgpl r with h | h; exact absurd h hp; exact h
    refine ⟨r - 4503599627370496, ?_, ?_⟩
    · have := rung_eq r; omega
    · unfold F
      rw [nearest_fit false _ _ (mg_lt r) (by omega) (.inr hm)]
      have := rung_eq r
      have e5 := rung_less (pl r) (mg r) r this (by omega)
      rw [e5, Nat.min_eq_left (by omega)]

theorem half_inf : double.div (wd false infR) 4611686018427387904 = some (wd false infR) := by decide

/-- Rungs that are unlike are unlike numbers. -/
theorem order_ne (r q : Nat) (h : r < infR) (g : q < r) : (double.order (wd false r) (wd false q) == some .eq) = false := by
  rw [(order_codes false false r q (by omega) (by omega) (by omega)).2, code_of (by omega), code_of (by omega)]
  simp; omega

theorem zero_sub (r : Nat) (h : r ≤ infR) : double.sub 0 (wd true r) = some (wd false r) := by
  rw [show (0 : Nat) = wd false 0 from rfl, sub_eq_add _ true r h]
  unfold Format.add
  rcases Nat.lt_or_eq_of_le h with h | rfl
  · rw [read_wd false 0 (by decide), read_wd (!true) r h, ← nearest_rung false r (by omega)]
    simp only [Datum.sum, Option.map_some, Format.write, Option.some.injEq, Bool.not_true, Bool.and_false]
    have hp := pl_ge r
    have e1 : signed false (mg 0) (pl 0 - min (pl 0) (pl r)).toNat = 0 := by unfold signed mg; simp
    have e2 : min (pl 0) (pl r) = -1074 := by rw [show pl 0 = -1074 from by decide]; omega
    rw [e1, e2, Int.zero_add]
    have e3 : signed false (mg r) (pl r - -1074).toNat = ((mg r <<< (pl r - -1074).toNat : Nat) : Int) := by unfold signed; rw [if_neg (by decide)]
    rw [e3, Int.natAbs_natCast]
    generalize hX : mg r <<< (pl r - -1074).toNat = X at *
    rw [show (decide ((X : Int) < 0)) = false from by simp only [decide_eq_false_iff_not]; omega]
    rw [show (if (X : Int) = 0 then false else false) = false from by split <;> rfl]
    rw [← hX]
    exact nearest_same double false 0 (pl r - -1074).toNat (by rw [Nat.shiftLeft_zero]) (by omega)
  · decide

theorem zero_sub_pos (r : Nat) (h0 : r ≠ 0) (h : r ≤ infR) : double.sub 0 (wd false r) = some (wd true r) := by
  rw [show (0 : Nat) = wd false 0 from rfl, sub_eq_add _ false r h]
  unfold Format.add
  rcases Nat.lt_or_eq_of_le h with h | rfl
  · rw [read_wd false 0 (by decide), read_wd (!false) r h, ← nearest_rung true r (by omega)]
    simp only [Datum.sum, Option.map_some, Format.write, Option.some.injEq, Bool.not_false, Bool.and_true]
    have hp := pl_ge r
    have hm : mg r ≠ 0 := by unfold mg; split <;> omega
    have e1 : signed false (mg 0) (pl 0 - min (pl 0) (pl r)).toNat = 0 := by unfold signed mg; simp
    have e2 : min (pl 0) (pl r) = -1074 := by rw [show pl 0 = -1074 from by decide]; omega
    rw [e1, e2, Int.zero_add]
    have e3 : signed true (mg r) (pl r - -1074).toNat = -((mg r <<< (pl r - -1074).toNat : Nat) : Int) := by unfold signed; rw [if_pos rfl]
    have e4 : mg r <<< (pl r - -1074).toNat ≠ 0 := by rw [Nat.shiftLeft_eq]; exact Nat.mul_ne_zero hm (by have := Nat.two_pow_pos (pl r - -1074).toNat; omega)
    rw [e3, Int.natAbs_neg, Int.natAbs_natCast]
    generalize hX : mg r <<< (pl r - -1074).toNat = X at *
    rw [show (decide (-(X : Int) < 0)) = true from by simp only [decide_eq_true_eq]; omega, if_neg (by omega)]
    rw [← hX]
    exact nearest_same double true 0 (pl r - -1074).toNat (by rw [Nat.shiftLeft_zero]) (by omega)
  · decide
end FloM

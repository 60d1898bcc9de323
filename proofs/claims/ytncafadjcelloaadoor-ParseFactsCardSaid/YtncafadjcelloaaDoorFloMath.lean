/-
  The plain mathematics of layer 1: what Ieee's double has at a sign and a rung; sums, products, quotients by 2; the order.
  No program is named here.
-/
import Ieee.Arith
namespace FloM
open Ieee

/-! ### Cutting and scaling -/
theorem log2_shift (n k : Nat) (hn : n ≠ 0) : (n <<< k).log2 = n.log2 + k := by
  have hp : 0 < 2 ^ k := Nat.two_pow_pos k
  have h0 : n <<< k ≠ 0 := by rw [Nat.shiftLeft_eq]; exact Nat.mul_ne_zero hn (by omega)
  rw [Nat.log2_eq_iff h0, Nat.shiftLeft_eq]
  have h1 := Nat.log2_self_le hn
  have h2 := @Nat.lt_log2_self n
  refine ⟨?_, ?_⟩
  · rw [Nat.pow_add]; exact Nat.mul_le_mul_right _ h1
  · rw [show n.log2 + k + 1 = (n.log2 + 1) + k from by omega, Nat.pow_add]; exact Nat.mul_lt_mul_of_pos_right h2 hp

theorem cut_scale (neg : Bool) (n k d : Nat) (hn : n ≠ 0) : Toward.even.cut neg (n <<< k) (d + k) = Toward.even.cut neg n d := by
  have hp : 0 < 2 ^ k := Nat.two_pow_pos k
  unfold Toward.cut
  rw [log2_shift n k hn, show n.log2 + k + 2 = n.log2 + 2 + k from by omega, Nat.add_min_add_right]
  simp only [Nat.shiftLeft_eq, Nat.one_mul, Nat.pow_add]
  generalize 2 ^ min d (n.log2 + 2) = g
  rw [Nat.mul_div_mul_right _ _ hp, Nat.mul_mod_mul_right]
  have e1 : decide (g * 2 ^ k < 2 * (n % g * 2 ^ k)) = decide (g < 2 * (n % g)) := by
    rw [← Nat.mul_assoc]; exact decide_eq_decide.2 (Nat.mul_lt_mul_right hp)
  have e2 : (g * 2 ^ k == 2 * (n % g * 2 ^ k)) = (g == 2 * (n % g)) := by
    rw [← Nat.mul_assoc, Bool.eq_iff_iff]
    simp only [beq_iff_eq]
    exact ⟨fun h => Nat.eq_of_mul_eq_mul_right hp h, fun h => by rw [← h]⟩
  rw [e1, e2]

theorem cut_zero (neg : Bool) (n : Nat) : Toward.even.cut neg n 0 = n := by
  unfold Toward.cut
  simp [Nat.mod_one]

theorem nearest_scale (f : Format) (s : Bool) (m k : Nat) (p : Int) : f.nearest s (m <<< k) (p - k) = f.nearest s m p := by
  by_cases hm : m = 0
  · subst hm; simp [Format.nearest]
  have hmk : m <<< k ≠ 0 := by rw [Nat.shiftLeft_eq]; exact Nat.mul_ne_zero hm (by have := Nat.two_pow_pos k; omega)
  unfold Format.nearest
  rw [if_neg hm, if_neg hmk, log2_shift m k hm]
  simp only
  rw [show p - (k : Int) + ((m.log2 + k : Nat) : Int) - (f.fractionBits : Int) = p + (m.log2 : Int) - (f.fractionBits : Int) from by omega]
  generalize max (p + (m.log2 : Int) - (f.fractionBits : Int)) f.leastPlace = last
  have : Toward.even.cut s (m <<< k <<< (p - k - last).toNat) (last - (p - k)).toNat = Toward.even.cut s (m <<< (p - last).toNat) (last - p).toNat := by
    by_cases h1 : last ≤ p - k
    · rw [← Nat.shiftLeft_add, show (last - (p - k)).toNat = 0 from by omega, show (last - p).toNat = 0 from by omega, show k + (p - k - last).toNat = (p - last).toNat from by omega]
    · by_cases h2 : last ≤ p
      · rw [show (p - k - last).toNat = 0 from by omega, show (last - p).toNat = 0 from by omega, Nat.shiftLeft_zero]
        have hk : k = (p - last).toNat + (last - (p - k)).toNat := by omega
        rw [show m <<< k = m <<< (p - last).toNat <<< (last - (p - k)).toNat from by rw [← Nat.shiftLeft_add, ← hk]]
        have h0 : m <<< (p - last).toNat ≠ 0 := by rw [Nat.shiftLeft_eq]; exact Nat.mul_ne_zero hm (by have := Nat.two_pow_pos (p - last).toNat; omega)
        have := cut_scale s (m <<< (p - last).toNat) (last - (p - k)).toNat 0 h0
        rw [Nat.zero_add] at this
        exact this
      · rw [show (p - k - last).toNat = 0 from by omega, show (p - last).toNat = 0 from by omega, Nat.shiftLeft_zero, Nat.shiftLeft_zero, show (last - (p - k)).toNat = (last - p).toNat + k from by omega]
        exact cut_scale s m k _ hm
  rw [this]

/-- Two spellings of one number have one nearest word. -/
theorem nearest_same (f : Format) (s : Bool) {m n : Nat} {p q : Int} (a b : Nat) (h : m <<< a = n <<< b) (hp : p - a = q - b) : f.nearest s m p = f.nearest s n q := by
  rw [← nearest_scale f s m a p, ← nearest_scale f s n b q, h, hp]

/-! ### The double's words by sign and rung -/
/-- The digits of a finite rung, as a whole number. -/
def mg (r : Nat) : Nat := if r < 4503599627370496 then r else 4503599627370496 + r % 4503599627370496
/-- The place of its last digit. -/
def pl (r : Nat) : Int := if r < 4503599627370496 then -1074 else -1074 + (r / 4503599627370496 - 1 : Nat)
/-- The word of a sign and a rung. -/
def wd (s : Bool) (r : Nat) : Nat := if s then 9223372036854775808 + r else r
abbrev infR : Nat := 9218868437227405312

theorem word_eq (s : Bool) (r : Nat) : double.word s r = wd s r := rfl

theorem read_wd (s : Bool) (r : Nat) (h : r < infR) : double.read (wd s r) = .number s (mg r) (pl r) := by
  have e0 : double.signWeight = 9223372036854775808 := rfl
  have e1 : double.binade = 4503599627370496 := rfl
  have e2 : double.infRung = 9218868437227405312 := rfl
  have e3 : double.leastPlace = -1074 := rfl
  unfold infR at h
  have h1 : (wd s r / 9223372036854775808 % 2 == 1) = s := by cases s <;> simp [wd] <;> omega
  have h2 : wd s r % 9223372036854775808 = r := by cases s <;> simp [wd] <;> omega
  simp only [Format.read, e0, e1, e2, e3, h1, h2]
  unfold mg pl
  by_cases hr : r < 4503599627370496
  · simp [hr]
  · simp [hr, h]

theorem read_inf (s : Bool) : double.read (wd s infR) = .infinity s := by cases s <;> rfl

theorem read_nan (s : Bool) (r : Nat) (h : infR < r) (h2 : r < 9223372036854775808) : double.read (wd s r) = .nan s (r - infR) := by
  have e0 : double.signWeight = 9223372036854775808 := rfl
  have e1 : double.binade = 4503599627370496 := rfl
  have e2 : double.infRung = 9218868437227405312 := rfl
  have e3 : double.leastPlace = -1074 := rfl
  unfold infR at *
  have h1 : (wd s r / 9223372036854775808 % 2 == 1) = s := by cases s <;> simp [wd] <;> omega
  have h2 : wd s r % 9223372036854775808 = r := by cases s <;> simp [wd] <;> omega
  simp only [Format.read, e0, e1, e2, e3, h1, h2]
  rw [if_neg (by omega), if_neg (by omega), if_neg (by omega)]

/-- Every word is one of a sign and a rung. -/
theorem wd_of (x : Nat) (h : x < 18446744073709551616) : ∃ s r, r < 9223372036854775808 ∧ x = wd s r := by
  by_cases hx : x < 9223372036854775808
  · exact ⟨false, x, hx, rfl⟩
  · exact ⟨true, x - 9223372036854775808, by omega, by simp [wd]; omega⟩

theorem log2_52 {m : Nat} (h1 : 4503599627370496 ≤ m) (h2 : m < 9007199254740992) : m.log2 = 52 :=
  (Nat.log2_eq_iff (by omega)).2 ⟨by simpa using h1, by simpa using h2⟩

theorem log2_lt52 {m : Nat} (h0 : m ≠ 0) (h2 : m < 4503599627370496) : m.log2 < 52 := (Nat.log2_lt h0).2 (by simpa using h2)

/-- What is written of digits m at place p where nothing is lost. -/
theorem nearest_fit (s : Bool) (m : Nat) (p : Int) (hm : m < 9007199254740992) (hp : -1074 ≤ p) (hn : p = -1074 ∨ 4503599627370496 ≤ m) :
    double.nearest s m p = wd s (min ((p + 1074).toNat * 4503599627370496 + m) infR) := by
  have e1 : double.binade = 4503599627370496 := rfl
  have e2 : double.infRung = infR := rfl
  have e3 : double.leastPlace = -1074 := rfl
  have e4 : (double.fractionBits : Int) = 52 := rfl
  unfold Format.nearest
  by_cases h0 : m = 0
  · subst h0
    rw [if_pos rfl, word_eq]
    rcases hn with rfl | hn
    · rfl
    · omega
  · rw [if_neg h0]
    simp only [e1, e2, e3, e4, word_eq]
    have hlast : max (p + (m.log2 : Int) - 52) (-1074) = p := by
      by_cases h : 4503599627370496 ≤ m
      · rw [log2_52 h hm]; omega
      · have := log2_lt52 h0 (by omega)
        omega
    rw [hlast, show (p - p).toNat = 0 from by omega, Nat.shiftLeft_zero, cut_zero, show p - -1074 = p + 1074 from by omega]

theorem mg_lt (r : Nat) : mg r < 9007199254740992 := by unfold mg; split <;> omega
theorem pl_ge (r : Nat) : -1074 ≤ pl r := by unfold pl; split <;> omega
theorem fit_mgpl (r : Nat) : pl r = -1074 ∨ 4503599627370496 ≤ mg r := by unfold pl mg; split <;> omega
theorem rung_eq (r : Nat) : (pl r + 1074).toNat * 4503599627370496 + mg r = r := by
  unfold pl mg
  split
  · simp
  · have : (-1074 + ((r / 4503599627370496 - 1 : Nat) : Int) + 1074).toNat = r / 4503599627370496 - 1 := by omega
    rw [this]
    have h1 : 1 ≤ r / 4503599627370496 := by omega
    have := Nat.div_add_mod r 4503599627370496
    rw [Nat.sub_mul]; omega

theorem nearest_rung (s : Bool) (r : Nat) (h : r ≤ infR) : double.nearest s (mg r) (pl r) = wd s r := by
  rw [nearest_fit s _ _ (mg_lt r) (pl_ge r) (fit_mgpl r), rung_eq, Nat.min_eq_left h]

/-! ### 'F s m p': the word of digits m at place p, where nothing is lost -/
def F (s : Bool) (m : Nat) (p : Int) : Nat := double.nearest s m p
/-- Nothing is lost, and it is no infinity. -/
def Fits (m : Nat) (p : Int) : Prop := m < 9007199254740992 ∧ -1074 ≤ p ∧ (m = 0 ∨ p + m.log2 ≤ 1023)

theorem log2_le52 {m : Nat} (h : m < 9007199254740992) : m.log2 ≤ 52 := by
  by_cases h0 : m = 0
  · subst h0; decide
  · have := (Nat.log2_lt (k := 53) h0).2 (by simpa using h); omega

/-- The rung of what fits: its digits and place are m and p, shifted. -/
theorem fits_rung {m : Nat} {p : Int} (h : Fits m p) (h0 : m ≠ 0) : ∃ r k : Nat, r < infR ∧ 0 < r ∧ mg r = m <<< k ∧ pl r = p - k ∧ ∀ s, F s m p = wd s r := by
  obtain ⟨hm, hp, h1⟩ := h
  have h1 : p + m.log2 ≤ 1023 := by rcases h1 with h1 | h1; exact absurd h1 h0; exact h1
  have hl := log2_le52 hm
  -- how far it is shifted
  obtain ⟨k, hk⟩ : ∃ k : Nat, k = min (52 - m.log2) (p + 1074).toNat := ⟨_, rfl⟩
  have hlk := log2_shift m k h0
  have h0k : m <<< k ≠ 0 := by rw [Nat.shiftLeft_eq]; exact Nat.mul_ne_zero h0 (by have := Nat.two_pow_pos k; omega)
  have hlt : m <<< k < 9007199254740992 := by
    have := (Nat.log2_lt (n := m <<< k) (k := 53) h0k).1 (by omega)
    simpa using this
  have hge : (p - k = -1074) ∨ 4503599627370496 ≤ m <<< k := by
    by_cases hc : 52 - m.log2 ≤ (p + 1074).toNat
    · right
      have := (Nat.le_log2 (n := m <<< k) (k := 52) h0k).1 (by omega)
      simpa using this
    · left; omega
  have hpk : -1074 ≤ p - k := by omega
  refine ⟨(p - k + 1074).toNat * 4503599627370496 + m <<< k, k, ?_, Nat.lt_of_lt_of_le (Nat.pos_of_ne_zero h0k) (Nat.le_add_left _ _), ?_, ?_, ?_⟩
  · unfold infR
    have : m <<< k < 4503599627370496 ∨ (p - k + 1074).toNat ≤ 2045 := by
      by_cases hc : m <<< k < 4503599627370496
      · exact .inl hc
      · right
        have := log2_52 (by omega : 4503599627370496 ≤ m <<< k) hlt
        omega
    rcases hge with hge | hge
    · rw [hge]; simp; omega
    · omega
  · unfold mg
    rcases hge with hge | hge
    · rw [hge]; simp; omega
    · rw [if_neg (by omega)]; omega
  · unfold pl
    by_cases hc : 4503599627370496 ≤ m <<< k
    · rw [if_neg (by omega)]
      have : ((p - k + 1074).toNat * 4503599627370496 + m <<< k) / 4503599627370496 = (p - k + 1074).toNat + 1 := by omega
      rw [this]; omega
    · rcases hge with hge | hge
      · rw [hge]; rw [if_pos (by simp; omega)]
      · omega
  · intro s
    unfold F
    rw [← nearest_scale double s m k p, nearest_fit s _ _ hlt hpk hge, Nat.min_eq_left]
    unfold infR
    have : m <<< k < 4503599627370496 ∨ (p - k + 1074).toNat ≤ 2045 := by
      by_cases hc : m <<< k < 4503599627370496
      · exact .inl hc
      · right
        have := log2_52 (by omega : 4503599627370496 ≤ m <<< k) hlt
        omega
    rcases hge with hge | hge
    · rw [hge]; simp; omega
    · omega

theorem F_zero (s : Bool) (p : Int) : F s 0 p = wd s 0 := by simp [F, Format.nearest, word_eq]

/-- What is read of it. -/
theorem read_F {m : Nat} {p : Int} (s : Bool) (h : Fits m p) : ∃ (m' : Nat) (p' : Int), double.read (F s m p) = .number s m' p' ∧ ((m = 0 ∧ m' = 0) ∨ (m ≠ 0 ∧ ∃ k : Nat, m' = m <<< k ∧ p' = p - k)) ∧ m' < 9007199254740992 ∧ -1074 ≤ p' := by
  by_cases h0 : m = 0
  · subst h0
    rw [F_zero, read_wd s 0 (by decide)]
    exact ⟨_, _, rfl, .inl ⟨rfl, rfl⟩, by decide, by decide⟩
  · obtain ⟨r, k, hr, _, h1, h2, h3⟩ := fits_rung h h0
    rw [h3, read_wd s r hr]
    exact ⟨_, _, rfl, .inr ⟨h0, k, h1, h2⟩, mg_lt r, pl_ge r⟩

theorem wd_F (s : Bool) (r : Nat) (h : r < infR) : wd s r = F s (mg r) (pl r) := (nearest_rung s r (Nat.le_of_lt h)).symm

theorem fits_rung_of (r : Nat) (h : r < infR) : Fits (mg r) (pl r) := by
  refine ⟨mg_lt r, pl_ge r, ?_⟩
  have hl := log2_le52 (mg_lt r)
  right
  unfold infR at h
  unfold pl
  split <;> omega

/-! ### Twice, and half -/
theorem one_F : (4607182418800017408 : Nat) = F false 1 0 := by decide
theorem two_F : (4611686018427387904 : Nat) = F false 1 1 := by decide
theorem fits_one : Fits 1 0 := ⟨by omega, by omega, .inr (by decide)⟩
theorem fits_two : Fits 1 1 := ⟨by omega, by omega, .inr (by decide)⟩

theorem mul_two {m : Nat} {p : Int} (s : Bool) (h : Fits m p) : double.mul (F s m p) 4611686018427387904 = some (F s m (p + 1)) := by
  obtain ⟨m', p', hr, hc, _, _⟩ := read_F s h
  have h2 : double.read 4611686018427387904 = .number false 4503599627370496 (-51) := by decide
  unfold Format.mul
  rw [hr, h2]
  simp only [Datum.product, Option.map_some, Format.write, Bool.xor_false, Option.some.injEq]
  rcases hc with ⟨rfl, rfl⟩ | ⟨h0, k, rfl, rfl⟩
  · simp [F, Format.nearest]
  · refine nearest_same double s 0 (k + 52) ?_ (by omega)
    rw [Nat.shiftLeft_zero, Nat.shiftLeft_eq, Nat.shiftLeft_eq, Nat.pow_add, ← Nat.mul_assoc]

theorem two_mul {m : Nat} {p : Int} (s : Bool) (h : Fits m p) : double.mul 4611686018427387904 (F s m p) = some (F s m (p + 1)) := by
  obtain ⟨m', p', hr, hc, _, _⟩ := read_F s h
  have h2 : double.read 4611686018427387904 = .number false 4503599627370496 (-51) := by decide
  unfold Format.mul
  rw [hr, h2]
  simp only [Datum.product, Option.map_some, Format.write, Bool.false_xor, Option.some.injEq]
  rcases hc with ⟨rfl, rfl⟩ | ⟨h0, k, rfl, rfl⟩
  · simp [F, Format.nearest]
  · refine nearest_same double s 0 (k + 52) ?_ (by omega)
    rw [Nat.shiftLeft_zero, Nat.shiftLeft_eq, Nat.shiftLeft_eq, Nat.pow_add, Nat.mul_comm, ← Nat.mul_assoc]

theorem div_two {m : Nat} {p : Int} (s : Bool) (h : Fits m p) : double.div (F s m p) 4611686018427387904 = some (F s m (p - 1)) := by
  obtain ⟨m', p', hr, hc, hm', _⟩ := read_F s h
  have h2 : double.read 4611686018427387904 = .number false 4503599627370496 (-51) := by decide
  have hl := log2_le52 hm'
  have h52 : Nat.log2 4503599627370496 = 52 := by decide
  unfold Format.div
  rw [hr, h2]
  simp only [Datum.quotient, Bool.xor_false, h52, show double.fractionBits + 2 = 54 from rfl]
  rw [if_neg (by decide)]
  simp only [Option.map_some, Format.write, Option.some.injEq]
  obtain ⟨d, hd⟩ : ∃ d : Nat, 54 + 52 - m'.log2 = d + 52 := ⟨54 - m'.log2, by omega⟩
  rw [hd]
  have e1 : m' <<< (d + 52) = m' <<< d * 4503599627370496 := by rw [Nat.shiftLeft_eq, Nat.shiftLeft_eq, Nat.pow_add, ← Nat.mul_assoc]
  rw [e1, Nat.mul_div_cancel _ (by decide), Nat.mul_mod_left]
  have e2 : 2 * m' <<< d + ((0 : Nat) != 0).toNat = m' <<< (d + 1) := by rw [Nat.shiftLeft_succ]; rfl
  rw [e2]
  rcases hc with ⟨rfl, rfl⟩ | ⟨h0, k, rfl, rfl⟩
  · simp [F, Format.nearest]
  · refine nearest_same double s 0 (k + (d + 1)) ?_ (by omega)
    rw [Nat.shiftLeft_zero, ← Nat.shiftLeft_add]

/-! ### The order -/
theorem signed_scale (s : Bool) (m k : Nat) : signed s m k = (if s then -1 else 1) * ((m : Int) * (2 ^ k : Nat)) := by
  unfold signed; rw [Nat.shiftLeft_eq]; cases s <;> simp

theorem compare_mul (a b : Int) (k : Nat) : compare (a * (2 ^ k : Nat)) (b * (2 ^ k : Nat)) = compare a b := by
  have hp : (0 : Int) < ((2 ^ k : Nat) : Int) := by have := Nat.two_pow_pos k; omega
  generalize ((2 ^ k : Nat) : Int) = g at *
  simp only [compare, compareOfLessAndEq]
  have h1 : a * g < b * g ↔ a < b := Int.mul_lt_mul_right hp
  have h2 : a * g = b * g ↔ a = b := Int.mul_eq_mul_right_iff (by omega)
  simp only [h1, h2]

/-- How two that fit stand to each other, in units of any place that is at most theirs. -/
theorem order_F {m n : Nat} {p q : Int} (s t : Bool) (h : Fits m p) (g : Fits n q) (b : Int) (hb : b ≤ p) (hc : b ≤ q) :
    double.order (F s m p) (F t n q) = some (compare (signed s m (p - b).toNat) (signed t n (q - b).toNat)) := by
  obtain ⟨m', p', hr, hm, _, _⟩ := read_F s h
  obtain ⟨n', q', hr2, hn, _, _⟩ := read_F t g
  unfold Format.order
  rw [hr, hr2]
  simp only [Datum.order, Option.some.injEq]
  -- both to a place at most all
  obtain ⟨c, hc1, hc2, hc3⟩ : ∃ c : Int, c ≤ min p' q' ∧ c ≤ b ∧ True := ⟨min (min p' q') b, by omega, by omega, trivial⟩
  have L : compare (signed s m' (p' - min p' q').toNat) (signed t n' (q' - min p' q').toNat) = compare (signed s m' (p' - c).toNat) (signed t n' (q' - c).toNat) := by
    rw [← compare_mul _ _ (min p' q' - c).toNat]
    congr 1 <;> simp only [signed_scale] <;> rw [Int.mul_assoc, Int.mul_assoc] <;> congr 2 <;> rw [← Int.natCast_mul, ← Nat.pow_add] <;> congr 3 <;> omega
  have R : compare (signed s m (p - b).toNat) (signed t n (q - b).toNat) = compare (signed s m (p - c).toNat) (signed t n (q - c).toNat) := by
    rw [← compare_mul _ _ (b - c).toNat]
    congr 1 <;> simp only [signed_scale] <;> rw [Int.mul_assoc, Int.mul_assoc] <;> congr 2 <;> rw [← Int.natCast_mul, ← Nat.pow_add] <;> congr 3 <;> omega
  rw [L, R]
  congr 1
  · rcases hm with ⟨rfl, rfl⟩ | ⟨_, k, rfl, rfl⟩
    · simp [signed]
    · unfold signed; rw [← Nat.shiftLeft_add, show k + (p - k - c).toNat = (p - c).toNat from by omega]
  · rcases hn with ⟨rfl, rfl⟩ | ⟨_, k, rfl, rfl⟩
    · simp [signed]
    · unfold signed; rw [← Nat.shiftLeft_add, show k + (q - k - c).toNat = (q - c).toNat from by omega]

/-! ### Codes -/
abbrev NaNc : Int := 9221120237041090561
/-- The code of a sign and a rung. -/
def code (s : Bool) (r : Nat) : Int := if infR < r then NaNc else if s then -1 - (r : Int) else r
/-- The code of a word. -/
def codeW (x : Nat) : Int := code (decide (9223372036854775808 ≤ x)) (x % 9223372036854775808)
/-- The code of what is reckoned: none is NaN. -/
def codeO : Option Nat → Int
  | some x => codeW x
  | none => NaNc
def right (n : Int) : Bool := (decide (-9218868437227405313 ≤ n) && decide (n ≤ 9218868437227405312)) || n == NaNc
def backS (n : Int) : Bool := right n && decide (n < 0)
def backR (n : Int) : Nat := if right n then (if 0 ≤ n then n.toNat else (-1 - n).toNat) else 9221120237041090561
def backW (n : Int) : Nat := wd (backS n) (backR n)

theorem wd_lt (s : Bool) (r : Nat) (h : r < 9223372036854775808) : wd s r < 18446744073709551616 := by unfold wd; split <;> omega

theorem codeW_wd (s : Bool) (r : Nat) (h : r < 9223372036854775808) : codeW (wd s r) = code s r := by
  unfold codeW
  have h1 : decide (9223372036854775808 ≤ wd s r) = s := by cases s <;> simp [wd] <;> omega
  have h2 : wd s r % 9223372036854775808 = r := by cases s <;> simp [wd] <;> omega
  rw [h1, h2]

theorem right_iff (n : Int) : right n = true ↔ (-9218868437227405313 ≤ n ∧ n ≤ 9218868437227405312) ∨ n = NaNc := by
  unfold right; simp

theorem backR_lt (n : Int) : backR n < 9223372036854775808 := by
  unfold backR
  by_cases h : right n = true
  · rw [if_pos h]
    rw [right_iff] at h; unfold NaNc at h
    split <;> omega
  · rw [if_neg h]; decide

theorem backW_lt (n : Int) : backW n < 18446744073709551616 := wd_lt _ _ (backR_lt n)

theorem code_back (n : Int) (h : right n = true) : codeW (backW n) = n := by
  unfold backW
  rw [codeW_wd _ _ (backR_lt n)]
  unfold code backS backR
  rw [h]
  rw [right_iff] at h; unfold NaNc at h
  by_cases h0 : 0 ≤ n
  · simp only [if_true, if_pos h0, Bool.true_and, show ¬ n < 0 from by omega, decide_false, Bool.false_eq_true, if_false]
    unfold infR NaNc
    split <;> omega
  · simp only [if_true, if_neg h0, Bool.true_and, show n < 0 from by omega, decide_true]
    unfold infR NaNc
    split <;> omega

theorem code_bad (n : Int) (h : right n = false) : codeW (backW n) = NaNc := by
  unfold backW backS backR; rw [h]; rfl

theorem right_code (s : Bool) (r : Nat) (h : r < 9223372036854775808) : right (code s r) = true := by
  rw [right_iff]; unfold code infR NaNc
  split
  · right; rfl
  · left; split <;> omega

theorem back_code (s : Bool) (r : Nat) (h : r ≤ infR) : backW (code s r) = wd s r := by
  have hr := right_code s r (by unfold infR at h; omega)
  unfold infR at h
  have hc : code s r = if s then -1 - (r : Int) else r := by unfold code; rw [if_neg (by unfold infR; omega)]
  unfold backW backS backR
  rw [hr, hc]
  cases s
  · simp [wd]
  · simp only [if_true, Bool.true_and, show (-1 - (r : Int)) < 0 from by omega, decide_true, show ¬ (0 : Int) ≤ -1 - (r : Int) from by omega, if_false, wd]; omega

theorem back_code_nan (s : Bool) (r : Nat) (h : infR < r) : backW (code s r) = 9221120237041090561 := by
  have hc : code s r = NaNc := by unfold code; rw [if_pos h]
  rw [hc]; decide

/-- Is a word NaN? -/
def isN (x : Nat) : Bool := decide (infR < x % 9223372036854775808)

theorem read_isN {x : Nat} (hx : x < 18446744073709551616) (h : isN x = true) : ∃ s f, double.read x = .nan s f := by
  obtain ⟨s, r, hr, rfl⟩ := wd_of x hx
  have h2 : wd s r % 9223372036854775808 = r := by cases s <;> simp [wd] <;> omega
  unfold isN at h; rw [h2] at h; simp at h
  exact ⟨_, _, read_nan s r h hr⟩

theorem isN_wd (s : Bool) (r : Nat) (hr : r < 9223372036854775808) : isN (wd s r) = decide (infR < r) := by
  have h2 : wd s r % 9223372036854775808 = r := by cases s <;> simp [wd] <;> omega
  unfold isN; rw [h2]

theorem codeW_isN {x : Nat} (h : isN x = true) : codeW x = NaNc := by
  unfold isN at h; unfold codeW code; rw [if_pos (by simpa using h)]

/-- A word is alike to itself, but NaN. -/
theorem order_self (x : Nat) (hx : x < 18446744073709551616) : (double.order x x != some .eq) = isN x := by
  obtain ⟨s, r, hr, rfl⟩ := wd_of x hx
  rw [isN_wd s r hr]
  by_cases h : infR < r
  · simp only [h, decide_true, Format.order, read_nan s r h hr, Datum.order]; rfl
  · by_cases h2 : r = infR
    · subst h2; simp only [Format.order, read_inf, Datum.order]; cases s <;> decide
    · have : r < infR := by omega
      simp only [h, decide_false, Format.order, read_wd s r this, Datum.order, compare, compareOfLessAndEq]
      simp

theorem order_nan_left (x y : Nat) (hx : x < 18446744073709551616) (h : isN x = true) : double.order x y = none := by
  obtain ⟨s, f, h⟩ := read_isN hx h; unfold Format.order; rw [h]; rfl
theorem order_nan_right (x y : Nat) (hx : y < 18446744073709551616) (h : isN y = true) : double.order x y = none := by
  obtain ⟨s, f, h⟩ := read_isN hx h; unfold Format.order; rw [h]; cases double.read x <;> rfl

end FloM

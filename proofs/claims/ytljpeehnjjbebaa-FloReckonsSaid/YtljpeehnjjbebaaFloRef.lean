/-
  Contracts of the document's own way for layer 1 (package antecedentref01): negative, bits, Code, Right, Back.
-/
import Derived.Test.YtljpeehnjjbebaaFloArith
import Derived.Test.YtljpeehnjjbebaaFloRefMath
import Derived.LoopTactic
namespace Go.Proofs.Ytljpeehnjjbebaa
open Go.RowKit FloM

/-! ### Right -/
set_option maxHeartbeats 400000 in
theorem refRight_any (n : Int) (w : World) : Calls Try.prog 14 #[.int .i64 n] w fun e w' => e = .returned (.bool (right n)) ∧ w = w' := by
  by_cases h0 : n = 9221120237041090561
  · have e : right n = true := by rw [h0]; decide
    have h0' : (n == 9221120237041090561) = true := by rw [h0]; rfl
    rw [e]; clear e h0
    go_enter Try.func14, Try.ntmps14
    go_wp2
    all_goals (go_ret; exact ⟨rfl, rfl⟩)
  · have h0' : (n == 9221120237041090561) = false := beq_eq_false_iff_ne.2 h0
    by_cases h2 : n ≤ 9218868437227405312
    · have e : right n = decide (-9218868437227405313 ≤ n) := by unfold right NaNc; rw [h0']; simp [h2]
      rw [e]; clear e h0
      go_enter Try.func14, Try.ntmps14
      go_wp2
      all_goals (go_ret; exact ⟨rfl, rfl⟩)
    · have e : right n = false := by unfold right NaNc; rw [h0']; simp [h2]
      rw [e]; clear e h0
      go_enter Try.func14, Try.ntmps14
      go_wp2
      all_goals (go_ret; exact ⟨rfl, rfl⟩)

/-! ### negative -/
set_option maxHeartbeats 400000 in
theorem neg_zero (x r : Nat) (b : Bool) (w : World) (h1 : (FloatKind.f64.format.order x 0 == some .eq) = true) (h2 : Ieee.double.div 4607182418800017408 x = some r) (h3 : (FloatKind.f64.format.order r 0 == some .lt) = b) :
    Calls Try.prog 25 #[.float .f64 x] w fun e w' => e = .returned (.bool b) ∧ w = w' := by
  go_enter Try.func25, Try.ntmps25
  go_wp2
  all_goals (go_ret; exact ⟨rfl, rfl⟩)
set_option maxHeartbeats 400000 in
theorem neg_num (x : Nat) (b : Bool) (w : World) (h1 : (FloatKind.f64.format.order x 0 == some .eq) = false) (h3 : (FloatKind.f64.format.order x 0 == some .lt) = b) :
    Calls Try.prog 25 #[.float .f64 x] w fun e w' => e = .returned (.bool b) ∧ w = w' := by
  go_enter Try.func25, Try.ntmps25
  go_wp2
  all_goals (go_ret; exact ⟨rfl, rfl⟩)
theorem neg_any (s : Bool) (r : Nat) (w : World) (h : r ≤ infR) :
    Calls Try.prog 25 #[.float .f64 (wd s r)] w fun e w' => e = .returned (.bool s) ∧ w = w' := by
  have oz := order_zero s r h
  by_cases h0 : r = 0
  · subst h0
    exact neg_zero _ _ s w oz (one_div_zero s) (by cases s <;> decide)
  · refine neg_num _ s w (oz.trans (by simpa using h0)) ?_
    have := (order_codes s false r 0 h (by decide) (by omega)).1
    rw [code_of h, code_of (by decide)] at this
    refine Eq.trans this ?_
    cases s <;> simp <;> omega

/-! ### bits -/
set_option maxHeartbeats 400000 in
theorem bits_zero (w : World) : Calls Try.prog 26 #[.float .f64 0] w fun e w' => e = .returned (.int .i64 0) ∧ w = w' := by
  have h1 : (FloatKind.f64.format.order 0 0 == some .eq) = true := by decide
  go_enter Try.func26, Try.ntmps26
  go_wp2
  all_goals (go_ret; exact ⟨rfl, rfl⟩)
set_option maxHeartbeats 400000 in
theorem bits_inf (x : Nat) (w : World) (h1 : (FloatKind.f64.format.order x 0 == some .eq) = false) (h2 : Ieee.double.div x 4611686018427387904 = some x) (h3 : (FloatKind.f64.format.order x x == some .eq) = true) :
    Calls Try.prog 26 #[.float .f64 x] w fun e w' => e = .returned (.int .i64 9218868437227405312) ∧ w = w' := by
  go_enter Try.func26, Try.ntmps26
  go_wp2
  all_goals (go_ret; exact ⟨rfl, rfl⟩)

/-- One digit more. -/
theorem digit (M k : Nat) (hk : k < 53) : M / 2 ^ (53 - k) * 2 + (if 2 ^ (52 - k) ≤ M % 2 ^ (53 - k) then 1 else 0) = M / 2 ^ (53 - (k + 1)) ∧ (if 2 ^ (52 - k) ≤ M % 2 ^ (53 - k) then M % 2 ^ (53 - k) - 2 ^ (52 - k) else M % 2 ^ (53 - k)) = M % 2 ^ (53 - (k + 1)) ∧ M % 2 ^ (53 - k) < 2 ^ (53 - k) := by
  have e : 53 - k = (52 - k) + 1 := by omega
  have e' : 53 - (k + 1) = 52 - k := by omega
  rw [e', e, Nat.pow_succ]
  have hA := Nat.two_pow_pos (52 - k)
  generalize 2 ^ (52 - k) = A at *
  have h1 := Nat.div_add_mod M (A * 2)
  have h2 : M % (A * 2) < A * 2 := Nat.mod_lt _ (by omega)
  generalize M / (A * 2) = q at *
  generalize M % (A * 2) = m at *
  have h3 : A * 2 * q = A * (2 * q) := by rw [Nat.mul_assoc]
  refine ⟨?_, ?_, h2⟩
  · by_cases h : A ≤ m
    · rw [if_pos h]
      have : M = (m - A) + A * (q * 2 + 1) := by rw [Nat.mul_add, Nat.mul_one, Nat.mul_comm q 2]; omega
      rw [this, Nat.add_mul_div_left _ _ hA, Nat.div_eq_of_lt (by omega)]; omega
    · rw [if_neg h]
      have : M = m + A * (q * 2) := by rw [Nat.mul_comm q 2]; omega
      rw [this, Nat.add_mul_div_left _ _ hA, Nat.div_eq_of_lt (by omega)]; omega
  · by_cases h : A ≤ m
    · rw [if_pos h]
      have : M = (m - A) + A * (q * 2 + 1) := by rw [Nat.mul_add, Nat.mul_one, Nat.mul_comm q 2]; omega
      rw [this, Nat.add_mul_mod_self_left, Nat.mod_eq_of_lt (by omega)]
    · rw [if_neg h]
      have : M = m + A * (q * 2) := by rw [Nat.mul_comm q 2]; omega
      rw [this, Nat.add_mul_mod_self_left, Nat.mod_eq_of_lt (by omega)]

theorem fits_le {M : Nat} {P R : Int} (hf : Fits M P) (h : R ≤ P) (h2 : -1074 ≤ R) : Fits M R := ⟨hf.1, h2, by rcases hf.2.2 with h3 | h3; exact .inl h3; exact .inr (by omega)⟩
theorem fits_small {M : Nat} {R : Int} (h : M < 9007199254740992) (h2 : -1074 ≤ R) (h3 : R ≤ 971) : Fits M R := ⟨h, h2, .inr (by have := log2_le52 h; omega)⟩

theorem ge_two {M : Nat} {R : Int} (h : Fits M R) (hM : 4503599627370496 ≤ M) (hR : -51 ≤ R) : (FloatKind.f64.format.order (F false M R) 4611686018427387904 == some .gt || FloatKind.f64.format.order (F false M R) 4611686018427387904 == some .eq) = true := by
  have := (ge_of (F_ge (k := 52) (c := 1) h (by omega) (by omega) (by simpa using hM) (by omega))).1
  rw [← two_F] at this; exact this
theorem lt_two {M : Nat} {R : Int} (h : Fits M R) (hR : R ≤ -52) : (FloatKind.f64.format.order (F false M R) 4611686018427387904 == some .gt || FloatKind.f64.format.order (F false M R) 4611686018427387904 == some .eq) = false := by
  have := (lt_of (F_lt (k := 53) (c := 1) h (by omega) (by omega) (by simpa using h.1) (by omega))).1
  rw [← two_F] at this; exact this
theorem ge_one {m k : Nat} {R : Int} (h : Fits m R) (hM : 2 ^ k ≤ m) (hR : 0 ≤ R + k) : (FloatKind.f64.format.order (F false m R) 4607182418800017408 == some .gt || FloatKind.f64.format.order (F false m R) 4607182418800017408 == some .eq) = true ∧ (FloatKind.f64.format.order (F false m R) 4607182418800017408 == some .lt) = false := by
  have := ge_of (F_ge (k := k) (c := 0) h (by omega) (by omega) hM hR)
  rw [← one_F] at this; exact this
theorem lt_one {m k : Nat} {R : Int} (h : Fits m R) (hM : m < 2 ^ k) (hR : R + k ≤ 0) : (FloatKind.f64.format.order (F false m R) 4607182418800017408 == some .gt || FloatKind.f64.format.order (F false m R) 4607182418800017408 == some .eq) = false ∧ (FloatKind.f64.format.order (F false m R) 4607182418800017408 == some .lt) = true := by
  have := lt_of (F_lt (k := k) (c := 0) h (by omega) (by omega) hM hR)
  rw [← one_F] at this; exact this

set_option maxHeartbeats 2000000 in
theorem bits_fin (M : Nat) (P : Int) (q : Nat) (w : World) (hf : Fits M P) (hn : P = -1074 ∨ 4503599627370496 ≤ M) (hP : P ≤ 971)
    (h1 : (FloatKind.f64.format.order (F false M P) 0 == some .eq) = false) (h2 : Ieee.double.div (F false M P) 4611686018427387904 = some q) (h3 : (FloatKind.f64.format.order (F false M P) q == some .eq) = false) :
    Calls Try.prog 26 #[.float .f64 (F false M P)] w fun e w' => e = .returned (.int .i64 ((P + 1074) * 4503599627370496 + M)) ∧ w = w' := by
  have hP0 : -1074 ≤ P := hf.2.1
  have hM : M < 9007199254740992 := hf.1
  have HN := Lib.hid hn; clear hn
  go_enter Try.func26, Try.ntmps26
  go_wp2
  clear h1 h2 h3
  go_loop [0, 3] (fun f e => ∃ R : Int, R ≤ P ∧ (R = P ∨ -52 ≤ R) ∧ f = .float .f64 (F false M R) ∧ e = .int .i64 (1023 + P - R)) (fun _ e => (P + 1075 - intOf e).toNat)
  case atStart => exact ⟨P, by omega, .inl rfl, rfl, by rw [show 1023 + P - P = 1023 from by omega]⟩
  case round =>
    obtain ⟨R, hRP, hR, rfl, rfl⟩ := hrel
    have hR0 : -1074 ≤ R := by omega
    have hfR := fits_le hf hRP hR0
    have HR := Lib.hid hR; clear hR
    by_cases hc : -51 ≤ R
    · have t := ge_two hfR (by have := HN.out; omega) hc
      have d := div_two false hfR
      go_wp2
      go_round
      case rel => exact ⟨R - 1, by omega, .inr (by omega), rfl, by congr 1; omega⟩
      case measure => simp [intOf]; omega
    · have t := lt_two hfR (by omega)
      go_wp2
      clear t
      go_loop [0, 3] (fun f e => ∃ R : Int, R ≤ -52 ∧ -1074 ≤ R ∧ (R = -52 ∨ P ≤ R) ∧ f = .float .f64 (F false M R) ∧ e = .int .i64 (1023 + P - R)) (fun _ e => (intOf e - 1075 - P).toNat)
      case atStart => exact ⟨R, by omega, hR0, by have := HR.out; omega, rfl, rfl⟩
      case round =>
        clear HR hc hfR hR0 hRP
        obtain ⟨S, hS1, hS2, hS, rfl, rfl⟩ := hrel
        have hfS := fits_small (R := S) hM hS2 (by omega)
        have HS := Lib.hid hS; clear hS
        by_cases hc : S < -52
        · have t := (lt_one (k := 53) hfS (by simpa using hM) (by omega)).2
          have g : 1 < 1023 + P - S := by have := HS.out; omega
          have d := mul_two false hfS
          go_wp2
          go_round
          case rel => exact ⟨S + 1, by omega, by omega, by have := HS.out; omega, rfl, by congr 1; omega⟩
          case measure => simp [intOf]; omega
        · obtain rfl : S = -52 := by omega
          by_cases hm : M < 4503599627370496
          · have t := (lt_one (k := 52) hfS (by simpa using hm) (by omega)).2
            have g : 1023 + P - -52 ≤ 1 := by have := HN.out; omega
            go_wp2
            clear t
            go_loop [0, 4, 5] (fun f v i => ∃ k : Nat, k ≤ 53 ∧ i = .int .i64 k ∧ v = .int .i64 ((M / 2 ^ (53 - k) : Nat) : Int) ∧ f = .float .f64 (F false (M % 2 ^ (53 - k)) ((k : Int) - 52))) (fun _ _ i => 53 - (intOf i).toNat)
            case atStart => exact ⟨0, by omega, rfl, by rw [show M / 2 ^ (53 - 0) = 0 from Nat.div_eq_of_lt (by simpa using hM)]; rfl, by rw [show M % 2 ^ (53 - 0) = M from Nat.mod_eq_of_lt (by simpa using hM)]; rfl⟩
            case round =>
              obtain ⟨k, hk, rfl, rfl, rfl⟩ := hrel
              by_cases hlt : k < 53
              · obtain ⟨d1, d2, d3⟩ := digit M k hlt
                have hv : M / 2 ^ (53 - k) ≤ M := Nat.div_le_self _ _
                have hmm : M % 2 ^ (53 - k) ≤ M := Nat.mod_le _ _
                have hfm := fits_small (M := M % 2 ^ (53 - k)) (R := (k : Int) - 52) (by omega) (by omega) (by omega)
                have D1 := Lib.hid d1; clear d1
                have D2 := Lib.hid d2; clear d2
                generalize M / 2 ^ (53 - k) = v at *
                by_cases hb : 2 ^ (52 - k) ≤ M % 2 ^ (53 - k)
                · have t := (ge_one (k := 52 - k) hfm hb (by omega)).1
                  have d := sub_one (by omega) d3 hb
                  have hm2 : M % 2 ^ (53 - k) - 2 ^ (52 - k) ≤ M := Nat.le_trans (Nat.sub_le _ _) hmm
                  have m2 := mul_two false (fits_small (M := M % 2 ^ (53 - k) - 2 ^ (52 - k)) (R := (k : Int) - 52) (by omega) (by omega) (by omega))
                  have E1 := D1.out; rw [if_pos hb] at E1; have E1' := Lib.hid E1; clear E1
                  have E2 := D2.out; rw [if_pos hb] at E2; have E2' := Lib.hid E2; clear E2
                  clear D1 D2 hb d3 hfm hmm hm2
                  go_wp2
                  go_round
                  case rel => exact ⟨k + 1, by omega, by go_num, by rw [← E1'.out]; first | done | (congr 1 <;> omega), by rw [← E2'.out]; first | done | (congr 2 <;> omega)⟩
                  case measure => simp [intOf]; omega
                · have t := (lt_one (k := 52 - k) hfm (by omega) (by omega)).1
                  have m2 := mul_two false hfm
                  have E1 := D1.out; rw [if_neg hb] at E1; have E1' := Lib.hid E1; clear E1
                  have E2 := D2.out; rw [if_neg hb] at E2; have E2' := Lib.hid E2; clear E2
                  clear D1 D2 hb d3 hfm hmm
                  go_wp2
                  go_round
                  case rel => exact ⟨k + 1, by omega, by go_num, by rw [← E1'.out]; first | done | (congr 1 <;> omega), by rw [← E2'.out]; first | done | (congr 2 <;> omega)⟩
                  case measure => simp [intOf]; omega
              · obtain rfl : k = 53 := by omega
                rw [show M / 2 ^ (53 - 53) = M from by simp]
                generalize F false (M % 2 ^ (53 - 53)) (((53 : Nat) : Int) - 52) = z
                obtain ⟨E, hE⟩ : ∃ E : Int, 1023 + P + 52 = E := ⟨_, rfl⟩
                rw [hE]
                have hE1 : 1 ≤ E := by omega
                have hE2 : E ≤ 2046 := by omega
                have HE := Lib.hid hE; clear hE
                obtain ⟨V, hV⟩ : ∃ V : Int, (M : Int) = V := ⟨_, rfl⟩
                rw [show ((53 : Nat) : Int) = 53 from rfl, hV]
                have hV0 : 0 ≤ V := by omega
                have hV1 : V < 9007199254740992 := by omega
                have hV2 : V < 4503599627370496 := by omega
                have HV := Lib.hid hV; clear hV hm
                go_wp2
                go_ret
                exact ⟨ret_int (by have := HN.out; have := HE.out; have := HV.out; omega), rfl⟩
          · have t := (ge_one (k := 52) hfS (by simpa using hm) (by omega)).2
            have hm' : 4503599627370496 ≤ M := by omega
            go_wp2
            clear t
            go_loop [0, 4, 5] (fun f v i => ∃ k : Nat, k ≤ 53 ∧ i = .int .i64 k ∧ v = .int .i64 ((M / 2 ^ (53 - k) : Nat) : Int) ∧ f = .float .f64 (F false (M % 2 ^ (53 - k)) ((k : Int) - 52))) (fun _ _ i => 53 - (intOf i).toNat)
            case atStart => exact ⟨0, by omega, rfl, by rw [show M / 2 ^ (53 - 0) = 0 from Nat.div_eq_of_lt (by simpa using hM)]; rfl, by rw [show M % 2 ^ (53 - 0) = M from Nat.mod_eq_of_lt (by simpa using hM)]; rfl⟩
            case round =>
              obtain ⟨k, hk, rfl, rfl, rfl⟩ := hrel
              by_cases hlt : k < 53
              · obtain ⟨d1, d2, d3⟩ := digit M k hlt
                have hv : M / 2 ^ (53 - k) ≤ M := Nat.div_le_self _ _
                have hmm : M % 2 ^ (53 - k) ≤ M := Nat.mod_le _ _
                have hfm := fits_small (M := M % 2 ^ (53 - k)) (R := (k : Int) - 52) (by omega) (by omega) (by omega)
                have D1 := Lib.hid d1; clear d1
                have D2 := Lib.hid d2; clear d2
                generalize M / 2 ^ (53 - k) = v at *
                by_cases hb : 2 ^ (52 - k) ≤ M % 2 ^ (53 - k)
                · have t := (ge_one (k := 52 - k) hfm hb (by omega)).1
                  have d := sub_one (by omega) d3 hb
                  have hm2 : M % 2 ^ (53 - k) - 2 ^ (52 - k) ≤ M := Nat.le_trans (Nat.sub_le _ _) hmm
                  have m2 := mul_two false (fits_small (M := M % 2 ^ (53 - k) - 2 ^ (52 - k)) (R := (k : Int) - 52) (by omega) (by omega) (by omega))
                  have E1 := D1.out; rw [if_pos hb] at E1; have E1' := Lib.hid E1; clear E1
                  have E2 := D2.out; rw [if_pos hb] at E2; have E2' := Lib.hid E2; clear E2
                  clear D1 D2 hb d3 hfm hmm hm2
                  go_wp2
                  go_round
                  case rel => exact ⟨k + 1, by omega, by go_num, by rw [← E1'.out]; first | done | (congr 1 <;> omega), by rw [← E2'.out]; first | done | (congr 2 <;> omega)⟩
                  case measure => simp [intOf]; omega
                · have t := (lt_one (k := 52 - k) hfm (by omega) (by omega)).1
                  have m2 := mul_two false hfm
                  have E1 := D1.out; rw [if_neg hb] at E1; have E1' := Lib.hid E1; clear E1
                  have E2 := D2.out; rw [if_neg hb] at E2; have E2' := Lib.hid E2; clear E2
                  clear D1 D2 hb d3 hfm hmm
                  go_wp2
                  go_round
                  case rel => exact ⟨k + 1, by omega, by go_num, by rw [← E1'.out]; first | done | (congr 1 <;> omega), by rw [← E2'.out]; first | done | (congr 2 <;> omega)⟩
                  case measure => simp [intOf]; omega
              · obtain rfl : k = 53 := by omega
                rw [show M / 2 ^ (53 - 53) = M from by simp]
                generalize F false (M % 2 ^ (53 - 53)) (((53 : Nat) : Int) - 52) = z
                obtain ⟨E, hE⟩ : ∃ E : Int, 1023 + P + 52 = E := ⟨_, rfl⟩
                rw [hE]
                have hE1 : 1 ≤ E := by omega
                have hE2 : E ≤ 2046 := by omega
                have HE := Lib.hid hE; clear hE
                obtain ⟨V, hV⟩ : ∃ V : Int, (M : Int) = V := ⟨_, rfl⟩
                rw [show ((53 : Nat) : Int) = 53 from rfl, hV]
                have hV0 : 0 ≤ V := by omega
                have hV1 : V < 9007199254740992 := by omega
                have hV2 : 4503599627370496 ≤ V := by omega
                have HV := Lib.hid hV; clear hV hm hm'
                go_wp2
                go_ret
                exact ⟨ret_int (by have := HN.out; have := HE.out; have := HV.out; omega), rfl⟩

theorem pl_le (r : Nat) (h : r < infR) : pl r ≤ 971 := by unfold infR at h; unfold pl; split <;> omega

theorem bits_any (r : Nat) (w : World) (h : r ≤ infR) : Calls Try.prog 26 #[.float .f64 (wd false r)] w fun e w' => e = .returned (.int .i64 (r : Int)) ∧ w = w' := by
  have oz := order_zero false r h
  by_cases h0 : r = 0
  · subst h0; exact bits_zero w
  · rcases Nat.lt_or_eq_of_le h with h | rfl
    · obtain ⟨q, hq, hd⟩ := half_lt r h0 h
      have ho := order_ne r q h hq
      rw [wd_F false r h] at oz hd ho ⊢
      refine (bits_fin (mg r) (pl r) (wd false q) w (fits_rung_of r h) (fit_mgpl r) (pl_le r h) (oz.trans (by simpa using h0)) hd ho).mono ?_
      rintro e w' ⟨rfl, rfl⟩
      refine ⟨ret_int ?_, rfl⟩
      have := rung_eq r
      have := pl_ge r
      omega
    · exact bits_inf _ w (oz.trans (by decide)) half_inf (by decide)

/-! ### Code -/
set_option maxHeartbeats 400000 in
theorem refCode_nan (x : Nat) (w : World) (h1 : (FloatKind.f64.format.order x x != some .eq) = true) :
    Calls Try.prog 12 #[.float .f64 x] w fun e w' => e = .returned (.int .i64 9221120237041090561) ∧ w = w' := by
  go_enter Try.func12, Try.ntmps12
  go_wp2
  all_goals (go_ret; exact ⟨rfl, rfl⟩)
set_option maxHeartbeats 400000 in
theorem refCode_pos (r : Nat) (w : World) (h : r ≤ infR) (h1 : (FloatKind.f64.format.order (wd false r) (wd false r) != some .eq) = false) :
    Calls Try.prog 12 #[.float .f64 (wd false r)] w fun e w' => e = .returned (.int .i64 (r : Int)) ∧ w = w' := by
  go_enter Try.func12, Try.ntmps12
  go_wp2_with (first | (go_at_call 25; refine (neg_any _ _ _ h).mono ?_; rintro e w' ⟨rfl, rfl⟩) | (go_at_call 26; refine (bits_any _ _ h).mono ?_; rintro e w' ⟨rfl, rfl⟩))
  all_goals (go_ret; exact ⟨rfl, rfl⟩)
set_option maxHeartbeats 400000 in
theorem refCode_neg (r : Nat) (w : World) (h : r ≤ infR) (h1 : (FloatKind.f64.format.order (wd true r) (wd true r) != some .eq) = false) (h2 : Ieee.double.sub 0 (wd true r) = some (wd false r)) :
    Calls Try.prog 12 #[.float .f64 (wd true r)] w fun e w' => e = .returned (.int .i64 (wrap64 (-1 - (r : Int)))) ∧ w = w' := by
  go_enter Try.func12, Try.ntmps12
  go_wp2_with (first | (go_at_call 25; refine (neg_any _ _ _ h).mono ?_; rintro e w' ⟨rfl, rfl⟩) | (go_at_call 26; refine (bits_any _ _ h).mono ?_; rintro e w' ⟨rfl, rfl⟩))
  all_goals (go_ret; exact ⟨rfl, rfl⟩)

theorem refCode_any (x : Nat) (w : World) (hx : x < 18446744073709551616) :
    Calls Try.prog 12 #[.float .f64 x] w fun e w' => e = .returned (.int .i64 (codeW x)) ∧ w = w' := by
  have ho := order_self x hx
  by_cases hn : isN x = true
  · rw [codeW_isN hn]; exact refCode_nan x w (ho.trans hn)
  · have hn : isN x = false := by simpa using hn
    obtain ⟨s, r, hr, rfl⟩ := wd_of x hx
    have hle : r ≤ infR := by rw [isN_wd s r hr] at hn; simpa using hn
    rw [codeW_wd s r hr, code_of hle]
    cases s
    · exact refCode_pos r w hle (ho.trans hn)
    · refine (refCode_neg r w hle (ho.trans hn) (zero_sub r hle)).mono ?_
      rintro e w' ⟨rfl, rfl⟩
      refine ⟨ret_int ?_, rfl⟩
      unfold infR at hle
      rw [w64_id _ (by omega) (by omega)]; rfl

/-! ### Back -/
/-- What is told of no code, and of NaN's: some NaN. -/
def SomeNaN (w : World) (e : Ending) (w' : World) : Prop := ∃ x, e = .returned (.float .f64 x) ∧ isN x = true ∧ x < 18446744073709551616 ∧ Drawn w w'

set_option maxHeartbeats 400000 in
theorem refBack_bad (n : Int) (w : World) (h : right n = false) : Calls Try.prog 17 #[.int .i64 n] w (SomeNaN w) := by
  have d : Ieee.double.div 0 0 = none := by decide
  go_enter Try.func17, Try.ntmps17
  go_wp2_with (go_at_call 14; refine (refRight_any _ _).mono ?_; rintro e w' ⟨rfl, rfl⟩)
  go_ret
  exact ⟨_, rfl, (nanPick_isN 0 0 w).1, (nanPick_isN 0 0 w).2, Drawn.drew w⟩
set_option maxHeartbeats 400000 in
theorem refBack_nan (n : Int) (w : World) (h : right n = true) (h2 : (n == 9221120237041090561) = true) : Calls Try.prog 17 #[.int .i64 n] w (SomeNaN w) := by
  have d : Ieee.double.div 0 0 = none := by decide
  go_enter Try.func17, Try.ntmps17
  go_wp2_with (go_at_call 14; refine (refRight_any _ _).mono ?_; rintro e w' ⟨rfl, rfl⟩)
  go_ret
  exact ⟨_, rfl, (nanPick_isN 0 0 w).1, (nanPick_isN 0 0 w).2, Drawn.drew w⟩
set_option maxHeartbeats 400000 in
theorem refBack_inf (n : Int) (w : World) (h : right n = true) (h2 : (n == 9221120237041090561) = false) (h0 : 0 ≤ n) (h3 : (n == 9218868437227405312) = true) :
    Calls Try.prog 17 #[.int .i64 n] w fun e w' => e = .returned (.float .f64 9218868437227405312) ∧ w = w' := by
  have d : Ieee.double.div 4607182418800017408 0 = some 9218868437227405312 := by decide
  go_enter Try.func17, Try.ntmps17
  go_wp2_with (go_at_call 14; refine (refRight_any _ _).mono ?_; rintro e w' ⟨rfl, rfl⟩)
  go_ret
  exact ⟨rfl, rfl⟩
set_option maxHeartbeats 400000 in
theorem refBack_mzero (n : Int) (w : World) (h : right n = true) (h2 : (n == 9221120237041090561) = false) (h0 : n < 0) (h3 : (n == -1) = true) :
    Calls Try.prog 17 #[.int .i64 n] w fun e w' => e = .returned (.float .f64 9223372036854775808) ∧ w = w' := by
  have d : Ieee.double.div 4607182418800017408 0 = some 9218868437227405312 := by decide
  have d2 : Ieee.double.div 13830554455654793216 9218868437227405312 = some 9223372036854775808 := by decide
  go_enter Try.func17, Try.ntmps17
  go_wp2_with (go_at_call 14; refine (refRight_any _ _).mono ?_; rintro e w' ⟨rfl, rfl⟩)
  go_ret
  exact ⟨rfl, rfl⟩
set_option maxHeartbeats 2000000 in
theorem refBack_fin (n : Int) (w : World) (h : right n = true) (h2 : (n == 9221120237041090561) = false) (h0 : 0 ≤ n) (h3 : (n == 9218868437227405312) = false) (hn : n < 9218868437227405312) (M : Nat) (P : Int)
    (hM : M < 9007199254740992) (hP0 : -1074 ≤ P) (hP1 : P ≤ 971) (hg : (n / 4503599627370496 ≤ 0 ∧ P = -1074 ∧ n % 4503599627370496 = M) ∨ (0 < n / 4503599627370496 ∧ n / 4503599627370496 = P + 1075 ∧ n % 4503599627370496 + 4503599627370496 = M)) :
    Calls Try.prog 17 #[.int .i64 n] w fun e w' => e = .returned (.float .f64 (F false M P)) ∧ w = w' := by
  go_enter Try.func17, Try.ntmps17
  rcases hg with ⟨g1, g2, g3⟩ | ⟨g1, g2, g3⟩
  · have G2 := Lib.hid g2; clear g2
    have G3 := Lib.hid g3; clear g3
    go_wp2_with (go_at_call 14; refine (refRight_any _ _).mono ?_; rintro e w' ⟨rfl, rfl⟩)
    go_loop [4, 6] (fun e f => ∃ R : Int, 0 ≤ R ∧ (R = 0 ∨ R ≤ P) ∧ e = .int .i64 (P + 1075 - R) ∧ f = .float .f64 (F false M R)) (fun e _ => (intOf e - 1075).toNat)
    case atStart => exact ⟨0, by omega, .inl rfl, by rw [G2.out]; rfl, by rw [G3.out]; rfl⟩
    case round =>
      obtain ⟨R, hR0, hR, rfl, rfl⟩ := hrel
      have hfR := fits_small (R := R) hM (by omega) (by omega)
      have HR := Lib.hid hR; clear hR
      by_cases hc : R < P
      · have t : 1075 < P + 1075 - R := by omega
        have d := mul_two false hfR
        go_wp2
        go_round
        case rel => exact ⟨R + 1, by omega, .inr (by omega), by congr 1; omega, rfl⟩
        case measure => simp [intOf]; omega
      · have t : P + 1075 - R ≤ 1075 := by omega
        go_wp2
        clear t
        go_loop [4, 6] (fun e f => ∃ R : Int, P ≤ R ∧ R ≤ 971 ∧ e = .int .i64 (P + 1075 - R) ∧ f = .float .f64 (F false M R)) (fun e _ => (1075 - intOf e).toNat)
        case atStart => exact ⟨R, by omega, by have := HR.out; omega, rfl, rfl⟩
        case round =>
          clear HR hc hfR hR0
          obtain ⟨S, hS0, hS, rfl, rfl⟩ := hrel
          have hfS := fits_small (R := S) hM (by omega) (by omega)
          by_cases hc : P < S
          · have t : P + 1075 - S < 1075 := by omega
            have d := div_two false hfS
            go_wp2
            go_round
            case rel => exact ⟨S - 1, by omega, by omega, by congr 1; omega, rfl⟩
            case measure => simp [intOf]; omega
          · obtain rfl : P = S := by omega
            have t : 1075 ≤ P + 1075 - P := by omega
            go_wp2
            go_ret
            exact ⟨rfl, rfl⟩
  · have G2 := Lib.hid g2; clear g2
    have G3 := Lib.hid g3; clear g3
    go_wp2_with (go_at_call 14; refine (refRight_any _ _).mono ?_; rintro e w' ⟨rfl, rfl⟩)
    go_loop [4, 6] (fun e f => ∃ R : Int, 0 ≤ R ∧ (R = 0 ∨ R ≤ P) ∧ e = .int .i64 (P + 1075 - R) ∧ f = .float .f64 (F false M R)) (fun e _ => (intOf e - 1075).toNat)
    case atStart => exact ⟨0, by omega, .inl rfl, by rw [G2.out]; congr 1; omega, by rw [G3.out]; rfl⟩
    case round =>
      obtain ⟨R, hR0, hR, rfl, rfl⟩ := hrel
      have hfR := fits_small (R := R) hM (by omega) (by omega)
      have HR := Lib.hid hR; clear hR
      by_cases hc : R < P
      · have t : 1075 < P + 1075 - R := by omega
        have d := mul_two false hfR
        go_wp2
        go_round
        case rel => exact ⟨R + 1, by omega, .inr (by omega), by congr 1; omega, rfl⟩
        case measure => simp [intOf]; omega
      · have t : P + 1075 - R ≤ 1075 := by omega
        go_wp2
        clear t
        go_loop [4, 6] (fun e f => ∃ R : Int, P ≤ R ∧ R ≤ 971 ∧ e = .int .i64 (P + 1075 - R) ∧ f = .float .f64 (F false M R)) (fun e _ => (1075 - intOf e).toNat)
        case atStart => exact ⟨R, by omega, by have := HR.out; omega, rfl, rfl⟩
        case round =>
          clear HR hc hfR hR0
          obtain ⟨S, hS0, hS, rfl, rfl⟩ := hrel
          have hfS := fits_small (R := S) hM (by omega) (by omega)
          by_cases hc : P < S
          · have t : P + 1075 - S < 1075 := by omega
            have d := div_two false hfS
            go_wp2
            go_round
            case rel => exact ⟨S - 1, by omega, by omega, by congr 1; omega, rfl⟩
            case measure => simp [intOf]; omega
          · obtain rfl : P = S := by omega
            have t : 1075 ≤ P + 1075 - P := by omega
            go_wp2
            go_ret
            exact ⟨rfl, rfl⟩

set_option maxHeartbeats 400000 in
theorem refBack_neg (n : Int) (r : Nat) (w : World) (h : right n = true) (h2 : (n == 9221120237041090561) = false) (h0 : n < 0) (h3 : (n == -1) = false) (hb : -9218868437227405313 ≤ n) (hd : Ieee.double.sub 0 (wd false r) = some (wd true r))
    (ih : Hid (∀ w, Calls Try.prog 17 #[.int .i64 (-1 - n)] w fun e w' => e = .returned (.float .f64 (wd false r)) ∧ w = w')) :
    Calls Try.prog 17 #[.int .i64 n] w fun e w' => e = .returned (.float .f64 (wd true r)) ∧ w = w' := by
  go_enter Try.func17, Try.ntmps17
  go_wp2_with (first | (go_at_call 14; refine (refRight_any _ _).mono ?_; rintro e w' ⟨rfl, rfl⟩) | (go_at_call 17; refine (ih.out _).mono ?_; rintro e w' ⟨rfl, rfl⟩))
  go_ret
  exact ⟨rfl, rfl⟩

theorem refBack_pos (r : Nat) (w : World) (h : r ≤ infR) : Calls Try.prog 17 #[.int .i64 (r : Int)] w fun e w' => e = .returned (.float .f64 (wd false r)) ∧ w = w' := by
  have hr : right (r : Int) = true := by rw [right_iff]; left; unfold infR at h; omega
  have hn : ((r : Int) == 9221120237041090561) = false := by rw [beq_eq_false_iff_ne]; unfold infR at h; omega
  rcases Nat.lt_or_eq_of_le h with h | rfl
  · have h' : r < 9218868437227405312 := h
    rw [wd_F false r h]
    refine refBack_fin r w hr hn (by omega) (by rw [beq_eq_false_iff_ne]; omega) (by omega) (mg r) (pl r) (mg_lt r) (pl_ge r) (pl_le r h) ?_
    unfold mg pl
    by_cases hs : r < 4503599627370496
    · left; rw [if_pos hs, if_pos hs]; omega
    · right; rw [if_neg hs, if_neg hs]; omega
  · exact refBack_inf _ w hr hn (by omega) (by decide)

theorem refBack_any (n : Int) (s : Bool) (r : Nat) (w : World) (h : r ≤ infR) (hc : n = if s then -1 - (r : Int) else r) : Calls Try.prog 17 #[.int .i64 n] w fun e w' => e = .returned (.float .f64 (wd s r)) ∧ w = w' := by
  have h' : r ≤ 9218868437227405312 := h
  cases s
  · simp only [Bool.false_eq_true, if_false] at hc; subst hc; exact refBack_pos r w h
  · simp only [if_true] at hc
    have hr : right n = true := by rw [right_iff]; left; omega
    have hn : (n == 9221120237041090561) = false := by rw [beq_eq_false_iff_ne]; omega
    by_cases h0 : r = 0
    · subst h0
      exact refBack_mzero n w hr hn (by omega) (by rw [hc]; rfl)
    · refine refBack_neg n r w hr hn (by omega) (by rw [beq_eq_false_iff_ne]; omega) (by omega) (zero_sub_pos r h0 h) (Lib.hid fun w => ?_)
      rw [show -1 - n = (r : Int) from by omega]
      exact refBack_pos r w h
end Go.Proofs.Ytljpeehnjjbebaa

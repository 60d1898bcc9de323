/-
  What package value reads and tells, as plain mathematics: what is told is read as it was, what is read is told as it stood.
-/
import Derived.Test.YtncafadjcelloaaDoorValGet
namespace Go.Proofs.YtncafadjcelloaaDoor
open Go.RowKit FloM ValM

theorem digs_cons (b n : Nat) (hb : Base b) (hn : 0 < n) : ∃ c r, digs b n = c :: r ∧ isDig b c = true ∧ c ≠ 48 ∧ allDig b (c :: r) = true ∧ numOf b (c :: r) = n := by
  obtain ⟨h1, h2⟩ := num_digs b n hb
  cases e : digs b n with
  | nil => rw [e] at h1; have : (0 : Nat) = n := h1; omega
  | cons c r =>
    rw [e] at h1 h2
    refine ⟨c, r, rfl, ?_, digs_head b n hb c r e, h2, h1⟩
    unfold allDig at h2; rw [List.all_cons, Bool.and_eq_true] at h2; exact h2.1
theorem pad1_zero : padTo 1 (digs 10 0) = [48] := by rw [digs_zero]; rfl
theorem pad1_pos (n : Nat) (hn : 0 < n) : padTo 1 (digs 10 n) = digs 10 n := by
  obtain ⟨c, r, e, _⟩ := digs_cons 10 n (.inl rfl) hn
  exact padTo_self _ _ (by rw [e]; simp)
theorem intTextL_neg (n : Int) (h : n < 0) : ∃ c r, intTextL n = 45 :: c :: r ∧ c ≠ 48 ∧ allDig 10 (c :: r) = true ∧ numOf 10 (c :: r) = n.natAbs := by
  obtain ⟨c, r, e, _, h1, h2, h3⟩ := digs_cons 10 n.natAbs (.inl rfl) (by omega)
  refine ⟨c, r, ?_, h1, h2, h3⟩
  unfold intTextL; rw [if_pos h, pad1_pos _ (by omega), e]
theorem intTextL_zero : intTextL 0 = [48] := by
  unfold intTextL; rw [if_neg (by decide)]; exact pad1_zero
theorem intTextL_pos (n : Int) (h : 0 < n) : ∃ c r, intTextL n = c :: r ∧ isDig 10 c = true ∧ c ≠ 48 ∧ allDig 10 (c :: r) = true ∧ numOf 10 (c :: r) = n.natAbs := by
  obtain ⟨c, r, e, h0, h1, h2, h3⟩ := digs_cons 10 n.natAbs (.inl rfl) (by omega)
  refine ⟨c, r, ?_, h0, h1, h2, h3⟩
  unfold intTextL; rw [if_neg (by omega), pad1_pos _ (by omega), e]
theorem dig10 {c : UInt8} (h : isDig 10 c = true) : 48 ≤ c.toNat ∧ c.toNat ≤ 57 := by
  rw [isDig_iff] at h; omega
theorem ne_of_toNat {c d : UInt8} (h : c.toNat ≠ d.toNat) : c ≠ d := fun e => h (by rw [e])
theorem readInt_pos (c : UInt8) (r : List UInt8) (h1 : c ≠ 45) (h2 : ¬ (c = 48 ∧ r ≠ [])) : readIntL (c :: r) = if digOk 10 9223372036854775807 (c :: r) then some (numOf 10 (c :: r) : Int) else none := by
  unfold readIntL; simp only; rw [if_neg h1, if_neg h2]
theorem readInt_neg (d : UInt8) (q : List UInt8) (h : d ≠ 48) : readIntL (45 :: d :: q) = if digOk 10 9223372036854775808 (d :: q) then some (-(numOf 10 (d :: q) : Int)) else none := by
  unfold readIntL; simp only; rw [if_pos trivial, if_neg h]
theorem readInt_text (n : Int) (h : Fits n) : readIntL (intTextL n) = some n := by
  unfold Fits at h
  rcases Int.lt_trichotomy n 0 with hn | rfl | hn
  · obtain ⟨c, r, e, h1, h2, h3⟩ := intTextL_neg n hn
    rw [e, readInt_neg c r h1, if_pos (by unfold digOk; rw [h2, h3, decide_eq_true (by omega)]; rfl), h3]
    congr 1; omega
  · rw [intTextL_zero]; decide
  · obtain ⟨c, r, e, h0, h1, h2, h3⟩ := intTextL_pos n hn
    have := dig10 h0
    rw [e, readInt_pos c r (ne_of_toNat (by show c.toNat ≠ 45; omega)) (fun x => h1 x.1), if_pos (by unfold digOk; rw [h2, h3, decide_eq_true (by omega)]; rfl), h3]
    congr 1; omega
theorem name_first {l : List UInt8} {c : UInt8} {r : List UInt8} (e : l = c :: r) (h : c.toNat < 97) : nameL l = false := by
  subst e
  cases hn : nameL (c :: r) with
  | false => rfl
  | true => have := name_head hn; omega
theorem intText_name (n : Int) : nameL (intTextL n) = false := by
  rcases Int.lt_trichotomy n 0 with hn | rfl | hn
  · obtain ⟨c, r, e, _⟩ := intTextL_neg n hn; exact name_first e (by decide)
  · rw [intTextL_zero]; exact name_first rfl (by decide)
  · obtain ⟨c, r, e, h0, _⟩ := intTextL_pos n hn; have := dig10 h0; exact name_first e (by omega)
theorem readInt_hash (r : List UInt8) : readIntL (35 :: r) = none := by
  rw [readInt_pos 35 r (by decide) (fun x => absurd x.1 (by decide)), if_neg]
  unfold digOk allDig; rw [List.all_cons, show isDig 10 35 = false from rfl]; simp
theorem wrap_back (n : Int) (N : Nat) (h : Fits n) (hw : IntKind.u64.wrap n = N) : wrap64 N = n := by
  unfold Fits at h; rw [← hw]; simp [IntKind.wrap, IntKind.bits, IntKind.signed, wrap64]; omega
theorem wrap_forth (N : Nat) (h : N < 18446744073709551616) : IntKind.u64.wrap (wrap64 N) = N ∧ Fits (wrap64 N) := by
  unfold Fits; constructor
  · simp [IntKind.wrap, IntKind.bits, IntKind.signed, wrap64]; omega
  · unfold wrap64; omega
theorem readFlo_text (n : Int) (N : Nat) (h : Fits n) (hw : IntKind.u64.wrap n = N) (hN : N < 18446744073709551616) (hr : right n = true) : readFloL (35 :: padTo 16 (digs 16 N)) = some n := by
  obtain ⟨h1, h2⟩ := num_pad 16 16 N (.inr rfl)
  have hl := digs_len 16 N 16 (by omega) (by omega)
  have hl2 : (padTo 16 (digs 16 N)).length = 16 := by rw [padTo_len]; omega
  have hb := wrap_back n N h hw
  unfold readFloL
  simp only
  rw [if_pos ⟨trivial, hl2⟩, h1, hb, if_pos]
  unfold digOk; rw [h1, h2, hr, decide_eq_true (by omega)]; rfl

/-- What is told is read as it was. -/
theorem read_text (v : V) (h : rightV v = true) (hn : Fits v.n) : readV (bs (textV v)) = some v := by
  obtain ⟨k, n, s⟩ := v
  have hn : Fits n := hn
  unfold readV name
  rw [ls_bs]
  unfold textV
  rw [h, if_pos rfl]
  simp only
  by_cases k1 : k = 1
  · subst k1
    have hs : s = ByteArray.empty := by simpa [rightV] using h
    subst hs
    rw [if_pos rfl, intText_name, if_neg Bool.false_ne_true, readInt_text n hn]
  · by_cases k2 : k = 2
    · subst k2
      obtain ⟨hs, hr⟩ : s = ByteArray.empty ∧ right n = true := by simpa [rightV] using h
      subst hs
      obtain ⟨N, hw, hN⟩ := u64_nat n
      rw [if_neg k1, if_pos rfl, hw, Int.toNat_natCast, name_first rfl (by decide), if_neg Bool.false_ne_true, readInt_hash, readFlo_text n N hn hw hN hr]
    · by_cases k3 : k = 3
      · subst k3
        obtain ⟨h0, hs⟩ : n = 0 ∧ name s = true := by simpa [rightV] using h
        subst h0
        rw [if_neg k1, if_neg k2, if_pos (show nameL (ls s) = true from hs), bs_ls]
      · exfalso; simp [rightV, k1, k2, k3] at h
theorem digOk_iff {b most : Nat} {l : List UInt8} : digOk b most l = true ↔ allDig b l = true ∧ numOf b l ≤ most := by simp [digOk]
theorem digs_ne {b : Nat} {c : UInt8} {r : List UInt8} (h : digs b (numOf b (c :: r)) = c :: r) : 0 < numOf b (c :: r) := by
  rcases Nat.eq_zero_or_pos (numOf b (c :: r)) with h0 | h0
  · rw [h0, digs_zero] at h; cases h
  · exact h0
theorem text_readInt (l : List UInt8) (n : Int) (h : readIntL l = some n) : Fits n ∧ intTextL n = l := by
  unfold Fits
  cases l with
  | nil => cases h
  | cons c r =>
    by_cases hc : c = 45
    · subst hc
      cases r with
      | nil => simp [readIntL] at h
      | cons d q =>
        by_cases hd : d = 48
        · simp [readIntL, hd] at h
        · rw [readInt_neg d q hd] at h
          split at h
          · rename_i hk
            injection h with h
            obtain ⟨h1, h2⟩ := digOk_iff.1 hk
            have hg := digs_num 10 (.inl rfl) d q h1 hd
            have hp := digs_ne hg
            refine ⟨by omega, ?_⟩
            unfold intTextL
            rw [if_pos (by omega), show n.natAbs = numOf 10 (d :: q) from by omega, pad1_pos _ hp, hg]
          · cases h
    · by_cases hz : c = 48 ∧ r ≠ []
      · unfold readIntL at h; simp only at h; rw [if_neg hc, if_pos hz] at h; cases h
      · rw [readInt_pos c r hc hz] at h
        split at h
        · rename_i hk
          injection h with h
          obtain ⟨h1, h2⟩ := digOk_iff.1 hk
          by_cases h48 : c = 48
          · have hr : r = [] := by simpa [h48] using hz
            subst h48 hr
            have : numOf 10 [48] = 0 := by decide
            rw [this] at h
            subst h
            exact ⟨by decide, intTextL_zero⟩
          · have hg := digs_num 10 (.inl rfl) c r h1 h48
            have hp := digs_ne hg
            refine ⟨by omega, ?_⟩
            unfold intTextL
            rw [if_neg (by omega), show n.natAbs = numOf 10 (c :: r) from by omega, pad1_pos _ hp, hg]
        · cases h
theorem text_readFlo (l : List UInt8) (n : Int) (h : readFloL l = some n) : Fits n ∧ right n = true ∧ 35 :: padTo 16 (digs 16 (IntKind.u64.wrap n).toNat) = l := by
  cases l with
  | nil => cases h
  | cons c r =>
    unfold readFloL at h
    simp only at h
    split at h
    · rename_i hc
      split at h
      · rename_i hk
        injection h with h
        rw [Bool.and_eq_true] at hk
        obtain ⟨h1, h2⟩ := digOk_iff.1 hk.1
        obtain ⟨f1, f2⟩ := wrap_forth (numOf 16 r) (by omega)
        rw [← h]
        refine ⟨f2, hk.2, ?_⟩
        have hp := pad_num 16 (.inr rfl) r h1
        rw [hc.2] at hp
        rw [f1, Int.toNat_natCast, hp, hc.1]
      · cases h
    · cases h
/-- What is read is told as it stood, and can be. -/
theorem text_read (t : ByteArray) (v : V) (h : readV t = some v) : rightV v = true ∧ bs (textV v) = t ∧ Fits v.n := by
  have hz : Fits 0 := by unfold Fits; decide
  unfold readV at h
  split at h
  · rename_i hn
    injection h with h
    subst h
    have hr : rightV ⟨3, 0, t⟩ = true := by simpa [rightV] using hn
    refine ⟨hr, ?_, hz⟩
    unfold textV; rw [hr]; exact bs_ls t
  · split at h
    · rename_i n hi
      injection h with h
      subst h
      obtain ⟨h1, h2⟩ := text_readInt _ _ hi
      have hr : rightV ⟨1, n, ByteArray.empty⟩ = true := by simp [rightV]
      refine ⟨hr, ?_, h1⟩
      unfold textV; rw [hr]; show bs (intTextL n) = t; rw [h2, bs_ls]
    · split at h
      · rename_i n hf
        injection h with h
        subst h
        obtain ⟨h1, h2, h3⟩ := text_readFlo _ _ hf
        have hr : rightV ⟨2, n, ByteArray.empty⟩ = true := by simpa [rightV] using h2
        refine ⟨hr, ?_, h1⟩
        unfold textV; rw [hr]; show bs (35 :: padTo 16 (digs 16 (IntKind.u64.wrap n).toNat)) = t; rw [h3, bs_ls]
      · cases h
end Go.Proofs.YtncafadjcelloaaDoor

/-
  Plain mathematics of layer 7 (lex): what each token is; a variable alone, a value's text alone.
-/
import Derived.Test.YtahnnefmkcpibaaDoorLexKind
import Derived.Test.YtahnnefmkcpibaaDoorValLaws
namespace Go.Proofs.YtahnnefmkcpibaaDoor
open Go.RowKit FloM ValM
set_option linter.unusedVariables false
set_option linter.unusedSimpArgs false

theorem first_ok {l : List UInt8} {k : Nat} (h : firstL l = some (k, l.length)) : okL k l = true := by
  have := (first_iff h).2
  rwa [List.take_length] at this
theorem var_first {l : List UInt8} (h : varL l = true) : firstL l = some (2, l.length) := by
  have hv := h
  simp only [varL, Bool.and_eq_true, decide_eq_true_eq] at h
  obtain ⟨⟨h1, h2⟩, h3⟩ := h
  cases l with
  | nil => simp [spanL] at h1
  | cons c r =>
    have hu := span_pos.1 h1
    have hm : measL (c :: r) = (2, (c :: r).length) := by
      unfold measL
      rw [if_neg (by rw [span_pos, (upp_not_word hu).2]; simp), if_pos h1, h2]
    unfold firstL
    rw [hm]
    simp only [List.take_length]
    rw [if_pos (by show varL (c :: r) = true; exact hv)]
theorem hex_name {c : UInt8} (h : isDig 16 c = true) : nameC c = true := by
  have := (isDig_iff 16 c).1 h
  simp only [nameC, lowC, uppC, digC, Bool.or_eq_true, decide_eq_true_eq]; omega
theorem allHex_name : ∀ l : List UInt8, allDig 16 l = true → l.all nameC = true
  | [], _ => rfl
  | c :: l, h => by
    have h : isDig 16 c = true ∧ allDig 16 l = true := by simpa [allDig] using h
    rw [List.all_cons, hex_name h.1, allHex_name l h.2]; rfl
theorem allAt_word : ∀ (l : List UInt8) (i : Nat), allAt i l = true → l.all wordC = true
  | [], _, _ => rfl
  | c :: l, i, h => by
    simp only [allAt, Bool.and_eq_true] at h
    rw [List.all_cons, allAt_word l _ h.2, Bool.and_true]
    have := (okAt_iff i c).1 h.1
    simp only [wordC, lowC, digC, Bool.or_eq_true, decide_eq_true_eq]; omega
theorem name_first_word {l : List UInt8} (h : nameL l = true) : firstL l = some (1, l.length) := by
  have hn := h
  obtain ⟨h1, h2, h3⟩ := (nameL_iff l).1 h
  cases l with
  | nil => simp at h1
  | cons c r =>
    have h3' := h3
    simp only [allAt, Bool.and_eq_true] at h3
    have hc := (okAt_iff 0 c).1 h3.1
    have hl : lowC c = true := by simp only [lowC, decide_eq_true_eq]; omega
    have hm : measL (c :: r) = (1, (c :: r).length) := by
      unfold measL
      rw [if_pos (span_pos.2 hl), span_full.2 (allAt_word _ _ h3')]
    unfold firstL
    rw [hm]
    simp only [List.take_length]
    rw [if_pos (by show nameL (c :: r) = true; exact hn)]
theorem value_first {c : UInt8} {r : List UInt8} (hm : measL (c :: r) = (3, (c :: r).length)) (hr : (readV (bs (c :: r))).isSome = true) : firstL (c :: r) = some (3, (c :: r).length) := by
  unfold firstL
  rw [hm]
  simp only [List.take_length]
  rw [if_pos (by show (readV (bs (c :: r))).isSome = true; exact hr)]
theorem digs_meas {c : UInt8} {r : List UInt8} (h : allDig 10 (c :: r) = true) : measL (c :: r) = (3, (c :: r).length) := by
  have h0 : isDig 10 c = true ∧ allDig 10 r = true := by simpa [allDig] using h
  have hc := dig10 h0.1
  have hd := isDig_10 h0.1
  have hs : signL (c :: r) = 0 := by show (if c.toNat = 45 then 1 else 0) = 0; rw [if_neg (by omega)]
  unfold measL
  rw [if_neg (by rw [span_pos]; simp [lowC]; omega), if_neg (by rw [span_pos]; simp [uppC]; omega)]
  simp only [if_neg (show ¬ c.toNat = 35 by omega)]
  rw [hs, List.drop_zero, if_pos (span_pos.2 hd), span_full.2 (all_word_name (allDig_word _ h))]; simp
theorem minus_meas {c : UInt8} {r : List UInt8} (h : allDig 10 (c :: r) = true) : measL (45 :: c :: r) = (3, (45 :: c :: r).length) := by
  have h0 : isDig 10 c = true ∧ allDig 10 r = true := by simpa [allDig] using h
  have hd := isDig_10 h0.1
  have hs : signL (45 :: c :: r) = 1 := rfl
  unfold measL
  rw [if_neg (by rw [span_pos]; decide), if_neg (by rw [span_pos]; decide)]
  simp only [if_neg (show ¬ (45 : UInt8).toNat = 35 by decide)]
  rw [hs, List.drop_one, List.tail_cons, if_pos (span_pos.2 hd), span_full.2 (all_word_name (allDig_word _ h))]; simp only [List.length_cons]; congr 1; omega
theorem hash_meas {r : List UInt8} (h : r.all nameC = true) : measL (35 :: r) = (3, (35 :: r).length) := by
  unfold measL
  rw [if_neg (by rw [span_pos]; decide), if_neg (by rw [span_pos]; decide)]
  simp only [if_pos (show (35 : UInt8).toNat = 35 by decide)]
  rw [span_full.2 h, List.length_cons]; congr 1; omega
/-- A value's text alone is one token. -/
theorem text_first (v : V) (h : rightV v = true) (hn : Fits v.n) : ∃ k, firstL (textV v) = some (k, (textV v).length) ∧ (k = 1 ↔ v.k = 3) := by
  have hr := read_text v h hn
  have hs : (readV (bs (textV v))).isSome = true := by rw [hr]; rfl
  have ht : textV v = if v.k = 1 then intTextL v.n else if v.k = 2 then 35 :: padTo 16 (digs 16 (IntKind.u64.wrap v.n).toNat) else ls v.s := by unfold textV; rw [if_pos h]
  by_cases k1 : v.k = 1
  · rw [if_pos k1] at ht
    refine ⟨3, ?_, by omega⟩
    rw [ht] at hs ⊢
    rcases Int.lt_trichotomy v.n 0 with hl | h0 | hg
    · obtain ⟨c, r, e, _, ha, _⟩ := intTextL_neg v.n hl
      rw [e] at hs ⊢
      exact value_first (minus_meas ha) hs
    · rw [h0, intTextL_zero] at hs ⊢
      exact value_first (digs_meas (by decide)) hs
    · obtain ⟨c, r, e, _, _, ha, _⟩ := intTextL_pos v.n hg
      rw [e] at hs ⊢
      exact value_first (digs_meas ha) hs
  · by_cases k2 : v.k = 2
    · rw [if_neg k1, if_pos k2] at ht
      refine ⟨3, ?_, by omega⟩
      rw [ht] at hs ⊢
      refine value_first (hash_meas ?_) hs
      have hf : readFloL (35 :: padTo 16 (digs 16 (IntKind.u64.wrap v.n).toNat)) ≠ none := by
        obtain ⟨N, hw, hN⟩ := u64_nat v.n
        have hrt : right v.n = true := by unfold rightV at h; rw [if_neg k1, if_pos k2, Bool.and_eq_true] at h; exact h.2
        rw [show (IntKind.u64.wrap v.n).toNat = N by rw [hw]; rfl, readFlo_text v.n N hn hw hN hrt]; simp
      have hd : digOk 16 18446744073709551615 (padTo 16 (digs 16 (IntKind.u64.wrap v.n).toNat)) = true := by
        cases hc : digOk 16 18446744073709551615 (padTo 16 (digs 16 (IntKind.u64.wrap v.n).toNat)) with
        | true => rfl
        | false =>
          exfalso; apply hf
          unfold readFloL
          simp [hc]
      exact allHex_name _ (digOk_iff.1 hd).1
    · have k3 : v.k = 3 := by
        unfold rightV at h; rw [if_neg k1, if_neg k2] at h
        by_cases k3 : v.k = 3
        · exact k3
        · rw [if_neg k3] at h; cases h
      rw [if_neg k1, if_neg k2] at ht
      refine ⟨1, ?_, by omega⟩
      have hnm : name v.s = true := by
        unfold rightV at h; rw [if_neg k1, if_neg k2, if_pos k3, Bool.and_eq_true] at h; exact h.2
      rw [ht]
      exact name_first_word hnm
/-- A token that is a value is no name. -/
theorem value_not_name {l : List UInt8} (h : firstL l = some (3, l.length)) : ∃ v, readV (bs l) = some v ∧ v.k ≠ 3 := by
  have ho := first_ok h
  have ho : (readV (bs l)).isSome = true := ho
  obtain ⟨v, hv⟩ := Option.isSome_iff_exists.1 ho
  refine ⟨v, hv, fun k3 => ?_⟩
  obtain ⟨h1, h2, h3⟩ := text_read _ _ hv
  obtain ⟨k, hk, hk'⟩ := text_first v h1 h3
  have hl : textV v = l := by rw [← ls_bs (textV v), h2, ls_bs]
  rw [hl, h] at hk
  injection hk with hk
  injection hk with hk _
  have := hk'.2 k3
  omega
end Go.Proofs.YtahnnefmkcpibaaDoor

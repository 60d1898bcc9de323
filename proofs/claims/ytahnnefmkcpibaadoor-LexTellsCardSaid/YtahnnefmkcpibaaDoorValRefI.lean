/-
  Contract of antecedentref02.Read, whole.
-/
import Derived.Test.YtahnnefmkcpibaaDoorValRefH
namespace Go.Proofs.YtahnnefmkcpibaaDoor
open Go.RowKit FloM ValM

theorem byte_ne {c d : UInt8} (k : Nat) (hd : d.toNat = k) (h : c ≠ d) : ((c.toNat : Int) == (k : Int)) = false := (byte_eq k hd).trans (decide_eq_false h)
theorem byte_is {c d : UInt8} (k : Nat) (hd : d.toNat = k) (h : c = d) : ((c.toNat : Int) == (k : Int)) = true := (byte_eq k hd).trans (decide_eq_true h)
theorem refRead_go (t : ByteArray) (w : World) : Calls Tryd.prog 32 #[.string t] w (ReadV t w) := by
  cases e : ls t with
  | nil =>
    obtain rfl : t = ByteArray.empty := ls_inj e
    exact rr_empty w
  | cons c r =>
    obtain ⟨ht, h0⟩ := first_of e
    have e35 : ∀ b, ((c.toNat : Int) == 35) = b → ((t[0].toNat : Int) == 35) = b := fun b h => by rw [h0]; exact h
    have e45 : ∀ b, ((c.toNat : Int) == 45) = b → ((t[0].toNat : Int) == 45) = b := fun b h => by rw [h0]; exact h
    have hx : ls (t.extract 1 t.size) = r := by rw [extract_tail, e]; rfl
    cases hr : readV t with
    | none =>
      by_cases c1 : c = 35
      · exact rr_hash t w ht hr (e35 _ (byte_is 35 rfl c1))
      · have q1 := e35 _ (byte_ne 35 rfl c1)
        by_cases c2 : c = 45
        · exact rr_minus t w ht hr q1 (e45 _ (byte_is 45 rfl c2))
        · have q2 := e45 _ (byte_ne 45 rfl c2)
          by_cases c3 : (t[0].toNat : Int) < 48
          · exact rr_low t w ht hr q1 q2 c3
          · by_cases c4 : (t[0].toNat : Int) ≤ 57
            · exact rr_digit t w ht hr q1 q2 (by omega) c4
            · exact rr_high t w ht hr q1 q2 (by omega) (by omega)
    | some v =>
      obtain ⟨hv, hT, hf0⟩ := text_read t v hr
      obtain ⟨k, n, s⟩ := v
      have hf : Fits n := hf0
      clear hf0
      have hn : ∃ N : Nat, IntKind.u64.wrap n = N ∧ N < 18446744073709551616 := u64_nat n
      have hTl : textV ⟨k, n, s⟩ = c :: r := by rw [← ls_bs (textV _), hT, e]
      by_cases k1 : k = 1
      · subst k1
        have hs : s = ByteArray.empty := by simpa [rightV] using hv
        subst hs
        have hTi : intTextL n = c :: r := by rw [← hTl]; unfold textV; rw [hv]; rfl
        rcases Int.lt_trichotomy n 0 with hn0 | hn0 | hn0
        · obtain ⟨d, q, h1, h2, h3, h4⟩ := intTextL_neg n hn0
          rw [hTi] at h1
          injection h1 with h1 h1'
          subst h1
          unfold Fits at hf
          have hmod : numOf 10 r % 18446744073709551616 = n.natAbs := by rw [h1', h4, Nat.mod_eq_of_lt (show n.natAbs < 18446744073709551616 by omega)]
          refine rs_minus t w ht n.natAbs n hr (by rw [hx, h1']; exact h3) (by rw [hx, hmod]) ?_ hf hT (e35 _ (byte_ne (d := 35) 35 rfl (by decide))) (e45 _ (byte_is (d := 45) 45 rfl rfl))
          rw [wrap_neg _ (by omega) (by omega)]; omega
        · subst hn0
          rw [intTextL_zero] at hTi
          injection hTi with h1 h1'
          have hl : ls t = [48] := by rw [e, ← h1, ← h1']
          have hc : (t[0].toNat : Int) = 48 := by rw [h0, ← h1]; rfl
          have ew : wrap64 ((0 : Nat) : Int) = 0 := by unfold wrap64; decide
          exact rs_digit t w ht 0 (by rw [ew]; exact hr) (by rw [hl]; decide) (by rw [hl]; decide) (by rw [ew]; exact hT) (e35 _ (byte_ne (d := 35) 35 rfl (by rw [← h1]; decide))) (e45 _ (byte_ne (d := 45) 45 rfl (by rw [← h1]; decide))) (by omega) (by omega)
        · obtain ⟨d, q, h1, h2, h3, h4, h5⟩ := intTextL_pos n hn0
          rw [hTi] at h1
          injection h1 with h1 h1'
          subst h1 h1'
          have hd := dig10 h2
          unfold Fits at hf
          have e1 : wrap64 ((n.natAbs : Nat) : Int) = n := by unfold wrap64; omega
          refine rs_digit t w ht n.natAbs (by rw [e1]; exact hr) (by rw [e]; exact h4) (by rw [e, h5, Nat.mod_eq_of_lt (show n.natAbs < 18446744073709551616 by omega)]) (by rw [e1]; exact hT) (e35 _ (byte_ne (d := 35) 35 rfl (ne_of_toNat (by show c.toNat ≠ 35; omega)))) (e45 _ (byte_ne (d := 45) 45 rfl (ne_of_toNat (by show c.toNat ≠ 45; omega)))) (by rw [h0]; omega) (by rw [h0]; omega)
      · by_cases k2 : k = 2
        · subst k2
          obtain ⟨hs, hrt⟩ : s = ByteArray.empty ∧ right n = true := by simpa [rightV] using hv
          subst hs
          obtain ⟨N, hw, hN⟩ := hn
          have hTf : 35 :: padTo 16 (digs 16 N) = c :: r := by
            rw [← hTl]; unfold textV; rw [hv, if_pos rfl, if_neg (show ¬ (2 : Int) = 1 by decide), if_pos rfl, hw]; rfl
          injection hTf with h1 h1'
          obtain ⟨n1, n2⟩ := num_pad 16 16 N (.inr rfl)
          have e1 := wrap_back n N hf hw
          exact rs_hash t w ht N (by rw [e1]; exact hr) (by rw [hx, ← h1']; exact n2) (by rw [hx, ← h1', n1, Nat.mod_eq_of_lt hN]) (by rw [e1]; exact hT) (e35 _ (byte_is 35 rfl h1.symm))
        · by_cases k3 : k = 3
          · subst k3
            obtain ⟨hn0, hs⟩ : n = 0 ∧ name s = true := by simpa [rightV] using hv
            subst hn0
            have hst : s = t := by
              apply ls_inj
              rw [e, ← hTl]; unfold textV; rw [hv]; rfl
            subst hst
            have hnm : nameL (c :: r) = true := by rw [← e]; exact hs
            have hh := name_head hnm
            exact rs_sym s w ht hr hT (e35 _ (byte_ne (d := 35) 35 rfl (ne_of_toNat (by show c.toNat ≠ 35; omega)))) (e45 _ (byte_ne (d := 45) 45 rfl (ne_of_toNat (by show c.toNat ≠ 45; omega)))) (by rw [h0]; omega) (by rw [h0]; omega)
          · exfalso; simp [rightV, k1, k2, k3] at hv
end Go.Proofs.YtahnnefmkcpibaaDoor

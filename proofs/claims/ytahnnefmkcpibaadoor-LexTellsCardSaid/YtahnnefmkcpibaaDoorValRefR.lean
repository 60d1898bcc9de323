/-
  Contracts of antecedentref02.Text and Read.
-/
import Derived.Test.YtahnnefmkcpibaaDoorValRefT
namespace Go.Proofs.YtahnnefmkcpibaaDoor
open Go.RowKit FloM ValM

/-! ### Text -/
set_option maxHeartbeats 1000000 in
theorem refText_bad (k n : Int) (s : ByteArray) (w : World) (h : rightV ⟨k, n, s⟩ = false) : Calls Tryd.prog 43 #[.agg #[.int .i64 k, .int .i64 n, .string s]] w (TextV ⟨k, n, s⟩ w) := by
  have hB := Below.refl w.heap.size w
  go_enter Tryd.func43, Tryd.ntmps43
  go_wp2_with (first | (go_at_call 49; refine (refRight_go _ _ _ _).mono ?_; rintro e w1 ⟨rfl, h'⟩; have hs' := h'.size; (try simp at hs'); have hz0 : w.heap.size < w1.heap.size := (by omega); replace hB := nxt hB (by repeat (first | exact Below.refl _ _ | refine Below.setCell ?_ (by simp) _ | refine Below.alloc ?_ (by simp) _)) h'; have hc := keep h'; clear h'))
  go_ret
  exact TextV.mk (by unfold textV; rw [h]; rfl) (on hB (by repeat (first | exact Below.refl _ _ | refine Below.setCell ?_ (by simp) _ | refine Below.alloc ?_ (by simp) _)))
set_option maxHeartbeats 1000000 in
theorem refText_sym (n : Int) (s : ByteArray) (w : World) (h : rightV ⟨3, n, s⟩ = true) : Calls Tryd.prog 43 #[.agg #[.int .i64 3, .int .i64 n, .string s]] w (TextV ⟨3, n, s⟩ w) := by
  have hB := Below.refl w.heap.size w
  go_enter Tryd.func43, Tryd.ntmps43
  go_wp2_with (first | (go_at_call 49; refine (refRight_go _ _ _ _).mono ?_; rintro e w1 ⟨rfl, h'⟩; have hs' := h'.size; (try simp at hs'); have hz0 : w.heap.size < w1.heap.size := (by omega); replace hB := nxt hB (by repeat (first | exact Below.refl _ _ | refine Below.setCell ?_ (by simp) _ | refine Below.alloc ?_ (by simp) _)) h'; have hc := keep h'; clear h'))
  go_ret
  exact TextV.mk (by unfold textV; rw [h]; rfl) (on hB (by repeat (first | exact Below.refl _ _ | refine Below.setCell ?_ (by simp) _ | refine Below.alloc ?_ (by simp) _)))
set_option maxHeartbeats 1000000 in
theorem refText_pos (n : Nat) (s : ByteArray) (w : World) (h : rightV ⟨1, n, s⟩ = true) (h1 : n < 9223372036854775808) : Calls Tryd.prog 43 #[.agg #[.int .i64 1, .int .i64 n, .string s]] w (TextV ⟨1, n, s⟩ w) := by
  have h0 : 0 ≤ (n : Int) := by omega
  have hB := Below.refl w.heap.size w
  go_enter Tryd.func43, Tryd.ntmps43
  go_wp2_with (first | (go_at_call 49; refine (refRight_go _ _ _ _).mono ?_; rintro e w1 ⟨rfl, h'⟩; have hs' := h'.size; (try simp at hs'); have hz0 : w.heap.size < w1.heap.size := (by omega); replace hB := nxt hB (by repeat (first | exact Below.refl _ _ | refine Below.setCell ?_ (by simp) _ | refine Below.alloc ?_ (by simp) _)) h'; have hc := keep h'; clear h') | (go_at_call 50; refine (refDigits_10 n _ (by omega)).mono ?_; rintro e w2 ⟨rfl, h'⟩; replace hB := nxt hB (by repeat (first | exact Below.refl _ _ | refine Below.setCell ?_ (by simp) _ | refine Below.alloc ?_ (by simp) _)) h'; clear h'))
  go_ret
  exact TextV.mk (by unfold textV intTextL; rw [h, if_pos rfl, if_pos rfl, if_neg (show ¬ (n : Int) < 0 by omega)]; rfl) (on hB (by repeat (first | exact Below.refl _ _ | refine Below.setCell ?_ (by simp) _ | refine Below.alloc ?_ (by simp) _)))
set_option maxHeartbeats 1000000 in
theorem refText_neg (n : Nat) (s : ByteArray) (w : World) (h : rightV ⟨1, -(n : Int), s⟩ = true) (h0 : 0 < n) (h1 : n ≤ 9223372036854775808) : Calls Tryd.prog 43 #[.agg #[.int .i64 1, .int .i64 (-(n : Int)), .string s]] w (TextV ⟨1, -(n : Int), s⟩ w) := by
  have hneg : -(n : Int) < 0 := by omega
  have hw : IntKind.u64.wrap (-IntKind.u64.wrap (-(n : Int))) = n := by simp [IntKind.wrap, IntKind.bits, IntKind.signed]; omega
  have hw' : IntKind.u64.wrap (0 - IntKind.u64.wrap (-(n : Int))) = n := by simp [IntKind.wrap, IntKind.bits, IntKind.signed]; omega
  have hsz : ¬ 9223372036854775807 < 1 + (bs (padTo 1 (digs 10 n))).size := by
    have := digs_len 10 n 20 (by omega) (by omega)
    rw [bs_size, padTo_len]; omega
  have hB := Below.refl w.heap.size w
  go_enter Tryd.func43, Tryd.ntmps43
  go_wp2_with (first | (go_at_call 49; refine (refRight_go _ _ _ _).mono ?_; rintro e w1 ⟨rfl, h'⟩; have hs' := h'.size; (try simp at hs'); have hz0 : w.heap.size < w1.heap.size := (by omega); replace hB := nxt hB (by repeat (first | exact Below.refl _ _ | refine Below.setCell ?_ (by simp) _ | refine Below.alloc ?_ (by simp) _)) h'; have hc := keep h'; clear h') | (go_at_call 50; refine (refDigits_10 n _ (by omega)).mono ?_; rintro e w2 ⟨rfl, h'⟩; replace hB := nxt hB (by repeat (first | exact Below.refl _ _ | refine Below.setCell ?_ (by simp) _ | refine Below.alloc ?_ (by simp) _)) h'; clear h'))
  go_ret
  exact TextV.mk (by unfold textV intTextL; rw [h, if_pos rfl, if_pos rfl, if_pos (show -(n : Int) < 0 by omega), show (-(n : Int)).natAbs = n from by omega]; rfl) (on hB (by repeat (first | exact Below.refl _ _ | refine Below.setCell ?_ (by simp) _ | refine Below.alloc ?_ (by simp) _)))

def PadRel (l : List UInt8) (v : Value) : Prop := ∃ j : Nat, v = .string (bs (List.replicate j 48 ++ l)) ∧ j + l.length ≤ 16
theorem pad_again (l : List UInt8) : padTo 16 (padTo 1 l) = padTo 16 l := by
  cases l with
  | nil => rfl
  | cons c r => rw [padTo_self 1 (c :: r) (by simp)]
set_option maxHeartbeats 2000000 in
theorem refText_flo (n : Int) (N : Nat) (s : ByteArray) (w : World) (h : rightV ⟨2, n, s⟩ = true) (hw : IntKind.u64.wrap n = N) (hN : N < 18446744073709551616) : Calls Tryd.prog 43 #[.agg #[.int .i64 2, .int .i64 n, .string s]] w (TextV ⟨2, n, s⟩ w) := by
  have hT : textV ⟨2, n, s⟩ = 35 :: padTo 16 (digs 16 N) := by unfold textV; rw [h, if_pos rfl, if_neg (show ¬ (2 : Int) = 1 by decide), if_pos rfl, hw]; rfl
  have hl : (padTo 1 (digs 16 N)).length ≤ 16 := by
    have := digs_len 16 N 16 (by omega) (by omega)
    rw [padTo_len]; omega
  have HT := Lib.hid hT; clear hT
  have hB := Below.refl w.heap.size w
  go_enter Tryd.func43, Tryd.ntmps43
  go_wp2_with (first | (go_at_call 49; refine (refRight_go _ _ _ _).mono ?_; rintro e w1 ⟨rfl, h'⟩; have hs' := h'.size; (try simp at hs'); have hz0 : w.heap.size < w1.heap.size := (by omega); replace hB := nxt hB (by repeat (first | exact Below.refl _ _ | refine Below.setCell ?_ (by simp) _ | refine Below.alloc ?_ (by simp) _)) h'; have hc := keep h'; clear h') | (go_at_call 50; refine (refDigits_16 N _ (by omega)).mono ?_; rintro e w2 ⟨rfl, h'⟩; replace hB := nxt hB (by repeat (first | exact Below.refl _ _ | refine Below.setCell ?_ (by simp) _ | refine Below.alloc ?_ (by simp) _)) h'; clear h'))
  obtain ⟨l, hL⟩ : ∃ l, padTo 1 (digs 16 N) = l := ⟨_, rfl⟩
  rw [hL] at hl ⊢
  have HL := Lib.hid hL; clear hL
  go_loop [3] (fun v => PadRel l v) (fun v => 16 - (strOf v).size)
  case atStart => exact ⟨0, rfl, by omega⟩
  case round =>
    obtain ⟨j, rfl, hj⟩ := hrel
    have hsz : (bs (List.replicate j 48 ++ l)).size = j + l.length := by rw [bs_size, List.length_append, List.length_replicate]
    by_cases hlt : j + l.length < 16
    · have h1 : ((bs (List.replicate j 48 ++ l)).size : Int) < 16 := by omega
      have h2 : ¬ 9223372036854775807 < 1 + (bs (List.replicate j 48 ++ l)).size := by omega
      have HZ := Lib.hid hsz; clear hsz
      go_wp2
      go_round
      case rel => exact ⟨j + 1, congrArg Value.string (bs_cons 48 _), by omega⟩
      case measure =>
        have e : strOf (.string (ByteArray.mk #[48] ++ bs (List.replicate j 48 ++ l))) = bs (48 :: (List.replicate j 48 ++ l)) := bs_cons 48 _
        have e2 := HZ.out
        rw [bs_size] at e2
        rw [e, bs_size, List.length_cons, e2]
        show _ < 16 - (bs (List.replicate j 48 ++ l)).size
        rw [bs_size, e2]; omega
    · have h1 : 16 ≤ ((bs (List.replicate j 48 ++ l)).size : Int) := by omega
      have h2 : ¬ 9223372036854775807 < 1 + (bs (List.replicate j 48 ++ l)).size := by omega
      have HZ := Lib.hid hsz; clear hsz
      go_wp2
      go_ret
      refine TextV.mk ?_ (on hB (by repeat (first | exact Below.refl _ _ | refine Below.setCell ?_ (by simp) _ | refine Below.alloc ?_ (by simp) _)))
      show ls (bs [35] ++ bs (List.replicate j 48 ++ l)) = _
      rw [bs_cons, ls_bs, HT.out, ← pad_again, HL.out]
      unfold padTo
      rw [show 16 - l.length = j from by omega]
theorem refText_go (k n : Int) (s : ByteArray) (w : World) (h0 : -9223372036854775808 ≤ n) (h1 : n < 9223372036854775808) : Calls Tryd.prog 43 #[.agg #[.int .i64 k, .int .i64 n, .string s]] w (TextV ⟨k, n, s⟩ w) := by
  by_cases h : rightV ⟨k, n, s⟩ = true
  · by_cases k1 : k = 1
    · subst k1
      by_cases hn : n < 0
      · have e : -((n.natAbs : Nat) : Int) = n := by omega
        have := refText_neg n.natAbs s w (by rw [e]; exact h) (by omega) (by omega)
        rw [e] at this; exact this
      · have e : ((n.natAbs : Nat) : Int) = n := by omega
        have := refText_pos n.natAbs s w (by rw [e]; exact h) (by omega)
        rw [e] at this; exact this
    · by_cases k2 : k = 2
      · subst k2
        obtain ⟨N, hw, hN⟩ := u64_nat n
        exact refText_flo n N s w h hw hN
      · by_cases k3 : k = 3
        · subst k3; exact refText_sym n s w h
        · exfalso; simp [rightV, k1, k2, k3] at h
  · exact refText_bad k n s w (by simpa using h)
end Go.Proofs.YtahnnefmkcpibaaDoor

/-
  ValueUnlike (layer 2, value): for every a, b the call returns true: unlike values that can be have unlike texts, and none of them is a text of another kind. No condition.
-/
import Derived.Test.YtlakgcdacjieeaaRows
import Derived.Test.YtlakgcdacjieeaaValRowB
import Derived.Test.YtlakgcdacjieeaaValOpen
import Derived.WalkKit
import Derived.ProofKit
import Derived.OpenShut
import Derived.Deep.RegionHeld3
import Derived.Deep.QuietTactic
import Derived.BigQuiet
namespace Go.Proofs.Ytlakgcdacjieeaa.valueUnlike
open Go.ChangeShapes Go.WideShapes Go.ChangeAt Go.RowKit FloM ValM
set_option linter.unusedVariables false
theorem text_1 (n : Int) (s : ByteArray) (h : rightV ⟨1, n, s⟩ = true) : ∃ c r, textV ⟨1, n, s⟩ = c :: r ∧ c ≠ 35 ∧ nameL (c :: r) = false := by
  have e : textV ⟨1, n, s⟩ = intTextL n := by unfold textV; rw [h]; rfl
  have hn := intText_name n
  rw [e]
  rcases Int.lt_trichotomy n 0 with h0 | rfl | h0
  · obtain ⟨c, r, e, _⟩ := intTextL_neg n h0; rw [e] at hn ⊢; exact ⟨_, _, rfl, by decide, hn⟩
  · rw [intTextL_zero] at hn ⊢; exact ⟨_, _, rfl, by decide, hn⟩
  · obtain ⟨c, r, e, h1, _⟩ := intTextL_pos n h0
    have := dig10 h1
    rw [e] at hn ⊢; exact ⟨_, _, rfl, ne_of_toNat (by show c.toNat ≠ 35; omega), hn⟩
theorem text_2 (n : Int) (s : ByteArray) (h : rightV ⟨2, n, s⟩ = true) : ∃ r, textV ⟨2, n, s⟩ = 35 :: r ∧ r.length = 16 ∧ nameL (35 :: r) = false := by
  obtain ⟨N, hw, hN⟩ := u64_nat n
  refine ⟨padTo 16 (digs 16 N), ?_, ?_, name_first rfl (by decide)⟩
  · unfold textV; rw [h, if_pos rfl, if_neg (show ¬ (2 : Int) = 1 by decide), if_pos rfl, hw]; rfl
  · have := digs_len 16 N 16 (by omega) (by omega)
    rw [padTo_len]; omega
theorem text_3 (n : Int) (s : ByteArray) (h : rightV ⟨3, n, s⟩ = true) : ∃ c r, textV ⟨3, n, s⟩ = c :: r ∧ c ≠ 35 ∧ nameL (c :: r) = true := by
  have e : textV ⟨3, n, s⟩ = ls s := by unfold textV; rw [h]; rfl
  have hs : nameL (ls s) = true := by
    have : n = 0 ∧ name s = true := by simpa [rightV] using h
    exact this.2
  rw [e]
  cases el : ls s with
  | nil => rw [el] at hs; cases hs
  | cons c r =>
    rw [el] at hs
    have := name_head hs
    exact ⟨c, r, rfl, ne_of_toNat (by show c.toNat ≠ 35; omega), hs⟩
theorem text_ne {a b : V} (ha : rightV a = true) (hb : rightV b = true) (fa : Fits a.n) (fb : Fits b.n) (h : a ≠ b) : ((bs (textV a)).toList == (bs (textV b)).toList) = false := by
  rw [str_eq, decide_eq_false]
  intro e
  have h1 := read_text a ha fa
  rw [e, read_text b hb fb] at h1
  injection h1 with h1; exact h h1.symm
/-- What region 8 asks of a text with first byte c. -/
theorem first_facts {t : ByteArray} {c : UInt8} {r : List UInt8} (e : ls t = c :: r) : ∃ hp : 0 < t.size, (¬ t.toList = []) ∧ t.toList.isEmpty = false ∧ ((t[0].toNat : Int) == 35) = decide (c = 35) := by
  obtain ⟨hp, h0⟩ := first_of e
  exact ⟨hp, ne_list hp, ne_list' hp, by rw [h0]; exact byte_eq 35 rfl⟩
theorem name_q (s : ByteArray) (w : World) (hs : s.size ≤ maxLen) : Calls Try.prog 11 #[.string s] w fun e w' => e = .returned (.bool (name s)) ∧ w' = w := (name_any s w hs).mono fun _ _ ⟨he, hw⟩ => ⟨he, hw.symm⟩
theorem drewN_below {w u : World} (h : Below w.heap.size w u) (n : Nat) : Below w.heap.size w (u.drewN n) := ⟨h.os, h.tape, h.output, h.size, h.block⟩
set_option maxHeartbeats 8000000 in
theorem walk_na (k0 n0 k1 n1 : Int) (s0 s1 : ByteArray) (w : World) (ws0 : s0.size ≤ maxLen) (ha : rightV ⟨k0, n0, s0⟩ = false) :
    Calls Try.prog 7 #[.agg #[.int .i64 k0, .int .i64 n0, .string s0], .agg #[.int .i64 k1, .int .i64 n1, .string s1]] w fun e w' => e = .returned (.bool true) ∧ Below w.heap.size w w' := by
  go_enter Try.func7, Try.ntmps7
  go_wp2_with (first | (go_at_call 10; refine (h2_awake (Held2.new w ⟨k0, n0, s0⟩ ⟨k1, n1, s1⟩)).mono ?_; rintro e w1 ⟨rfl, h1⟩; have a0 := h1.a0; have a1 := h1.a1; have a2 := h1.a2; have b0 := h1.b0; have b1 := h1.b1; have b2 := h1.b2) | (go_at_call 13; refine (h2_right h1 _ _ _ (by assumption)).mono ?_; rintro e w3 ⟨rfl, h3⟩; replace h1 := h3; clear h3; have a0 := h1.a0; have a1 := h1.a1; have a2 := h1.a2; have b0 := h1.b0; have b1 := h1.b1; have b2 := h1.b2))
  go_ret
  exact ⟨rfl, h1.bel⟩
set_option maxHeartbeats 8000000 in
theorem walk_nb (k0 n0 k1 n1 : Int) (s0 s1 : ByteArray) (w : World) (ws0 : s0.size ≤ maxLen) (ws1 : s1.size ≤ maxLen) (ha : rightV ⟨k0, n0, s0⟩ = true) (hb : rightV ⟨k1, n1, s1⟩ = false) :
    Calls Try.prog 7 #[.agg #[.int .i64 k0, .int .i64 n0, .string s0], .agg #[.int .i64 k1, .int .i64 n1, .string s1]] w fun e w' => e = .returned (.bool true) ∧ Below w.heap.size w w' := by
  go_enter Try.func7, Try.ntmps7
  go_wp2_with (first | (go_at_call 10; refine (h2_awake (Held2.new w ⟨k0, n0, s0⟩ ⟨k1, n1, s1⟩)).mono ?_; rintro e w1 ⟨rfl, h1⟩; have a0 := h1.a0; have a1 := h1.a1; have a2 := h1.a2; have b0 := h1.b0; have b1 := h1.b1; have b2 := h1.b2) | (go_at_call 13; refine (h2_right h1 _ _ _ (by assumption)).mono ?_; rintro e w3 ⟨rfl, h3⟩; replace h1 := h3; clear h3; have a0 := h1.a0; have a1 := h1.a1; have a2 := h1.a2; have b0 := h1.b0; have b1 := h1.b1; have b2 := h1.b2))
  go_ret
  exact ⟨rfl, h1.bel⟩
set_option maxHeartbeats 8000000 in
theorem walk_d10 (n0 k1 n1 : Int) (s0 s1 u v : ByteArray) (w : World) (ws0 : s0.size ≤ maxLen) (hn0 : Fits n0) (ha : rightV ⟨1, n0, s0⟩ = true) (hTa : bs (textV ⟨1, n0, s0⟩) = u) (hu40 : u.size ≤ maxLen) (hp : 0 < u.size) (hpe : ¬ u.toList = []) (hpe' : u.toList.isEmpty = false) (ws1 : s1.size ≤ maxLen) (hn1 : Fits n1) (hb : rightV ⟨k1, n1, s1⟩ = true) (hTb : bs (textV ⟨k1, n1, s1⟩) = v) (huv : (u.toList == v.toList) = false) (hnm : name u = false) (h35 : ((u[0].toNat : Int) == 35) = false) (hkk : ((1 : Int) == k1) = false) :
    Calls Try.prog 7 #[.agg #[.int .i64 1, .int .i64 n0, .string s0], .agg #[.int .i64 k1, .int .i64 n1, .string s1]] w fun e w' => e = .returned (.bool true) ∧ Below w.heap.size w w' := by
  go_enter Try.func7, Try.ntmps7
  go_wp2_with (first | (go_at_call 10; refine (h2_awake (Held2.new w ⟨1, n0, s0⟩ ⟨k1, n1, s1⟩)).mono ?_; rintro e w1 ⟨rfl, h1⟩; have a0 := h1.a0; have a1 := h1.a1; have a2 := h1.a2; have b0 := h1.b0; have b1 := h1.b1; have b2 := h1.b2) | (go_at_call 13; refine (h2_right h1 _ _ _ (by assumption)).mono ?_; rintro e w3 ⟨rfl, h3⟩; replace h1 := h3; clear h3; have a0 := h1.a0; have a1 := h1.a1; have a2 := h1.a2; have b0 := h1.b0; have b1 := h1.b1; have b2 := h1.b2))
  go_region_held3 (fun u => Below w.heap.size w u ∧ w.heap.size + 1 < u.heap.size ∧ u.cell? ⟨w.heap.size, 0, none⟩ = some (.int .i64 1) ∧ u.cell? ⟨w.heap.size, 1, none⟩ = some (.int .i64 n0) ∧ u.cell? ⟨w.heap.size, 2, none⟩ = some (.string s0) ∧ u.cell? ⟨w.heap.size + 1, 0, none⟩ = some (.int .i64 k1) ∧ u.cell? ⟨w.heap.size + 1, 1, none⟩ = some (.int .i64 n1) ∧ u.cell? ⟨w.heap.size + 1, 2, none⟩ = some (.string s1))
    (first | exact ⟨h1.bel, h1.lt, h1.a0, h1.a1, h1.a2, h1.b0, h1.b1, h1.b2⟩ | exact ⟨h1.drew.bel, h1.drew.lt, h1.drew.a0, h1.drew.a1, h1.drew.a2, h1.drew.b0, h1.drew.b1, h1.drew.b2⟩ | exact ⟨h4.bel, h4.lt, h4.a0, h4.a1, h4.a2, h4.b0, h4.b1, h4.b2⟩)
    (first | (go_at_call 17; refine (h2_text (by first | exact h4 | exact h1.drew) _ _ _ (by assumption) (by assumption)).mono ?_; rintro e w4 ⟨rfl, h4⟩; (first | rw [hTa] | rw [hTb])))
  have a0 := h4.a0; have a1 := h4.a1; have a2 := h4.a2; have b0 := h4.b0; have b1 := h4.b1; have b2 := h4.b2
  clear h1
  go_wp2
  go_quiet ((go_at_call 11; exact Calls.quiet_of_same (name_q _ _ hu40)))
  go_wp2
  go_ret
  exact ⟨rfl, drewN_below h4.bel _⟩
set_option maxHeartbeats 8000000 in
theorem walk_d11 (n0 k1 n1 : Int) (s0 s1 u v : ByteArray) (w : World) (ws0 : s0.size ≤ maxLen) (hn0 : Fits n0) (ha : rightV ⟨1, n0, s0⟩ = true) (hTa : bs (textV ⟨1, n0, s0⟩) = u) (hu40 : u.size ≤ maxLen) (hp : 0 < u.size) (hpe : ¬ u.toList = []) (hpe' : u.toList.isEmpty = false) (ws1 : s1.size ≤ maxLen) (hn1 : Fits n1) (hb : rightV ⟨k1, n1, s1⟩ = true) (hTb : bs (textV ⟨k1, n1, s1⟩) = v) (huv : (u.toList == v.toList) = false) (hnm : name u = false) (h35 : ((u[0].toNat : Int) == 35) = false) (hkk : ((1 : Int) == k1) = true) (hnn : (n0 == n1) = false) :
    Calls Try.prog 7 #[.agg #[.int .i64 1, .int .i64 n0, .string s0], .agg #[.int .i64 k1, .int .i64 n1, .string s1]] w fun e w' => e = .returned (.bool true) ∧ Below w.heap.size w w' := by
  go_enter Try.func7, Try.ntmps7
  go_wp2_with (first | (go_at_call 10; refine (h2_awake (Held2.new w ⟨1, n0, s0⟩ ⟨k1, n1, s1⟩)).mono ?_; rintro e w1 ⟨rfl, h1⟩; have a0 := h1.a0; have a1 := h1.a1; have a2 := h1.a2; have b0 := h1.b0; have b1 := h1.b1; have b2 := h1.b2) | (go_at_call 13; refine (h2_right h1 _ _ _ (by assumption)).mono ?_; rintro e w3 ⟨rfl, h3⟩; replace h1 := h3; clear h3; have a0 := h1.a0; have a1 := h1.a1; have a2 := h1.a2; have b0 := h1.b0; have b1 := h1.b1; have b2 := h1.b2))
  go_region_held3 (fun u => Below w.heap.size w u ∧ w.heap.size + 1 < u.heap.size ∧ u.cell? ⟨w.heap.size, 0, none⟩ = some (.int .i64 1) ∧ u.cell? ⟨w.heap.size, 1, none⟩ = some (.int .i64 n0) ∧ u.cell? ⟨w.heap.size, 2, none⟩ = some (.string s0) ∧ u.cell? ⟨w.heap.size + 1, 0, none⟩ = some (.int .i64 k1) ∧ u.cell? ⟨w.heap.size + 1, 1, none⟩ = some (.int .i64 n1) ∧ u.cell? ⟨w.heap.size + 1, 2, none⟩ = some (.string s1))
    (first | exact ⟨h1.bel, h1.lt, h1.a0, h1.a1, h1.a2, h1.b0, h1.b1, h1.b2⟩ | exact ⟨h1.drew.bel, h1.drew.lt, h1.drew.a0, h1.drew.a1, h1.drew.a2, h1.drew.b0, h1.drew.b1, h1.drew.b2⟩ | exact ⟨h4.bel, h4.lt, h4.a0, h4.a1, h4.a2, h4.b0, h4.b1, h4.b2⟩)
    (first | (go_at_call 17; refine (h2_text (by first | exact h4 | exact h1.drew) _ _ _ (by assumption) (by assumption)).mono ?_; rintro e w4 ⟨rfl, h4⟩; (first | rw [hTa] | rw [hTb])))
  have a0 := h4.a0; have a1 := h4.a1; have a2 := h4.a2; have b0 := h4.b0; have b1 := h4.b1; have b2 := h4.b2
  clear h1
  go_wp2
  go_quiet ((go_at_call 11; exact Calls.quiet_of_same (name_q _ _ hu40)))
  go_wp2
  go_ret
  exact ⟨rfl, drewN_below h4.bel _⟩
set_option maxHeartbeats 8000000 in
theorem walk_d12 (n0 k1 n1 : Int) (s0 s1 u v : ByteArray) (w : World) (ws0 : s0.size ≤ maxLen) (hn0 : Fits n0) (ha : rightV ⟨1, n0, s0⟩ = true) (hTa : bs (textV ⟨1, n0, s0⟩) = u) (hu40 : u.size ≤ maxLen) (hp : 0 < u.size) (hpe : ¬ u.toList = []) (hpe' : u.toList.isEmpty = false) (ws1 : s1.size ≤ maxLen) (hn1 : Fits n1) (hb : rightV ⟨k1, n1, s1⟩ = true) (hTb : bs (textV ⟨k1, n1, s1⟩) = v) (huv : (u.toList == v.toList) = false) (hnm : name u = false) (h35 : ((u[0].toNat : Int) == 35) = false) (hkk : ((1 : Int) == k1) = true) (hnn : (n0 == n1) = true) (hss : (s0.toList == s1.toList) = false) :
    Calls Try.prog 7 #[.agg #[.int .i64 1, .int .i64 n0, .string s0], .agg #[.int .i64 k1, .int .i64 n1, .string s1]] w fun e w' => e = .returned (.bool true) ∧ Below w.heap.size w w' := by
  go_enter Try.func7, Try.ntmps7
  go_wp2_with (first | (go_at_call 10; refine (h2_awake (Held2.new w ⟨1, n0, s0⟩ ⟨k1, n1, s1⟩)).mono ?_; rintro e w1 ⟨rfl, h1⟩; have a0 := h1.a0; have a1 := h1.a1; have a2 := h1.a2; have b0 := h1.b0; have b1 := h1.b1; have b2 := h1.b2) | (go_at_call 13; refine (h2_right h1 _ _ _ (by assumption)).mono ?_; rintro e w3 ⟨rfl, h3⟩; replace h1 := h3; clear h3; have a0 := h1.a0; have a1 := h1.a1; have a2 := h1.a2; have b0 := h1.b0; have b1 := h1.b1; have b2 := h1.b2))
  go_region_held3 (fun u => Below w.heap.size w u ∧ w.heap.size + 1 < u.heap.size ∧ u.cell? ⟨w.heap.size, 0, none⟩ = some (.int .i64 1) ∧ u.cell? ⟨w.heap.size, 1, none⟩ = some (.int .i64 n0) ∧ u.cell? ⟨w.heap.size, 2, none⟩ = some (.string s0) ∧ u.cell? ⟨w.heap.size + 1, 0, none⟩ = some (.int .i64 k1) ∧ u.cell? ⟨w.heap.size + 1, 1, none⟩ = some (.int .i64 n1) ∧ u.cell? ⟨w.heap.size + 1, 2, none⟩ = some (.string s1))
    (first | exact ⟨h1.bel, h1.lt, h1.a0, h1.a1, h1.a2, h1.b0, h1.b1, h1.b2⟩ | exact ⟨h1.drew.bel, h1.drew.lt, h1.drew.a0, h1.drew.a1, h1.drew.a2, h1.drew.b0, h1.drew.b1, h1.drew.b2⟩ | exact ⟨h4.bel, h4.lt, h4.a0, h4.a1, h4.a2, h4.b0, h4.b1, h4.b2⟩)
    (first | (go_at_call 17; refine (h2_text (by first | exact h4 | exact h1.drew) _ _ _ (by assumption) (by assumption)).mono ?_; rintro e w4 ⟨rfl, h4⟩; (first | rw [hTa] | rw [hTb])))
  have a0 := h4.a0; have a1 := h4.a1; have a2 := h4.a2; have b0 := h4.b0; have b1 := h4.b1; have b2 := h4.b2
  clear h1
  go_wp2
  go_quiet ((go_at_call 11; exact Calls.quiet_of_same (name_q _ _ hu40)))
  go_wp2
  go_ret
  exact ⟨rfl, drewN_below h4.bel _⟩
set_option maxHeartbeats 8000000 in
theorem walk_q1 (n0 : Int) (s0 u : ByteArray) (w : World) (ws0 : s0.size ≤ maxLen) (hn0 : Fits n0) (ha : rightV ⟨1, n0, s0⟩ = true) (hTa : bs (textV ⟨1, n0, s0⟩) = u) (hu40 : u.size ≤ maxLen) (hp : 0 < u.size) (hpe : ¬ u.toList = []) (hpe' : u.toList.isEmpty = false) (hnm : name u = false) (h35 : ((u[0].toNat : Int) == 35) = false) :
    Calls Try.prog 7 #[.agg #[.int .i64 1, .int .i64 n0, .string s0], .agg #[.int .i64 1, .int .i64 n0, .string s0]] w fun e w' => e = .returned (.bool true) ∧ Below w.heap.size w w' := by
  go_enter Try.func7, Try.ntmps7
  go_wp2_with (first | (go_at_call 10; refine (h2_awake (Held2.new w ⟨1, n0, s0⟩ ⟨1, n0, s0⟩)).mono ?_; rintro e w1 ⟨rfl, h1⟩; have a0 := h1.a0; have a1 := h1.a1; have a2 := h1.a2; have b0 := h1.b0; have b1 := h1.b1; have b2 := h1.b2) | (go_at_call 13; refine (h2_right h1 _ _ _ (by assumption)).mono ?_; rintro e w3 ⟨rfl, h3⟩; replace h1 := h3; clear h3; have a0 := h1.a0; have a1 := h1.a1; have a2 := h1.a2; have b0 := h1.b0; have b1 := h1.b1; have b2 := h1.b2))
  go_region_held3 (fun u => Below w.heap.size w u ∧ w.heap.size + 1 < u.heap.size ∧ u.cell? ⟨w.heap.size, 0, none⟩ = some (.int .i64 1) ∧ u.cell? ⟨w.heap.size, 1, none⟩ = some (.int .i64 n0) ∧ u.cell? ⟨w.heap.size, 2, none⟩ = some (.string s0) ∧ u.cell? ⟨w.heap.size + 1, 0, none⟩ = some (.int .i64 1) ∧ u.cell? ⟨w.heap.size + 1, 1, none⟩ = some (.int .i64 n0) ∧ u.cell? ⟨w.heap.size + 1, 2, none⟩ = some (.string s0))
    (first | exact ⟨h1.bel, h1.lt, h1.a0, h1.a1, h1.a2, h1.b0, h1.b1, h1.b2⟩ | exact ⟨h1.drew.bel, h1.drew.lt, h1.drew.a0, h1.drew.a1, h1.drew.a2, h1.drew.b0, h1.drew.b1, h1.drew.b2⟩ | exact ⟨h4.bel, h4.lt, h4.a0, h4.a1, h4.a2, h4.b0, h4.b1, h4.b2⟩)
    (first | (go_at_call 17; refine (h2_text (by first | exact h4 | exact h1.drew) _ _ _ (by assumption) (by assumption)).mono ?_; rintro e w4 ⟨rfl, h4⟩; (first | rw [hTa] | rw [hTb])))
  have a0 := h4.a0; have a1 := h4.a1; have a2 := h4.a2; have b0 := h4.b0; have b1 := h4.b1; have b2 := h4.b2
  clear h1
  go_wp2
  go_quiet ((go_at_call 11; exact Calls.quiet_of_same (name_q _ _ hu40)))
  go_wp2
  go_ret
  exact ⟨rfl, drewN_below h4.bel _⟩
set_option maxHeartbeats 8000000 in
theorem walk_d20 (n0 k1 n1 : Int) (s0 s1 u v : ByteArray) (w : World) (ws0 : s0.size ≤ maxLen) (hn0 : Fits n0) (ha : rightV ⟨2, n0, s0⟩ = true) (hTa : bs (textV ⟨2, n0, s0⟩) = u) (hu40 : u.size ≤ maxLen) (hp : 0 < u.size) (hpe : ¬ u.toList = []) (hpe' : u.toList.isEmpty = false) (ws1 : s1.size ≤ maxLen) (hn1 : Fits n1) (hb : rightV ⟨k1, n1, s1⟩ = true) (hTb : bs (textV ⟨k1, n1, s1⟩) = v) (huv : (u.toList == v.toList) = false) (hnm : name u = false) (h35 : ((u[0].toNat : Int) == 35) = true) (h17 : ((u.size : Int) == 17) = true) (hkk : ((2 : Int) == k1) = false) :
    Calls Try.prog 7 #[.agg #[.int .i64 2, .int .i64 n0, .string s0], .agg #[.int .i64 k1, .int .i64 n1, .string s1]] w fun e w' => e = .returned (.bool true) ∧ Below w.heap.size w w' := by
  go_enter Try.func7, Try.ntmps7
  go_wp2_with (first | (go_at_call 10; refine (h2_awake (Held2.new w ⟨2, n0, s0⟩ ⟨k1, n1, s1⟩)).mono ?_; rintro e w1 ⟨rfl, h1⟩; have a0 := h1.a0; have a1 := h1.a1; have a2 := h1.a2; have b0 := h1.b0; have b1 := h1.b1; have b2 := h1.b2) | (go_at_call 13; refine (h2_right h1 _ _ _ (by assumption)).mono ?_; rintro e w3 ⟨rfl, h3⟩; replace h1 := h3; clear h3; have a0 := h1.a0; have a1 := h1.a1; have a2 := h1.a2; have b0 := h1.b0; have b1 := h1.b1; have b2 := h1.b2))
  go_region_held3 (fun u => Below w.heap.size w u ∧ w.heap.size + 1 < u.heap.size ∧ u.cell? ⟨w.heap.size, 0, none⟩ = some (.int .i64 2) ∧ u.cell? ⟨w.heap.size, 1, none⟩ = some (.int .i64 n0) ∧ u.cell? ⟨w.heap.size, 2, none⟩ = some (.string s0) ∧ u.cell? ⟨w.heap.size + 1, 0, none⟩ = some (.int .i64 k1) ∧ u.cell? ⟨w.heap.size + 1, 1, none⟩ = some (.int .i64 n1) ∧ u.cell? ⟨w.heap.size + 1, 2, none⟩ = some (.string s1))
    (first | exact ⟨h1.bel, h1.lt, h1.a0, h1.a1, h1.a2, h1.b0, h1.b1, h1.b2⟩ | exact ⟨h1.drew.bel, h1.drew.lt, h1.drew.a0, h1.drew.a1, h1.drew.a2, h1.drew.b0, h1.drew.b1, h1.drew.b2⟩ | exact ⟨h4.bel, h4.lt, h4.a0, h4.a1, h4.a2, h4.b0, h4.b1, h4.b2⟩)
    (first | (go_at_call 17; refine (h2_text (by first | exact h4 | exact h1.drew) _ _ _ (by assumption) (by assumption)).mono ?_; rintro e w4 ⟨rfl, h4⟩; (first | rw [hTa] | rw [hTb])))
  have a0 := h4.a0; have a1 := h4.a1; have a2 := h4.a2; have b0 := h4.b0; have b1 := h4.b1; have b2 := h4.b2
  clear h1
  go_wp2
  go_quiet ((go_at_call 11; exact Calls.quiet_of_same (name_q _ _ hu40)))
  go_wp2
  go_ret
  exact ⟨rfl, drewN_below h4.bel _⟩
set_option maxHeartbeats 8000000 in
theorem walk_d21 (n0 k1 n1 : Int) (s0 s1 u v : ByteArray) (w : World) (ws0 : s0.size ≤ maxLen) (hn0 : Fits n0) (ha : rightV ⟨2, n0, s0⟩ = true) (hTa : bs (textV ⟨2, n0, s0⟩) = u) (hu40 : u.size ≤ maxLen) (hp : 0 < u.size) (hpe : ¬ u.toList = []) (hpe' : u.toList.isEmpty = false) (ws1 : s1.size ≤ maxLen) (hn1 : Fits n1) (hb : rightV ⟨k1, n1, s1⟩ = true) (hTb : bs (textV ⟨k1, n1, s1⟩) = v) (huv : (u.toList == v.toList) = false) (hnm : name u = false) (h35 : ((u[0].toNat : Int) == 35) = true) (h17 : ((u.size : Int) == 17) = true) (hkk : ((2 : Int) == k1) = true) (hnn : (n0 == n1) = false) :
    Calls Try.prog 7 #[.agg #[.int .i64 2, .int .i64 n0, .string s0], .agg #[.int .i64 k1, .int .i64 n1, .string s1]] w fun e w' => e = .returned (.bool true) ∧ Below w.heap.size w w' := by
  go_enter Try.func7, Try.ntmps7
  go_wp2_with (first | (go_at_call 10; refine (h2_awake (Held2.new w ⟨2, n0, s0⟩ ⟨k1, n1, s1⟩)).mono ?_; rintro e w1 ⟨rfl, h1⟩; have a0 := h1.a0; have a1 := h1.a1; have a2 := h1.a2; have b0 := h1.b0; have b1 := h1.b1; have b2 := h1.b2) | (go_at_call 13; refine (h2_right h1 _ _ _ (by assumption)).mono ?_; rintro e w3 ⟨rfl, h3⟩; replace h1 := h3; clear h3; have a0 := h1.a0; have a1 := h1.a1; have a2 := h1.a2; have b0 := h1.b0; have b1 := h1.b1; have b2 := h1.b2))
  go_region_held3 (fun u => Below w.heap.size w u ∧ w.heap.size + 1 < u.heap.size ∧ u.cell? ⟨w.heap.size, 0, none⟩ = some (.int .i64 2) ∧ u.cell? ⟨w.heap.size, 1, none⟩ = some (.int .i64 n0) ∧ u.cell? ⟨w.heap.size, 2, none⟩ = some (.string s0) ∧ u.cell? ⟨w.heap.size + 1, 0, none⟩ = some (.int .i64 k1) ∧ u.cell? ⟨w.heap.size + 1, 1, none⟩ = some (.int .i64 n1) ∧ u.cell? ⟨w.heap.size + 1, 2, none⟩ = some (.string s1))
    (first | exact ⟨h1.bel, h1.lt, h1.a0, h1.a1, h1.a2, h1.b0, h1.b1, h1.b2⟩ | exact ⟨h1.drew.bel, h1.drew.lt, h1.drew.a0, h1.drew.a1, h1.drew.a2, h1.drew.b0, h1.drew.b1, h1.drew.b2⟩ | exact ⟨h4.bel, h4.lt, h4.a0, h4.a1, h4.a2, h4.b0, h4.b1, h4.b2⟩)
    (first | (go_at_call 17; refine (h2_text (by first | exact h4 | exact h1.drew) _ _ _ (by assumption) (by assumption)).mono ?_; rintro e w4 ⟨rfl, h4⟩; (first | rw [hTa] | rw [hTb])))
  have a0 := h4.a0; have a1 := h4.a1; have a2 := h4.a2; have b0 := h4.b0; have b1 := h4.b1; have b2 := h4.b2
  clear h1
  go_wp2
  go_quiet ((go_at_call 11; exact Calls.quiet_of_same (name_q _ _ hu40)))
  go_wp2
  go_ret
  exact ⟨rfl, drewN_below h4.bel _⟩
set_option maxHeartbeats 8000000 in
theorem walk_d22 (n0 k1 n1 : Int) (s0 s1 u v : ByteArray) (w : World) (ws0 : s0.size ≤ maxLen) (hn0 : Fits n0) (ha : rightV ⟨2, n0, s0⟩ = true) (hTa : bs (textV ⟨2, n0, s0⟩) = u) (hu40 : u.size ≤ maxLen) (hp : 0 < u.size) (hpe : ¬ u.toList = []) (hpe' : u.toList.isEmpty = false) (ws1 : s1.size ≤ maxLen) (hn1 : Fits n1) (hb : rightV ⟨k1, n1, s1⟩ = true) (hTb : bs (textV ⟨k1, n1, s1⟩) = v) (huv : (u.toList == v.toList) = false) (hnm : name u = false) (h35 : ((u[0].toNat : Int) == 35) = true) (h17 : ((u.size : Int) == 17) = true) (hkk : ((2 : Int) == k1) = true) (hnn : (n0 == n1) = true) (hss : (s0.toList == s1.toList) = false) :
    Calls Try.prog 7 #[.agg #[.int .i64 2, .int .i64 n0, .string s0], .agg #[.int .i64 k1, .int .i64 n1, .string s1]] w fun e w' => e = .returned (.bool true) ∧ Below w.heap.size w w' := by
  go_enter Try.func7, Try.ntmps7
  go_wp2_with (first | (go_at_call 10; refine (h2_awake (Held2.new w ⟨2, n0, s0⟩ ⟨k1, n1, s1⟩)).mono ?_; rintro e w1 ⟨rfl, h1⟩; have a0 := h1.a0; have a1 := h1.a1; have a2 := h1.a2; have b0 := h1.b0; have b1 := h1.b1; have b2 := h1.b2) | (go_at_call 13; refine (h2_right h1 _ _ _ (by assumption)).mono ?_; rintro e w3 ⟨rfl, h3⟩; replace h1 := h3; clear h3; have a0 := h1.a0; have a1 := h1.a1; have a2 := h1.a2; have b0 := h1.b0; have b1 := h1.b1; have b2 := h1.b2))
  go_region_held3 (fun u => Below w.heap.size w u ∧ w.heap.size + 1 < u.heap.size ∧ u.cell? ⟨w.heap.size, 0, none⟩ = some (.int .i64 2) ∧ u.cell? ⟨w.heap.size, 1, none⟩ = some (.int .i64 n0) ∧ u.cell? ⟨w.heap.size, 2, none⟩ = some (.string s0) ∧ u.cell? ⟨w.heap.size + 1, 0, none⟩ = some (.int .i64 k1) ∧ u.cell? ⟨w.heap.size + 1, 1, none⟩ = some (.int .i64 n1) ∧ u.cell? ⟨w.heap.size + 1, 2, none⟩ = some (.string s1))
    (first | exact ⟨h1.bel, h1.lt, h1.a0, h1.a1, h1.a2, h1.b0, h1.b1, h1.b2⟩ | exact ⟨h1.drew.bel, h1.drew.lt, h1.drew.a0, h1.drew.a1, h1.drew.a2, h1.drew.b0, h1.drew.b1, h1.drew.b2⟩ | exact ⟨h4.bel, h4.lt, h4.a0, h4.a1, h4.a2, h4.b0, h4.b1, h4.b2⟩)
    (first | (go_at_call 17; refine (h2_text (by first | exact h4 | exact h1.drew) _ _ _ (by assumption) (by assumption)).mono ?_; rintro e w4 ⟨rfl, h4⟩; (first | rw [hTa] | rw [hTb])))
  have a0 := h4.a0; have a1 := h4.a1; have a2 := h4.a2; have b0 := h4.b0; have b1 := h4.b1; have b2 := h4.b2
  clear h1
  go_wp2
  go_quiet ((go_at_call 11; exact Calls.quiet_of_same (name_q _ _ hu40)))
  go_wp2
  go_ret
  exact ⟨rfl, drewN_below h4.bel _⟩
set_option maxHeartbeats 8000000 in
theorem walk_q2 (n0 : Int) (s0 u : ByteArray) (w : World) (ws0 : s0.size ≤ maxLen) (hn0 : Fits n0) (ha : rightV ⟨2, n0, s0⟩ = true) (hTa : bs (textV ⟨2, n0, s0⟩) = u) (hu40 : u.size ≤ maxLen) (hp : 0 < u.size) (hpe : ¬ u.toList = []) (hpe' : u.toList.isEmpty = false) (hnm : name u = false) (h35 : ((u[0].toNat : Int) == 35) = true) (h17 : ((u.size : Int) == 17) = true) :
    Calls Try.prog 7 #[.agg #[.int .i64 2, .int .i64 n0, .string s0], .agg #[.int .i64 2, .int .i64 n0, .string s0]] w fun e w' => e = .returned (.bool true) ∧ Below w.heap.size w w' := by
  go_enter Try.func7, Try.ntmps7
  go_wp2_with (first | (go_at_call 10; refine (h2_awake (Held2.new w ⟨2, n0, s0⟩ ⟨2, n0, s0⟩)).mono ?_; rintro e w1 ⟨rfl, h1⟩; have a0 := h1.a0; have a1 := h1.a1; have a2 := h1.a2; have b0 := h1.b0; have b1 := h1.b1; have b2 := h1.b2) | (go_at_call 13; refine (h2_right h1 _ _ _ (by assumption)).mono ?_; rintro e w3 ⟨rfl, h3⟩; replace h1 := h3; clear h3; have a0 := h1.a0; have a1 := h1.a1; have a2 := h1.a2; have b0 := h1.b0; have b1 := h1.b1; have b2 := h1.b2))
  go_region_held3 (fun u => Below w.heap.size w u ∧ w.heap.size + 1 < u.heap.size ∧ u.cell? ⟨w.heap.size, 0, none⟩ = some (.int .i64 2) ∧ u.cell? ⟨w.heap.size, 1, none⟩ = some (.int .i64 n0) ∧ u.cell? ⟨w.heap.size, 2, none⟩ = some (.string s0) ∧ u.cell? ⟨w.heap.size + 1, 0, none⟩ = some (.int .i64 2) ∧ u.cell? ⟨w.heap.size + 1, 1, none⟩ = some (.int .i64 n0) ∧ u.cell? ⟨w.heap.size + 1, 2, none⟩ = some (.string s0))
    (first | exact ⟨h1.bel, h1.lt, h1.a0, h1.a1, h1.a2, h1.b0, h1.b1, h1.b2⟩ | exact ⟨h1.drew.bel, h1.drew.lt, h1.drew.a0, h1.drew.a1, h1.drew.a2, h1.drew.b0, h1.drew.b1, h1.drew.b2⟩ | exact ⟨h4.bel, h4.lt, h4.a0, h4.a1, h4.a2, h4.b0, h4.b1, h4.b2⟩)
    (first | (go_at_call 17; refine (h2_text (by first | exact h4 | exact h1.drew) _ _ _ (by assumption) (by assumption)).mono ?_; rintro e w4 ⟨rfl, h4⟩; (first | rw [hTa] | rw [hTb])))
  have a0 := h4.a0; have a1 := h4.a1; have a2 := h4.a2; have b0 := h4.b0; have b1 := h4.b1; have b2 := h4.b2
  clear h1
  go_wp2
  go_quiet ((go_at_call 11; exact Calls.quiet_of_same (name_q _ _ hu40)))
  go_wp2
  go_ret
  exact ⟨rfl, drewN_below h4.bel _⟩
set_option maxHeartbeats 8000000 in
theorem walk_d30 (n0 k1 n1 : Int) (s0 s1 u v : ByteArray) (w : World) (ws0 : s0.size ≤ maxLen) (hn0 : Fits n0) (ha : rightV ⟨3, n0, s0⟩ = true) (hTa : bs (textV ⟨3, n0, s0⟩) = u) (hu40 : u.size ≤ maxLen) (hp : 0 < u.size) (hpe : ¬ u.toList = []) (hpe' : u.toList.isEmpty = false) (ws1 : s1.size ≤ maxLen) (hn1 : Fits n1) (hb : rightV ⟨k1, n1, s1⟩ = true) (hTb : bs (textV ⟨k1, n1, s1⟩) = v) (huv : (u.toList == v.toList) = false) (hnm : name u = true) (h35 : ((u[0].toNat : Int) == 35) = false) (hkk : ((3 : Int) == k1) = false) :
    Calls Try.prog 7 #[.agg #[.int .i64 3, .int .i64 n0, .string s0], .agg #[.int .i64 k1, .int .i64 n1, .string s1]] w fun e w' => e = .returned (.bool true) ∧ Below w.heap.size w w' := by
  go_enter Try.func7, Try.ntmps7
  go_wp2_with (first | (go_at_call 10; refine (h2_awake (Held2.new w ⟨3, n0, s0⟩ ⟨k1, n1, s1⟩)).mono ?_; rintro e w1 ⟨rfl, h1⟩; have a0 := h1.a0; have a1 := h1.a1; have a2 := h1.a2; have b0 := h1.b0; have b1 := h1.b1; have b2 := h1.b2) | (go_at_call 13; refine (h2_right h1 _ _ _ (by assumption)).mono ?_; rintro e w3 ⟨rfl, h3⟩; replace h1 := h3; clear h3; have a0 := h1.a0; have a1 := h1.a1; have a2 := h1.a2; have b0 := h1.b0; have b1 := h1.b1; have b2 := h1.b2))
  go_region_held3 (fun u => Below w.heap.size w u ∧ w.heap.size + 1 < u.heap.size ∧ u.cell? ⟨w.heap.size, 0, none⟩ = some (.int .i64 3) ∧ u.cell? ⟨w.heap.size, 1, none⟩ = some (.int .i64 n0) ∧ u.cell? ⟨w.heap.size, 2, none⟩ = some (.string s0) ∧ u.cell? ⟨w.heap.size + 1, 0, none⟩ = some (.int .i64 k1) ∧ u.cell? ⟨w.heap.size + 1, 1, none⟩ = some (.int .i64 n1) ∧ u.cell? ⟨w.heap.size + 1, 2, none⟩ = some (.string s1))
    (first | exact ⟨h1.bel, h1.lt, h1.a0, h1.a1, h1.a2, h1.b0, h1.b1, h1.b2⟩ | exact ⟨h1.drew.bel, h1.drew.lt, h1.drew.a0, h1.drew.a1, h1.drew.a2, h1.drew.b0, h1.drew.b1, h1.drew.b2⟩ | exact ⟨h4.bel, h4.lt, h4.a0, h4.a1, h4.a2, h4.b0, h4.b1, h4.b2⟩)
    (first | (go_at_call 17; refine (h2_text (by first | exact h4 | exact h1.drew) _ _ _ (by assumption) (by assumption)).mono ?_; rintro e w4 ⟨rfl, h4⟩; (first | rw [hTa] | rw [hTb])))
  have a0 := h4.a0; have a1 := h4.a1; have a2 := h4.a2; have b0 := h4.b0; have b1 := h4.b1; have b2 := h4.b2
  clear h1
  go_wp2
  go_quiet ((go_at_call 11; exact Calls.quiet_of_same (name_q _ _ hu40)))
  go_wp2
  go_ret
  exact ⟨rfl, drewN_below h4.bel _⟩
set_option maxHeartbeats 8000000 in
theorem walk_d31 (n0 k1 n1 : Int) (s0 s1 u v : ByteArray) (w : World) (ws0 : s0.size ≤ maxLen) (hn0 : Fits n0) (ha : rightV ⟨3, n0, s0⟩ = true) (hTa : bs (textV ⟨3, n0, s0⟩) = u) (hu40 : u.size ≤ maxLen) (hp : 0 < u.size) (hpe : ¬ u.toList = []) (hpe' : u.toList.isEmpty = false) (ws1 : s1.size ≤ maxLen) (hn1 : Fits n1) (hb : rightV ⟨k1, n1, s1⟩ = true) (hTb : bs (textV ⟨k1, n1, s1⟩) = v) (huv : (u.toList == v.toList) = false) (hnm : name u = true) (h35 : ((u[0].toNat : Int) == 35) = false) (hkk : ((3 : Int) == k1) = true) (hnn : (n0 == n1) = false) :
    Calls Try.prog 7 #[.agg #[.int .i64 3, .int .i64 n0, .string s0], .agg #[.int .i64 k1, .int .i64 n1, .string s1]] w fun e w' => e = .returned (.bool true) ∧ Below w.heap.size w w' := by
  go_enter Try.func7, Try.ntmps7
  go_wp2_with (first | (go_at_call 10; refine (h2_awake (Held2.new w ⟨3, n0, s0⟩ ⟨k1, n1, s1⟩)).mono ?_; rintro e w1 ⟨rfl, h1⟩; have a0 := h1.a0; have a1 := h1.a1; have a2 := h1.a2; have b0 := h1.b0; have b1 := h1.b1; have b2 := h1.b2) | (go_at_call 13; refine (h2_right h1 _ _ _ (by assumption)).mono ?_; rintro e w3 ⟨rfl, h3⟩; replace h1 := h3; clear h3; have a0 := h1.a0; have a1 := h1.a1; have a2 := h1.a2; have b0 := h1.b0; have b1 := h1.b1; have b2 := h1.b2))
  go_region_held3 (fun u => Below w.heap.size w u ∧ w.heap.size + 1 < u.heap.size ∧ u.cell? ⟨w.heap.size, 0, none⟩ = some (.int .i64 3) ∧ u.cell? ⟨w.heap.size, 1, none⟩ = some (.int .i64 n0) ∧ u.cell? ⟨w.heap.size, 2, none⟩ = some (.string s0) ∧ u.cell? ⟨w.heap.size + 1, 0, none⟩ = some (.int .i64 k1) ∧ u.cell? ⟨w.heap.size + 1, 1, none⟩ = some (.int .i64 n1) ∧ u.cell? ⟨w.heap.size + 1, 2, none⟩ = some (.string s1))
    (first | exact ⟨h1.bel, h1.lt, h1.a0, h1.a1, h1.a2, h1.b0, h1.b1, h1.b2⟩ | exact ⟨h1.drew.bel, h1.drew.lt, h1.drew.a0, h1.drew.a1, h1.drew.a2, h1.drew.b0, h1.drew.b1, h1.drew.b2⟩ | exact ⟨h4.bel, h4.lt, h4.a0, h4.a1, h4.a2, h4.b0, h4.b1, h4.b2⟩)
    (first | (go_at_call 17; refine (h2_text (by first | exact h4 | exact h1.drew) _ _ _ (by assumption) (by assumption)).mono ?_; rintro e w4 ⟨rfl, h4⟩; (first | rw [hTa] | rw [hTb])))
  have a0 := h4.a0; have a1 := h4.a1; have a2 := h4.a2; have b0 := h4.b0; have b1 := h4.b1; have b2 := h4.b2
  clear h1
  go_wp2
  go_quiet ((go_at_call 11; exact Calls.quiet_of_same (name_q _ _ hu40)))
  go_wp2
  go_ret
  exact ⟨rfl, drewN_below h4.bel _⟩
set_option maxHeartbeats 8000000 in
theorem walk_d32 (n0 k1 n1 : Int) (s0 s1 u v : ByteArray) (w : World) (ws0 : s0.size ≤ maxLen) (hn0 : Fits n0) (ha : rightV ⟨3, n0, s0⟩ = true) (hTa : bs (textV ⟨3, n0, s0⟩) = u) (hu40 : u.size ≤ maxLen) (hp : 0 < u.size) (hpe : ¬ u.toList = []) (hpe' : u.toList.isEmpty = false) (ws1 : s1.size ≤ maxLen) (hn1 : Fits n1) (hb : rightV ⟨k1, n1, s1⟩ = true) (hTb : bs (textV ⟨k1, n1, s1⟩) = v) (huv : (u.toList == v.toList) = false) (hnm : name u = true) (h35 : ((u[0].toNat : Int) == 35) = false) (hkk : ((3 : Int) == k1) = true) (hnn : (n0 == n1) = true) (hss : (s0.toList == s1.toList) = false) :
    Calls Try.prog 7 #[.agg #[.int .i64 3, .int .i64 n0, .string s0], .agg #[.int .i64 k1, .int .i64 n1, .string s1]] w fun e w' => e = .returned (.bool true) ∧ Below w.heap.size w w' := by
  go_enter Try.func7, Try.ntmps7
  go_wp2_with (first | (go_at_call 10; refine (h2_awake (Held2.new w ⟨3, n0, s0⟩ ⟨k1, n1, s1⟩)).mono ?_; rintro e w1 ⟨rfl, h1⟩; have a0 := h1.a0; have a1 := h1.a1; have a2 := h1.a2; have b0 := h1.b0; have b1 := h1.b1; have b2 := h1.b2) | (go_at_call 13; refine (h2_right h1 _ _ _ (by assumption)).mono ?_; rintro e w3 ⟨rfl, h3⟩; replace h1 := h3; clear h3; have a0 := h1.a0; have a1 := h1.a1; have a2 := h1.a2; have b0 := h1.b0; have b1 := h1.b1; have b2 := h1.b2))
  go_region_held3 (fun u => Below w.heap.size w u ∧ w.heap.size + 1 < u.heap.size ∧ u.cell? ⟨w.heap.size, 0, none⟩ = some (.int .i64 3) ∧ u.cell? ⟨w.heap.size, 1, none⟩ = some (.int .i64 n0) ∧ u.cell? ⟨w.heap.size, 2, none⟩ = some (.string s0) ∧ u.cell? ⟨w.heap.size + 1, 0, none⟩ = some (.int .i64 k1) ∧ u.cell? ⟨w.heap.size + 1, 1, none⟩ = some (.int .i64 n1) ∧ u.cell? ⟨w.heap.size + 1, 2, none⟩ = some (.string s1))
    (first | exact ⟨h1.bel, h1.lt, h1.a0, h1.a1, h1.a2, h1.b0, h1.b1, h1.b2⟩ | exact ⟨h1.drew.bel, h1.drew.lt, h1.drew.a0, h1.drew.a1, h1.drew.a2, h1.drew.b0, h1.drew.b1, h1.drew.b2⟩ | exact ⟨h4.bel, h4.lt, h4.a0, h4.a1, h4.a2, h4.b0, h4.b1, h4.b2⟩)
    (first | (go_at_call 17; refine (h2_text (by first | exact h4 | exact h1.drew) _ _ _ (by assumption) (by assumption)).mono ?_; rintro e w4 ⟨rfl, h4⟩; (first | rw [hTa] | rw [hTb])))
  have a0 := h4.a0; have a1 := h4.a1; have a2 := h4.a2; have b0 := h4.b0; have b1 := h4.b1; have b2 := h4.b2
  clear h1
  go_wp2
  go_quiet ((go_at_call 11; exact Calls.quiet_of_same (name_q _ _ hu40)))
  go_wp2
  go_ret
  exact ⟨rfl, drewN_below h4.bel _⟩
set_option maxHeartbeats 8000000 in
theorem walk_q3 (n0 : Int) (s0 u : ByteArray) (w : World) (ws0 : s0.size ≤ maxLen) (hn0 : Fits n0) (ha : rightV ⟨3, n0, s0⟩ = true) (hTa : bs (textV ⟨3, n0, s0⟩) = u) (hu40 : u.size ≤ maxLen) (hp : 0 < u.size) (hpe : ¬ u.toList = []) (hpe' : u.toList.isEmpty = false) (hnm : name u = true) (h35 : ((u[0].toNat : Int) == 35) = false) :
    Calls Try.prog 7 #[.agg #[.int .i64 3, .int .i64 n0, .string s0], .agg #[.int .i64 3, .int .i64 n0, .string s0]] w fun e w' => e = .returned (.bool true) ∧ Below w.heap.size w w' := by
  go_enter Try.func7, Try.ntmps7
  go_wp2_with (first | (go_at_call 10; refine (h2_awake (Held2.new w ⟨3, n0, s0⟩ ⟨3, n0, s0⟩)).mono ?_; rintro e w1 ⟨rfl, h1⟩; have a0 := h1.a0; have a1 := h1.a1; have a2 := h1.a2; have b0 := h1.b0; have b1 := h1.b1; have b2 := h1.b2) | (go_at_call 13; refine (h2_right h1 _ _ _ (by assumption)).mono ?_; rintro e w3 ⟨rfl, h3⟩; replace h1 := h3; clear h3; have a0 := h1.a0; have a1 := h1.a1; have a2 := h1.a2; have b0 := h1.b0; have b1 := h1.b1; have b2 := h1.b2))
  go_region_held3 (fun u => Below w.heap.size w u ∧ w.heap.size + 1 < u.heap.size ∧ u.cell? ⟨w.heap.size, 0, none⟩ = some (.int .i64 3) ∧ u.cell? ⟨w.heap.size, 1, none⟩ = some (.int .i64 n0) ∧ u.cell? ⟨w.heap.size, 2, none⟩ = some (.string s0) ∧ u.cell? ⟨w.heap.size + 1, 0, none⟩ = some (.int .i64 3) ∧ u.cell? ⟨w.heap.size + 1, 1, none⟩ = some (.int .i64 n0) ∧ u.cell? ⟨w.heap.size + 1, 2, none⟩ = some (.string s0))
    (first | exact ⟨h1.bel, h1.lt, h1.a0, h1.a1, h1.a2, h1.b0, h1.b1, h1.b2⟩ | exact ⟨h1.drew.bel, h1.drew.lt, h1.drew.a0, h1.drew.a1, h1.drew.a2, h1.drew.b0, h1.drew.b1, h1.drew.b2⟩ | exact ⟨h4.bel, h4.lt, h4.a0, h4.a1, h4.a2, h4.b0, h4.b1, h4.b2⟩)
    (first | (go_at_call 17; refine (h2_text (by first | exact h4 | exact h1.drew) _ _ _ (by assumption) (by assumption)).mono ?_; rintro e w4 ⟨rfl, h4⟩; (first | rw [hTa] | rw [hTb])))
  have a0 := h4.a0; have a1 := h4.a1; have a2 := h4.a2; have b0 := h4.b0; have b1 := h4.b1; have b2 := h4.b2
  clear h1
  go_wp2
  go_quiet ((go_at_call 11; exact Calls.quiet_of_same (name_q _ _ hu40)))
  go_wp2
  go_ret
  exact ⟨rfl, drewN_below h4.bel _⟩
theorem walk (k0 n0 : Int) (s0 : ByteArray) (k1 n1 : Int) (s1 : ByteArray) (wk0 : (Lit.int .i64 k0).wf = true) (wn0 : (Lit.int .i64 n0).wf = true) (ws0 : s0.size ≤ maxLen) (wk1 : (Lit.int .i64 k1).wf = true) (wn1 : (Lit.int .i64 n1).wf = true) (ws1 : s1.size ≤ maxLen) (w : World) :
    Calls Try.prog 7 #[.agg #[.int .i64 k0, .int .i64 n0, .string s0], .agg #[.int .i64 k1, .int .i64 n1, .string s1]] w fun e w' => e = .returned (.bool true) ∧ Below w.heap.size w w' := by
  have hn0 := fits_of wn0
  have hn1 := fits_of wn1
  have ne : ∀ {a b : Int}, a ≠ b → (a == b) = false := fun h => beq_eq_false_iff_ne.2 h
  have eq' : ∀ {a b : Int}, a = b → (a == b) = true := fun h => beq_iff_eq.2 h
  cases ha : rightV ⟨k0, n0, s0⟩ with
  | false => exact walk_na k0 n0 k1 n1 s0 s1 w ws0 ha
  | true =>
    cases hb : rightV ⟨k1, n1, s1⟩ with
    | false => exact walk_nb k0 n0 k1 n1 s0 s1 w ws0 ws1 ha hb
    | true =>
      have hk : k0 = 1 ∨ k0 = 2 ∨ k0 = 3 := by
        by_cases q1 : k0 = 1
        · exact .inl q1
        · by_cases q2 : k0 = 2
          · exact .inr (.inl q2)
          · by_cases q3 : k0 = 3
            · exact .inr (.inr q3)
            · exfalso; simp [rightV, q1, q2, q3] at ha
      rcases hk with q | q | q
      · subst q
        have hu40 := short (textV_len ⟨1, n0, s0⟩ hn0)
        obtain ⟨c, r, et, hc, hnl⟩ := text_1 n0 s0 ha
        obtain ⟨hp, hpe, hpe', h35⟩ := first_facts (t := bs (textV ⟨1, n0, s0⟩)) et
        rw [decide_eq_false hc] at h35
        have hnm : name (bs (textV ⟨1, n0, s0⟩)) = false := by unfold name; rw [ls_bs, et]; exact hnl
        by_cases hab : (⟨1, n0, s0⟩ : V) = ⟨k1, n1, s1⟩
        · injection hab with e1 e2 e3
          subst e1 e2 e3
          exact walk_q1 n0 s0 _ w ws0 hn0 ha rfl hu40 hp hpe hpe' hnm h35
        · have huv := text_ne ha hb hn0 hn1 hab
          have hss : (1 : Int) = k1 → n0 = n1 → (s0.toList == s1.toList) = false := fun a b => by
            rw [str_eq, decide_eq_false]; intro c; exact hab (by rw [a, b, c])
          by_cases hk : (1 : Int) = k1
          · by_cases hn : n0 = n1
            · exact walk_d12 n0 k1 n1 s0 s1 _ _ w ws0 hn0 ha rfl hu40 hp hpe hpe' ws1 hn1 hb rfl huv hnm h35 (eq' hk) (eq' hn) (hss hk hn)
            · exact walk_d11 n0 k1 n1 s0 s1 _ _ w ws0 hn0 ha rfl hu40 hp hpe hpe' ws1 hn1 hb rfl huv hnm h35 (eq' hk) (ne hn)
          · exact walk_d10 n0 k1 n1 s0 s1 _ _ w ws0 hn0 ha rfl hu40 hp hpe hpe' ws1 hn1 hb rfl huv hnm h35 (ne hk)
      · subst q
        have hu40 := short (textV_len ⟨2, n0, s0⟩ hn0)
        obtain ⟨r, et, hl, hnl⟩ := text_2 n0 s0 ha
        obtain ⟨hp, hpe, hpe', h35⟩ := first_facts (t := bs (textV ⟨2, n0, s0⟩)) et
        rw [decide_eq_true rfl] at h35
        have hnm : name (bs (textV ⟨2, n0, s0⟩)) = false := by unfold name; rw [ls_bs, et]; exact hnl
        have h17 : (((bs (textV ⟨2, n0, s0⟩)).size : Int) == 17) = true := by rw [beq_iff_eq, bs_size, et, List.length_cons, hl]; rfl
        by_cases hab : (⟨2, n0, s0⟩ : V) = ⟨k1, n1, s1⟩
        · injection hab with e1 e2 e3
          subst e1 e2 e3
          exact walk_q2 n0 s0 _ w ws0 hn0 ha rfl hu40 hp hpe hpe' hnm h35 h17
        · have huv := text_ne ha hb hn0 hn1 hab
          have hss : (2 : Int) = k1 → n0 = n1 → (s0.toList == s1.toList) = false := fun a b => by
            rw [str_eq, decide_eq_false]; intro c; exact hab (by rw [a, b, c])
          by_cases hk : (2 : Int) = k1
          · by_cases hn : n0 = n1
            · exact walk_d22 n0 k1 n1 s0 s1 _ _ w ws0 hn0 ha rfl hu40 hp hpe hpe' ws1 hn1 hb rfl huv hnm h35 h17 (eq' hk) (eq' hn) (hss hk hn)
            · exact walk_d21 n0 k1 n1 s0 s1 _ _ w ws0 hn0 ha rfl hu40 hp hpe hpe' ws1 hn1 hb rfl huv hnm h35 h17 (eq' hk) (ne hn)
          · exact walk_d20 n0 k1 n1 s0 s1 _ _ w ws0 hn0 ha rfl hu40 hp hpe hpe' ws1 hn1 hb rfl huv hnm h35 h17 (ne hk)
      · subst q
        have hu40 := short (textV_len ⟨3, n0, s0⟩ hn0)
        obtain ⟨c, r, et, hc, hnl⟩ := text_3 n0 s0 ha
        obtain ⟨hp, hpe, hpe', h35⟩ := first_facts (t := bs (textV ⟨3, n0, s0⟩)) et
        rw [decide_eq_false hc] at h35
        have hnm : name (bs (textV ⟨3, n0, s0⟩)) = true := by unfold name; rw [ls_bs, et]; exact hnl
        by_cases hab : (⟨3, n0, s0⟩ : V) = ⟨k1, n1, s1⟩
        · injection hab with e1 e2 e3
          subst e1 e2 e3
          exact walk_q3 n0 s0 _ w ws0 hn0 ha rfl hu40 hp hpe hpe' hnm h35
        · have huv := text_ne ha hb hn0 hn1 hab
          have hss : (3 : Int) = k1 → n0 = n1 → (s0.toList == s1.toList) = false := fun a b => by
            rw [str_eq, decide_eq_false]; intro c; exact hab (by rw [a, b, c])
          by_cases hk : (3 : Int) = k1
          · by_cases hn : n0 = n1
            · exact walk_d32 n0 k1 n1 s0 s1 _ _ w ws0 hn0 ha rfl hu40 hp hpe hpe' ws1 hn1 hb rfl huv hnm h35 (eq' hk) (eq' hn) (hss hk hn)
            · exact walk_d31 n0 k1 n1 s0 s1 _ _ w ws0 hn0 ha rfl hu40 hp hpe hpe' ws1 hn1 hb rfl huv hnm h35 (eq' hk) (ne hn)
          · exact walk_d30 n0 k1 n1 s0 s1 _ _ w ws0 hn0 ha rfl hu40 hp hpe hpe' ws1 hn1 hb rfl huv hnm h35 (ne hk)

theorem own : ownKnob Try.prog.godebug = none := by kernel_rfl

set_option maxRecDepth 100000 in
theorem lifted (os : Os) (started : os.Started) (H : Type) (enc : TypeId × Value → H) :
    ReturnsInHanded {} Try.checked os 7 .any (Rows.valueUnlikeSpec.pre6 enc Try.prog Try.f7 Rows.valueUnlikeRow.domain false) (Rows.valueUnlikeSpec.post enc Try.prog Try.f7 false true false false) := by
  refine returnsInHanded_of_change (C := Try.checked) own started (by kernel_rfl) Try.func7
    (ChangeSpec.witness6 (enc := enc) (C := Try.checked) false ⟨#[], #[.agg #[.int .i64 0, .int .i64 0, .string ByteArray.empty], .agg #[.int .i64 0, .int .i64 0, .string ByteArray.empty]], []⟩ 8 (by kernel_rfl) (by kernel_rfl) (by kernel_rfl) (by kernel_rfl)) ?_
  intro W base args ds gs before hval0 hW hcnd _
  have hval : ∀ (j : Nat) t v, Try.f7.params[j]? = some t → args[j]? = some v → Value.okWide Try.prog W .any base t v := hval0
  have hW' := hW
  obtain ⟨p, q, hA0, hV, rfl, hfz, hnd⟩ := hW
  have hA : DataW.TrodAll enc Try.prog W 0 (fun _ => true) true Try.f7.params.toList args.toList ds p := hA0
  rw [Try.params7] at hA hval
  obtain ⟨v0, vs0, d0, ds0, p0, q0, hargs, rfl, rfl, h0, r0⟩ := trodAll_cons hA
  obtain ⟨v1, vs1, d1, ds1, p1, q1, rfl, rfl, rfl, h1, r1⟩ := trodAll_cons r0
  obtain ⟨rfl, rfl, rfl⟩ := trodAll_nil r1
  obtain rfl : args = #[v0, v1] := by cases args; simp_all
  obtain ⟨rfl, rfl⟩ := trodVars_none hV
  obtain ⟨k0, n0, s0, rfl, rfl, rfl, wk0, wn0, ws0⟩ := open_val (hval 0 23 v0 rfl rfl) h0
  obtain ⟨k1, n1, s1, rfl, rfl, rfl, wk1, wn1, ws1⟩ := open_val (hval 1 23 v1 rfl rfl) h1
  clear hA0 hval0
  simp only [List.append_nil] at hW'
  refine (walk k0 n0 s0 k1 n1 s1 wk0 wn0 ws0 wk1 wn1 ws1 W).mono fun e W' ⟨he, hg⟩ => ?_
  subst he
  exact ⟨_, rfl, post_plain hW' (fun _ _ _ => (trodAll_cons_mk (shut_bool Try.underlying4 _) trodAll_mk0)) (fun sp => (trodAll_cons_mk (shut_val wk0 wn0 ws0) (trodAll_cons_mk (shut_val wk1 wn1 ws1) trodAll_mk0))) (fun _ => rfl) hg (ok_one (by kernel_rfl) rfl (okWide_bool_mk Try.underlying4 _))⟩

theorem proved : Rows.ValueUnlikeSaid :=
  OpenClaim.holds_of_wide 7 Try.f7 rfl rfl rfl rfl rfl rfl rfl ⟨rfl, rfl, rfl, rfl, rfl⟩ rfl rfl rfl rfl rfl (by kernel_rfl) Try.func7 (by kernel_rfl)
    (of_decide_eq_true (by kernel_rfl)) (by unfold Func.isWrapper; first | (rw [if_pos (by decide +kernel)]; kernel_rfl) | (rw [if_neg (by decide +kernel)]; exact ⟨rfl, rfl⟩))
    (fun os started H enc _ => lifted os started H enc)
#print axioms proved
end Go.Proofs.Ytlakgcdacjieeaa.valueUnlike

/-
  ValueDigits (layer 2, value): for every n and d the call returns true: a whole number with a digit behind it is ten times as great, and that digit more, as long as it is one. No condition.
-/
import Derived.Test.YtlakgcdacjieeaaRows
import Derived.Test.YtlakgcdacjieeaaValRowB
import Derived.Test.YtlakgcdacjieeaaValOpen
import Derived.WalkKit
import Derived.ProofKit
import Derived.OpenShut
import Derived.Deep.RegionHeld3
import Derived.RegionTactic
import Derived.ChangeAlike
import Derived.Deep.QuietTactic
import Derived.BigQuiet
namespace Go.Proofs.Ytlakgcdacjieeaa.valueDigits
open Go.ChangeShapes Go.WideShapes Go.ChangeAt Go.RowKit FloM ValM
set_option linter.unusedVariables false
theorem u8_of {n : Int} (h : (Lit.int .u8 n).wf = true) : 0 ≤ n ∧ n < 256 := by
  simp [Lit.wf, IntKind.min, IntKind.max, IntKind.bits, IntKind.signed] at h; omega
theorem sz_app (s t : ByteArray) : (s ++ t).size = s.size + t.size := by rw [← ls_len, ls_append, List.length_append, ls_len, ls_len]
theorem lit_tail (q : Nat) (h : q < 10) : (((([48, 49, 50, 51, 52, 53, 54, 55, 56, 57] : List UInt8).drop q).take (10 - q)).drop 0).take (1 - 0) = [dch q] ∧ 1 ≤ ((([48, 49, 50, 51, 52, 53, 54, 55, 56, 57] : List UInt8).drop q).take (10 - q)).length := by
  revert q; decide
theorem lit_slice (q : Nat) (h : q < 10) : ((ByteArray.mk #[48, 49, 50, 51, 52, 53, 54, 55, 56, 57]).extract q 10).extract 0 1 = bs [dch q] ∧ 1 ≤ ((ByteArray.mk #[48, 49, 50, 51, 52, 53, 54, 55, 56, 57]).extract q 10).size := by
  have e := lit_tail q h
  constructor
  · apply ls_inj; rw [ls_extract, ls_extract]; exact e.1
  · rw [← ls_len, ls_extract]; exact e.2
theorem digs_ten (m q : Nat) (hm : 0 < m) (hq : q < 10) : digs 10 (10 * m + q) = digs 10 m ++ [dch q] := by
  rw [digs_pos 10 _ (by omega) (by omega), show (10 * m + q) / 10 = m from by omega, show (10 * m + q) % 10 = q from by omega]
theorem text_ten (n : Int) (q : Nat) (hq : q < 10) (h : n ≠ 0) : intTextL (if n < 0 then 10 * n - q else 10 * n + q) = intTextL n ++ [dch q] := by
  by_cases h0 : n < 0
  · rw [if_pos h0]
    unfold intTextL
    rw [if_pos (by omega), if_pos h0, show (10 * n - (q : Int)).natAbs = 10 * n.natAbs + q from by omega, pad1_pos _ (by omega), pad1_pos _ (by omega), digs_ten _ _ (by omega) hq]; rfl
  · rw [if_neg h0]
    unfold intTextL
    rw [if_neg (by omega), if_neg h0, show (10 * n + (q : Int)).natAbs = 10 * n.natAbs + q from by omega, pad1_pos _ (by omega), pad1_pos _ (by omega), digs_ten _ _ (by omega) hq]
theorem text_int1 (n : Int) : textV ⟨1, n, ByteArray.mk #[]⟩ = intTextL n := by
  have hr : rightV ⟨1, n, ByteArray.mk #[]⟩ = true := by
    have : ByteArray.mk #[] = ByteArray.empty := rfl
    simp [rightV, this]
  unfold textV; rw [hr]; rfl
theorem read_ten (n m : Int) (q : Nat) (hm : Fits m) (h : intTextL m = intTextL n ++ [dch q]) : readV (bs (textV ⟨1, n, ByteArray.mk #[]⟩) ++ bs [dch q]) = some ⟨1, m, ByteArray.mk #[]⟩ := by
  have e : bs (textV ⟨1, n, ByteArray.mk #[]⟩) ++ bs [dch q] = bs (textV ⟨1, m, ByteArray.mk #[]⟩) := by
    apply ls_inj; rw [ls_append, ls_bs, ls_bs, ls_bs, text_int1, text_int1, h]
  rw [e]
  refine read_text _ ?_ hm
  have : ByteArray.mk #[] = ByteArray.empty := rfl
  simp [rightV, this]
theorem read_zero (q : Nat) : readV (bs (textV ⟨1, 0, ByteArray.mk #[]⟩) ++ bs [dch q]) = none := by
  have e : ls (bs (textV ⟨1, 0, ByteArray.mk #[]⟩) ++ bs [dch q]) = [48, dch q] := by
    rw [ls_append, ls_bs, ls_bs, text_int1, intTextL_zero]; rfl
  have h1 : name (bs (textV ⟨1, 0, ByteArray.mk #[]⟩) ++ bs [dch q]) = false := by unfold name; rw [e]; exact name_first rfl (by decide)
  unfold readV
  rw [h1, if_neg Bool.false_ne_true, e]
  have h2 : readIntL [48, dch q] = none := by unfold readIntL; simp only; rw [if_neg (by decide), if_pos ⟨trivial, by simp⟩]
  have h3 : readFloL [48, dch q] = none := by unfold readFloL; simp only; rw [if_neg (fun x => absurd x.1 (by decide))]
  rw [h2, h3]
set_option maxHeartbeats 4000000 in
theorem walk_gs (a0 a1 : Int) (q : Nat) (w : World) (hn0 : -9223372036854775808 ≤ a0) (hn1 : a0 < 9223372036854775808) (hq : a1 % 10 = q) (hq' : a1.tmod 10 = q) (hq10 : q < 10) (hq0 : (0 : Int) ≤ q) (hqi : (q : Int) ≤ 10) (D1 D2 U : ByteArray) (h1 : 0 ≤ a1) (h2 : a1 < 256)
    (hD1 : (ByteArray.mk #[48, 49, 50, 51, 52, 53, 54, 55, 56, 57]).extract q 10 = D1) (hz1 : 1 ≤ D1.size) (hz1' : (1 : Int) ≤ D1.size) (hD2 : D1.extract 0 1 = D2) (hU : bs (textV ⟨1, a0, ⟨#[]⟩⟩) = U) (hs : ¬ 9223372036854775807 < U.size + D2.size) (hl : (U ++ D2).size ≤ maxLen) (k n : Int) (s : ByteArray) (hr : readV (U ++ D2) = some ⟨k, n, s⟩) (g : 900000000000000000 < a0) :
    Calls Try.prog 9 #[.int .i64 a0, .int .u8 a1] w fun e w' => e = .returned (.bool true) ∧ Below w.heap.size w w' := by
  have HR := Lib.hid hr; clear hr
  go_enter Try.func9, Try.ntmps9
  go_wp2_with (go_at_call 10; refine (awake_any _).mono ?_; rintro e w1 ⟨rfl, hB⟩)
  have hR := row_new (t := 23) w1 [.int .i64 1, .int .i64 a0, .string ⟨#[]⟩]
  have hB1 : Below w.heap.size w (w1.alloc (.cells #[.int .i64 1, .int .i64 a0, .string ⟨#[]⟩] 23)) := hB.alloc hB.size _
  go_region_held3 (fun u => Below w.heap.size w u ∧ w1.heap.size < u.heap.size ∧ u.cell? ⟨w1.heap.size, 0, none⟩ = some (.int .i64 1) ∧ u.cell? ⟨w1.heap.size, 1, none⟩ = some (.int .i64 a0) ∧ u.cell? ⟨w1.heap.size, 2, none⟩ = some (.string ⟨#[]⟩))
    (first | exact ⟨hB1, by simp, hR.cell 0, hR.cell 1, hR.cell 2⟩ | exact ⟨hB1.drew, by simp, hR.cell 0, hR.cell 1, hR.cell 2⟩ | exact ⟨hB4, hR4.lt, hR4.cell 0, hR4.cell 1, hR4.cell 2⟩)
    (first | (go_at_call 17; refine (text_go _ _ _ _ (by decide) hn0 hn1).mono ?_; rintro e w4 ⟨rfl, h'⟩; (have hR4 := rowOn (u := (w1.alloc (.cells #[.int .i64 1, .int .i64 a0, .string ⟨#[]⟩] 23)).drew) hR h'); (have hB4 := on (W := w) hB1.drew h'); rw [hU]))
  all_goals
    clear hR hB1 hB hR4
    go_wp2_with (go_at_call 19; refine (read_go _ _ hl).mono ?_; intro e w5 h'; replace h' := read_some HR.out h'; obtain ⟨rfl, h'⟩ := h'; have hB5 := on (W := w) (by repeat (first | exact hB4 | refine Below.setCell ?_ (by simp) _ | refine Below.alloc ?_ (by have := hB4.size; first | omega | (simp; omega) | simp) _)) h'; clear h')
  all_goals
    go_ret
    exact ⟨rfl, (by repeat (first | exact hB5 | refine Below.setCell ?_ (by simp) _ | refine Below.alloc ?_ (by have := hB5.size; first | omega | (simp; omega) | simp) _))⟩
set_option maxHeartbeats 4000000 in
theorem walk_gn (a0 a1 : Int) (q : Nat) (w : World) (hn0 : -9223372036854775808 ≤ a0) (hn1 : a0 < 9223372036854775808) (hq : a1 % 10 = q) (hq' : a1.tmod 10 = q) (hq10 : q < 10) (hq0 : (0 : Int) ≤ q) (hqi : (q : Int) ≤ 10) (D1 D2 U : ByteArray) (h1 : 0 ≤ a1) (h2 : a1 < 256)
    (hD1 : (ByteArray.mk #[48, 49, 50, 51, 52, 53, 54, 55, 56, 57]).extract q 10 = D1) (hz1 : 1 ≤ D1.size) (hz1' : (1 : Int) ≤ D1.size) (hD2 : D1.extract 0 1 = D2) (hU : bs (textV ⟨1, a0, ⟨#[]⟩⟩) = U) (hs : ¬ 9223372036854775807 < U.size + D2.size) (hl : (U ++ D2).size ≤ maxLen) (hr : readV (U ++ D2) = none) (g : 900000000000000000 < a0) :
    Calls Try.prog 9 #[.int .i64 a0, .int .u8 a1] w fun e w' => e = .returned (.bool true) ∧ Below w.heap.size w w' := by
  have HR := Lib.hid hr; clear hr
  go_enter Try.func9, Try.ntmps9
  go_wp2_with (go_at_call 10; refine (awake_any _).mono ?_; rintro e w1 ⟨rfl, hB⟩)
  have hR := row_new (t := 23) w1 [.int .i64 1, .int .i64 a0, .string ⟨#[]⟩]
  have hB1 : Below w.heap.size w (w1.alloc (.cells #[.int .i64 1, .int .i64 a0, .string ⟨#[]⟩] 23)) := hB.alloc hB.size _
  go_region_held3 (fun u => Below w.heap.size w u ∧ w1.heap.size < u.heap.size ∧ u.cell? ⟨w1.heap.size, 0, none⟩ = some (.int .i64 1) ∧ u.cell? ⟨w1.heap.size, 1, none⟩ = some (.int .i64 a0) ∧ u.cell? ⟨w1.heap.size, 2, none⟩ = some (.string ⟨#[]⟩))
    (first | exact ⟨hB1, by simp, hR.cell 0, hR.cell 1, hR.cell 2⟩ | exact ⟨hB1.drew, by simp, hR.cell 0, hR.cell 1, hR.cell 2⟩ | exact ⟨hB4, hR4.lt, hR4.cell 0, hR4.cell 1, hR4.cell 2⟩)
    (first | (go_at_call 17; refine (text_go _ _ _ _ (by decide) hn0 hn1).mono ?_; rintro e w4 ⟨rfl, h'⟩; (have hR4 := rowOn (u := (w1.alloc (.cells #[.int .i64 1, .int .i64 a0, .string ⟨#[]⟩] 23)).drew) hR h'); (have hB4 := on (W := w) hB1.drew h'); rw [hU]))
  all_goals
    clear hR hB1 hB hR4
    go_wp2_with (go_at_call 19; refine (read_go _ _ hl).mono ?_; intro e w5 h'; replace h' := read_no HR.out h'; obtain ⟨rfl, h'⟩ := h'; have hB5 := on (W := w) (by repeat (first | exact hB4 | refine Below.setCell ?_ (by simp) _ | refine Below.alloc ?_ (by have := hB4.size; first | omega | (simp; omega) | simp) _)) h'; clear h')
  all_goals
    go_ret
    exact ⟨rfl, (by repeat (first | exact hB5 | refine Below.setCell ?_ (by simp) _ | refine Below.alloc ?_ (by have := hB5.size; first | omega | (simp; omega) | simp) _))⟩
set_option maxHeartbeats 4000000 in
theorem walk_ls (a0 a1 : Int) (q : Nat) (w : World) (hn0 : -9223372036854775808 ≤ a0) (hn1 : a0 < 9223372036854775808) (hq : a1 % 10 = q) (hq' : a1.tmod 10 = q) (hq10 : q < 10) (hq0 : (0 : Int) ≤ q) (hqi : (q : Int) ≤ 10) (D1 D2 U : ByteArray) (h1 : 0 ≤ a1) (h2 : a1 < 256)
    (hD1 : (ByteArray.mk #[48, 49, 50, 51, 52, 53, 54, 55, 56, 57]).extract q 10 = D1) (hz1 : 1 ≤ D1.size) (hz1' : (1 : Int) ≤ D1.size) (hD2 : D1.extract 0 1 = D2) (hU : bs (textV ⟨1, a0, ⟨#[]⟩⟩) = U) (hs : ¬ 9223372036854775807 < U.size + D2.size) (hl : (U ++ D2).size ≤ maxLen) (k n : Int) (s : ByteArray) (hr : readV (U ++ D2) = some ⟨k, n, s⟩) (g : a0 < -900000000000000000) (g' : a0 ≤ 900000000000000000) :
    Calls Try.prog 9 #[.int .i64 a0, .int .u8 a1] w fun e w' => e = .returned (.bool true) ∧ Below w.heap.size w w' := by
  have HR := Lib.hid hr; clear hr
  go_enter Try.func9, Try.ntmps9
  go_wp2_with (go_at_call 10; refine (awake_any _).mono ?_; rintro e w1 ⟨rfl, hB⟩)
  have hR := row_new (t := 23) w1 [.int .i64 1, .int .i64 a0, .string ⟨#[]⟩]
  have hB1 : Below w.heap.size w (w1.alloc (.cells #[.int .i64 1, .int .i64 a0, .string ⟨#[]⟩] 23)) := hB.alloc hB.size _
  go_region_held3 (fun u => Below w.heap.size w u ∧ w1.heap.size < u.heap.size ∧ u.cell? ⟨w1.heap.size, 0, none⟩ = some (.int .i64 1) ∧ u.cell? ⟨w1.heap.size, 1, none⟩ = some (.int .i64 a0) ∧ u.cell? ⟨w1.heap.size, 2, none⟩ = some (.string ⟨#[]⟩))
    (first | exact ⟨hB1, by simp, hR.cell 0, hR.cell 1, hR.cell 2⟩ | exact ⟨hB1.drew, by simp, hR.cell 0, hR.cell 1, hR.cell 2⟩ | exact ⟨hB4, hR4.lt, hR4.cell 0, hR4.cell 1, hR4.cell 2⟩)
    (first | (go_at_call 17; refine (text_go _ _ _ _ (by decide) hn0 hn1).mono ?_; rintro e w4 ⟨rfl, h'⟩; (have hR4 := rowOn (u := (w1.alloc (.cells #[.int .i64 1, .int .i64 a0, .string ⟨#[]⟩] 23)).drew) hR h'); (have hB4 := on (W := w) hB1.drew h'); rw [hU]))
  all_goals
    clear hR hB1 hB hR4
    go_wp2_with (go_at_call 19; refine (read_go _ _ hl).mono ?_; intro e w5 h'; replace h' := read_some HR.out h'; obtain ⟨rfl, h'⟩ := h'; have hB5 := on (W := w) (by repeat (first | exact hB4 | refine Below.setCell ?_ (by simp) _ | refine Below.alloc ?_ (by have := hB4.size; first | omega | (simp; omega) | simp) _)) h'; clear h')
  all_goals
    go_ret
    exact ⟨rfl, (by repeat (first | exact hB5 | refine Below.setCell ?_ (by simp) _ | refine Below.alloc ?_ (by have := hB5.size; first | omega | (simp; omega) | simp) _))⟩
set_option maxHeartbeats 4000000 in
theorem walk_ln (a0 a1 : Int) (q : Nat) (w : World) (hn0 : -9223372036854775808 ≤ a0) (hn1 : a0 < 9223372036854775808) (hq : a1 % 10 = q) (hq' : a1.tmod 10 = q) (hq10 : q < 10) (hq0 : (0 : Int) ≤ q) (hqi : (q : Int) ≤ 10) (D1 D2 U : ByteArray) (h1 : 0 ≤ a1) (h2 : a1 < 256)
    (hD1 : (ByteArray.mk #[48, 49, 50, 51, 52, 53, 54, 55, 56, 57]).extract q 10 = D1) (hz1 : 1 ≤ D1.size) (hz1' : (1 : Int) ≤ D1.size) (hD2 : D1.extract 0 1 = D2) (hU : bs (textV ⟨1, a0, ⟨#[]⟩⟩) = U) (hs : ¬ 9223372036854775807 < U.size + D2.size) (hl : (U ++ D2).size ≤ maxLen) (hr : readV (U ++ D2) = none) (g : a0 < -900000000000000000) (g' : a0 ≤ 900000000000000000) :
    Calls Try.prog 9 #[.int .i64 a0, .int .u8 a1] w fun e w' => e = .returned (.bool true) ∧ Below w.heap.size w w' := by
  have HR := Lib.hid hr; clear hr
  go_enter Try.func9, Try.ntmps9
  go_wp2_with (go_at_call 10; refine (awake_any _).mono ?_; rintro e w1 ⟨rfl, hB⟩)
  have hR := row_new (t := 23) w1 [.int .i64 1, .int .i64 a0, .string ⟨#[]⟩]
  have hB1 : Below w.heap.size w (w1.alloc (.cells #[.int .i64 1, .int .i64 a0, .string ⟨#[]⟩] 23)) := hB.alloc hB.size _
  go_region_held3 (fun u => Below w.heap.size w u ∧ w1.heap.size < u.heap.size ∧ u.cell? ⟨w1.heap.size, 0, none⟩ = some (.int .i64 1) ∧ u.cell? ⟨w1.heap.size, 1, none⟩ = some (.int .i64 a0) ∧ u.cell? ⟨w1.heap.size, 2, none⟩ = some (.string ⟨#[]⟩))
    (first | exact ⟨hB1, by simp, hR.cell 0, hR.cell 1, hR.cell 2⟩ | exact ⟨hB1.drew, by simp, hR.cell 0, hR.cell 1, hR.cell 2⟩ | exact ⟨hB4, hR4.lt, hR4.cell 0, hR4.cell 1, hR4.cell 2⟩)
    (first | (go_at_call 17; refine (text_go _ _ _ _ (by decide) hn0 hn1).mono ?_; rintro e w4 ⟨rfl, h'⟩; (have hR4 := rowOn (u := (w1.alloc (.cells #[.int .i64 1, .int .i64 a0, .string ⟨#[]⟩] 23)).drew) hR h'); (have hB4 := on (W := w) hB1.drew h'); rw [hU]))
  all_goals
    clear hR hB1 hB hR4
    go_wp2_with (go_at_call 19; refine (read_go _ _ hl).mono ?_; intro e w5 h'; replace h' := read_no HR.out h'; obtain ⟨rfl, h'⟩ := h'; have hB5 := on (W := w) (by repeat (first | exact hB4 | refine Below.setCell ?_ (by simp) _ | refine Below.alloc ?_ (by have := hB4.size; first | omega | (simp; omega) | simp) _)) h'; clear h')
  all_goals
    go_ret
    exact ⟨rfl, (by repeat (first | exact hB5 | refine Below.setCell ?_ (by simp) _ | refine Below.alloc ?_ (by have := hB5.size; first | omega | (simp; omega) | simp) _))⟩
set_option maxHeartbeats 4000000 in
theorem walk_z (a1 : Int) (q : Nat) (w : World) (hn0 : -9223372036854775808 ≤ (0 : Int)) (hn1 : (0 : Int) < 9223372036854775808) (hq : a1 % 10 = q) (hq' : a1.tmod 10 = q) (hq10 : q < 10) (hq0 : (0 : Int) ≤ q) (hqi : (q : Int) ≤ 10) (D1 D2 U : ByteArray) (h1 : 0 ≤ a1) (h2 : a1 < 256)
    (hD1 : (ByteArray.mk #[48, 49, 50, 51, 52, 53, 54, 55, 56, 57]).extract q 10 = D1) (hz1 : 1 ≤ D1.size) (hz1' : (1 : Int) ≤ D1.size) (hD2 : D1.extract 0 1 = D2) (hU : bs (textV ⟨1, 0, ⟨#[]⟩⟩) = U) (hs : ¬ 9223372036854775807 < U.size + D2.size) (hl : (U ++ D2).size ≤ maxLen) (hr : readV (U ++ D2) = none) :
    Calls Try.prog 9 #[.int .i64 0, .int .u8 a1] w fun e w' => e = .returned (.bool true) ∧ Below w.heap.size w w' := by
  have HR := Lib.hid hr; clear hr
  go_enter Try.func9, Try.ntmps9
  go_wp2_with (go_at_call 10; refine (awake_any _).mono ?_; rintro e w1 ⟨rfl, hB⟩)
  have hR := row_new (t := 23) w1 [.int .i64 1, .int .i64 0, .string ⟨#[]⟩]
  have hB1 : Below w.heap.size w (w1.alloc (.cells #[.int .i64 1, .int .i64 0, .string ⟨#[]⟩] 23)) := hB.alloc hB.size _
  go_region_held3 (fun u => Below w.heap.size w u ∧ w1.heap.size < u.heap.size ∧ u.cell? ⟨w1.heap.size, 0, none⟩ = some (.int .i64 1) ∧ u.cell? ⟨w1.heap.size, 1, none⟩ = some (.int .i64 0) ∧ u.cell? ⟨w1.heap.size, 2, none⟩ = some (.string ⟨#[]⟩))
    (first | exact ⟨hB1, by simp, hR.cell 0, hR.cell 1, hR.cell 2⟩ | exact ⟨hB1.drew, by simp, hR.cell 0, hR.cell 1, hR.cell 2⟩ | exact ⟨hB4, hR4.lt, hR4.cell 0, hR4.cell 1, hR4.cell 2⟩)
    (first | (go_at_call 17; refine (text_go _ _ _ _ (by decide) hn0 hn1).mono ?_; rintro e w4 ⟨rfl, h'⟩; (have hR4 := rowOn (u := (w1.alloc (.cells #[.int .i64 1, .int .i64 0, .string ⟨#[]⟩] 23)).drew) hR h'); (have hB4 := on (W := w) hB1.drew h'); rw [hU]))
  all_goals
    clear hR hB1 hB hR4
    go_wp2_with (go_at_call 19; refine (read_go _ _ hl).mono ?_; intro e w5 h'; replace h' := read_no HR.out h'; obtain ⟨rfl, h'⟩ := h'; have hB5 := on (W := w) (by repeat (first | exact hB4 | refine Below.setCell ?_ (by simp) _ | refine Below.alloc ?_ (by have := hB4.size; first | omega | (simp; omega) | simp) _)) h'; clear h')
  all_goals
    go_ret
    exact ⟨rfl, (by repeat (first | exact hB5 | refine Below.setCell ?_ (by simp) _ | refine Below.alloc ?_ (by have := hB5.size; first | omega | (simp; omega) | simp) _))⟩
set_option maxHeartbeats 4000000 in
theorem walk_p (a0 a1 : Int) (q : Nat) (w : World) (hn0 : -9223372036854775808 ≤ a0) (hn1 : a0 < 9223372036854775808) (hq : a1 % 10 = q) (hq' : a1.tmod 10 = q) (hq10 : q < 10) (hq0 : (0 : Int) ≤ q) (hqi : (q : Int) ≤ 10) (D1 D2 U : ByteArray) (h1 : 0 ≤ a1) (h2 : a1 < 256)
    (hD1 : (ByteArray.mk #[48, 49, 50, 51, 52, 53, 54, 55, 56, 57]).extract q 10 = D1) (hz1 : 1 ≤ D1.size) (hz1' : (1 : Int) ≤ D1.size) (hD2 : D1.extract 0 1 = D2) (hU : bs (textV ⟨1, a0, ⟨#[]⟩⟩) = U) (hs : ¬ 9223372036854775807 < U.size + D2.size) (hl : (U ++ D2).size ≤ maxLen) (hr : readV (U ++ D2) = some ⟨1, 10 * a0 + q, ⟨#[]⟩⟩) (g : 0 < a0) (g0 : (a0 == 0) = false) (g' : a0 ≤ 900000000000000000) (g2 : -900000000000000000 ≤ a0) :
    Calls Try.prog 9 #[.int .i64 a0, .int .u8 a1] w fun e w' => e = .returned (.bool true) ∧ Below w.heap.size w w' := by
  have HR := Lib.hid hr; clear hr
  go_enter Try.func9, Try.ntmps9
  go_wp2_with (go_at_call 10; refine (awake_any _).mono ?_; rintro e w1 ⟨rfl, hB⟩)
  have hR := row_new (t := 23) w1 [.int .i64 1, .int .i64 a0, .string ⟨#[]⟩]
  have hB1 : Below w.heap.size w (w1.alloc (.cells #[.int .i64 1, .int .i64 a0, .string ⟨#[]⟩] 23)) := hB.alloc hB.size _
  go_region_held3 (fun u => Below w.heap.size w u ∧ w1.heap.size < u.heap.size ∧ u.cell? ⟨w1.heap.size, 0, none⟩ = some (.int .i64 1) ∧ u.cell? ⟨w1.heap.size, 1, none⟩ = some (.int .i64 a0) ∧ u.cell? ⟨w1.heap.size, 2, none⟩ = some (.string ⟨#[]⟩))
    (first | exact ⟨hB1, by simp, hR.cell 0, hR.cell 1, hR.cell 2⟩ | exact ⟨hB1.drew, by simp, hR.cell 0, hR.cell 1, hR.cell 2⟩ | exact ⟨hB4, hR4.lt, hR4.cell 0, hR4.cell 1, hR4.cell 2⟩)
    (first | (go_at_call 17; refine (text_go _ _ _ _ (by decide) hn0 hn1).mono ?_; rintro e w4 ⟨rfl, h'⟩; (have hR4 := rowOn (u := (w1.alloc (.cells #[.int .i64 1, .int .i64 a0, .string ⟨#[]⟩] 23)).drew) hR h'); (have hB4 := on (W := w) hB1.drew h'); rw [hU]))
  all_goals
    clear hR hB1 hB hR4
    go_wp2_with (go_at_call 19; refine (read_go _ _ hl).mono ?_; intro e w5 h'; replace h' := read_some HR.out h'; obtain ⟨rfl, h'⟩ := h'; have hB5 := on (W := w) (by repeat (first | exact hB4 | refine Below.setCell ?_ (by simp) _ | refine Below.alloc ?_ (by have := hB4.size; first | omega | (simp; omega) | simp) _)) h'; clear h')
  all_goals
    go_ret
    exact ⟨rfl, (by repeat (first | exact hB5 | refine Below.setCell ?_ (by simp) _ | refine Below.alloc ?_ (by have := hB5.size; first | omega | (simp; omega) | simp) _))⟩
set_option maxHeartbeats 4000000 in
theorem walk_m (a0 a1 : Int) (q : Nat) (w : World) (hn0 : -9223372036854775808 ≤ a0) (hn1 : a0 < 9223372036854775808) (hq : a1 % 10 = q) (hq' : a1.tmod 10 = q) (hq10 : q < 10) (hq0 : (0 : Int) ≤ q) (hqi : (q : Int) ≤ 10) (D1 D2 U : ByteArray) (h1 : 0 ≤ a1) (h2 : a1 < 256)
    (hD1 : (ByteArray.mk #[48, 49, 50, 51, 52, 53, 54, 55, 56, 57]).extract q 10 = D1) (hz1 : 1 ≤ D1.size) (hz1' : (1 : Int) ≤ D1.size) (hD2 : D1.extract 0 1 = D2) (hU : bs (textV ⟨1, a0, ⟨#[]⟩⟩) = U) (hs : ¬ 9223372036854775807 < U.size + D2.size) (hl : (U ++ D2).size ≤ maxLen) (hr : readV (U ++ D2) = some ⟨1, 10 * a0 - q, ⟨#[]⟩⟩) (g : a0 < 0) (g0 : (a0 == 0) = false) (g' : a0 ≤ 900000000000000000) (g2 : -900000000000000000 ≤ a0) :
    Calls Try.prog 9 #[.int .i64 a0, .int .u8 a1] w fun e w' => e = .returned (.bool true) ∧ Below w.heap.size w w' := by
  have HR := Lib.hid hr; clear hr
  go_enter Try.func9, Try.ntmps9
  go_wp2_with (go_at_call 10; refine (awake_any _).mono ?_; rintro e w1 ⟨rfl, hB⟩)
  have hR := row_new (t := 23) w1 [.int .i64 1, .int .i64 a0, .string ⟨#[]⟩]
  have hB1 : Below w.heap.size w (w1.alloc (.cells #[.int .i64 1, .int .i64 a0, .string ⟨#[]⟩] 23)) := hB.alloc hB.size _
  go_region_held3 (fun u => Below w.heap.size w u ∧ w1.heap.size < u.heap.size ∧ u.cell? ⟨w1.heap.size, 0, none⟩ = some (.int .i64 1) ∧ u.cell? ⟨w1.heap.size, 1, none⟩ = some (.int .i64 a0) ∧ u.cell? ⟨w1.heap.size, 2, none⟩ = some (.string ⟨#[]⟩))
    (first | exact ⟨hB1, by simp, hR.cell 0, hR.cell 1, hR.cell 2⟩ | exact ⟨hB1.drew, by simp, hR.cell 0, hR.cell 1, hR.cell 2⟩ | exact ⟨hB4, hR4.lt, hR4.cell 0, hR4.cell 1, hR4.cell 2⟩)
    (first | (go_at_call 17; refine (text_go _ _ _ _ (by decide) hn0 hn1).mono ?_; rintro e w4 ⟨rfl, h'⟩; (have hR4 := rowOn (u := (w1.alloc (.cells #[.int .i64 1, .int .i64 a0, .string ⟨#[]⟩] 23)).drew) hR h'); (have hB4 := on (W := w) hB1.drew h'); rw [hU]))
  all_goals
    clear hR hB1 hB hR4
    go_wp2_with (go_at_call 19; refine (read_go _ _ hl).mono ?_; intro e w5 h'; replace h' := read_some HR.out h'; obtain ⟨rfl, h'⟩ := h'; have hB5 := on (W := w) (by repeat (first | exact hB4 | refine Below.setCell ?_ (by simp) _ | refine Below.alloc ?_ (by have := hB4.size; first | omega | (simp; omega) | simp) _)) h'; clear h')
  all_goals
    go_ret
    exact ⟨rfl, (by repeat (first | exact hB5 | refine Below.setCell ?_ (by simp) _ | refine Below.alloc ?_ (by have := hB5.size; first | omega | (simp; omega) | simp) _))⟩
theorem walk (a0 a1 : Int) (w0 : (Lit.int .i64 a0).wf = true) (w1 : (Lit.int .u8 a1).wf = true) (w : World) :
    Calls Try.prog 9 #[.int .i64 a0, .int .u8 a1] w fun e w' => e = .returned (.bool true) ∧ Below w.heap.size w w' := by
  obtain ⟨hn0, hn1⟩ := fits_of w0
  obtain ⟨u1, u2⟩ := u8_of w1
  obtain ⟨q, hqe⟩ : ∃ q : Nat, a1 % 10 = q := ⟨(a1 % 10).toNat, by omega⟩
  have hq10 : q < 10 := by omega
  have hqt : a1.tmod 10 = q := by rw [Int.tmod_eq_emod_of_nonneg u1, hqe]
  obtain ⟨hD2, hz1⟩ := lit_slice q hq10
  have hlen := textV_len ⟨1, a0, ByteArray.mk #[]⟩ ⟨hn0, hn1⟩
  have z3 : (bs [dch q]).size = 1 := rfl
  have hs : ¬ 9223372036854775807 < (bs (textV ⟨1, a0, ByteArray.mk #[]⟩)).size + (bs [dch q]).size := by rw [z3]; omega
  have hl : (bs (textV ⟨1, a0, ByteArray.mk #[]⟩) ++ bs [dch q]).size ≤ maxLen := by rw [sz_app, z3]; unfold maxLen; omega
  by_cases g : 900000000000000000 < a0
  · cases hr : readV (bs (textV ⟨1, a0, ByteArray.mk #[]⟩) ++ bs [dch q]) with
    | none => exact walk_gn a0 a1 q w hn0 hn1 hqe hqt hq10 (by omega) (by omega) _ _ _ u1 u2 rfl hz1 (by omega) hD2 rfl hs hl hr g
    | some v => obtain ⟨k, n, s⟩ := v; exact walk_gs a0 a1 q w hn0 hn1 hqe hqt hq10 (by omega) (by omega) _ _ _ u1 u2 rfl hz1 (by omega) hD2 rfl hs hl k n s hr g
  · by_cases g' : a0 < -900000000000000000
    · cases hr : readV (bs (textV ⟨1, a0, ByteArray.mk #[]⟩) ++ bs [dch q]) with
      | none => exact walk_ln a0 a1 q w hn0 hn1 hqe hqt hq10 (by omega) (by omega) _ _ _ u1 u2 rfl hz1 (by omega) hD2 rfl hs hl hr g' (by omega)
      | some v => obtain ⟨k, n, s⟩ := v; exact walk_ls a0 a1 q w hn0 hn1 hqe hqt hq10 (by omega) (by omega) _ _ _ u1 u2 rfl hz1 (by omega) hD2 rfl hs hl k n s hr g' (by omega)
    · by_cases h0 : a0 = 0
      · subst h0
        exact walk_z a1 q w hn0 hn1 hqe hqt hq10 (by omega) (by omega) _ _ _ u1 u2 rfl hz1 (by omega) hD2 rfl hs hl (read_zero q)
      · have ht := text_ten a0 q hq10 h0
        have hne : (a0 == 0) = false := beq_eq_false_iff_ne.2 h0
        by_cases hn : a0 < 0
        · rw [if_pos hn] at ht
          exact walk_m a0 a1 q w hn0 hn1 hqe hqt hq10 (by omega) (by omega) _ _ _ u1 u2 rfl hz1 (by omega) hD2 rfl hs hl (read_ten a0 _ q (by unfold Fits; omega) ht) hn hne (by omega) (by omega)
        · rw [if_neg hn] at ht
          exact walk_p a0 a1 q w hn0 hn1 hqe hqt hq10 (by omega) (by omega) _ _ _ u1 u2 rfl hz1 (by omega) hD2 rfl hs hl (read_ten a0 _ q (by unfold Fits; omega) ht) (by omega) hne (by omega) (by omega)

theorem own : ownKnob Try.prog.godebug = none := by kernel_rfl

set_option maxRecDepth 100000 in
theorem lifted (os : Os) (started : os.Started) (H : Type) (enc : TypeId × Value → H) :
    ReturnsInHanded {} Try.checked os 9 .any (Rows.valueDigitsSpec.pre6 enc Try.prog Try.f9 Rows.valueDigitsRow.domain false) (Rows.valueDigitsSpec.post enc Try.prog Try.f9 false true false false) := by
  refine returnsInHanded_of_change (C := Try.checked) own started (by kernel_rfl) Try.func9
    (ChangeSpec.witness6 (enc := enc) (C := Try.checked) false ⟨#[], #[.int .i64 0, .int .u8 0], []⟩ 8 (by kernel_rfl) (by kernel_rfl) (by kernel_rfl) (by kernel_rfl)) ?_
  intro W base args ds gs before hval0 hW hcnd _
  have hval : ∀ (j : Nat) t v, Try.f9.params[j]? = some t → args[j]? = some v → Value.okWide Try.prog W .any base t v := hval0
  have hW' := hW
  obtain ⟨p, q, hA0, hV, rfl, hfz, hnd⟩ := hW
  have hA : DataW.TrodAll enc Try.prog W 0 (fun _ => true) true Try.f9.params.toList args.toList ds p := hA0
  rw [Try.params9] at hA hval
  obtain ⟨v0, vs0, d0, ds0, p0, q0, hargs, rfl, rfl, h0, r0⟩ := trodAll_cons hA
  obtain ⟨v1, vs1, d1, ds1, p1, q1, rfl, rfl, rfl, h1, r1⟩ := trodAll_cons r0
  obtain ⟨rfl, rfl, rfl⟩ := trodAll_nil r1
  obtain rfl : args = #[v0, v1] := by cases args; simp_all
  obtain ⟨rfl, rfl⟩ := trodVars_none hV
  obtain ⟨a0, rfl, rfl, rfl, w0⟩ := open_int Try.underlying2 (hval 0 2 v0 rfl rfl) h0
  obtain ⟨a1, rfl, rfl, rfl, w1⟩ := open_int Try.underlying5 (hval 1 5 v1 rfl rfl) h1
  clear hA0 hval0
  simp only [List.append_nil] at hW'
  refine (walk a0 a1 w0 w1 W).mono fun e W' ⟨he, hg⟩ => ?_
  subst he
  exact ⟨_, rfl, post_plain hW' (fun _ _ _ => (trodAll_cons_mk (shut_bool Try.underlying4 _) trodAll_mk0)) (fun sp => (trodAll_cons_mk (shut_int Try.underlying2 w0) (trodAll_cons_mk (shut_int Try.underlying5 w1) trodAll_mk0))) (fun _ => rfl) hg (ok_one (by kernel_rfl) rfl (okWide_bool_mk Try.underlying4 _))⟩

theorem proved : Rows.ValueDigitsSaid :=
  OpenClaim.holds_of_wide 9 Try.f9 rfl rfl rfl rfl rfl rfl rfl ⟨rfl, rfl, rfl, rfl, rfl⟩ rfl rfl rfl rfl rfl (by kernel_rfl) Try.func9 (by kernel_rfl)
    (of_decide_eq_true (by kernel_rfl)) (by unfold Func.isWrapper; first | (rw [if_pos (by decide +kernel)]; kernel_rfl) | (rw [if_neg (by decide +kernel)]; exact ⟨rfl, rfl⟩))
    (fun os started H enc _ => lifted os started H enc)
#print axioms proved
end Go.Proofs.Ytlakgcdacjieeaa.valueDigits

/-
  ValueNames (layer 2, value): for every s, t, at, x the call returns true: a name behind a name is one, as long as it isn't too long; with another sign in it it is none. No condition.
-/
import Derived.Test.YtlakgcdacjieeaaRows
import Derived.Test.YtlakgcdacjieeaaValRowB
import Derived.Test.YtlakgcdacjieeaaValOpen
import Derived.WalkKit
import Derived.ProofKit
import Derived.OpenShut
import Derived.Deep.RegionHeld3
import Derived.RegionTactic
import Derived.ChangeAlike
import Derived.Deep.QuietTactic
import Derived.BigQuiet
namespace Go.Proofs.Ytlakgcdacjieeaa.valueNames
open Go.ChangeShapes Go.WideShapes Go.ChangeAt Go.RowKit FloM ValM
set_option linter.unusedVariables false
theorem u8_of {n : Int} (h : (Lit.int .u8 n).wf = true) : 0 ≤ n ∧ n < 256 := by
  simp [Lit.wf, IntKind.min, IntKind.max, IntKind.bits, IntKind.signed] at h; omega
theorem sz_app (s t : ByteArray) : (s ++ t).size = s.size + t.size := by rw [← ls_len, ls_append, List.length_append, ls_len, ls_len]
theorem name_iff (s : ByteArray) : name s = true ↔ 0 < s.size ∧ s.size ≤ 40 ∧ allAt 0 (ls s) = true := by unfold name; rw [nameL_iff, ls_len]
theorem name_app (s t : ByteArray) (hs : name s = true) (ht : name t = true) : name (s ++ t) = decide ((s.size : Int) + t.size ≤ 40) := by
  obtain ⟨h1, h2, h3⟩ := (name_iff s).1 hs
  obtain ⟨g1, g2, g3⟩ := (name_iff t).1 ht
  rw [Bool.eq_iff_iff, name_iff, sz_app, ls_append, allAt_append, h3, Bool.true_and, allAt_mono _ 0 _ g3 (by omega), decide_eq_true_eq]
  constructor
  · rintro ⟨_, a, _⟩; omega
  · intro a; exact ⟨by omega, by omega, rfl⟩
theorem name_with (s : ByteArray) (k : Nat) (X : UInt8) (hs : name s = true) (hk : k ≤ s.size) : name (s.extract 0 k ++ bs [X] ++ s.extract k s.size) = (okAt k X && decide ((s.size : Int) < 40)) := by
  obtain ⟨h1, h2, h3⟩ := (name_iff s).1 hs
  have e : ls (s.extract 0 k ++ bs [X] ++ s.extract k s.size) = (ls s).take k ++ (X :: (ls s).drop k) := by
    rw [ls_append, ls_append, ls_extract, extract_tail, ls_bs, List.append_assoc]; rfl
  have hl : ((ls s).take k).length = k := by rw [List.length_take, ls_len]; omega
  have hsz : (s.extract 0 k ++ bs [X] ++ s.extract k s.size).size = s.size + 1 := by
    rw [← ls_len, e, List.length_append, hl, List.length_cons, List.length_drop, ls_len]; omega
  have hsp := allAt_append ((ls s).take k) ((ls s).drop k) 0
  rw [List.take_append_drop, h3, hl, Nat.zero_add] at hsp
  have hsp := (Bool.and_eq_true _ _).mp hsp.symm
  rw [Bool.eq_iff_iff, name_iff, hsz, e, allAt_append, hl, hsp.1, Bool.true_and, Nat.zero_add]
  simp only [allAt, allAt_mono _ k (k + 1) hsp.2 (by omega), Bool.and_true, Bool.and_eq_true, decide_eq_true_eq]
  constructor
  · rintro ⟨_, a, b⟩; exact ⟨b, by omega⟩
  · rintro ⟨b, a⟩; exact ⟨by omega, by omega, b⟩
set_option maxHeartbeats 4000000 in
theorem walk_l0 (a0 a1 : ByteArray) (a2 a3 : Int) (w : World) (h0 : 100 < (a0.size : Int)) :
    Calls Try.prog 8 #[.string a0, .string a1, .int .u8 a2, .int .u8 a3] w fun e w' => e = .returned (.bool true) ∧ Below w.heap.size w w' := by
  have hB := Below.refl w.heap.size w
  have hne : name ByteArray.empty = false := rfl
  have hne' : name ⟨#[]⟩ = false := rfl
  go_enter Try.func8, Try.ntmps8
  go_wp2_with (first | (go_at_call 10; refine (awake_any _).mono ?_; rintro e w1 ⟨rfl, h'⟩; replace hB := on (W := w) (by repeat (first | exact hB | refine Below.setCell ?_ (by simp) _ | refine Below.alloc ?_ (by have := hB.size; first | omega | (simp; omega) | simp) _)) h'; clear h') | (go_at_call 11; refine (name_any _ _ (by first | assumption | exact short (by decide))).mono ?_; rintro e w' ⟨rfl, rfl⟩))
  all_goals
    go_ret
    exact ⟨rfl, hB⟩
set_option maxHeartbeats 4000000 in
theorem walk_l1 (a0 a1 : ByteArray) (a2 a3 : Int) (w : World) (h0 : (a0.size : Int) ≤ 100) (h1 : 100 < (a1.size : Int)) :
    Calls Try.prog 8 #[.string a0, .string a1, .int .u8 a2, .int .u8 a3] w fun e w' => e = .returned (.bool true) ∧ Below w.heap.size w w' := by
  have hB := Below.refl w.heap.size w
  have hne : name ByteArray.empty = false := rfl
  have hne' : name ⟨#[]⟩ = false := rfl
  go_enter Try.func8, Try.ntmps8
  go_wp2_with (first | (go_at_call 10; refine (awake_any _).mono ?_; rintro e w1 ⟨rfl, h'⟩; replace hB := on (W := w) (by repeat (first | exact hB | refine Below.setCell ?_ (by simp) _ | refine Below.alloc ?_ (by have := hB.size; first | omega | (simp; omega) | simp) _)) h'; clear h') | (go_at_call 11; refine (name_any _ _ (by first | assumption | exact short (by decide))).mono ?_; rintro e w' ⟨rfl, rfl⟩))
  all_goals
    go_ret
    exact ⟨rfl, hB⟩
set_option maxHeartbeats 4000000 in
theorem walk_na0 (a0 a1 : ByteArray) (a2 a3 : Int) (w : World) (w0 : a0.size ≤ maxLen) (w1 : a1.size ≤ maxLen) (h0 : (a0.size : Int) ≤ 100) (h1 : (a1.size : Int) ≤ 100) (hn : name a0 = false) (he : ¬ 0 < a0.size) :
    Calls Try.prog 8 #[.string a0, .string a1, .int .u8 a2, .int .u8 a3] w fun e w' => e = .returned (.bool true) ∧ Below w.heap.size w w' := by
  have hB := Below.refl w.heap.size w
  have hne : name ByteArray.empty = false := rfl
  have hne' : name ⟨#[]⟩ = false := rfl
  go_enter Try.func8, Try.ntmps8
  go_wp2_with (first | (go_at_call 10; refine (awake_any _).mono ?_; rintro e w1 ⟨rfl, h'⟩; replace hB := on (W := w) (by repeat (first | exact hB | refine Below.setCell ?_ (by simp) _ | refine Below.alloc ?_ (by have := hB.size; first | omega | (simp; omega) | simp) _)) h'; clear h') | (go_at_call 11; refine (name_any _ _ (by first | assumption | exact short (by decide))).mono ?_; rintro e w' ⟨rfl, rfl⟩))
  all_goals
    go_ret
    exact ⟨rfl, hB⟩
set_option maxHeartbeats 4000000 in
theorem walk_na1 (a0 a1 : ByteArray) (a2 a3 : Int) (w : World) (w0 : a0.size ≤ maxLen) (w1 : a1.size ≤ maxLen) (h0 : (a0.size : Int) ≤ 100) (h1 : (a1.size : Int) ≤ 100) (hn : name a0 = false) (he : 0 < a0.size) :
    Calls Try.prog 8 #[.string a0, .string a1, .int .u8 a2, .int .u8 a3] w fun e w' => e = .returned (.bool true) ∧ Below w.heap.size w w' := by
  have hB := Below.refl w.heap.size w
  have hne : name ByteArray.empty = false := rfl
  have hne' : name ⟨#[]⟩ = false := rfl
  go_enter Try.func8, Try.ntmps8
  go_wp2_with (first | (go_at_call 10; refine (awake_any _).mono ?_; rintro e w1 ⟨rfl, h'⟩; replace hB := on (W := w) (by repeat (first | exact hB | refine Below.setCell ?_ (by simp) _ | refine Below.alloc ?_ (by have := hB.size; first | omega | (simp; omega) | simp) _)) h'; clear h') | (go_at_call 11; refine (name_any _ _ (by first | assumption | exact short (by decide))).mono ?_; rintro e w' ⟨rfl, rfl⟩))
  all_goals
    go_ret
    exact ⟨rfl, hB⟩
set_option maxHeartbeats 4000000 in
theorem walk_nb (a0 a1 : ByteArray) (a2 a3 : Int) (w : World) (w0 : a0.size ≤ maxLen) (w1 : a1.size ≤ maxLen) (h0 : (a0.size : Int) ≤ 100) (h1 : (a1.size : Int) ≤ 100) (hn : name a0 = true) (he : 0 < a0.size) (hc : 97 ≤ (a0[0].toNat : Int)) (hm : name a1 = false) :
    Calls Try.prog 8 #[.string a0, .string a1, .int .u8 a2, .int .u8 a3] w fun e w' => e = .returned (.bool true) ∧ Below w.heap.size w w' := by
  have hB := Below.refl w.heap.size w
  have hne : name ByteArray.empty = false := rfl
  have hne' : name ⟨#[]⟩ = false := rfl
  go_enter Try.func8, Try.ntmps8
  go_wp2_with (first | (go_at_call 10; refine (awake_any _).mono ?_; rintro e w1 ⟨rfl, h'⟩; replace hB := on (W := w) (by repeat (first | exact hB | refine Below.setCell ?_ (by simp) _ | refine Below.alloc ?_ (by have := hB.size; first | omega | (simp; omega) | simp) _)) h'; clear h') | (go_at_call 11; refine (name_any _ _ (by first | assumption | exact short (by decide))).mono ?_; rintro e w' ⟨rfl, rfl⟩))
  all_goals
    go_ret
    exact ⟨rfl, hB⟩
set_option maxHeartbeats 4000000 in
theorem walk_yyA (a0 a1 : ByteArray) (a2 : Int) (X : UInt8) (w : World) (w0 : a0.size ≤ maxLen) (w1 : a1.size ≤ maxLen) (h0 : (a0.size : Int) ≤ 100) (h1 : (a1.size : Int) ≤ 100) (hn : name a0 = true) (he : 0 < a0.size) (hc : 97 ≤ (a0[0].toNat : Int)) (hm : name a1 = true) (kk : Nat) (hk : a2.tmod ((a0.size : Int) + 1) = kk) (hk' : a2 % ((a0.size : Int) + 1) = kk) (hkl : (kk : Int) ≤ a0.size) (hkn : kk ≤ a0.size) (h2 : 0 ≤ a2) (h3 : a2 < 256) (P Q : ByteArray) (hP : a0.extract 0 kk = P) (hQ : a0.extract kk a0.size = Q) (hs1 : ¬ 9223372036854775807 < P.size + (bs [X]).size) (hs2 : ¬ 9223372036854775807 < (P ++ bs [X]).size + Q.size) (hs3 : ¬ 9223372036854775807 < a0.size + a1.size) (hs4 : (a0 ++ a1).size ≤ maxLen) (hs5 : (P ++ bs [X] ++ Q).size ≤ maxLen) (hst : name (a0 ++ a1) = decide ((a0.size : Int) + a1.size ≤ 40)) (q1 : 97 ≤ (X.toNat : Int)) (q2 : (X.toNat : Int) ≤ 122) (hw : name (P ++ bs [X] ++ Q) = decide ((a0.size : Int) < 40)) :
    Calls Try.prog 8 #[.string a0, .string a1, .int .u8 a2, .int .u8 X.toNat] w fun e w' => e = .returned (.bool true) ∧ Below w.heap.size w w' := by
  have hB := Below.refl w.heap.size w
  have hne : name ByteArray.empty = false := rfl
  have hne' : name ⟨#[]⟩ = false := rfl
  go_enter Try.func8, Try.ntmps8
  go_wp2_with (first | (go_at_call 10; refine (awake_any _).mono ?_; rintro e w1 ⟨rfl, h'⟩; replace hB := on (W := w) (by repeat (first | exact hB | refine Below.setCell ?_ (by simp) _ | refine Below.alloc ?_ (by have := hB.size; first | omega | (simp; omega) | simp) _)) h'; clear h') | (go_at_call 11; refine (name_any _ _ (by first | assumption | exact short (by decide))).mono ?_; rintro e w' ⟨rfl, rfl⟩))
  have hcv1 : (convert 38 9 (.slice (some ⟨w1.heap.size, 0, none⟩) 1 1)).run Try.prog ((w1.alloc (.cells #[.int .u8 X.toNat] 5)).drew) = .ok (.string (bs [X])) ((w1.alloc (.cells #[.int .u8 X.toNat] 5)).drew) := one_byte w1.drew X X.toNat rfl
  go_region
  clear hcv1
  go_wp2_with (go_at_call 11; refine (name_any _ _ (by first | assumption | exact short (by decide))).mono ?_; rintro e w' ⟨rfl, rfl⟩)
  all_goals go_ret
  all_goals exact ⟨by first | rfl | exact ret_bool (by simp), (hB.alloc hB.size _).drew⟩
set_option maxHeartbeats 4000000 in
theorem walk_yyB (a0 a1 : ByteArray) (a2 : Int) (X : UInt8) (w : World) (w0 : a0.size ≤ maxLen) (w1 : a1.size ≤ maxLen) (h0 : (a0.size : Int) ≤ 100) (h1 : (a1.size : Int) ≤ 100) (hn : name a0 = true) (he : 0 < a0.size) (hc : 97 ≤ (a0[0].toNat : Int)) (hm : name a1 = true) (kk : Nat) (hk : a2.tmod ((a0.size : Int) + 1) = kk) (hk' : a2 % ((a0.size : Int) + 1) = kk) (hkl : (kk : Int) ≤ a0.size) (hkn : kk ≤ a0.size) (h2 : 0 ≤ a2) (h3 : a2 < 256) (P Q : ByteArray) (hP : a0.extract 0 kk = P) (hQ : a0.extract kk a0.size = Q) (hs1 : ¬ 9223372036854775807 < P.size + (bs [X]).size) (hs2 : ¬ 9223372036854775807 < (P ++ bs [X]).size + Q.size) (hs3 : ¬ 9223372036854775807 < a0.size + a1.size) (hs4 : (a0 ++ a1).size ≤ maxLen) (hs5 : (P ++ bs [X] ++ Q).size ≤ maxLen) (hst : name (a0 ++ a1) = decide ((a0.size : Int) + a1.size ≤ 40)) (q0 : 0 < (kk : Int)) (q1 : (X.toNat : Int) < 97) (q2 : 48 ≤ (X.toNat : Int)) (q3 : (X.toNat : Int) ≤ 57) (hw : name (P ++ bs [X] ++ Q) = decide ((a0.size : Int) < 40)) :
    Calls Try.prog 8 #[.string a0, .string a1, .int .u8 a2, .int .u8 X.toNat] w fun e w' => e = .returned (.bool true) ∧ Below w.heap.size w w' := by
  have hB := Below.refl w.heap.size w
  have hne : name ByteArray.empty = false := rfl
  have hne' : name ⟨#[]⟩ = false := rfl
  go_enter Try.func8, Try.ntmps8
  go_wp2_with (first | (go_at_call 10; refine (awake_any _).mono ?_; rintro e w1 ⟨rfl, h'⟩; replace hB := on (W := w) (by repeat (first | exact hB | refine Below.setCell ?_ (by simp) _ | refine Below.alloc ?_ (by have := hB.size; first | omega | (simp; omega) | simp) _)) h'; clear h') | (go_at_call 11; refine (name_any _ _ (by first | assumption | exact short (by decide))).mono ?_; rintro e w' ⟨rfl, rfl⟩))
  have hcv1 : (convert 38 9 (.slice (some ⟨w1.heap.size, 0, none⟩) 1 1)).run Try.prog ((w1.alloc (.cells #[.int .u8 X.toNat] 5)).drew) = .ok (.string (bs [X])) ((w1.alloc (.cells #[.int .u8 X.toNat] 5)).drew) := one_byte w1.drew X X.toNat rfl
  go_region
  clear hcv1
  go_wp2_with (go_at_call 11; refine (name_any _ _ (by first | assumption | exact short (by decide))).mono ?_; rintro e w' ⟨rfl, rfl⟩)
  all_goals go_ret
  all_goals exact ⟨by first | rfl | exact ret_bool (by simp), (hB.alloc hB.size _).drew⟩
set_option maxHeartbeats 4000000 in
theorem walk_yyC (a0 a1 : ByteArray) (a2 : Int) (X : UInt8) (w : World) (w0 : a0.size ≤ maxLen) (w1 : a1.size ≤ maxLen) (h0 : (a0.size : Int) ≤ 100) (h1 : (a1.size : Int) ≤ 100) (hn : name a0 = true) (he : 0 < a0.size) (hc : 97 ≤ (a0[0].toNat : Int)) (hm : name a1 = true) (kk : Nat) (hk : a2.tmod ((a0.size : Int) + 1) = kk) (hk' : a2 % ((a0.size : Int) + 1) = kk) (hkl : (kk : Int) ≤ a0.size) (hkn : kk ≤ a0.size) (h2 : 0 ≤ a2) (h3 : a2 < 256) (P Q : ByteArray) (hP : a0.extract 0 kk = P) (hQ : a0.extract kk a0.size = Q) (hs1 : ¬ 9223372036854775807 < P.size + (bs [X]).size) (hs2 : ¬ 9223372036854775807 < (P ++ bs [X]).size + Q.size) (hs3 : ¬ 9223372036854775807 < a0.size + a1.size) (hs4 : (a0 ++ a1).size ≤ maxLen) (hs5 : (P ++ bs [X] ++ Q).size ≤ maxLen) (hst : name (a0 ++ a1) = decide ((a0.size : Int) + a1.size ≤ 40)) (q0 : 0 < (kk : Int)) (q1 : (X.toNat : Int) < 97) (q2 : 48 ≤ (X.toNat : Int)) (q3 : 57 < (X.toNat : Int)) (q4 : ((X.toNat : Int) == 95) = true) (hw : name (P ++ bs [X] ++ Q) = decide ((a0.size : Int) < 40)) :
    Calls Try.prog 8 #[.string a0, .string a1, .int .u8 a2, .int .u8 X.toNat] w fun e w' => e = .returned (.bool true) ∧ Below w.heap.size w w' := by
  have hB := Below.refl w.heap.size w
  have hne : name ByteArray.empty = false := rfl
  have hne' : name ⟨#[]⟩ = false := rfl
  go_enter Try.func8, Try.ntmps8
  go_wp2_with (first | (go_at_call 10; refine (awake_any _).mono ?_; rintro e w1 ⟨rfl, h'⟩; replace hB := on (W := w) (by repeat (first | exact hB | refine Below.setCell ?_ (by simp) _ | refine Below.alloc ?_ (by have := hB.size; first | omega | (simp; omega) | simp) _)) h'; clear h') | (go_at_call 11; refine (name_any _ _ (by first | assumption | exact short (by decide))).mono ?_; rintro e w' ⟨rfl, rfl⟩))
  have hcv1 : (convert 38 9 (.slice (some ⟨w1.heap.size, 0, none⟩) 1 1)).run Try.prog ((w1.alloc (.cells #[.int .u8 X.toNat] 5)).drew) = .ok (.string (bs [X])) ((w1.alloc (.cells #[.int .u8 X.toNat] 5)).drew) := one_byte w1.drew X X.toNat rfl
  go_region
  clear hcv1
  go_wp2_with (go_at_call 11; refine (name_any _ _ (by first | assumption | exact short (by decide))).mono ?_; rintro e w' ⟨rfl, rfl⟩)
  all_goals go_ret
  all_goals exact ⟨by first | rfl | exact ret_bool (by simp), (hB.alloc hB.size _).drew⟩
set_option maxHeartbeats 4000000 in
theorem walk_yyD (a0 a1 : ByteArray) (a2 : Int) (X : UInt8) (w : World) (w0 : a0.size ≤ maxLen) (w1 : a1.size ≤ maxLen) (h0 : (a0.size : Int) ≤ 100) (h1 : (a1.size : Int) ≤ 100) (hn : name a0 = true) (he : 0 < a0.size) (hc : 97 ≤ (a0[0].toNat : Int)) (hm : name a1 = true) (kk : Nat) (hk : a2.tmod ((a0.size : Int) + 1) = kk) (hk' : a2 % ((a0.size : Int) + 1) = kk) (hkl : (kk : Int) ≤ a0.size) (hkn : kk ≤ a0.size) (h2 : 0 ≤ a2) (h3 : a2 < 256) (P Q : ByteArray) (hP : a0.extract 0 kk = P) (hQ : a0.extract kk a0.size = Q) (hs1 : ¬ 9223372036854775807 < P.size + (bs [X]).size) (hs2 : ¬ 9223372036854775807 < (P ++ bs [X]).size + Q.size) (hs3 : ¬ 9223372036854775807 < a0.size + a1.size) (hs4 : (a0 ++ a1).size ≤ maxLen) (hs5 : (P ++ bs [X] ++ Q).size ≤ maxLen) (hst : name (a0 ++ a1) = decide ((a0.size : Int) + a1.size ≤ 40)) (q0 : (kk : Int) ≤ 0) (q1 : (X.toNat : Int) < 97) (hw : name (P ++ bs [X] ++ Q) = false) :
    Calls Try.prog 8 #[.string a0, .string a1, .int .u8 a2, .int .u8 X.toNat] w fun e w' => e = .returned (.bool true) ∧ Below w.heap.size w w' := by
  have hB := Below.refl w.heap.size w
  have hne : name ByteArray.empty = false := rfl
  have hne' : name ⟨#[]⟩ = false := rfl
  go_enter Try.func8, Try.ntmps8
  go_wp2_with (first | (go_at_call 10; refine (awake_any _).mono ?_; rintro e w1 ⟨rfl, h'⟩; replace hB := on (W := w) (by repeat (first | exact hB | refine Below.setCell ?_ (by simp) _ | refine Below.alloc ?_ (by have := hB.size; first | omega | (simp; omega) | simp) _)) h'; clear h') | (go_at_call 11; refine (name_any _ _ (by first | assumption | exact short (by decide))).mono ?_; rintro e w' ⟨rfl, rfl⟩))
  have hcv1 : (convert 38 9 (.slice (some ⟨w1.heap.size, 0, none⟩) 1 1)).run Try.prog ((w1.alloc (.cells #[.int .u8 X.toNat] 5)).drew) = .ok (.string (bs [X])) ((w1.alloc (.cells #[.int .u8 X.toNat] 5)).drew) := one_byte w1.drew X X.toNat rfl
  go_region
  clear hcv1
  go_wp2_with (go_at_call 11; refine (name_any _ _ (by first | assumption | exact short (by decide))).mono ?_; rintro e w' ⟨rfl, rfl⟩)
  all_goals go_ret
  all_goals exact ⟨by first | rfl | exact ret_bool (by simp), (hB.alloc hB.size _).drew⟩
set_option maxHeartbeats 4000000 in
theorem walk_yyE (a0 a1 : ByteArray) (a2 : Int) (X : UInt8) (w : World) (w0 : a0.size ≤ maxLen) (w1 : a1.size ≤ maxLen) (h0 : (a0.size : Int) ≤ 100) (h1 : (a1.size : Int) ≤ 100) (hn : name a0 = true) (he : 0 < a0.size) (hc : 97 ≤ (a0[0].toNat : Int)) (hm : name a1 = true) (kk : Nat) (hk : a2.tmod ((a0.size : Int) + 1) = kk) (hk' : a2 % ((a0.size : Int) + 1) = kk) (hkl : (kk : Int) ≤ a0.size) (hkn : kk ≤ a0.size) (h2 : 0 ≤ a2) (h3 : a2 < 256) (P Q : ByteArray) (hP : a0.extract 0 kk = P) (hQ : a0.extract kk a0.size = Q) (hs1 : ¬ 9223372036854775807 < P.size + (bs [X]).size) (hs2 : ¬ 9223372036854775807 < (P ++ bs [X]).size + Q.size) (hs3 : ¬ 9223372036854775807 < a0.size + a1.size) (hs4 : (a0 ++ a1).size ≤ maxLen) (hs5 : (P ++ bs [X] ++ Q).size ≤ maxLen) (hst : name (a0 ++ a1) = decide ((a0.size : Int) + a1.size ≤ 40)) (q0 : (kk : Int) ≤ 0) (q1 : 97 ≤ (X.toNat : Int)) (q2 : 122 < (X.toNat : Int)) (hw : name (P ++ bs [X] ++ Q) = false) :
    Calls Try.prog 8 #[.string a0, .string a1, .int .u8 a2, .int .u8 X.toNat] w fun e w' => e = .returned (.bool true) ∧ Below w.heap.size w w' := by
  have hB := Below.refl w.heap.size w
  have hne : name ByteArray.empty = false := rfl
  have hne' : name ⟨#[]⟩ = false := rfl
  go_enter Try.func8, Try.ntmps8
  go_wp2_with (first | (go_at_call 10; refine (awake_any _).mono ?_; rintro e w1 ⟨rfl, h'⟩; replace hB := on (W := w) (by repeat (first | exact hB | refine Below.setCell ?_ (by simp) _ | refine Below.alloc ?_ (by have := hB.size; first | omega | (simp; omega) | simp) _)) h'; clear h') | (go_at_call 11; refine (name_any _ _ (by first | assumption | exact short (by decide))).mono ?_; rintro e w' ⟨rfl, rfl⟩))
  have hcv1 : (convert 38 9 (.slice (some ⟨w1.heap.size, 0, none⟩) 1 1)).run Try.prog ((w1.alloc (.cells #[.int .u8 X.toNat] 5)).drew) = .ok (.string (bs [X])) ((w1.alloc (.cells #[.int .u8 X.toNat] 5)).drew) := one_byte w1.drew X X.toNat rfl
  go_region
  clear hcv1
  go_wp2_with (go_at_call 11; refine (name_any _ _ (by first | assumption | exact short (by decide))).mono ?_; rintro e w' ⟨rfl, rfl⟩)
  all_goals go_ret
  all_goals exact ⟨by first | rfl | exact ret_bool (by simp), (hB.alloc hB.size _).drew⟩
set_option maxHeartbeats 4000000 in
theorem walk_yyF (a0 a1 : ByteArray) (a2 : Int) (X : UInt8) (w : World) (w0 : a0.size ≤ maxLen) (w1 : a1.size ≤ maxLen) (h0 : (a0.size : Int) ≤ 100) (h1 : (a1.size : Int) ≤ 100) (hn : name a0 = true) (he : 0 < a0.size) (hc : 97 ≤ (a0[0].toNat : Int)) (hm : name a1 = true) (kk : Nat) (hk : a2.tmod ((a0.size : Int) + 1) = kk) (hk' : a2 % ((a0.size : Int) + 1) = kk) (hkl : (kk : Int) ≤ a0.size) (hkn : kk ≤ a0.size) (h2 : 0 ≤ a2) (h3 : a2 < 256) (P Q : ByteArray) (hP : a0.extract 0 kk = P) (hQ : a0.extract kk a0.size = Q) (hs1 : ¬ 9223372036854775807 < P.size + (bs [X]).size) (hs2 : ¬ 9223372036854775807 < (P ++ bs [X]).size + Q.size) (hs3 : ¬ 9223372036854775807 < a0.size + a1.size) (hs4 : (a0 ++ a1).size ≤ maxLen) (hs5 : (P ++ bs [X] ++ Q).size ≤ maxLen) (hst : name (a0 ++ a1) = decide ((a0.size : Int) + a1.size ≤ 40)) (q0 : 0 < (kk : Int)) (q1 : (X.toNat : Int) < 97) (q2 : (X.toNat : Int) < 48) (q4 : ((X.toNat : Int) == 95) = false) (hw : name (P ++ bs [X] ++ Q) = false) :
    Calls Try.prog 8 #[.string a0, .string a1, .int .u8 a2, .int .u8 X.toNat] w fun e w' => e = .returned (.bool true) ∧ Below w.heap.size w w' := by
  have hB := Below.refl w.heap.size w
  have hne : name ByteArray.empty = false := rfl
  have hne' : name ⟨#[]⟩ = false := rfl
  go_enter Try.func8, Try.ntmps8
  go_wp2_with (first | (go_at_call 10; refine (awake_any _).mono ?_; rintro e w1 ⟨rfl, h'⟩; replace hB := on (W := w) (by repeat (first | exact hB | refine Below.setCell ?_ (by simp) _ | refine Below.alloc ?_ (by have := hB.size; first | omega | (simp; omega) | simp) _)) h'; clear h') | (go_at_call 11; refine (name_any _ _ (by first | assumption | exact short (by decide))).mono ?_; rintro e w' ⟨rfl, rfl⟩))
  have hcv1 : (convert 38 9 (.slice (some ⟨w1.heap.size, 0, none⟩) 1 1)).run Try.prog ((w1.alloc (.cells #[.int .u8 X.toNat] 5)).drew) = .ok (.string (bs [X])) ((w1.alloc (.cells #[.int .u8 X.toNat] 5)).drew) := one_byte w1.drew X X.toNat rfl
  go_region
  clear hcv1
  go_wp2_with (go_at_call 11; refine (name_any _ _ (by first | assumption | exact short (by decide))).mono ?_; rintro e w' ⟨rfl, rfl⟩)
  all_goals go_ret
  all_goals exact ⟨by first | rfl | exact ret_bool (by simp), (hB.alloc hB.size _).drew⟩
set_option maxHeartbeats 4000000 in
theorem walk_yyG (a0 a1 : ByteArray) (a2 : Int) (X : UInt8) (w : World) (w0 : a0.size ≤ maxLen) (w1 : a1.size ≤ maxLen) (h0 : (a0.size : Int) ≤ 100) (h1 : (a1.size : Int) ≤ 100) (hn : name a0 = true) (he : 0 < a0.size) (hc : 97 ≤ (a0[0].toNat : Int)) (hm : name a1 = true) (kk : Nat) (hk : a2.tmod ((a0.size : Int) + 1) = kk) (hk' : a2 % ((a0.size : Int) + 1) = kk) (hkl : (kk : Int) ≤ a0.size) (hkn : kk ≤ a0.size) (h2 : 0 ≤ a2) (h3 : a2 < 256) (P Q : ByteArray) (hP : a0.extract 0 kk = P) (hQ : a0.extract kk a0.size = Q) (hs1 : ¬ 9223372036854775807 < P.size + (bs [X]).size) (hs2 : ¬ 9223372036854775807 < (P ++ bs [X]).size + Q.size) (hs3 : ¬ 9223372036854775807 < a0.size + a1.size) (hs4 : (a0 ++ a1).size ≤ maxLen) (hs5 : (P ++ bs [X] ++ Q).size ≤ maxLen) (hst : name (a0 ++ a1) = decide ((a0.size : Int) + a1.size ≤ 40)) (q0 : 0 < (kk : Int)) (q1 : (X.toNat : Int) < 97) (q2 : 48 ≤ (X.toNat : Int)) (q3 : 57 < (X.toNat : Int)) (q4 : ((X.toNat : Int) == 95) = false) (hw : name (P ++ bs [X] ++ Q) = false) :
    Calls Try.prog 8 #[.string a0, .string a1, .int .u8 a2, .int .u8 X.toNat] w fun e w' => e = .returned (.bool true) ∧ Below w.heap.size w w' := by
  have hB := Below.refl w.heap.size w
  have hne : name ByteArray.empty = false := rfl
  have hne' : name ⟨#[]⟩ = false := rfl
  go_enter Try.func8, Try.ntmps8
  go_wp2_with (first | (go_at_call 10; refine (awake_any _).mono ?_; rintro e w1 ⟨rfl, h'⟩; replace hB := on (W := w) (by repeat (first | exact hB | refine Below.setCell ?_ (by simp) _ | refine Below.alloc ?_ (by have := hB.size; first | omega | (simp; omega) | simp) _)) h'; clear h') | (go_at_call 11; refine (name_any _ _ (by first | assumption | exact short (by decide))).mono ?_; rintro e w' ⟨rfl, rfl⟩))
  have hcv1 : (convert 38 9 (.slice (some ⟨w1.heap.size, 0, none⟩) 1 1)).run Try.prog ((w1.alloc (.cells #[.int .u8 X.toNat] 5)).drew) = .ok (.string (bs [X])) ((w1.alloc (.cells #[.int .u8 X.toNat] 5)).drew) := one_byte w1.drew X X.toNat rfl
  go_region
  clear hcv1
  go_wp2_with (go_at_call 11; refine (name_any _ _ (by first | assumption | exact short (by decide))).mono ?_; rintro e w' ⟨rfl, rfl⟩)
  all_goals go_ret
  all_goals exact ⟨by first | rfl | exact ret_bool (by simp), (hB.alloc hB.size _).drew⟩
set_option maxHeartbeats 4000000 in
theorem walk_yyI (a0 a1 : ByteArray) (a2 : Int) (X : UInt8) (w : World) (w0 : a0.size ≤ maxLen) (w1 : a1.size ≤ maxLen) (h0 : (a0.size : Int) ≤ 100) (h1 : (a1.size : Int) ≤ 100) (hn : name a0 = true) (he : 0 < a0.size) (hc : 97 ≤ (a0[0].toNat : Int)) (hm : name a1 = true) (kk : Nat) (hk : a2.tmod ((a0.size : Int) + 1) = kk) (hk' : a2 % ((a0.size : Int) + 1) = kk) (hkl : (kk : Int) ≤ a0.size) (hkn : kk ≤ a0.size) (h2 : 0 ≤ a2) (h3 : a2 < 256) (P Q : ByteArray) (hP : a0.extract 0 kk = P) (hQ : a0.extract kk a0.size = Q) (hs1 : ¬ 9223372036854775807 < P.size + (bs [X]).size) (hs2 : ¬ 9223372036854775807 < (P ++ bs [X]).size + Q.size) (hs3 : ¬ 9223372036854775807 < a0.size + a1.size) (hs4 : (a0 ++ a1).size ≤ maxLen) (hs5 : (P ++ bs [X] ++ Q).size ≤ maxLen) (hst : name (a0 ++ a1) = decide ((a0.size : Int) + a1.size ≤ 40)) (q0 : 0 < (kk : Int)) (q1 : 97 ≤ (X.toNat : Int)) (q2 : 122 < (X.toNat : Int)) (q3 : 48 ≤ (X.toNat : Int)) (q5 : 57 < (X.toNat : Int)) (q4 : ((X.toNat : Int) == 95) = false) (hw : name (P ++ bs [X] ++ Q) = false) :
    Calls Try.prog 8 #[.string a0, .string a1, .int .u8 a2, .int .u8 X.toNat] w fun e w' => e = .returned (.bool true) ∧ Below w.heap.size w w' := by
  have hB := Below.refl w.heap.size w
  have hne : name ByteArray.empty = false := rfl
  have hne' : name ⟨#[]⟩ = false := rfl
  go_enter Try.func8, Try.ntmps8
  go_wp2_with (first | (go_at_call 10; refine (awake_any _).mono ?_; rintro e w1 ⟨rfl, h'⟩; replace hB := on (W := w) (by repeat (first | exact hB | refine Below.setCell ?_ (by simp) _ | refine Below.alloc ?_ (by have := hB.size; first | omega | (simp; omega) | simp) _)) h'; clear h') | (go_at_call 11; refine (name_any _ _ (by first | assumption | exact short (by decide))).mono ?_; rintro e w' ⟨rfl, rfl⟩))
  have hcv1 : (convert 38 9 (.slice (some ⟨w1.heap.size, 0, none⟩) 1 1)).run Try.prog ((w1.alloc (.cells #[.int .u8 X.toNat] 5)).drew) = .ok (.string (bs [X])) ((w1.alloc (.cells #[.int .u8 X.toNat] 5)).drew) := one_byte w1.drew X X.toNat rfl
  go_region
  clear hcv1
  go_wp2_with (go_at_call 11; refine (name_any _ _ (by first | assumption | exact short (by decide))).mono ?_; rintro e w' ⟨rfl, rfl⟩)
  all_goals go_ret
  all_goals exact ⟨by first | rfl | exact ret_bool (by simp), (hB.alloc hB.size _).drew⟩
theorem walk (a0 a1 : ByteArray) (a2 a3 : Int) (w0 : a0.size ≤ maxLen) (w1 : a1.size ≤ maxLen) (w2 : (Lit.int .u8 a2).wf = true) (w3 : (Lit.int .u8 a3).wf = true) (w : World) :
    Calls Try.prog 8 #[.string a0, .string a1, .int .u8 a2, .int .u8 a3] w fun e w' => e = .returned (.bool true) ∧ Below w.heap.size w w' := by
  obtain ⟨u1, u2⟩ := u8_of w2
  obtain ⟨v1, v2⟩ := u8_of w3
  by_cases h0 : 100 < (a0.size : Int)
  · exact walk_l0 a0 a1 a2 a3 w h0
  have h0 : (a0.size : Int) ≤ 100 := by omega
  by_cases h1 : 100 < (a1.size : Int)
  · exact walk_l1 a0 a1 a2 a3 w h0 h1
  have h1 : (a1.size : Int) ≤ 100 := by omega
  cases hn : name a0 with
  | false =>
    by_cases he : 0 < a0.size
    · exact walk_na1 a0 a1 a2 a3 w w0 w1 h0 h1 hn he
    · exact walk_na0 a0 a1 a2 a3 w w0 w1 h0 h1 hn he
  | true =>
    obtain ⟨he, h40, hall⟩ := (name_iff a0).1 hn
    have hc : 97 ≤ (a0[0].toNat : Int) := by
      cases hok : okAt 0 a0[0] with
      | false => rw [allAt_bad a0 0 he hok] at hall; cases hall
      | true => rw [okAt_iff] at hok; omega
    cases hm : name a1 with
    | false => exact walk_nb a0 a1 a2 a3 w w0 w1 h0 h1 hn he hc hm
    | true =>
      obtain ⟨X, rfl⟩ : ∃ X : UInt8, a3 = X.toNat := ⟨UInt8.ofNat a3.toNat, by simp; omega⟩
      obtain ⟨kk, hke⟩ : ∃ kk : Nat, a2 % ((a0.size : Int) + 1) = kk := ⟨(a2 % ((a0.size : Int) + 1)).toNat, (Int.toNat_of_nonneg (Int.emod_nonneg _ (by omega))).symm⟩
      have hkl := Int.emod_lt_of_pos a2 (show 0 < (a0.size : Int) + 1 by omega)
      have hkt : a2.tmod ((a0.size : Int) + 1) = kk := by rw [Int.tmod_eq_emod_of_nonneg u1, hke]
      have hst := name_app a0 a1 hn hm
      have hwt := name_with a0 kk X hn (by omega)
      have z1 : (a0.extract 0 kk).size = kk := by rw [← ls_len, ls_extract, List.length_take, List.drop_zero, ls_len]; omega
      have z2 : (a0.extract kk a0.size).size = a0.size - kk := by rw [← ls_len, extract_tail, List.length_drop, ls_len]
      have z3 : (bs [X]).size = 1 := rfl
      have hs1 : ¬ 9223372036854775807 < (a0.extract 0 kk).size + (bs [X]).size := by rw [z1, z3]; omega
      have hs2 : ¬ 9223372036854775807 < (a0.extract 0 kk ++ bs [X]).size + (a0.extract kk a0.size).size := by rw [sz_app, z1, z2, z3]; omega
      have hs3 : ¬ 9223372036854775807 < a0.size + a1.size := by omega
      have hs4 : (a0 ++ a1).size ≤ maxLen := by rw [sz_app]; unfold maxLen; omega
      have hs5 : (a0.extract 0 kk ++ bs [X] ++ a0.extract kk a0.size).size ≤ maxLen := by rw [sz_app, sz_app, z1, z2, z3]; unfold maxLen; omega
      have yes : okAt kk X = true → name (a0.extract 0 kk ++ bs [X] ++ a0.extract kk a0.size) = decide ((a0.size : Int) < 40) := fun h => by rw [hwt, h, Bool.true_and]
      have no : okAt kk X = false → name (a0.extract 0 kk ++ bs [X] ++ a0.extract kk a0.size) = false := fun h => by rw [hwt, h, Bool.false_and]
      have ne : (X.toNat : Int) ≠ 95 → ((X.toNat : Int) == 95) = false := fun h => beq_eq_false_iff_ne.2 h
      have ok := okAt_iff kk X
      have nok : ¬ ((97 ≤ X.toNat ∧ X.toNat ≤ 122) ∨ (0 < kk ∧ (X.toNat = 95 ∨ (48 ≤ X.toNat ∧ X.toNat ≤ 57)))) → okAt kk X = false := fun h => by rw [← Bool.not_eq_true, ok]; exact h
      rcases cls X.toNat with c | c | c | c | c | c
      · exact walk_yyA a0 a1 a2 X w w0 w1 h0 h1 hn he hc hm kk hkt hke (by omega) (by omega) (by omega) (by omega) _ _ rfl rfl hs1 hs2 hs3 hs4 hs5 hst (by omega) (by omega) (yes (ok.2 (by omega)))
      · by_cases k0 : 0 < kk
        · exact walk_yyB a0 a1 a2 X w w0 w1 h0 h1 hn he hc hm kk hkt hke (by omega) (by omega) (by omega) (by omega) _ _ rfl rfl hs1 hs2 hs3 hs4 hs5 hst (by omega) (by omega) (by omega) (by omega) (yes (ok.2 (by omega)))
        · exact walk_yyD a0 a1 a2 X w w0 w1 h0 h1 hn he hc hm kk hkt hke (by omega) (by omega) (by omega) (by omega) _ _ rfl rfl hs1 hs2 hs3 hs4 hs5 hst (by omega) (by omega) (no (nok (by omega)))
      · by_cases k0 : 0 < kk
        · exact walk_yyC a0 a1 a2 X w w0 w1 h0 h1 hn he hc hm kk hkt hke (by omega) (by omega) (by omega) (by omega) _ _ rfl rfl hs1 hs2 hs3 hs4 hs5 hst (by omega) (by omega) (by omega) (by omega) (by rw [c]; rfl) (yes (ok.2 (by omega)))
        · exact walk_yyD a0 a1 a2 X w w0 w1 h0 h1 hn he hc hm kk hkt hke (by omega) (by omega) (by omega) (by omega) _ _ rfl rfl hs1 hs2 hs3 hs4 hs5 hst (by omega) (by omega) (no (nok (by omega)))
      · by_cases k0 : 0 < kk
        · exact walk_yyF a0 a1 a2 X w w0 w1 h0 h1 hn he hc hm kk hkt hke (by omega) (by omega) (by omega) (by omega) _ _ rfl rfl hs1 hs2 hs3 hs4 hs5 hst (by omega) (by omega) (by omega) (ne (by omega)) (no (nok (by omega)))
        · exact walk_yyD a0 a1 a2 X w w0 w1 h0 h1 hn he hc hm kk hkt hke (by omega) (by omega) (by omega) (by omega) _ _ rfl rfl hs1 hs2 hs3 hs4 hs5 hst (by omega) (by omega) (no (nok (by omega)))
      · by_cases k0 : 0 < kk
        · exact walk_yyG a0 a1 a2 X w w0 w1 h0 h1 hn he hc hm kk hkt hke (by omega) (by omega) (by omega) (by omega) _ _ rfl rfl hs1 hs2 hs3 hs4 hs5 hst (by omega) (by omega) (by omega) (by omega) (ne (by omega)) (no (nok (by omega)))
        · exact walk_yyD a0 a1 a2 X w w0 w1 h0 h1 hn he hc hm kk hkt hke (by omega) (by omega) (by omega) (by omega) _ _ rfl rfl hs1 hs2 hs3 hs4 hs5 hst (by omega) (by omega) (no (nok (by omega)))
      · by_cases k0 : 0 < kk
        · exact walk_yyI a0 a1 a2 X w w0 w1 h0 h1 hn he hc hm kk hkt hke (by omega) (by omega) (by omega) (by omega) _ _ rfl rfl hs1 hs2 hs3 hs4 hs5 hst (by omega) (by omega) (by omega) (by omega) (by omega) (ne (by omega)) (no (nok (by omega)))
        · exact walk_yyE a0 a1 a2 X w w0 w1 h0 h1 hn he hc hm kk hkt hke (by omega) (by omega) (by omega) (by omega) _ _ rfl rfl hs1 hs2 hs3 hs4 hs5 hst (by omega) (by omega) (by omega) (no (nok (by omega)))

theorem own : ownKnob Try.prog.godebug = none := by kernel_rfl

set_option maxRecDepth 100000 in
theorem lifted (os : Os) (started : os.Started) (H : Type) (enc : TypeId × Value → H) :
    ReturnsInHanded {} Try.checked os 8 .any (Rows.valueNamesSpec.pre6 enc Try.prog Try.f8 Rows.valueNamesRow.domain false) (Rows.valueNamesSpec.post enc Try.prog Try.f8 false true false false) := by
  refine returnsInHanded_of_change (C := Try.checked) own started (by kernel_rfl) Try.func8
    (ChangeSpec.witness6 (enc := enc) (C := Try.checked) false ⟨#[], #[.string ByteArray.empty, .string ByteArray.empty, .int .u8 0, .int .u8 0], []⟩ 8 (by kernel_rfl) (by kernel_rfl) (by kernel_rfl) (by kernel_rfl)) ?_
  intro W base args ds gs before hval0 hW hcnd _
  have hval : ∀ (j : Nat) t v, Try.f8.params[j]? = some t → args[j]? = some v → Value.okWide Try.prog W .any base t v := hval0
  have hW' := hW
  obtain ⟨p, q, hA0, hV, rfl, hfz, hnd⟩ := hW
  have hA : DataW.TrodAll enc Try.prog W 0 (fun _ => true) true Try.f8.params.toList args.toList ds p := hA0
  rw [Try.params8] at hA hval
  obtain ⟨v0, vs0, d0, ds0, p0, q0, hargs, rfl, rfl, h0, r0⟩ := trodAll_cons hA
  obtain ⟨v1, vs1, d1, ds1, p1, q1, rfl, rfl, rfl, h1, r1⟩ := trodAll_cons r0
  obtain ⟨v2, vs2, d2, ds2, p2, q2, rfl, rfl, rfl, h2, r2⟩ := trodAll_cons r1
  obtain ⟨v3, vs3, d3, ds3, p3, q3, rfl, rfl, rfl, h3, r3⟩ := trodAll_cons r2
  obtain ⟨rfl, rfl, rfl⟩ := trodAll_nil r3
  obtain rfl : args = #[v0, v1, v2, v3] := by cases args; simp_all
  obtain ⟨rfl, rfl⟩ := trodVars_none hV
  obtain ⟨a0, rfl, rfl, rfl, w0⟩ := Go.ChangeMaps.open_string Try.underlying9 (hval 0 9 v0 rfl rfl) h0
  obtain ⟨a1, rfl, rfl, rfl, w1⟩ := Go.ChangeMaps.open_string Try.underlying9 (hval 1 9 v1 rfl rfl) h1
  obtain ⟨a2, rfl, rfl, rfl, w2⟩ := open_int Try.underlying5 (hval 2 5 v2 rfl rfl) h2
  obtain ⟨a3, rfl, rfl, rfl, w3⟩ := open_int Try.underlying5 (hval 3 5 v3 rfl rfl) h3
  clear hA0 hval0
  simp only [List.append_nil] at hW'
  refine (walk a0 a1 a2 a3 w0 w1 w2 w3 W).mono fun e W' ⟨he, hg⟩ => ?_
  subst he
  exact ⟨_, rfl, post_plain hW' (fun _ _ _ => (trodAll_cons_mk (shut_bool Try.underlying4 _) trodAll_mk0)) (fun sp => (trodAll_cons_mk (Go.ChangeMaps.shut_string Try.underlying9 w0) (trodAll_cons_mk (Go.ChangeMaps.shut_string Try.underlying9 w1) (trodAll_cons_mk (shut_int Try.underlying5 w2) (trodAll_cons_mk (shut_int Try.underlying5 w3) trodAll_mk0))))) (fun _ => rfl) hg (ok_one (by kernel_rfl) rfl (okWide_bool_mk Try.underlying4 _))⟩

theorem proved : Rows.ValueNamesSaid :=
  OpenClaim.holds_of_wide 8 Try.f8 rfl rfl rfl rfl rfl rfl rfl ⟨rfl, rfl, rfl, rfl, rfl⟩ rfl rfl rfl rfl rfl (by kernel_rfl) Try.func8 (by kernel_rfl)
    (of_decide_eq_true (by kernel_rfl)) (by unfold Func.isWrapper; first | (rw [if_pos (by decide +kernel)]; kernel_rfl) | (rw [if_neg (by decide +kernel)]; exact ⟨rfl, rfl⟩))
    (fun os started H enc _ => lifted os started H enc)
#print axioms proved
end Go.Proofs.Ytlakgcdacjieeaa.valueNames

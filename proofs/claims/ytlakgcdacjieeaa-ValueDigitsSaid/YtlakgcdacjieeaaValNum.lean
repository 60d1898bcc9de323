/-
  Contracts of antecedentref02.number, Digits, Right, Compare.
-/
import Derived.Test.YtlakgcdacjieeaaValRef
namespace Go.Proofs.Ytlakgcdacjieeaa
open Go.RowKit FloM ValM

theorem u64_mod (x : Int) : IntKind.u64.wrap x = x % 18446744073709551616 := by simp [IntKind.wrap, IntKind.bits, IntKind.signed]
theorem width_pos (s : ByteArray) (pos : Nat) (h : pos < s.size) : 1 ≤ (Utf8.decode s pos).2 := by
  by_cases ha : (s[pos]'h).toNat < 128
  · rw [decode_ascii s pos h ha]; exact Nat.le_refl _
  · exact (decode_high s pos h (by omega)).2
theorem isDig_at {b : Nat} (s : ByteArray) (k : Nat) (h : k < s.size) (ha : allDig b (ls s) = true) : isDig b s[k] = true := by
  unfold allDig at ha; rw [split_at s k h, List.all_append, List.all_cons, Bool.and_eq_true, Bool.and_eq_true] at ha; exact ha.2.1

/-! ### number -/
def SaysU (P : Int → Prop) (w : World) (e : Ending) (w' : World) : Prop := ∃ n : Int, e = .returned (.int .u64 n) ∧ P n ∧ Below w.heap.size w w'
def NumRel (w : World) (s : ByteArray) (n : Value) (wr : World) : Prop := ∃ (pos : Nat) (m : Int), wr = w.iter s pos ∧ n = .int .u64 m
set_option maxHeartbeats 2000000 in
theorem number_any (s : ByteArray) (b : Int) (w : World) : Calls Try.prog 31 #[.string s, .int .u64 b] w (SaysU (fun _ => True) w) := by
  go_enter Try.func31, Try.ntmps31
  go_wp2
  go_loopw [5, 6, 7, 8] (fun n _ _ _ wr => NumRel w s n wr) (fun _ _ _ _ wr => s.size - wr.iterPos w.heap.size)
  case atStart => exact ⟨0, 0, rfl, rfl⟩
  case round =>
    obtain ⟨pos, m, rfl, rfl⟩ := hrel
    by_cases hlt : pos < s.size
    · have hnx : ∀ ty, (Instr.next (.pointer (some ⟨w.heap.size, 0, none⟩)) true ty).run Try.prog (w.iter s pos) = _ := fun ty => run_next_any w s pos ty hlt
      have hwd := width_pos s pos hlt
      go_wp2
      all_goals
        go_roundw
        case rel => exact ⟨_, _, rfl, rfl⟩
        case measure => simp; omega
    · have hnx : ∀ ty, (Instr.next (.pointer (some ⟨w.heap.size, 0, none⟩)) true ty).run Try.prog (w.iter s pos) = _ := fun ty => run_next_end w s pos ty hlt
      go_wp2
      go_ret
      exact ⟨_, rfl, trivial, iter_below _ _ _⟩

def NumRel10 (w : World) (s : ByteArray) (n : Value) (wr : World) : Prop := ∃ (pos m : Nat), wr = w.iter s pos ∧ pos ≤ s.size ∧ n = .int .u64 m ∧ m = numOf 10 ((ls s).take pos) % 18446744073709551616
set_option maxHeartbeats 2000000 in
theorem number_10 (s : ByteArray) (w : World) (hd : allDig 10 (ls s) = true) : Calls Try.prog 31 #[.string s, .int .u64 10] w (SaysU (fun n => n = ((numOf 10 (ls s) % 18446744073709551616 : Nat) : Int)) w) := by
  have HD := Lib.hid hd; clear hd
  go_enter Try.func31, Try.ntmps31
  go_wp2
  go_loopw [5, 6, 7, 8] (fun n _ _ _ wr => NumRel10 w s n wr) (fun _ _ _ _ wr => s.size - wr.iterPos w.heap.size)
  case atStart => exact ⟨0, 0, rfl, Nat.zero_le _, rfl, rfl⟩
  case round =>
    obtain ⟨pos, m, rfl, hpos, rfl, hm⟩ := hrel
    have HM := Lib.hid hm; clear hm
    by_cases hlt : pos < s.size
    · have hc := isDig_at s pos hlt HD.out
      rw [isDig_iff] at hc
      have hnx : ∀ ty, (Instr.next (.pointer (some ⟨w.heap.size, 0, none⟩)) true ty).run Try.prog (w.iter s pos) = _ := fun ty => run_next_ascii w s pos ty hlt (by omega)
      have hst : numOf 10 ((ls s).take (pos + 1)) = numOf 10 ((ls s).take pos) * 10 + dval s[pos] := by rw [take_snoc s pos hlt, numOf_snoc]
      unfold dval at hst
      by_cases h97 : 97 ≤ (s[pos].toNat : Int)
      · have HS := Lib.hid hst; clear hst
        have hu : (s[pos].toNat : Int) ≤ 102 := by omega
        have HC := Lib.hid hc; clear hc
        go_wp2
        go_roundw
        case rel =>
          have e1 := HS.out; rw [if_pos (by omega)] at e1
          have e2 := HM.out
          refine ⟨pos + 1, numOf 10 ((ls s).take (pos + 1)) % 18446744073709551616, rfl, by omega, ?_, rfl⟩
          congr 1
          rw [e1]; simp only [u64_mod]; omega
        case measure => simp; omega
      · have HS := Lib.hid hst; clear hst
        have hl : 48 ≤ (s[pos].toNat : Int) := by omega
        have hu : (s[pos].toNat : Int) ≤ 57 := by omega
        have HC := Lib.hid hc; clear hc
        go_wp2
        go_roundw
        case rel =>
          have e1 := HS.out; rw [if_neg (by omega)] at e1
          have e2 := HM.out
          refine ⟨pos + 1, numOf 10 ((ls s).take (pos + 1)) % 18446744073709551616, rfl, by omega, ?_, rfl⟩
          congr 1
          rw [e1]; simp only [u64_mod]; omega
        case measure => simp; omega
    · have hnx : ∀ ty, (Instr.next (.pointer (some ⟨w.heap.size, 0, none⟩)) true ty).run Try.prog (w.iter s pos) = _ := fun ty => run_next_end w s pos ty hlt
      go_wp2
      go_ret
      refine ⟨_, rfl, ?_, iter_below _ _ _⟩
      rw [HM.out, take_all s pos (by omega)]

def NumRel16 (w : World) (s : ByteArray) (n : Value) (wr : World) : Prop := ∃ (pos m : Nat), wr = w.iter s pos ∧ pos ≤ s.size ∧ n = .int .u64 m ∧ m = numOf 16 ((ls s).take pos) % 18446744073709551616
set_option maxHeartbeats 2000000 in
theorem number_16 (s : ByteArray) (w : World) (hd : allDig 16 (ls s) = true) : Calls Try.prog 31 #[.string s, .int .u64 16] w (SaysU (fun n => n = ((numOf 16 (ls s) % 18446744073709551616 : Nat) : Int)) w) := by
  have HD := Lib.hid hd; clear hd
  go_enter Try.func31, Try.ntmps31
  go_wp2
  go_loopw [5, 6, 7, 8] (fun n _ _ _ wr => NumRel16 w s n wr) (fun _ _ _ _ wr => s.size - wr.iterPos w.heap.size)
  case atStart => exact ⟨0, 0, rfl, Nat.zero_le _, rfl, rfl⟩
  case round =>
    obtain ⟨pos, m, rfl, hpos, rfl, hm⟩ := hrel
    have HM := Lib.hid hm; clear hm
    by_cases hlt : pos < s.size
    · have hc := isDig_at s pos hlt HD.out
      rw [isDig_iff] at hc
      have hnx : ∀ ty, (Instr.next (.pointer (some ⟨w.heap.size, 0, none⟩)) true ty).run Try.prog (w.iter s pos) = _ := fun ty => run_next_ascii w s pos ty hlt (by omega)
      have hst : numOf 16 ((ls s).take (pos + 1)) = numOf 16 ((ls s).take pos) * 16 + dval s[pos] := by rw [take_snoc s pos hlt, numOf_snoc]
      unfold dval at hst
      by_cases h97 : 97 ≤ (s[pos].toNat : Int)
      · have HS := Lib.hid hst; clear hst
        have hu : (s[pos].toNat : Int) ≤ 102 := by omega
        have HC := Lib.hid hc; clear hc
        go_wp2
        go_roundw
        case rel =>
          have e1 := HS.out; rw [if_pos (by omega)] at e1
          have e2 := HM.out
          refine ⟨pos + 1, numOf 16 ((ls s).take (pos + 1)) % 18446744073709551616, rfl, by omega, ?_, rfl⟩
          congr 1
          rw [e1]; simp only [u64_mod]; omega
        case measure => simp; omega
      · have HS := Lib.hid hst; clear hst
        have hl : 48 ≤ (s[pos].toNat : Int) := by omega
        have hu : (s[pos].toNat : Int) ≤ 57 := by omega
        have HC := Lib.hid hc; clear hc
        go_wp2
        go_roundw
        case rel =>
          have e1 := HS.out; rw [if_neg (by omega)] at e1
          have e2 := HM.out
          refine ⟨pos + 1, numOf 16 ((ls s).take (pos + 1)) % 18446744073709551616, rfl, by omega, ?_, rfl⟩
          congr 1
          rw [e1]; simp only [u64_mod]; omega
        case measure => simp; omega
    · have hnx : ∀ ty, (Instr.next (.pointer (some ⟨w.heap.size, 0, none⟩)) true ty).run Try.prog (w.iter s pos) = _ := fun ty => run_next_end w s pos ty hlt
      go_wp2
      go_ret
      refine ⟨_, rfl, ?_, iter_below _ _ _⟩
      rw [HM.out, take_all s pos (by omega)]

/-! ### Right and Compare -/
set_option maxHeartbeats 1000000 in
theorem refRight_go (k n : Int) (s : ByteArray) (w : World) : Calls Try.prog 14 #[.agg #[.int .i64 k, .int .i64 n, .string s]] w (RightV ⟨k, n, s⟩ w) := by
  have hB := Below.refl w.heap.size w
  go_enter Try.func14, Try.ntmps14
  go_wp2_with (first | (go_at_call 22; refine (refRight_any _ _).mono ?_; rintro e w' ⟨rfl, rfl⟩) | (go_at_call 12; refine (refName_any _ _).mono ?_; rintro e w' ⟨rfl, h'⟩; replace hB := nxt hB (by repeat (first | exact Below.refl _ _ | refine Below.setCell ?_ (by simp) _ | refine Below.alloc ?_ (by simp) _)) h'; clear h'))
  all_goals
    go_ret
    refine ⟨ret_bool ?_, on hB (by repeat (first | exact Below.refl _ _ | refine Below.setCell ?_ (by simp) _ | refine Below.alloc ?_ (by simp) _))⟩
  · rw [rightV_1 _ _ _ ‹_›]; try rfl
  · rw [rightV_2 _ _ _ ‹_›]; try simp_all
  · rw [rightV_2 _ _ _ ‹_›]; try simp_all
  · rw [rightV_3 _ _ _ ‹_›]; try simp_all
  · rw [rightV_3 _ _ _ ‹_›]; try simp_all
  · rw [rightV_4 _ _ _ ‹_› ‹_› ‹_›]

theorem less_cmp : ∀ a b : List UInt8, (Op.bytesLess a b = true ↔ Lib.compareBytes a b = -1) ∧ (Op.bytesLess b a = true ↔ Lib.compareBytes a b = 1)
  | [], [] => by decide
  | [], _ :: _ => by simp [Op.bytesLess, Lib.compareBytes]
  | _ :: _, [] => by simp [Op.bytesLess, Lib.compareBytes]
  | x :: a, y :: b => by
    have ih := less_cmp a b
    unfold Op.bytesLess Lib.compareBytes
    by_cases h1 : x < y
    · have h2 : ¬ y < x := UInt8.not_lt.2 (UInt8.le_of_lt h1)
      have h3 : ¬ y = x := fun e => by rw [e] at h1; exact UInt8.lt_irrefl _ h1
      simp [h1, h2, h3]
    · by_cases h2 : y < x
      · have h3 : ¬ x = y := fun e => by rw [e] at h2; exact UInt8.lt_irrefl _ h2
        simp [h1, h2, h3]
      · have e : x = y := UInt8.le_antisymm (UInt8.not_lt.1 h2) (UInt8.not_lt.1 h1)
        subst e
        simp [h1, ih.1, ih.2]
theorem cmp_range : ∀ a b : List UInt8, Lib.compareBytes a b = -1 ∨ Lib.compareBytes a b = 0 ∨ Lib.compareBytes a b = 1
  | [], [] => by simp [Lib.compareBytes]
  | [], _ :: _ => by simp [Lib.compareBytes]
  | _ :: _, [] => by simp [Lib.compareBytes]
  | x :: a, y :: b => by
    have := cmp_range a b
    unfold Lib.compareBytes; split
    · exact .inl rfl
    · split
      · exact .inr (.inr rfl)
      · exact this
theorem cmp_zero : ∀ a b : List UInt8, Lib.compareBytes a b = 0 ↔ a = b
  | [], [] => by simp [Lib.compareBytes]
  | [], _ :: _ => by simp [Lib.compareBytes]
  | _ :: _, [] => by simp [Lib.compareBytes]
  | x :: a, y :: b => by
    have ih := cmp_zero a b
    unfold Lib.compareBytes
    by_cases h1 : x < y
    · have h3 : ¬ x = y := fun e => by rw [e] at h1; exact UInt8.lt_irrefl _ h1
      simp [h1, h3]
    · by_cases h2 : y < x
      · have h3 : ¬ x = y := fun e => by rw [e] at h2; exact UInt8.lt_irrefl _ h2
        simp [h1, h2, h3]
      · have e : x = y := UInt8.le_antisymm (UInt8.not_lt.1 h2) (UInt8.not_lt.1 h1)
        subst e
        simp [h1, ih]
theorem cmpV_k {k n l m r : Int} {s t : ByteArray} (h : (k != l) = true) (hr : (k < l ∧ r = -1) ∨ (l ≤ k ∧ r = 1)) : cmpV ⟨k, n, s⟩ ⟨l, m, t⟩ = r := by
  have h : k ≠ l := by simpa using h
  unfold cmpV cmpI; simp only; rw [if_pos h]
  rcases hr with ⟨h1, rfl⟩ | ⟨h1, rfl⟩
  · rw [if_pos h1]
  · rw [if_neg (by omega), if_pos (by omega)]
theorem cmpV_n {k n l m r : Int} {s t : ByteArray} (h : (k != l) = false) (h' : (n != m) = true) (hr : (n < m ∧ r = -1) ∨ (m ≤ n ∧ r = 1)) : cmpV ⟨k, n, s⟩ ⟨l, m, t⟩ = r := by
  have h : k = l := by simpa using h
  have h' : n ≠ m := by simpa using h'
  unfold cmpV cmpI; simp only; rw [if_neg (by simpa using h), if_pos h']
  rcases hr with ⟨h1, rfl⟩ | ⟨h1, rfl⟩
  · rw [if_pos h1]
  · rw [if_neg (by omega), if_pos (by omega)]
theorem cmpV_s {k n l m r : Int} {s t : ByteArray} (h : (k != l) = false) (h' : (n != m) = false) (hr : (Op.bytesLess s.toList t.toList = true ∧ r = -1) ∨ (Op.bytesLess s.toList t.toList = false ∧ (!s.toList == t.toList) = true ∧ r = 1) ∨ ((!s.toList == t.toList) = false ∧ r = 0)) : cmpV ⟨k, n, s⟩ ⟨l, m, t⟩ = r := by
  have h : k = l := by simpa using h
  have h' : n = m := by simpa using h'
  unfold cmpV; simp only; rw [if_neg (by simpa using h), if_neg (by simpa using h')]
  rw [toList_ls, toList_ls] at hr
  have hl := less_cmp (ls s) (ls t)
  have hz := cmp_zero (ls s) (ls t)
  rcases hr with ⟨h1, rfl⟩ | ⟨h1, h2, rfl⟩ | ⟨h1, rfl⟩
  · exact hl.1.1 h1
  · rcases cmp_range (ls s) (ls t) with c | c | c
    · rw [hl.1.2 c] at h1; cases h1
    · rw [hz.1 c] at h2; simp at h2
    · exact c
  · exact hz.2 (by simpa using h1)
set_option maxHeartbeats 1000000 in
theorem refCompare_go (k n l m : Int) (s t : ByteArray) (w : World) : Calls Try.prog 16 #[.agg #[.int .i64 k, .int .i64 n, .string s], .agg #[.int .i64 l, .int .i64 m, .string t]] w (CmpV ⟨k, n, s⟩ ⟨l, m, t⟩ w) := by
  go_enter Try.func16, Try.ntmps16
  go_wp2
  all_goals
    go_ret
    refine ⟨ret_int ?_, ((Below.refl _ _).alloc (Nat.le_refl _) _).alloc (by simp) _⟩
    first
    | exact (cmpV_k ‹(k != l) = true› (.inl ⟨by assumption, rfl⟩)).symm
    | exact (cmpV_k ‹(k != l) = true› (.inr ⟨by assumption, rfl⟩)).symm
    | exact (cmpV_n ‹(k != l) = false› ‹(n != m) = true› (.inl ⟨by assumption, rfl⟩)).symm
    | exact (cmpV_n ‹(k != l) = false› ‹(n != m) = true› (.inr ⟨by assumption, rfl⟩)).symm
    | exact (cmpV_s ‹(k != l) = false› ‹(n != m) = false› (.inl ⟨by assumption, rfl⟩)).symm
    | exact (cmpV_s ‹(k != l) = false› ‹(n != m) = false› (.inr (.inl ⟨by assumption, by assumption, rfl⟩))).symm
    | exact (cmpV_s ‹(k != l) = false› ‹(n != m) = false› (.inr (.inr ⟨by assumption, rfl⟩))).symm
end Go.Proofs.Ytlakgcdacjieeaa

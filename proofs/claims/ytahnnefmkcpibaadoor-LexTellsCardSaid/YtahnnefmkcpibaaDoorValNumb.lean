/-
  Contracts of antecedentref02.number.
-/
import Derived.Test.YtahnnefmkcpibaaDoorValNum
namespace Go.Proofs.YtahnnefmkcpibaaDoor
open Go.RowKit FloM ValM

theorem u64_mod (x : Int) : IntKind.u64.wrap x = x % 18446744073709551616 := by simp [IntKind.wrap, IntKind.bits, IntKind.signed]
theorem width_pos (s : ByteArray) (pos : Nat) (h : pos < s.size) : 1 ≤ (Utf8.decode s pos).2 := by
  by_cases ha : (s[pos]'h).toNat < 128
  · rw [decode_ascii s pos h ha]; exact Nat.le_refl _
  · exact (decode_high s pos h (by omega)).2
theorem isDig_at {b : Nat} (s : ByteArray) (k : Nat) (h : k < s.size) (ha : allDig b (ls s) = true) : isDig b s[k] = true := by
  unfold allDig at ha; rw [split_at s k h, List.all_append, List.all_cons, Bool.and_eq_true, Bool.and_eq_true] at ha; exact ha.2.1

/-! ### number -/
def SaysU (P : Int → Prop) (w : World) (e : Ending) (w' : World) : Prop := ∃ n : Int, e = .returned (.int .u64 n) ∧ P n ∧ Below w.heap.size w w'
def NumRel (w : World) (s : ByteArray) (n : Value) (wr : World) : Prop := ∃ (pos : Nat) (m : Int), wr = w.iter s pos ∧ n = .int .u64 m
set_option maxHeartbeats 2000000 in
theorem number_any (s : ByteArray) (b : Int) (w : World) : Calls Tryd.prog 42 #[.string s, .int .u64 b] w (SaysU (fun _ => True) w) := by
  go_enter Tryd.func42, Tryd.ntmps42
  go_wp2
  go_loopw [5, 6, 7, 8] (fun n _ _ _ wr => NumRel w s n wr) (fun _ _ _ _ wr => s.size - wr.iterPos w.heap.size)
  case atStart => exact ⟨0, 0, rfl, rfl⟩
  case round =>
    obtain ⟨pos, m, rfl, rfl⟩ := hrel
    by_cases hlt : pos < s.size
    · have hnx : ∀ ty, (Instr.next (.pointer (some ⟨w.heap.size, 0, none⟩)) true ty).run Tryd.prog (w.iter s pos) = _ := fun ty => run_next_any w s pos ty hlt
      have hwd := width_pos s pos hlt
      go_wp2
      all_goals
        go_roundw
        case rel => exact ⟨_, _, rfl, rfl⟩
        case measure => simp; omega
    · have hnx : ∀ ty, (Instr.next (.pointer (some ⟨w.heap.size, 0, none⟩)) true ty).run Tryd.prog (w.iter s pos) = _ := fun ty => run_next_end w s pos ty hlt
      go_wp2
      go_ret
      exact ⟨_, rfl, trivial, iter_below _ _ _⟩

def NumRel10 (w : World) (s : ByteArray) (n : Value) (wr : World) : Prop := ∃ (pos m : Nat), wr = w.iter s pos ∧ pos ≤ s.size ∧ n = .int .u64 m ∧ m = numOf 10 ((ls s).take pos) % 18446744073709551616
set_option maxHeartbeats 2000000 in
theorem number_10 (s : ByteArray) (w : World) (hd : allDig 10 (ls s) = true) : Calls Tryd.prog 42 #[.string s, .int .u64 10] w (SaysU (fun n => n = ((numOf 10 (ls s) % 18446744073709551616 : Nat) : Int)) w) := by
  have HD := Lib.hid hd; clear hd
  go_enter Tryd.func42, Tryd.ntmps42
  go_wp2
  go_loopw [5, 6, 7, 8] (fun n _ _ _ wr => NumRel10 w s n wr) (fun _ _ _ _ wr => s.size - wr.iterPos w.heap.size)
  case atStart => exact ⟨0, 0, rfl, Nat.zero_le _, rfl, rfl⟩
  case round =>
    obtain ⟨pos, m, rfl, hpos, rfl, hm⟩ := hrel
    have HM := Lib.hid hm; clear hm
    by_cases hlt : pos < s.size
    · have hc := isDig_at s pos hlt HD.out
      rw [isDig_iff] at hc
      have hnx : ∀ ty, (Instr.next (.pointer (some ⟨w.heap.size, 0, none⟩)) true ty).run Tryd.prog (w.iter s pos) = _ := fun ty => run_next_ascii w s pos ty hlt (by omega)
      have hst : numOf 10 ((ls s).take (pos + 1)) = numOf 10 ((ls s).take pos) * 10 + dval s[pos] := by rw [take_snoc s pos hlt, numOf_snoc]
      unfold dval at hst
      by_cases h97 : 97 ≤ (s[pos].toNat : Int)
      · have HS := Lib.hid hst; clear hst
        have hu : (s[pos].toNat : Int) ≤ 102 := by omega
        have HC := Lib.hid hc; clear hc
        go_wp2
        go_roundw
        case rel =>
          have e1 := HS.out; rw [if_pos (by omega)] at e1
          have e2 := HM.out
          refine ⟨pos + 1, numOf 10 ((ls s).take (pos + 1)) % 18446744073709551616, rfl, by omega, ?_, rfl⟩
          congr 1
          rw [e1]; simp only [u64_mod]; omega
        case measure => simp; omega
      · have HS := Lib.hid hst; clear hst
        have hl : 48 ≤ (s[pos].toNat : Int) := by omega
        have hu : (s[pos].toNat : Int) ≤ 57 := by omega
        have HC := Lib.hid hc; clear hc
        go_wp2
        go_roundw
        case rel =>
          have e1 := HS.out; rw [if_neg (by omega)] at e1
          have e2 := HM.out
          refine ⟨pos + 1, numOf 10 ((ls s).take (pos + 1)) % 18446744073709551616, rfl, by omega, ?_, rfl⟩
          congr 1
          rw [e1]; simp only [u64_mod]; omega
        case measure => simp; omega
    · have hnx : ∀ ty, (Instr.next (.pointer (some ⟨w.heap.size, 0, none⟩)) true ty).run Tryd.prog (w.iter s pos) = _ := fun ty => run_next_end w s pos ty hlt
      go_wp2
      go_ret
      refine ⟨_, rfl, ?_, iter_below _ _ _⟩
      rw [HM.out, take_all s pos (by omega)]

def NumRel16 (w : World) (s : ByteArray) (n : Value) (wr : World) : Prop := ∃ (pos m : Nat), wr = w.iter s pos ∧ pos ≤ s.size ∧ n = .int .u64 m ∧ m = numOf 16 ((ls s).take pos) % 18446744073709551616
set_option maxHeartbeats 2000000 in
theorem number_16 (s : ByteArray) (w : World) (hd : allDig 16 (ls s) = true) : Calls Tryd.prog 42 #[.string s, .int .u64 16] w (SaysU (fun n => n = ((numOf 16 (ls s) % 18446744073709551616 : Nat) : Int)) w) := by
  have HD := Lib.hid hd; clear hd
  go_enter Tryd.func42, Tryd.ntmps42
  go_wp2
  go_loopw [5, 6, 7, 8] (fun n _ _ _ wr => NumRel16 w s n wr) (fun _ _ _ _ wr => s.size - wr.iterPos w.heap.size)
  case atStart => exact ⟨0, 0, rfl, Nat.zero_le _, rfl, rfl⟩
  case round =>
    obtain ⟨pos, m, rfl, hpos, rfl, hm⟩ := hrel
    have HM := Lib.hid hm; clear hm
    by_cases hlt : pos < s.size
    · have hc := isDig_at s pos hlt HD.out
      rw [isDig_iff] at hc
      have hnx : ∀ ty, (Instr.next (.pointer (some ⟨w.heap.size, 0, none⟩)) true ty).run Tryd.prog (w.iter s pos) = _ := fun ty => run_next_ascii w s pos ty hlt (by omega)
      have hst : numOf 16 ((ls s).take (pos + 1)) = numOf 16 ((ls s).take pos) * 16 + dval s[pos] := by rw [take_snoc s pos hlt, numOf_snoc]
      unfold dval at hst
      by_cases h97 : 97 ≤ (s[pos].toNat : Int)
      · have HS := Lib.hid hst; clear hst
        have hu : (s[pos].toNat : Int) ≤ 102 := by omega
        have HC := Lib.hid hc; clear hc
        go_wp2
        go_roundw
        case rel =>
          have e1 := HS.out; rw [if_pos (by omega)] at e1
          have e2 := HM.out
          refine ⟨pos + 1, numOf 16 ((ls s).take (pos + 1)) % 18446744073709551616, rfl, by omega, ?_, rfl⟩
          congr 1
          rw [e1]; simp only [u64_mod]; omega
        case measure => simp; omega
      · have HS := Lib.hid hst; clear hst
        have hl : 48 ≤ (s[pos].toNat : Int) := by omega
        have hu : (s[pos].toNat : Int) ≤ 57 := by omega
        have HC := Lib.hid hc; clear hc
        go_wp2
        go_roundw
        case rel =>
          have e1 := HS.out; rw [if_neg (by omega)] at e1
          have e2 := HM.out
          refine ⟨pos + 1, numOf 16 ((ls s).take (pos + 1)) % 18446744073709551616, rfl, by omega, ?_, rfl⟩
          congr 1
          rw [e1]; simp only [u64_mod]; omega
        case measure => simp; omega
    · have hnx : ∀ ty, (Instr.next (.pointer (some ⟨w.heap.size, 0, none⟩)) true ty).run Tryd.prog (w.iter s pos) = _ := fun ty => run_next_end w s pos ty hlt
      go_wp2
      go_ret
      refine ⟨_, rfl, ?_, iter_below _ _ _⟩
      rw [HM.out, take_all s pos (by omega)]

end Go.Proofs.YtahnnefmkcpibaaDoor

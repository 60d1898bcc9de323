/-
  The contract of TupleAhead's own function: 0, 1, 2 ..
-/
import Derived.Test.YtkdiaagfjhlphaaTupOwn
namespace Go.Proofs.Ytkdiaagfjhlphaa
open Go.RowKit FloM ValM
set_option linter.unusedVariables false
/-! ### 0, 1, 2 .. -/
def PlainRel (w : World) (n : Nat) (out i : Value) (wr : World) : Prop := ∃ k : Nat, i = .int .i64 (k : Nat) ∧ k ≤ n ∧ Below w.heap.size w wr ∧ ∃ A c, out = .slice A k c ∧ wr.ownsRow w.heap.size 3 1 (.slice A k c) k (icells (upto k))
theorem upto_succ (k : Nat) : upto (k + 1) = upto k ++ [(k : Int)] := by simp [upto, List.range_succ]
set_option maxHeartbeats 2000000 in
theorem plain_any (n : Nat) (w : World) (hn : n ≤ 1000) : Calls Try.prog 24 #[.int .i64 (n : Int)] w (SaysL (upto n) w) := by
  obtain ⟨i0, hi0, hz0, hz1, hz2⟩ := info_parts info_int
  have HI0 := Lib.hid hi0; have HZ0 := Lib.hid hz0; have HZ1 := Lib.hid hz1; have HZ2 := Lib.hid hz2
  clear hi0 hz0 hz1 hz2
  go_enter Try.func24, Try.ntmps24
  go_wp2
  go_loopw [3, 6] (fun out i wr => PlainRel w n out i wr) (fun _ i _ => n - (intOf i).toNat)
  case atStart => exact ⟨0, rfl, Nat.zero_le _, Below.refl _ _, none, 0, rfl, own_nil w _ _ _⟩
  case round =>
    obtain ⟨k, rfl, hk, hB, A1, c1, rfl, hown⟩ := hrel
    have HO := Lib.hid hown; clear hown
    by_cases hlt : k < n
    · go_wp2_with (first | (at_builtin
                            refine wpList_append_own _ rfl (.tmp 9) (.tmp 11) _ rfl w.heap.size 3 i0 (.int .i64 0) 1 8 Try.underlying23 HI0.out HZ0.out HZ1.out HZ2.out rfl (by omega) (.slice A1 k c1) k (icells (upto k)) rfl (own_on HO.out ((Below.refl _ _).alloc (Nat.le_refl _) _)) ⟨wr.heap.size, 0, none⟩ 1 1 [.int .i64 (k : Int)] rfl (by simp) (news_one wr #[.int .i64 (k : Int)] _) (by simp [Value.oneCell']) (by unfold maxLen; omega) (by omega) (by have := hB.size; simp; omega) ?_
                            intro v' w' ho' hg' _
                            obtain ⟨A2, c2, rfl⟩ := own_form ho'))
      go_roundw
      case rel =>
        have hb3 : Below w.heap.size w (wr.alloc (.cells #[.int .i64 (k : Int)] 3)) := on hB ((Below.refl _ _).alloc (Nat.le_refl _) _)
        refine ⟨k + 1, by go_num, by omega, hb3.grown hg' hb3.size (own_base HO.out), A2, c2, rfl, ?_⟩
        rw [upto_succ]
        simpa [icells] using ho'
      case measure => simp [intOf]; omega
    · have hke : k = n := by omega
      subst hke
      go_wp2
      go_ret
      exact ⟨A1, c1, by rw [upto_len]; rfl, own_rdI HO.out, hB⟩
end Go.Proofs.Ytkdiaagfjhlphaa

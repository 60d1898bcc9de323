/-
  Contracts of value.Name, of the comparisons of numbers and strings that package value calls, and of strings.CutPrefix.
-/
import Derived.Test.YtncafadjcelloaaDoorChecked
import Derived.Test.YtncafadjcelloaaDoorValMath
import Derived.Test.YtncafadjcelloaaDoorFloRight
import Derived.WalkKit
import Derived.WalkLawsBesides
import Derived.Laws.Externs
import Derived.Lib.Hide
import Derived.Lib.Bytealg
import Derived.RowKit3
import Derived.BigQuiet
import Derived.LoopTactic
import Derived.Deep.LoopGhost
namespace Go.Proofs.YtncafadjcelloaaDoor
open Go.RowKit FloM ValM

theorem toList_ls (s : ByteArray) : s.toList = ls s := ByteArray.toList_eq s
theorem str_eq (s t : ByteArray) : (s.toList == t.toList) = decide (s = t) := by
  rw [toList_ls, toList_ls, Bool.eq_iff_iff]; simp only [beq_iff_eq, decide_eq_true_eq]
  exact ⟨ls_inj, fun h => by rw [h]⟩

theorem size_pos {s : ByteArray} (h : ¬ s = ByteArray.empty) : 0 < s.size := by
  rcases Nat.eq_zero_or_pos s.size with h0 | h0
  · exact absurd (ls_inj (t := ByteArray.empty) (List.eq_nil_of_length_eq_zero h0)) h
  · exact h0

/-! ### value.Name -/
set_option maxRecDepth 20000 in
set_option maxHeartbeats 1000000 in
theorem name_any (s : ByteArray) (w : World) (hs : s.size ≤ maxLen) :
    Calls Tryd.prog 96 #[.string s] w fun e w' => e = .returned (.bool (name s)) ∧ w = w' := by
  unfold maxLen at hs
  by_cases h0 : s = ByteArray.empty
  · subst h0
    rw [show name ByteArray.empty = false from rfl]
    go_enter Tryd.func96, Tryd.ntmps96
    go_wp2
    go_step3
    go_wp2
    rw [Exit.noGoto_ret]
    go_ret
    exact ⟨rfl, rfl⟩
  · have hp : 0 < s.size := size_pos h0
    have hz : ((s.size : Int) == 0) = false := by simp; omega
    by_cases h40 : 40 < (s.size : Int)
    · have e : name s = false := by
        unfold name nameL; rw [ls_len, decide_eq_false (by omega)]; rfl
      rw [e]; clear e
      go_enter Tryd.func96, Tryd.ntmps96
      go_wp2
      go_step3
      go_wp2
      rw [Exit.noGoto_ret]
      go_ret
      exact ⟨rfl, rfl⟩
    · have hn : name s = allAt 0 (ls s) := by
        unfold name nameL; rw [ls_len, decide_eq_true (by omega)]; rfl
      have HN := Lib.hid hn; clear hn
      go_enter Tryd.func96, Tryd.ntmps96
      go_wp2
      go_step3
      go_wp2
      go_step3
      go_wp2
      go_loop [3, 4] (fun i _ => ∃ k : Nat, k ≤ s.size ∧ i = .int .i64 k ∧ allAt 0 ((ls s).take k) = true) (fun i _ => s.size - (intOf i).toNat)
      case atStart => exact ⟨0, Nat.zero_le _, rfl, rfl⟩
      case round =>
        obtain ⟨k, hk, rfl, ha⟩ := hrel
        have HA := Lib.hid ha; clear ha
        by_cases hlt : k < s.size
        · by_cases hc : okAt k s[k] = true
          · have HC := Lib.hid hc
            rw [okAt_iff] at hc
            go_wp2
            all_goals
              go_round
              case rel => exact ⟨k + 1, by omega, by go_num, allAt_step s k hlt HA.out HC.out⟩
              case measure => simp [intOf]; omega
          · have HC := Lib.hid (show okAt k s[k] = false by simpa using hc)
            rw [okAt_iff] at hc
            have hne : ((k : Int) == (s.size : Int)) = false := by rw [beq_eq_false_iff_ne]; omega
            go_wp2
            all_goals first
              | (exfalso; have h := ‹(_ == _) = true ∨ _›; simp only [beq_iff_eq] at h; omega)
              | (go_ret; exact ⟨ret_bool (by rw [HN.out, allAt_bad s k hlt HC.out]; try exact hne), rfl⟩)
        · obtain rfl : k = s.size := by omega
          have hne : (((s.size : Nat) : Int) == (s.size : Int)) = true := by simp
          go_wp2
          go_ret
          exact ⟨ret_bool (by rw [HN.out, ← take_all s s.size (Nat.le_refl _), HA.out]; try exact hne), rfl⟩

/-! ### Comparisons -/
def cmpI (a b : Int) : Int := if a < b then -1 else if b < a then 1 else 0
end Go.Proofs.YtncafadjcelloaaDoor

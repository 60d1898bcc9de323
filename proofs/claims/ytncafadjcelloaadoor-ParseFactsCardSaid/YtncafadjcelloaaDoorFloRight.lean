/-
  Contracts of flo.Right and of the document's own Right of layer 1, for seats whose programs call no more of flo than that.
-/
import Derived.Test.YtncafadjcelloaaDoorChecked
import Derived.Test.YtncafadjcelloaaDoorFloMath
import Derived.WalkKit
import Derived.WalkLawsBesides
import Derived.Lib.Hide
import Derived.RowKit3
import Derived.BigQuiet
namespace Go.Proofs.YtncafadjcelloaaDoor
open Go.RowKit FloM

theorem ret_int {k : IntKind} {a b : Int} (h : a = b) : Ending.returned (.int k a) = .returned (.int k b) := by rw [h]
theorem ret_flo {k : FloatKind} {a b : Nat} (h : a = b) : Ending.returned (.float k a) = .returned (.float k b) := by rw [h]
theorem ret_bool {a b : Bool} (h : a = b) : Ending.returned (.bool a) = .returned (.bool b) := by rw [h]

set_option maxHeartbeats 400000 in
theorem right_any (n : Int) (w : World) : Calls Tryd.prog 125 #[.int .i64 n] w fun e w' => e = .returned (.bool (right n)) ∧ w = w' := by
  by_cases h1 : -9218868437227405313 ≤ n
  · by_cases h2 : n ≤ 9218868437227405312
    · have e : right n = true := by rw [right_iff]; exact .inl ⟨h1, h2⟩
      rw [e]; clear e
      go_enter Tryd.func125, Tryd.ntmps125
      go_wp2
      all_goals (go_ret; exact ⟨rfl, rfl⟩)
    · have e : right n = (n == 9221120237041090561) := by unfold right NaNc; simp [h2]
      rw [e]; clear e
      go_enter Tryd.func125, Tryd.ntmps125
      go_wp2
      all_goals (go_ret; exact ⟨rfl, rfl⟩)
  · have e : right n = (n == 9221120237041090561) := by unfold right NaNc; simp [h1]
    rw [e]; clear e
    go_enter Tryd.func125, Tryd.ntmps125
    go_wp2
    all_goals (go_ret; exact ⟨rfl, rfl⟩)

set_option maxHeartbeats 400000 in
theorem refRight_any (n : Int) (w : World) : Calls Tryd.prog 126 #[.int .i64 n] w fun e w' => e = .returned (.bool (right n)) ∧ w = w' := by
  by_cases h0 : n = 9221120237041090561
  · have e : right n = true := by rw [h0]; decide
    have h0' : (n == 9221120237041090561) = true := by rw [h0]; rfl
    rw [e]; clear e h0
    go_enter Tryd.func126, Tryd.ntmps126
    go_wp2
    all_goals (go_ret; exact ⟨rfl, rfl⟩)
  · have h0' : (n == 9221120237041090561) = false := beq_eq_false_iff_ne.2 h0
    by_cases h2 : n ≤ 9218868437227405312
    · have e : right n = decide (-9218868437227405313 ≤ n) := by unfold right NaNc; rw [h0']; simp [h2]
      rw [e]; clear e h0
      go_enter Tryd.func126, Tryd.ntmps126
      go_wp2
      all_goals (go_ret; exact ⟨rfl, rfl⟩)
    · have e : right n = false := by unfold right NaNc; rw [h0']; simp [h2]
      rw [e]; clear e h0
      go_enter Tryd.func126, Tryd.ntmps126
      go_wp2
      all_goals (go_ret; exact ⟨rfl, rfl⟩)

end Go.Proofs.YtncafadjcelloaaDoor

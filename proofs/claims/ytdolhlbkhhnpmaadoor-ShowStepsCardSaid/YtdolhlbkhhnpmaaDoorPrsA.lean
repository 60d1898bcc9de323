/-
  Package parse: the reader, and what it asks of a token.
-/
import Derived.Test.YtdolhlbkhhnpmaaDoorLexKey
import Derived.Test.YtdolhlbkhhnpmaaDoorLexAwake
import Derived.Test.YtdolhlbkhhnpmaaDoorPrsM
namespace Go.Proofs.YtdolhlbkhhnpmaaDoor
open Go.RowKit FloM ValM Go.Shelf
set_option linter.unusedVariables false
set_option linter.unusedSimpArgs false
def faultP (a k : Nat) : Value := .iface 88 (.agg #[.int .i64 (a : Int), .int .i64 (k : Int)])
def endT (z : Nat) : Tk := ⟨0, [], z⟩
/-- The world with a token's box. -/
def boxT (w : World) (t : Tk) : World := w.alloc (.cells #[.int .i64 (t.k : Int), .string (bs t.t), .int .i64 (t.a : Int)] 71)
theorem boxT_b (w : World) (t : Tk) : Below w.heap.size w (boxT w t) := (Below.refl _ _).alloc (Nat.le_refl _) _
theorem num0 (k : Nat) : ((k : Int) == 0) = (k == 0) := by rw [Bool.eq_iff_iff]; simp
theorem num2 (k : Nat) : ((k : Int) == 2) = (k == 2) := by rw [Bool.eq_iff_iff]; simp; omega
theorem num3 (k : Nat) : ((k : Int) == 3) = (k == 3) := by rw [Bool.eq_iff_iff]; simp; omega
theorem bsl (l : List UInt8) : (bs l).toList = l := by rw [toList_ls]; exact ls_bs l
set_option maxRecDepth 20000 in
set_option maxHeartbeats 2000000 in
theorem isEnd_any (t : Tk) (w : World) : Calls Tryd.prog 38 #[t.val] w fun e w' => e = .returned (.bool (t.k == 0)) ∧ Below w.heap.size w w' := by
  unfold Tk.val
  obtain ⟨b, hb⟩ : ∃ b, (t.k == 0) = b := ⟨_, rfl⟩
  have hk : ((t.k : Int) == 0) = b := by rw [← hb]; exact num0 t.k
  rw [hb]
  clear hb
  go_enter Tryd.func38, Tryd.ntmps38
  go_wp2
  go_ret
  exact ⟨rfl, (Below.refl _ _).alloc (Nat.le_refl _) _⟩
set_option maxRecDepth 20000 in
set_option maxHeartbeats 2000000 in
theorem isPred_any (t : Tk) (w : World) : Calls Tryd.prog 95 #[t.val] w fun e w' => e = .returned (.bool (predT t)) ∧ Below w.heap.size w w' := by
  obtain ⟨k, l, a⟩ := t
  unfold Tk.val predT
  simp only
  obtain ⟨q, hq⟩ : ∃ q, keyL l = q := ⟨_, rfl⟩
  have HK : Hid (∀ W, Calls Tryd.prog 55 #[.string (bs l)] W fun e w' => e = .returned (.bool q) ∧ W = w') := Lib.hid fun W => by
    have := key_any (bs l) W
    rwa [ls_bs, hq] at this
  rw [hq]
  clear hq
  by_cases h1 : k = 1
  · subst h1
    cases q
    all_goals
      go_enter Tryd.func95, Tryd.ntmps95
      go_wp2_with (go_at_call 55; refine (HK.out _).mono ?_; rintro e w1 ⟨rfl, rfl⟩)
      go_ret
      exact ⟨rfl, (Below.refl _ _).alloc (Nat.le_refl _) _⟩
  · have e1 : ((k : Int) == 1) = false := by rw [beq_eq_false_iff_ne]; omega
    rw [show (k == 1 && !q) = false by rw [beq_eq_false_iff_ne.2 h1]; rfl]
    clear h1
    go_enter Tryd.func95, Tryd.ntmps95
    go_wp2
    go_ret
    exact ⟨rfl, (Below.refl _ _).alloc (Nat.le_refl _) _⟩
end Go.Proofs.YtdolhlbkhhnpmaaDoor

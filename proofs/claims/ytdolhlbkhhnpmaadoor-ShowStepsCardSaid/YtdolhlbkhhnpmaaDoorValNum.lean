/-
  Contracts of antecedentref02.Right, Compare.
-/
import Derived.Test.YtdolhlbkhhnpmaaDoorValRef
namespace Go.Proofs.YtdolhlbkhhnpmaaDoor
open Go.RowKit FloM ValM

/-! ### Right and Compare -/
set_option maxRecDepth 20000 in
set_option maxHeartbeats 1000000 in
theorem refRight_go (k n : Int) (s : ByteArray) (w : World) : Calls Tryd.prog 105 #[.agg #[.int .i64 k, .int .i64 n, .string s]] w (RightV ⟨k, n, s⟩ w) := by
  have hB := Below.refl w.heap.size w
  go_enter Tryd.func105, Tryd.ntmps105
  go_wp2_with (first | (go_at_call 112; refine (refRight_any _ _).mono ?_; rintro e w' ⟨rfl, rfl⟩) | (go_at_call 56; refine (refName_any _ _).mono ?_; rintro e w' ⟨rfl, h'⟩; replace hB := nxt hB (by repeat (first | exact Below.refl _ _ | refine Below.setCell ?_ (by simp) _ | refine Below.alloc ?_ (by simp) _)) h'; clear h'))
  all_goals
    go_ret
    refine ⟨ret_bool ?_, on hB (by repeat (first | exact Below.refl _ _ | refine Below.setCell ?_ (by simp) _ | refine Below.alloc ?_ (by simp) _))⟩
  · rw [rightV_1 _ _ _ ‹_›]; try rfl
  · rw [rightV_2 _ _ _ ‹_›]; try simp_all
  · rw [rightV_2 _ _ _ ‹_›]; try simp_all
  · rw [rightV_3 _ _ _ ‹_›]; try simp_all
  · rw [rightV_3 _ _ _ ‹_›]; try simp_all
  · rw [rightV_4 _ _ _ ‹_› ‹_› ‹_›]

theorem less_cmp : ∀ a b : List UInt8, (Op.bytesLess a b = true ↔ Lib.compareBytes a b = -1) ∧ (Op.bytesLess b a = true ↔ Lib.compareBytes a b = 1)
  | [], [] => by decide
  | [], _ :: _ => by simp [Op.bytesLess, Lib.compareBytes]
  | _ :: _, [] => by simp [Op.bytesLess, Lib.compareBytes]
  | x :: a, y :: b => by
    have ih := less_cmp a b
    unfold Op.bytesLess Lib.compareBytes
    by_cases h1 : x < y
    · have h2 : ¬ y < x := UInt8.not_lt.2 (UInt8.le_of_lt h1)
      have h3 : ¬ y = x := fun e => by rw [e] at h1; exact UInt8.lt_irrefl _ h1
      simp [h1, h2, h3]
    · by_cases h2 : y < x
      · have h3 : ¬ x = y := fun e => by rw [e] at h2; exact UInt8.lt_irrefl _ h2
        simp [h1, h2, h3]
      · have e : x = y := UInt8.le_antisymm (UInt8.not_lt.1 h2) (UInt8.not_lt.1 h1)
        subst e
        simp [h1, ih.1, ih.2]
theorem cmp_range : ∀ a b : List UInt8, Lib.compareBytes a b = -1 ∨ Lib.compareBytes a b = 0 ∨ Lib.compareBytes a b = 1
  | [], [] => by simp [Lib.compareBytes]
  | [], _ :: _ => by simp [Lib.compareBytes]
  | _ :: _, [] => by simp [Lib.compareBytes]
  | x :: a, y :: b => by
    have := cmp_range a b
    unfold Lib.compareBytes; split
    · exact .inl rfl
    · split
      · exact .inr (.inr rfl)
      · exact this
theorem cmp_zero : ∀ a b : List UInt8, Lib.compareBytes a b = 0 ↔ a = b
  | [], [] => by simp [Lib.compareBytes]
  | [], _ :: _ => by simp [Lib.compareBytes]
  | _ :: _, [] => by simp [Lib.compareBytes]
  | x :: a, y :: b => by
    have ih := cmp_zero a b
    unfold Lib.compareBytes
    by_cases h1 : x < y
    · have h3 : ¬ x = y := fun e => by rw [e] at h1; exact UInt8.lt_irrefl _ h1
      simp [h1, h3]
    · by_cases h2 : y < x
      · have h3 : ¬ x = y := fun e => by rw [e] at h2; exact UInt8.lt_irrefl _ h2
        simp [h1, h2, h3]
      · have e : x = y := UInt8.le_antisymm (UInt8.not_lt.1 h2) (UInt8.not_lt.1 h1)
        subst e
        simp [h1, ih]
theorem cmpV_k {k n l m r : Int} {s t : ByteArray} (h : (k != l) = true) (hr : (k < l ∧ r = -1) ∨ (l ≤ k ∧ r = 1)) : cmpV ⟨k, n, s⟩ ⟨l, m, t⟩ = r := by
  have h : k ≠ l := by simpa using h
  unfold cmpV cmpI; simp only; rw [if_pos h]
  rcases hr with ⟨h1, rfl⟩ | ⟨h1, rfl⟩
  · rw [if_pos h1]
  · rw [if_neg (by omega), if_pos (by omega)]
theorem cmpV_n {k n l m r : Int} {s t : ByteArray} (h : (k != l) = false) (h' : (n != m) = true) (hr : (n < m ∧ r = -1) ∨ (m ≤ n ∧ r = 1)) : cmpV ⟨k, n, s⟩ ⟨l, m, t⟩ = r := by
  have h : k = l := by simpa using h
  have h' : n ≠ m := by simpa using h'
  unfold cmpV cmpI; simp only; rw [if_neg (by simpa using h), if_pos h']
  rcases hr with ⟨h1, rfl⟩ | ⟨h1, rfl⟩
  · rw [if_pos h1]
  · rw [if_neg (by omega), if_pos (by omega)]
theorem cmpV_s {k n l m r : Int} {s t : ByteArray} (h : (k != l) = false) (h' : (n != m) = false) (hr : (Op.bytesLess s.toList t.toList = true ∧ r = -1) ∨ (Op.bytesLess s.toList t.toList = false ∧ (!s.toList == t.toList) = true ∧ r = 1) ∨ ((!s.toList == t.toList) = false ∧ r = 0)) : cmpV ⟨k, n, s⟩ ⟨l, m, t⟩ = r := by
  have h : k = l := by simpa using h
  have h' : n = m := by simpa using h'
  unfold cmpV; simp only; rw [if_neg (by simpa using h), if_neg (by simpa using h')]
  rw [toList_ls, toList_ls] at hr
  have hl := less_cmp (ls s) (ls t)
  have hz := cmp_zero (ls s) (ls t)
  rcases hr with ⟨h1, rfl⟩ | ⟨h1, h2, rfl⟩ | ⟨h1, rfl⟩
  · exact hl.1.1 h1
  · rcases cmp_range (ls s) (ls t) with c | c | c
    · rw [hl.1.2 c] at h1; cases h1
    · rw [hz.1 c] at h2; simp at h2
    · exact c
  · exact hz.2 (by simpa using h1)
end Go.Proofs.YtdolhlbkhhnpmaaDoor

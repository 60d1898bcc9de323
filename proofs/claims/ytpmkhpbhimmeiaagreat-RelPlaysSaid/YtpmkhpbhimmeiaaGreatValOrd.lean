/-
  Values lie in one order: Compare's laws, as plain mathematics.
-/
import Derived.Test.YtpmkhpbhimmeiaaGreatValNum
namespace Go.Proofs.YtpmkhpbhimmeiaaGreat
open Go.RowKit FloM ValM

theorem cb_anti : ∀ a b : List UInt8, Lib.compareBytes b a = -Lib.compareBytes a b
  | [], [] => by simp [Lib.compareBytes]
  | [], _ :: _ => by simp [Lib.compareBytes]
  | _ :: _, [] => by simp [Lib.compareBytes]
  | x :: a, y :: b => by
    have ih := cb_anti a b
    unfold Lib.compareBytes
    by_cases h1 : x < y
    · have h2 : ¬ y < x := UInt8.not_lt.2 (UInt8.le_of_lt h1)
      simp [h1, h2]
    · by_cases h2 : y < x
      · simp [h1, h2]
      · simp [h1, h2, ih]
theorem cb_trans : ∀ a b c : List UInt8, Lib.compareBytes a b ≤ 0 → Lib.compareBytes b c ≤ 0 → Lib.compareBytes a c ≤ 0
  | [], _, [] => fun _ _ => by simp [Lib.compareBytes]
  | [], _, _ :: _ => fun _ _ => by simp [Lib.compareBytes]
  | _ :: _, [], _ => fun h _ => by simp [Lib.compareBytes] at h
  | _ :: _, _ :: _, [] => fun _ h => by simp [Lib.compareBytes] at h
  | x :: a, y :: b, z :: c => fun h1 h2 => by
    have ih := cb_trans a b c
    unfold Lib.compareBytes at h1 h2 ⊢
    simp only [UInt8.lt_iff_toNat_lt] at *
    by_cases p : x.toNat < y.toNat
    · by_cases q : y.toNat < z.toNat
      · rw [if_pos (by omega)]; decide
      · by_cases q' : z.toNat < y.toNat
        · rw [if_neg q, if_pos q'] at h2; exact absurd h2 (by decide)
        · rw [if_pos (by omega)]; decide
    · by_cases p' : y.toNat < x.toNat
      · rw [if_neg p, if_pos p'] at h1; exact absurd h1 (by decide)
      · rw [if_neg p, if_neg p'] at h1
        by_cases q : y.toNat < z.toNat
        · rw [if_pos (by omega)]; decide
        · by_cases q' : z.toNat < y.toNat
          · rw [if_neg q, if_pos q'] at h2; exact absurd h2 (by decide)
          · rw [if_neg q, if_neg q'] at h2
            rw [if_neg (by omega), if_neg (by omega)]; exact ih h1 h2
theorem ci_anti (a b : Int) : cmpI b a = -cmpI a b := by unfold cmpI; split <;> split <;> (try split) <;> omega
theorem cmpV_anti (a b : V) : cmpV b a = -cmpV a b := by
  unfold cmpV
  by_cases h : a.k = b.k
  · rw [if_neg (show ¬ (b.k ≠ a.k) from fun x => x h.symm), if_neg (show ¬ (a.k ≠ b.k) from fun x => x h)]
    by_cases h' : a.n = b.n
    · rw [if_neg (show ¬ (b.n ≠ a.n) from fun x => x h'.symm), if_neg (show ¬ (a.n ≠ b.n) from fun x => x h')]; exact cb_anti _ _
    · rw [if_pos (show b.n ≠ a.n from fun e => h' e.symm), if_pos (show a.n ≠ b.n from h')]; exact ci_anti _ _
  · rw [if_pos (show b.k ≠ a.k from fun e => h e.symm), if_pos (show a.k ≠ b.k from h)]; exact ci_anti _ _
theorem ci_range (a b : Int) (h : a ≠ b) : cmpI a b = -1 ∧ a < b ∨ cmpI a b = 1 ∧ b < a := by unfold cmpI; split <;> (try split) <;> omega
theorem cmpV_cases (a b : V) : (cmpV a b = 0 ∧ a = b) ∨ (cmpV a b = -1 ∧ a ≠ b ∧ (a.k < b.k ∨ (a.k = b.k ∧ (a.n < b.n ∨ (a.n = b.n ∧ Lib.compareBytes (ls a.s) (ls b.s) = -1))))) ∨ (cmpV a b = 1 ∧ a ≠ b ∧ (b.k < a.k ∨ (a.k = b.k ∧ (b.n < a.n ∨ (a.n = b.n ∧ Lib.compareBytes (ls a.s) (ls b.s) = 1))))) := by
  obtain ⟨ak, an, sa⟩ := a
  obtain ⟨bk, bn, sb⟩ := b
  unfold cmpV
  simp only
  by_cases h : ak = bk
  · subst h
    rw [if_neg (by simp)]
    by_cases h' : an = bn
    · subst h'
      rw [if_neg (by simp)]
      have hz := cmp_zero (ls sa) (ls sb)
      have ha := cb_anti (ls sa) (ls sb)
      rcases cmp_range (ls sa) (ls sb) with c | c | c
      · refine .inr (.inl ⟨c, ?_, by simp [c]⟩)
        intro e; injection e with _ _ e; subst e; rw [(cmp_zero _ _).2 rfl] at c; cases c
      · refine .inl ⟨c, ?_⟩
        rw [ls_inj (hz.1 c)]
      · refine .inr (.inr ⟨c, ?_, by simp [c]⟩)
        intro e; injection e with _ _ e; subst e; rw [(cmp_zero _ _).2 rfl] at c; cases c
    · rw [if_pos h']
      rcases ci_range an bn h' with ⟨c, d⟩ | ⟨c, d⟩
      · exact .inr (.inl ⟨c, by simp [h'], by simp [d]⟩)
      · exact .inr (.inr ⟨c, by simp [h'], by simp [d]⟩)
  · rw [if_pos h]
    rcases ci_range ak bk h with ⟨c, d⟩ | ⟨c, d⟩
    · exact .inr (.inl ⟨c, by simp [h], by simp [d]⟩)
    · exact .inr (.inr ⟨c, by simp [h], by simp [d]⟩)
theorem cmpV_trans (a b c : V) (h1 : cmpV a b ≤ 0) (h2 : cmpV b c ≤ 0) : cmpV a c ≤ 0 := by
  rcases cmpV_cases a b with ⟨_, rfl⟩ | ⟨_, _, h⟩ | ⟨x, _⟩
  · exact h2
  · rcases cmpV_cases b c with ⟨_, rfl⟩ | ⟨_, _, g⟩ | ⟨x, _⟩
    · exact h1
    · rcases cmpV_cases a c with ⟨x, _⟩ | ⟨x, _⟩ | ⟨x, _, f⟩
      · omega
      · omega
      · exfalso
        rcases h with h | ⟨h, h | ⟨h', h⟩⟩ <;> rcases g with g | ⟨g, g | ⟨g', g⟩⟩ <;> rcases f with f | ⟨f, f | ⟨f', f⟩⟩ <;> first | omega | skip
        have := cb_trans _ _ _ (show Lib.compareBytes (ls a.s) (ls b.s) ≤ 0 by omega) (show Lib.compareBytes (ls b.s) (ls c.s) ≤ 0 by omega)
        omega
    · omega
  · omega
end Go.Proofs.YtpmkhpbhimmeiaaGreat

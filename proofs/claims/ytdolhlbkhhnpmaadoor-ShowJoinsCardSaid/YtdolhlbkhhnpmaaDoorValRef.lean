/-
  Contracts of the document's own way for layer 2 (package antecedentref02): Name, Right, Compare, number.
-/
import Derived.Test.YtdolhlbkhhnpmaaDoorValG
import Derived.Laws.RangeAny
import Derived.Laws.RangeString
namespace Go.Proofs.YtdolhlbkhhnpmaaDoor
open Go.RowKit FloM ValM

theorem iter_below (w : World) (s : ByteArray) (pos : Nat) : Below w.heap.size w (w.iter s pos) := (Below.refl _ _).alloc (Nat.le_refl _) _
def SaysB (b : Bool) (w : World) (e : Ending) (w' : World) : Prop := e = .returned (.bool b) ∧ Below w.heap.size w w'

/-! ### Name -/
theorem cls (c : Nat) : (97 ≤ c ∧ c ≤ 122) ∨ (48 ≤ c ∧ c ≤ 57) ∨ c = 95 ∨ c < 48 ∨ (57 < c ∧ c < 97 ∧ c ≠ 95) ∨ 122 < c := by omega
set_option maxRecDepth 20000 in
set_option maxHeartbeats 1000000 in
theorem refName_empty (w : World) : Calls Tryd.prog 56 #[.string ByteArray.empty] w (SaysB false w) := by
  go_enter Tryd.func56, Tryd.ntmps56
  go_wp2
  go_ret
  exact ⟨rfl, Below.refl _ _⟩
set_option maxRecDepth 20000 in
set_option maxHeartbeats 1000000 in
theorem refName_long (s : ByteArray) (w : World) (h : 40 < (s.size : Int)) (h1 : 1 ≤ (s.size : Int)) : Calls Tryd.prog 56 #[.string s] w (SaysB false w) := by
  go_enter Tryd.func56, Tryd.ntmps56
  go_wp2
  all_goals
    go_ret
    exact ⟨rfl, Below.refl _ _⟩
set_option maxRecDepth 20000 in
set_option maxHeartbeats 1000000 in
theorem refName_first (s : ByteArray) (w : World) (h : (s.size : Int) ≤ 40) (h1 : 1 ≤ (s.size : Int)) (hp : 0 < s.size) (hc : (s[0].toNat : Int) < 97 ∨ 122 < (s[0].toNat : Int)) : Calls Tryd.prog 56 #[.string s] w (SaysB false w) := by
  rcases hc with hc | hc
  · go_enter Tryd.func56, Tryd.ntmps56
    go_wp2
    all_goals
      go_ret
      exact ⟨rfl, Below.refl _ _⟩
  · have hd : 97 ≤ (s[0].toNat : Int) := by omega
    go_enter Tryd.func56, Tryd.ntmps56
    go_wp2
    all_goals
      go_ret
      exact ⟨rfl, Below.refl _ _⟩
set_option maxRecDepth 20000 in
set_option maxHeartbeats 2000000 in
theorem refName_loop (s : ByteArray) (w : World) (h : (s.size : Int) ≤ 40) (h1 : 1 ≤ (s.size : Int)) (hp : 0 < s.size) (hc0 : 97 ≤ (s[0].toNat : Int)) (hc1 : (s[0].toNat : Int) ≤ 122) : Calls Tryd.prog 56 #[.string s] w (SaysB (name s) w) := by
  have hn : name s = allAt 0 (ls s) := by
    unfold name nameL; rw [ls_len, decide_eq_true (by omega)]; rfl
  have HN := Lib.hid hn; clear hn
  go_enter Tryd.func56, Tryd.ntmps56
  go_wp2
  go_loopw [3, 4] (fun _ _ wr => ∃ pos : Nat, wr = w.iter s pos ∧ pos ≤ s.size ∧ allAt 0 ((ls s).take pos) = true) (fun _ _ wr => s.size - wr.iterPos w.heap.size)
  case atStart => exact ⟨0, rfl, Nat.zero_le _, rfl⟩
  case round =>
    obtain ⟨pos, rfl, hpos, ha⟩ := hrel
    have HA := Lib.hid ha; clear ha
    by_cases hlt : pos < s.size
    · rcases cls s[pos].toNat with hc | hc | hc | hc | hc | hc
      · have q1 : 97 ≤ (s[pos].toNat : Int) := by omega
        have q2 : (s[pos].toNat : Int) ≤ 122 := by omega
        have hnx : ∀ ty, (Instr.next (.pointer (some ⟨w.heap.size, 0, none⟩)) true ty).run Tryd.prog (w.iter s pos) = _ := fun ty => run_next_ascii w s pos ty hlt (by omega)
        have HC := Lib.hid (show okAt pos s[pos] = true by
          rw [okAt_iff]
          rcases Nat.eq_zero_or_pos pos with rfl | h0 <;> omega)
        clear hc
        go_wp2
        go_roundw
        case rel => exact ⟨pos + 1, rfl, by omega, allAt_step s pos hlt HA.out HC.out⟩
        case measure => simp; omega
      · have q0 : (s[pos].toNat : Int) < 97 := by omega
        have q1 : 48 ≤ (s[pos].toNat : Int) := by omega
        have q2 : (s[pos].toNat : Int) ≤ 57 := by omega
        have hnx : ∀ ty, (Instr.next (.pointer (some ⟨w.heap.size, 0, none⟩)) true ty).run Tryd.prog (w.iter s pos) = _ := fun ty => run_next_ascii w s pos ty hlt (by omega)
        have HC := Lib.hid (show okAt pos s[pos] = true by
          rw [okAt_iff]
          rcases Nat.eq_zero_or_pos pos with rfl | h0 <;> omega)
        clear hc
        go_wp2
        go_roundw
        case rel => exact ⟨pos + 1, rfl, by omega, allAt_step s pos hlt HA.out HC.out⟩
        case measure => simp; omega
      · have q0 : (s[pos].toNat : Int) < 97 := by omega
        have q1 : 48 ≤ (s[pos].toNat : Int) := by omega
        have q2 : 57 < (s[pos].toNat : Int) := by omega
        have q3 : ((s[pos].toNat : Int) == 95) = true := by rw [beq_iff_eq]; omega
        have q4 : (s[pos].toNat : Int) ≤ 95 := by omega
        have q5 : 95 ≤ (s[pos].toNat : Int) := by omega
        have hnx : ∀ ty, (Instr.next (.pointer (some ⟨w.heap.size, 0, none⟩)) true ty).run Tryd.prog (w.iter s pos) = _ := fun ty => run_next_ascii w s pos ty hlt (by omega)
        have HC := Lib.hid (show okAt pos s[pos] = true by
          rw [okAt_iff]
          rcases Nat.eq_zero_or_pos pos with rfl | h0 <;> omega)
        clear hc
        go_wp2
        go_roundw
        case rel => exact ⟨pos + 1, rfl, by omega, allAt_step s pos hlt HA.out HC.out⟩
        case measure => simp; omega
      · have q0 : (s[pos].toNat : Int) < 97 := by omega
        have q1 : (s[pos].toNat : Int) < 48 := by omega
        have q3 : ((s[pos].toNat : Int) == 95) = false := by rw [beq_eq_false_iff_ne]; omega
        have hnx : ∀ ty, (Instr.next (.pointer (some ⟨w.heap.size, 0, none⟩)) true ty).run Tryd.prog (w.iter s pos) = _ := fun ty => run_next_any w s pos ty hlt
        have HC := Lib.hid (show okAt pos s[pos] = false by
          rw [← Bool.not_eq_true, okAt_iff]; omega)
        have HX := Lib.hid hc; clear hc
        go_wp2
        all_goals first
          | (go_ret; exact ⟨ret_bool (by rw [HN.out, allAt_bad s pos hlt HC.out]), iter_below _ _ _⟩)
          | (exfalso; have hx := HX.out; have hh := ‹((!decide (_ ≤ _)) = false ∨ (!decide (_ ≤ _)) = false) ∨ (!(_ == _)) = false›; simp at hh; omega)
          | (exfalso; have hx := HX.out; have hh := ‹(!decide (_ ≤ _)) = false ∨ (!(_ == _)) = false›; simp at hh; omega)
          | (exfalso; have hx := HX.out; have hh := ‹(!decide (_ ≤ _)) = false ∨ (!decide (_ ≤ _)) = false›; simp at hh; omega)
          | (exfalso; have hx := HX.out; have hh := ‹(!decide (_ ≤ _)) = false›; simp at hh; omega)
          | (exfalso; have hx := HX.out; have hh := ‹(!(_ == _)) = false›; simp at hh; omega)
      · have q0 : (s[pos].toNat : Int) < 97 := by omega
        have q1 : 48 ≤ (s[pos].toNat : Int) := by omega
        have q2 : 57 < (s[pos].toNat : Int) := by omega
        have q3 : ((s[pos].toNat : Int) == 95) = false := by rw [beq_eq_false_iff_ne]; omega
        have hnx : ∀ ty, (Instr.next (.pointer (some ⟨w.heap.size, 0, none⟩)) true ty).run Tryd.prog (w.iter s pos) = _ := fun ty => run_next_any w s pos ty hlt
        have HC := Lib.hid (show okAt pos s[pos] = false by
          rw [← Bool.not_eq_true, okAt_iff]; omega)
        have HX := Lib.hid hc; clear hc
        go_wp2
        all_goals first
          | (go_ret; exact ⟨ret_bool (by rw [HN.out, allAt_bad s pos hlt HC.out]), iter_below _ _ _⟩)
          | (exfalso; have hx := HX.out; have hh := ‹((!decide (_ ≤ _)) = false ∨ (!decide (_ ≤ _)) = false) ∨ (!(_ == _)) = false›; simp at hh; omega)
          | (exfalso; have hx := HX.out; have hh := ‹(!decide (_ ≤ _)) = false ∨ (!(_ == _)) = false›; simp at hh; omega)
          | (exfalso; have hx := HX.out; have hh := ‹(!decide (_ ≤ _)) = false ∨ (!decide (_ ≤ _)) = false›; simp at hh; omega)
          | (exfalso; have hx := HX.out; have hh := ‹(!decide (_ ≤ _)) = false›; simp at hh; omega)
          | (exfalso; have hx := HX.out; have hh := ‹(!(_ == _)) = false›; simp at hh; omega)
      · have q0 : 97 ≤ (s[pos].toNat : Int) := by omega
        have q1 : 48 ≤ (s[pos].toNat : Int) := by omega
        have q2 : 57 < (s[pos].toNat : Int) := by omega
        have q4 : 122 < (s[pos].toNat : Int) := by omega
        have q3 : ((s[pos].toNat : Int) == 95) = false := by rw [beq_eq_false_iff_ne]; omega
        have hnx : ∀ ty, (Instr.next (.pointer (some ⟨w.heap.size, 0, none⟩)) true ty).run Tryd.prog (w.iter s pos) = _ := fun ty => run_next_any w s pos ty hlt
        have HC := Lib.hid (show okAt pos s[pos] = false by
          rw [← Bool.not_eq_true, okAt_iff]; omega)
        have HX := Lib.hid hc; clear hc
        go_wp2
        all_goals first
          | (go_ret; exact ⟨ret_bool (by rw [HN.out, allAt_bad s pos hlt HC.out]), iter_below _ _ _⟩)
          | (exfalso; have hx := HX.out; have hh := ‹((!decide (_ ≤ _)) = false ∨ (!decide (_ ≤ _)) = false) ∨ (!(_ == _)) = false›; simp at hh; omega)
          | (exfalso; have hx := HX.out; have hh := ‹(!decide (_ ≤ _)) = false ∨ (!(_ == _)) = false›; simp at hh; omega)
          | (exfalso; have hx := HX.out; have hh := ‹(!decide (_ ≤ _)) = false ∨ (!decide (_ ≤ _)) = false›; simp at hh; omega)
          | (exfalso; have hx := HX.out; have hh := ‹(!decide (_ ≤ _)) = false›; simp at hh; omega)
          | (exfalso; have hx := HX.out; have hh := ‹(!(_ == _)) = false›; simp at hh; omega)
    · have hnx : ∀ ty, (Instr.next (.pointer (some ⟨w.heap.size, 0, none⟩)) true ty).run Tryd.prog (w.iter s pos) = _ := fun ty => run_next_end w s pos ty hlt
      go_wp2
      go_ret
      refine ⟨ret_bool ?_, iter_below _ _ _⟩
      have := HA.out
      rw [take_all s pos (by omega)] at this
      rw [HN.out, this]
theorem refName_any (s : ByteArray) (w : World) : Calls Tryd.prog 56 #[.string s] w (SaysB (name s) w) := by
  by_cases h0 : s = ByteArray.empty
  · subst h0; exact refName_empty w
  · have hp := size_pos h0
    by_cases h40 : 40 < (s.size : Int)
    · have e : name s = false := by
        unfold name nameL; rw [ls_len, decide_eq_false (by omega)]; rfl
      rw [e]; exact refName_long s w h40 (by omega)
    · by_cases hc : 97 ≤ s[0].toNat ∧ s[0].toNat ≤ 122
      · exact refName_loop s w (by omega) (by omega) hp (by omega) (by omega)
      · have e : name s = false := by
          unfold name
          rw [nameL, allAt_bad s 0 hp (by rw [← Bool.not_eq_true, okAt_iff]; omega), Bool.and_false]
        rw [e]; exact refName_first s w (by omega) (by omega) hp (by omega)
end Go.Proofs.YtdolhlbkhhnpmaaDoor

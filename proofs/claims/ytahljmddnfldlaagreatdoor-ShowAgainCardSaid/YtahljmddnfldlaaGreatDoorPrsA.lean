/-
  Package parse: the reader, and what it asks of a token.
-/
import Derived.Test.YtahljmddnfldlaaGreatDoorLexKey
import Derived.Test.YtahljmddnfldlaaGreatDoorLexAwake
import Derived.Test.YtahljmddnfldlaaGreatDoorPrsM
namespace Go.Proofs.YtahljmddnfldlaaGreatDoor
open Go.RowKit FloM ValM Go.Shelf
set_option linter.unusedVariables false
set_option linter.unusedSimpArgs false
def faultP (a k : Nat) : Value := .iface 86 (.agg #[.int .i64 (a : Int), .int .i64 (k : Int)])
def endT (z : Nat) : Tk := ⟨0, [], z⟩
theorem num0 (k : Nat) : ((k : Int) == 0) = (k == 0) := by rw [Bool.eq_iff_iff]; simp
theorem num2 (k : Nat) : ((k : Int) == 2) = (k == 2) := by rw [Bool.eq_iff_iff]; simp; omega
theorem num3 (k : Nat) : ((k : Int) == 3) = (k == 3) := by rw [Bool.eq_iff_iff]; simp; omega
theorem bsl (l : List UInt8) : (bs l).toList = l := by rw [toList_ls]; exact ls_bs l
set_option maxRecDepth 20000 in
set_option maxHeartbeats 2000000 in
theorem isEnd_any (t : Tk) (w : World) : Calls Tryz.prog 54 #[t.val] w fun e w' => e = .returned (.bool (t.k == 0)) ∧ Below w.heap.size w w' := by
  unfold Tk.val
  obtain ⟨b, hb⟩ : ∃ b, (t.k == 0) = b := ⟨_, rfl⟩
  have hk : ((t.k : Int) == 0) = b := by rw [← hb]; exact num0 t.k
  rw [hb]
  clear hb
  go_enter Tryz.func54, Tryz.ntmps54
  go_wp2
  go_ret
  exact ⟨rfl, (Below.refl _ _).alloc (Nat.le_refl _) _⟩
set_option maxRecDepth 20000 in
set_option maxHeartbeats 2000000 in
theorem isVar_any (t : Tk) (w : World) : Calls Tryz.prog 89 #[t.val] w fun e w' => e = .returned (.bool (varT t)) ∧ Below w.heap.size w w' := by
  unfold Tk.val
  obtain ⟨b, hb⟩ : ∃ b, varT t = b := ⟨_, rfl⟩
  have hk : ((t.k : Int) == 2) = b := by rw [← hb]; exact num2 t.k
  rw [hb]
  clear hb
  go_enter Tryz.func89, Tryz.ntmps89
  go_wp2
  go_ret
  exact ⟨rfl, (Below.refl _ _).alloc (Nat.le_refl _) _⟩
set_option maxRecDepth 20000 in
set_option maxHeartbeats 2000000 in
theorem isTerm_any (t : Tk) (w : World) : Calls Tryz.prog 88 #[t.val] w fun e w' => e = .returned (.bool (termT t)) ∧ Below w.heap.size w w' := by
  obtain ⟨k, l, a⟩ := t
  unfold Tk.val termT
  simp only
  by_cases h1 : k = 1
  · subst h1
    go_enter Tryz.func88, Tryz.ntmps88
    go_wp2
    go_ret
    exact ⟨rfl, (Below.refl _ _).alloc (Nat.le_refl _) _⟩
  · by_cases h2 : k = 2
    · subst h2
      go_enter Tryz.func88, Tryz.ntmps88
      go_wp2
      go_ret
      exact ⟨rfl, (Below.refl _ _).alloc (Nat.le_refl _) _⟩
    · have e1 : ((k : Int) == 1) = false := by rw [beq_eq_false_iff_ne]; omega
      have e2 : ((k : Int) == 2) = false := by rw [beq_eq_false_iff_ne]; omega
      obtain ⟨b, hb⟩ : ∃ b, (k == 3) = b := ⟨_, rfl⟩
      have e3 : ((k : Int) == 3) = b := by rw [← hb]; exact num3 k
      have hv : (k == 1 || (k == 2 || k == 3)) = b := by rw [hb, beq_eq_false_iff_ne.2 h1, beq_eq_false_iff_ne.2 h2]; rfl
      rw [hv]
      clear hb hv h1 h2
      go_enter Tryz.func88, Tryz.ntmps88
      go_wp2
      go_ret
      exact ⟨rfl, (Below.refl _ _).alloc (Nat.le_refl _) _⟩
set_option maxRecDepth 20000 in
set_option maxHeartbeats 2000000 in
theorem isPred_any (t : Tk) (w : World) : Calls Tryz.prog 55 #[t.val] w fun e w' => e = .returned (.bool (predT t)) ∧ Below w.heap.size w w' := by
  obtain ⟨k, l, a⟩ := t
  unfold Tk.val predT
  simp only
  obtain ⟨q, hq⟩ : ∃ q, keyL l = q := ⟨_, rfl⟩
  have HK : Hid (∀ W, Calls Tryz.prog 66 #[.string (bs l)] W fun e w' => e = .returned (.bool q) ∧ W = w') := Lib.hid fun W => by
    have := key_any (bs l) W
    rwa [ls_bs, hq] at this
  rw [hq]
  clear hq
  by_cases h1 : k = 1
  · subst h1
    cases q
    all_goals
      go_enter Tryz.func55, Tryz.ntmps55
      go_wp2_with (go_at_call 66; refine (HK.out _).mono ?_; rintro e w1 ⟨rfl, rfl⟩)
      go_ret
      exact ⟨rfl, (Below.refl _ _).alloc (Nat.le_refl _) _⟩
  · have e1 : ((k : Int) == 1) = false := by rw [beq_eq_false_iff_ne]; omega
    rw [show (k == 1 && !q) = false by rw [beq_eq_false_iff_ne.2 h1]; rfl]
    clear h1
    go_enter Tryz.func55, Tryz.ntmps55
    go_wp2
    go_ret
    exact ⟨rfl, (Below.refl _ _).alloc (Nat.le_refl _) _⟩
set_option maxRecDepth 20000 in
set_option maxHeartbeats 2000000 in
theorem isCmp_any (t : Tk) (w : World) : Calls Tryz.prog 106 #[t.val] w fun e w' => e = .returned (.bool (cmpT t)) ∧ Below w.heap.size w w' := by
  obtain ⟨k, l, a⟩ := t
  unfold Tk.val cmpT
  simp only
  have e0 := bsl l
  cases h1 : (l == [60])
  · cases h2 : (l == [60, 61])
    · cases h3 : (l == [61])
      · cases h4 : (l == [33, 61])
        all_goals
          rw [← e0] at h1 h2 h3 h4
          clear e0
          go_enter Tryz.func106, Tryz.ntmps106
          go_wp2
          go_ret
          exact ⟨rfl, (Below.refl _ _).alloc (Nat.le_refl _) _⟩
      · rw [← e0] at h1 h2 h3
        clear e0
        go_enter Tryz.func106, Tryz.ntmps106
        go_wp2
        go_ret
        exact ⟨rfl, (Below.refl _ _).alloc (Nat.le_refl _) _⟩
    · rw [← e0] at h1 h2
      clear e0
      go_enter Tryz.func106, Tryz.ntmps106
      go_wp2
      go_ret
      exact ⟨rfl, (Below.refl _ _).alloc (Nat.le_refl _) _⟩
  · rw [← e0] at h1
    clear e0
    go_enter Tryz.func106, Tryz.ntmps106
    go_wp2
    go_ret
    exact ⟨rfl, (Below.refl _ _).alloc (Nat.le_refl _) _⟩
set_option maxRecDepth 20000 in
set_option maxHeartbeats 2000000 in
theorem operation_any (s : ByteArray) (w : World) : Calls Tryz.prog 122 #[.string s] w fun e w' => e = .returned (.string (bs (opL (ls s)))) ∧ w = w' := by
  cases h1 : (s.toList == [112, 108, 117, 115])
  · cases h2 : (s.toList == [109, 105, 110, 117, 115])
    · cases h3 : (s.toList == [116, 105, 109, 101, 115])
      · have HE : Hid (opL (ls s) = []) := Lib.hid (by unfold opL; rw [if_neg (str_not h1), if_neg (str_not h2), if_neg (str_not h3)])
        go_enter Tryz.func122, Tryz.ntmps122
        go_wp2
        go_ret
        rw [HE.out]
        exact ⟨rfl, rfl⟩
      · have HE : Hid (opL (ls s) = [42]) := Lib.hid (by unfold opL; rw [if_neg (str_not h1), if_neg (str_not h2), if_pos (str_is h3)])
        go_enter Tryz.func122, Tryz.ntmps122
        go_wp2
        go_ret
        rw [HE.out]
        exact ⟨rfl, rfl⟩
    · have HE : Hid (opL (ls s) = [45]) := Lib.hid (by unfold opL; rw [if_neg (str_not h1), if_pos (str_is h2)])
      go_enter Tryz.func122, Tryz.ntmps122
      go_wp2
      go_ret
      rw [HE.out]
      exact ⟨rfl, rfl⟩
  · have HE : Hid (opL (ls s) = [43]) := Lib.hid (by unfold opL; rw [if_pos (str_is h1)])
    go_enter Tryz.func122, Tryz.ntmps122
    go_wp2
    go_ret
    rw [HE.out]
    exact ⟨rfl, rfl⟩
set_option maxRecDepth 20000 in
set_option maxHeartbeats 2000000 in
theorem isOp_any (t : Tk) (w : World) : Calls Tryz.prog 123 #[t.val] w fun e w' => e = .returned (.bool (opT t)) ∧ Below w.heap.size w w' := by
  obtain ⟨k, l, a⟩ := t
  unfold Tk.val opT
  simp only
  have HO : Hid (∀ W, Calls Tryz.prog 122 #[.string (bs l)] W fun e w' => e = .returned (.string (bs (opL l))) ∧ W = w') := Lib.hid fun W => by
    have := operation_any (bs l) W
    rwa [ls_bs] at this
  generalize opL l = m at HO ⊢
  have h1 : ((bs m).toList == []) = (m == []) := by rw [bsl]
  cases h : (m == [])
  all_goals
    rw [h] at h1
    clear h
    go_enter Tryz.func123, Tryz.ntmps123
    go_wp2_with (go_at_call 122; refine (HO.out _).mono ?_; rintro e w1 ⟨rfl, rfl⟩)
    go_ret
    exact ⟨rfl, (Below.refl _ _).alloc (Nat.le_refl _) _⟩
set_option maxRecDepth 20000 in
set_option maxHeartbeats 2000000 in
theorem fold_any (s : ByteArray) (w : World) : Calls Tryz.prog 104 #[.string s] w fun e w' => e = .returned (.int .i64 (foldN (ls s) : Nat)) ∧ w = w' := by
  cases h1 : (s.toList == [99, 111, 117, 110, 116])
  · cases h2 : (s.toList == [115, 117, 109])
    · cases h3 : (s.toList == [109, 105, 110])
      · cases h4 : (s.toList == [109, 97, 120])
        · cases h5 : (s.toList == [109, 101, 97, 110])
          · have HE : Hid (foldN (ls s) = 0) := Lib.hid (by unfold foldN; rw [if_neg (str_not h1), if_neg (str_not h2), if_neg (str_not h3), if_neg (str_not h4), if_neg (str_not h5)])
            go_enter Tryz.func104, Tryz.ntmps104
            go_wp2
            go_ret
            rw [HE.out]; exact ⟨rfl, rfl⟩
          · have HE : Hid (foldN (ls s) = 5) := Lib.hid (by unfold foldN; rw [if_neg (str_not h1), if_neg (str_not h2), if_neg (str_not h3), if_neg (str_not h4), if_pos (str_is h5)])
            go_enter Tryz.func104, Tryz.ntmps104
            go_wp2
            go_ret
            rw [HE.out]; exact ⟨rfl, rfl⟩
        · have HE : Hid (foldN (ls s) = 4) := Lib.hid (by unfold foldN; rw [if_neg (str_not h1), if_neg (str_not h2), if_neg (str_not h3), if_pos (str_is h4)])
          go_enter Tryz.func104, Tryz.ntmps104
          go_wp2
          go_ret
          rw [HE.out]; exact ⟨rfl, rfl⟩
      · have HE : Hid (foldN (ls s) = 3) := Lib.hid (by unfold foldN; rw [if_neg (str_not h1), if_neg (str_not h2), if_pos (str_is h3)])
        go_enter Tryz.func104, Tryz.ntmps104
        go_wp2
        go_ret
        rw [HE.out]; exact ⟨rfl, rfl⟩
    · have HE : Hid (foldN (ls s) = 2) := Lib.hid (by unfold foldN; rw [if_neg (str_not h1), if_pos (str_is h2)])
      go_enter Tryz.func104, Tryz.ntmps104
      go_wp2
      go_ret
      rw [HE.out]; exact ⟨rfl, rfl⟩
  · have HE : Hid (foldN (ls s) = 1) := Lib.hid (by unfold foldN; rw [if_pos (str_is h1)])
    go_enter Tryz.func104, Tryz.ntmps104
    go_wp2
    go_ret
    rw [HE.out]; exact ⟨rfl, rfl⟩
end Go.Proofs.YtahljmddnfldlaaGreatDoor

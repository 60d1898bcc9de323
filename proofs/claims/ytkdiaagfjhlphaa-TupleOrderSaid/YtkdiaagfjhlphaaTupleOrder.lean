/-
  TupleOrder (layer 3, tuple): for every a, b, c and p the call returns true: by a permutation tuples of as many values lie in one order. No condition.
-/
import Derived.Test.YtkdiaagfjhlphaaRows
import Derived.Test.YtkdiaagfjhlphaaTupCmp
import Derived.Test.YtkdiaagfjhlphaaTupPerm
import Derived.Test.YtkdiaagfjhlphaaTupSame
import Derived.Test.YtkdiaagfjhlphaaTupOrd
import Derived.Test.YtkdiaagfjhlphaaTupOpen
import Derived.Test.YtkdiaagfjhlphaaTupAwake
import Derived.WalkKit
import Derived.ProofKit
import Derived.OpenShut
namespace Go.Proofs.Ytkdiaagfjhlphaa.tupleOrder
open Go.ChangeShapes Go.WideShapes Go.ChangeAt Go.RowKit FloM ValM
set_option linter.unusedVariables false
set_option maxHeartbeats 8000000 in
theorem walk_no (A0 A1 A2 A3 : Option Addr) (c0 c1 c2 c3 : Nat) (l0 l1 l2 : List V) (l3 : List Int) (w : World) (r3 : RdI w A3 l3)
    (h : 40 < l3.length ∨ l3.length ≤ 40 ∧ (l0.length ≠ l3.length ∨ l0.length = l3.length ∧ (l1.length ≠ l3.length ∨ l1.length = l3.length ∧ (l2.length ≠ l3.length ∨ l2.length = l3.length ∧ permB l3 = false)))) :
    Calls Try.prog 5 #[.slice A0 l0.length c0, .slice A1 l1.length c1, .slice A2 l2.length c2, .slice A3 l3.length c3] w fun e w' => e = .returned (.bool true) ∧ Below w.heap.size w w' := by
  have hB := Below.refl w.heap.size w
  have R3 := Lib.hid r3; clear r3
  rcases h with h | ⟨h0, h | ⟨e1, h | ⟨e2, h | ⟨e3, hp⟩⟩⟩⟩
  · have h' : 40 < (l3.length : Int) := by omega
    have HP : Hid (permB l3 = permB l3) := rfl
    go_enter Try.func5, Try.ntmps5
    go_wp2_with (first | (go_at_call 10; refine (awake_any _).mono ?_; rintro e w1 ⟨rfl, h'⟩; replace hB := on hB h'; clear h') | (go_at_call 11; refine (perm_any _ _ _ _ (R3.out.on hB) (by omega)).mono ?_; rintro e w2 ⟨rfl, h'⟩; rw [HP.out]; replace hB := on hB h'; clear h'))
    go_ret
    exact ⟨rfl, hB⟩
  · have h' : (l3.length : Int) ≤ 40 := by omega
    have f0 : ((l0.length : Int) != (l3.length : Int)) = true := by simp; omega
    have HP : Hid (permB l3 = permB l3) := rfl
    clear h
    go_enter Try.func5, Try.ntmps5
    go_wp2_with (first | (go_at_call 10; refine (awake_any _).mono ?_; rintro e w1 ⟨rfl, h'⟩; replace hB := on hB h'; clear h') | (go_at_call 11; refine (perm_any _ _ _ _ (R3.out.on hB) (by omega)).mono ?_; rintro e w2 ⟨rfl, h'⟩; rw [HP.out]; replace hB := on hB h'; clear h'))
    go_ret
    exact ⟨rfl, hB⟩
  · have h' : (l3.length : Int) ≤ 40 := by omega
    have f0 : ((l0.length : Int) != (l3.length : Int)) = false := by simp [e1]
    have f1 : ((l1.length : Int) != (l3.length : Int)) = true := by simp; omega
    have HP : Hid (permB l3 = permB l3) := rfl
    clear h e1
    go_enter Try.func5, Try.ntmps5
    go_wp2_with (first | (go_at_call 10; refine (awake_any _).mono ?_; rintro e w1 ⟨rfl, h'⟩; replace hB := on hB h'; clear h') | (go_at_call 11; refine (perm_any _ _ _ _ (R3.out.on hB) (by omega)).mono ?_; rintro e w2 ⟨rfl, h'⟩; rw [HP.out]; replace hB := on hB h'; clear h'))
    go_ret
    exact ⟨rfl, hB⟩
  · have h' : (l3.length : Int) ≤ 40 := by omega
    have f0 : ((l0.length : Int) != (l3.length : Int)) = false := by simp [e1]
    have f1 : ((l1.length : Int) != (l3.length : Int)) = false := by simp [e2]
    have f2 : ((l2.length : Int) != (l3.length : Int)) = true := by simp; omega
    have HP : Hid (permB l3 = permB l3) := rfl
    clear h e1 e2
    go_enter Try.func5, Try.ntmps5
    go_wp2_with (first | (go_at_call 10; refine (awake_any _).mono ?_; rintro e w1 ⟨rfl, h'⟩; replace hB := on hB h'; clear h') | (go_at_call 11; refine (perm_any _ _ _ _ (R3.out.on hB) (by omega)).mono ?_; rintro e w2 ⟨rfl, h'⟩; rw [HP.out]; replace hB := on hB h'; clear h'))
    go_ret
    exact ⟨rfl, hB⟩
  · have h' : (l3.length : Int) ≤ 40 := by omega
    have f0 : ((l0.length : Int) != (l3.length : Int)) = false := by simp [e1]
    have f1 : ((l1.length : Int) != (l3.length : Int)) = false := by simp [e2]
    have f2 : ((l2.length : Int) != (l3.length : Int)) = false := by simp [e3]
    have HP := Lib.hid hp
    clear hp e1 e2 e3
    go_enter Try.func5, Try.ntmps5
    go_wp2_with (first | (go_at_call 10; refine (awake_any _).mono ?_; rintro e w1 ⟨rfl, h'⟩; replace hB := on hB h'; clear h') | (go_at_call 11; refine (perm_any _ _ _ _ (R3.out.on hB) (by omega)).mono ?_; rintro e w2 ⟨rfl, h'⟩; rw [HP.out]; replace hB := on hB h'; clear h'))
    go_ret
    exact ⟨rfl, hB⟩
set_option maxHeartbeats 8000000 in
theorem walk_yes (A0 A1 A2 A3 : Option Addr) (c0 c1 c2 c3 : Nat) (l0 l1 l2 : List V) (l3 : List Int) (w : World) (r0 : RdV w A0 l0) (r1 : RdV w A1 l1) (r2 : RdV w A2 l2) (r3 : RdI w A3 l3) (m0 : l0.length ≤ maxLen) (m1 : l1.length ≤ maxLen) (m2 : l2.length ≤ maxLen) (m3 : l3.length ≤ maxLen)
    (h0 : l3.length ≤ 40) (e0 : l0.length = l3.length) (e1 : l1.length = l3.length) (e2 : l2.length = l3.length) (hp : permB l3 = true) :
    Calls Try.prog 5 #[.slice A0 l0.length c0, .slice A1 l1.length c1, .slice A2 l2.length c2, .slice A3 l3.length c3] w fun e w' => e = .returned (.bool true) ∧ Below w.heap.size w w' := by
  have hB := Below.refl w.heap.size w
  have R0 := Lib.hid r0; have R1 := Lib.hid r1; have R2 := Lib.hid r2; have R3 := Lib.hid r3
  clear r0 r1 r2 r3
  have h' : (l3.length : Int) ≤ 40 := by omega
  have f0 : ((l0.length : Int) != (l3.length : Int)) = false := by simp [e0]
  have f1 : ((l1.length : Int) != (l3.length : Int)) = false := by simp [e1]
  have f2 : ((l2.length : Int) != (l3.length : Int)) = false := by simp [e2]
  have HP := Lib.hid hp
  have hinj := pick_inj hp e0 e1
  have hz := ord_zero (pickL l0 l3) (pickL l1 l3)
  have han := ord_anti (pickL l0 l3) (pickL l1 l3)
  have htr := ord_trans (pickL l0 l3) (pickL l1 l3) (pickL l2 l3)
  rw [hinj] at hz
  have g12 := ord_range (pickL l1 l3) (pickL l2 l3)
  have g02 := ord_range (pickL l0 l3) (pickL l2 l3)
  have g01 := ord_range (pickL l0 l3) (pickL l1 l3)
  generalize hx01 : ordV (pickL l0 l3) (pickL l1 l3) = x at *
  generalize hx10 : ordV (pickL l1 l3) (pickL l0 l3) = x' at *
  generalize hx12 : ordV (pickL l1 l3) (pickL l2 l3) = y at *
  generalize hx02 : ordV (pickL l0 l3) (pickL l2 l3) = z at *
  have X01 := Lib.hid hx01; have X10 := Lib.hid hx10; have X12 := Lib.hid hx12; have X02 := Lib.hid hx02
  clear hx01 hx10 hx12 hx02 hinj hp e0 e1 e2
  have HS : Hid (decide (l0 = l1) = decide (x = 0)) := by unfold Hid; exact decide_eq_decide.2 hz.symm
  clear hz
  subst han
  have key : ∀ b : Bool, decide (x = 0) = b → True := fun _ _ => trivial
  clear key
  rcases g01 with rfl | rfl | rfl
  · rcases g12 with rfl | rfl | rfl
    · have hz := htr (by omega) (by omega)
      clear htr
      rcases g02 with rfl | rfl | rfl
      ·
        go_enter Try.func5, Try.ntmps5
        go_wp2_with (first | (go_at_call 10; refine (awake_any _).mono ?_; rintro e w1 ⟨rfl, h'⟩; replace hB := on hB h'; clear h') | (go_at_call 11; refine (perm_any _ _ _ _ (R3.out.on hB) (by omega)).mono ?_; rintro e w2 ⟨rfl, h'⟩; rw [HP.out]; replace hB := on hB h'; clear h') | (go_at_call 21; refine (same_any _ _ _ _ _ _ _ (R0.out.on hB) (R1.out.on hB) m0 m1).mono ?_; rintro e w2 ⟨rfl, h'⟩; rw [HS.out]; replace hB := on hB h'; clear h') | (go_at_call 22; first | ((with_reducible refine (compareT_any A0 A1 A3 c0 c1 c3 l0 l1 l3 _ (R0.out.on hB) (R1.out.on hB) (R3.out.on hB) m0 m1 m3).mono ?_); rintro e w2 ⟨rfl, h'⟩; rw [X01.out]; replace hB := on hB h'; clear h') | ((with_reducible refine (compareT_any A1 A0 A3 c1 c0 c3 l1 l0 l3 _ (R1.out.on hB) (R0.out.on hB) (R3.out.on hB) m1 m0 m3).mono ?_); rintro e w2 ⟨rfl, h'⟩; rw [X10.out]; replace hB := on hB h'; clear h') | ((with_reducible refine (compareT_any A1 A2 A3 c1 c2 c3 l1 l2 l3 _ (R1.out.on hB) (R2.out.on hB) (R3.out.on hB) m1 m2 m3).mono ?_); rintro e w2 ⟨rfl, h'⟩; rw [X12.out]; replace hB := on hB h'; clear h') | ((with_reducible refine (compareT_any A0 A2 A3 c0 c2 c3 l0 l2 l3 _ (R0.out.on hB) (R2.out.on hB) (R3.out.on hB) m0 m2 m3).mono ?_); rintro e w2 ⟨rfl, h'⟩; rw [X02.out]; replace hB := on hB h'; clear h')))
        go_ret
        exact ⟨rfl, hB⟩
      ·
        go_enter Try.func5, Try.ntmps5
        go_wp2_with (first | (go_at_call 10; refine (awake_any _).mono ?_; rintro e w1 ⟨rfl, h'⟩; replace hB := on hB h'; clear h') | (go_at_call 11; refine (perm_any _ _ _ _ (R3.out.on hB) (by omega)).mono ?_; rintro e w2 ⟨rfl, h'⟩; rw [HP.out]; replace hB := on hB h'; clear h') | (go_at_call 21; refine (same_any _ _ _ _ _ _ _ (R0.out.on hB) (R1.out.on hB) m0 m1).mono ?_; rintro e w2 ⟨rfl, h'⟩; rw [HS.out]; replace hB := on hB h'; clear h') | (go_at_call 22; first | ((with_reducible refine (compareT_any A0 A1 A3 c0 c1 c3 l0 l1 l3 _ (R0.out.on hB) (R1.out.on hB) (R3.out.on hB) m0 m1 m3).mono ?_); rintro e w2 ⟨rfl, h'⟩; rw [X01.out]; replace hB := on hB h'; clear h') | ((with_reducible refine (compareT_any A1 A0 A3 c1 c0 c3 l1 l0 l3 _ (R1.out.on hB) (R0.out.on hB) (R3.out.on hB) m1 m0 m3).mono ?_); rintro e w2 ⟨rfl, h'⟩; rw [X10.out]; replace hB := on hB h'; clear h') | ((with_reducible refine (compareT_any A1 A2 A3 c1 c2 c3 l1 l2 l3 _ (R1.out.on hB) (R2.out.on hB) (R3.out.on hB) m1 m2 m3).mono ?_); rintro e w2 ⟨rfl, h'⟩; rw [X12.out]; replace hB := on hB h'; clear h') | ((with_reducible refine (compareT_any A0 A2 A3 c0 c2 c3 l0 l2 l3 _ (R0.out.on hB) (R2.out.on hB) (R3.out.on hB) m0 m2 m3).mono ?_); rintro e w2 ⟨rfl, h'⟩; rw [X02.out]; replace hB := on hB h'; clear h')))
        go_ret
        exact ⟨rfl, hB⟩
      · omega
    · have hz := htr (by omega) (by omega)
      clear htr
      rcases g02 with rfl | rfl | rfl
      ·
        go_enter Try.func5, Try.ntmps5
        go_wp2_with (first | (go_at_call 10; refine (awake_any _).mono ?_; rintro e w1 ⟨rfl, h'⟩; replace hB := on hB h'; clear h') | (go_at_call 11; refine (perm_any _ _ _ _ (R3.out.on hB) (by omega)).mono ?_; rintro e w2 ⟨rfl, h'⟩; rw [HP.out]; replace hB := on hB h'; clear h') | (go_at_call 21; refine (same_any _ _ _ _ _ _ _ (R0.out.on hB) (R1.out.on hB) m0 m1).mono ?_; rintro e w2 ⟨rfl, h'⟩; rw [HS.out]; replace hB := on hB h'; clear h') | (go_at_call 22; first | ((with_reducible refine (compareT_any A0 A1 A3 c0 c1 c3 l0 l1 l3 _ (R0.out.on hB) (R1.out.on hB) (R3.out.on hB) m0 m1 m3).mono ?_); rintro e w2 ⟨rfl, h'⟩; rw [X01.out]; replace hB := on hB h'; clear h') | ((with_reducible refine (compareT_any A1 A0 A3 c1 c0 c3 l1 l0 l3 _ (R1.out.on hB) (R0.out.on hB) (R3.out.on hB) m1 m0 m3).mono ?_); rintro e w2 ⟨rfl, h'⟩; rw [X10.out]; replace hB := on hB h'; clear h') | ((with_reducible refine (compareT_any A1 A2 A3 c1 c2 c3 l1 l2 l3 _ (R1.out.on hB) (R2.out.on hB) (R3.out.on hB) m1 m2 m3).mono ?_); rintro e w2 ⟨rfl, h'⟩; rw [X12.out]; replace hB := on hB h'; clear h') | ((with_reducible refine (compareT_any A0 A2 A3 c0 c2 c3 l0 l2 l3 _ (R0.out.on hB) (R2.out.on hB) (R3.out.on hB) m0 m2 m3).mono ?_); rintro e w2 ⟨rfl, h'⟩; rw [X02.out]; replace hB := on hB h'; clear h')))
        go_ret
        exact ⟨rfl, hB⟩
      ·
        go_enter Try.func5, Try.ntmps5
        go_wp2_with (first | (go_at_call 10; refine (awake_any _).mono ?_; rintro e w1 ⟨rfl, h'⟩; replace hB := on hB h'; clear h') | (go_at_call 11; refine (perm_any _ _ _ _ (R3.out.on hB) (by omega)).mono ?_; rintro e w2 ⟨rfl, h'⟩; rw [HP.out]; replace hB := on hB h'; clear h') | (go_at_call 21; refine (same_any _ _ _ _ _ _ _ (R0.out.on hB) (R1.out.on hB) m0 m1).mono ?_; rintro e w2 ⟨rfl, h'⟩; rw [HS.out]; replace hB := on hB h'; clear h') | (go_at_call 22; first | ((with_reducible refine (compareT_any A0 A1 A3 c0 c1 c3 l0 l1 l3 _ (R0.out.on hB) (R1.out.on hB) (R3.out.on hB) m0 m1 m3).mono ?_); rintro e w2 ⟨rfl, h'⟩; rw [X01.out]; replace hB := on hB h'; clear h') | ((with_reducible refine (compareT_any A1 A0 A3 c1 c0 c3 l1 l0 l3 _ (R1.out.on hB) (R0.out.on hB) (R3.out.on hB) m1 m0 m3).mono ?_); rintro e w2 ⟨rfl, h'⟩; rw [X10.out]; replace hB := on hB h'; clear h') | ((with_reducible refine (compareT_any A1 A2 A3 c1 c2 c3 l1 l2 l3 _ (R1.out.on hB) (R2.out.on hB) (R3.out.on hB) m1 m2 m3).mono ?_); rintro e w2 ⟨rfl, h'⟩; rw [X12.out]; replace hB := on hB h'; clear h') | ((with_reducible refine (compareT_any A0 A2 A3 c0 c2 c3 l0 l2 l3 _ (R0.out.on hB) (R2.out.on hB) (R3.out.on hB) m0 m2 m3).mono ?_); rintro e w2 ⟨rfl, h'⟩; rw [X02.out]; replace hB := on hB h'; clear h')))
        go_ret
        exact ⟨rfl, hB⟩
      · omega
    · clear htr
      go_enter Try.func5, Try.ntmps5
      go_wp2_with (first | (go_at_call 10; refine (awake_any _).mono ?_; rintro e w1 ⟨rfl, h'⟩; replace hB := on hB h'; clear h') | (go_at_call 11; refine (perm_any _ _ _ _ (R3.out.on hB) (by omega)).mono ?_; rintro e w2 ⟨rfl, h'⟩; rw [HP.out]; replace hB := on hB h'; clear h') | (go_at_call 21; refine (same_any _ _ _ _ _ _ _ (R0.out.on hB) (R1.out.on hB) m0 m1).mono ?_; rintro e w2 ⟨rfl, h'⟩; rw [HS.out]; replace hB := on hB h'; clear h') | (go_at_call 22; first | ((with_reducible refine (compareT_any A0 A1 A3 c0 c1 c3 l0 l1 l3 _ (R0.out.on hB) (R1.out.on hB) (R3.out.on hB) m0 m1 m3).mono ?_); rintro e w2 ⟨rfl, h'⟩; rw [X01.out]; replace hB := on hB h'; clear h') | ((with_reducible refine (compareT_any A1 A0 A3 c1 c0 c3 l1 l0 l3 _ (R1.out.on hB) (R0.out.on hB) (R3.out.on hB) m1 m0 m3).mono ?_); rintro e w2 ⟨rfl, h'⟩; rw [X10.out]; replace hB := on hB h'; clear h') | ((with_reducible refine (compareT_any A1 A2 A3 c1 c2 c3 l1 l2 l3 _ (R1.out.on hB) (R2.out.on hB) (R3.out.on hB) m1 m2 m3).mono ?_); rintro e w2 ⟨rfl, h'⟩; rw [X12.out]; replace hB := on hB h'; clear h') | ((with_reducible refine (compareT_any A0 A2 A3 c0 c2 c3 l0 l2 l3 _ (R0.out.on hB) (R2.out.on hB) (R3.out.on hB) m0 m2 m3).mono ?_); rintro e w2 ⟨rfl, h'⟩; rw [X02.out]; replace hB := on hB h'; clear h')))
      go_ret
      exact ⟨rfl, hB⟩
  · rcases g12 with rfl | rfl | rfl
    · have hz := htr (by omega) (by omega)
      clear htr
      rcases g02 with rfl | rfl | rfl
      ·
        go_enter Try.func5, Try.ntmps5
        go_wp2_with (first | (go_at_call 10; refine (awake_any _).mono ?_; rintro e w1 ⟨rfl, h'⟩; replace hB := on hB h'; clear h') | (go_at_call 11; refine (perm_any _ _ _ _ (R3.out.on hB) (by omega)).mono ?_; rintro e w2 ⟨rfl, h'⟩; rw [HP.out]; replace hB := on hB h'; clear h') | (go_at_call 21; refine (same_any _ _ _ _ _ _ _ (R0.out.on hB) (R1.out.on hB) m0 m1).mono ?_; rintro e w2 ⟨rfl, h'⟩; rw [HS.out]; replace hB := on hB h'; clear h') | (go_at_call 22; first | ((with_reducible refine (compareT_any A0 A1 A3 c0 c1 c3 l0 l1 l3 _ (R0.out.on hB) (R1.out.on hB) (R3.out.on hB) m0 m1 m3).mono ?_); rintro e w2 ⟨rfl, h'⟩; rw [X01.out]; replace hB := on hB h'; clear h') | ((with_reducible refine (compareT_any A1 A0 A3 c1 c0 c3 l1 l0 l3 _ (R1.out.on hB) (R0.out.on hB) (R3.out.on hB) m1 m0 m3).mono ?_); rintro e w2 ⟨rfl, h'⟩; rw [X10.out]; replace hB := on hB h'; clear h') | ((with_reducible refine (compareT_any A1 A2 A3 c1 c2 c3 l1 l2 l3 _ (R1.out.on hB) (R2.out.on hB) (R3.out.on hB) m1 m2 m3).mono ?_); rintro e w2 ⟨rfl, h'⟩; rw [X12.out]; replace hB := on hB h'; clear h') | ((with_reducible refine (compareT_any A0 A2 A3 c0 c2 c3 l0 l2 l3 _ (R0.out.on hB) (R2.out.on hB) (R3.out.on hB) m0 m2 m3).mono ?_); rintro e w2 ⟨rfl, h'⟩; rw [X02.out]; replace hB := on hB h'; clear h')))
        go_ret
        exact ⟨rfl, hB⟩
      ·
        go_enter Try.func5, Try.ntmps5
        go_wp2_with (first | (go_at_call 10; refine (awake_any _).mono ?_; rintro e w1 ⟨rfl, h'⟩; replace hB := on hB h'; clear h') | (go_at_call 11; refine (perm_any _ _ _ _ (R3.out.on hB) (by omega)).mono ?_; rintro e w2 ⟨rfl, h'⟩; rw [HP.out]; replace hB := on hB h'; clear h') | (go_at_call 21; refine (same_any _ _ _ _ _ _ _ (R0.out.on hB) (R1.out.on hB) m0 m1).mono ?_; rintro e w2 ⟨rfl, h'⟩; rw [HS.out]; replace hB := on hB h'; clear h') | (go_at_call 22; first | ((with_reducible refine (compareT_any A0 A1 A3 c0 c1 c3 l0 l1 l3 _ (R0.out.on hB) (R1.out.on hB) (R3.out.on hB) m0 m1 m3).mono ?_); rintro e w2 ⟨rfl, h'⟩; rw [X01.out]; replace hB := on hB h'; clear h') | ((with_reducible refine (compareT_any A1 A0 A3 c1 c0 c3 l1 l0 l3 _ (R1.out.on hB) (R0.out.on hB) (R3.out.on hB) m1 m0 m3).mono ?_); rintro e w2 ⟨rfl, h'⟩; rw [X10.out]; replace hB := on hB h'; clear h') | ((with_reducible refine (compareT_any A1 A2 A3 c1 c2 c3 l1 l2 l3 _ (R1.out.on hB) (R2.out.on hB) (R3.out.on hB) m1 m2 m3).mono ?_); rintro e w2 ⟨rfl, h'⟩; rw [X12.out]; replace hB := on hB h'; clear h') | ((with_reducible refine (compareT_any A0 A2 A3 c0 c2 c3 l0 l2 l3 _ (R0.out.on hB) (R2.out.on hB) (R3.out.on hB) m0 m2 m3).mono ?_); rintro e w2 ⟨rfl, h'⟩; rw [X02.out]; replace hB := on hB h'; clear h')))
        go_ret
        exact ⟨rfl, hB⟩
      · omega
    · have hz := htr (by omega) (by omega)
      clear htr
      rcases g02 with rfl | rfl | rfl
      ·
        go_enter Try.func5, Try.ntmps5
        go_wp2_with (first | (go_at_call 10; refine (awake_any _).mono ?_; rintro e w1 ⟨rfl, h'⟩; replace hB := on hB h'; clear h') | (go_at_call 11; refine (perm_any _ _ _ _ (R3.out.on hB) (by omega)).mono ?_; rintro e w2 ⟨rfl, h'⟩; rw [HP.out]; replace hB := on hB h'; clear h') | (go_at_call 21; refine (same_any _ _ _ _ _ _ _ (R0.out.on hB) (R1.out.on hB) m0 m1).mono ?_; rintro e w2 ⟨rfl, h'⟩; rw [HS.out]; replace hB := on hB h'; clear h') | (go_at_call 22; first | ((with_reducible refine (compareT_any A0 A1 A3 c0 c1 c3 l0 l1 l3 _ (R0.out.on hB) (R1.out.on hB) (R3.out.on hB) m0 m1 m3).mono ?_); rintro e w2 ⟨rfl, h'⟩; rw [X01.out]; replace hB := on hB h'; clear h') | ((with_reducible refine (compareT_any A1 A0 A3 c1 c0 c3 l1 l0 l3 _ (R1.out.on hB) (R0.out.on hB) (R3.out.on hB) m1 m0 m3).mono ?_); rintro e w2 ⟨rfl, h'⟩; rw [X10.out]; replace hB := on hB h'; clear h') | ((with_reducible refine (compareT_any A1 A2 A3 c1 c2 c3 l1 l2 l3 _ (R1.out.on hB) (R2.out.on hB) (R3.out.on hB) m1 m2 m3).mono ?_); rintro e w2 ⟨rfl, h'⟩; rw [X12.out]; replace hB := on hB h'; clear h') | ((with_reducible refine (compareT_any A0 A2 A3 c0 c2 c3 l0 l2 l3 _ (R0.out.on hB) (R2.out.on hB) (R3.out.on hB) m0 m2 m3).mono ?_); rintro e w2 ⟨rfl, h'⟩; rw [X02.out]; replace hB := on hB h'; clear h')))
        go_ret
        exact ⟨rfl, hB⟩
      ·
        go_enter Try.func5, Try.ntmps5
        go_wp2_with (first | (go_at_call 10; refine (awake_any _).mono ?_; rintro e w1 ⟨rfl, h'⟩; replace hB := on hB h'; clear h') | (go_at_call 11; refine (perm_any _ _ _ _ (R3.out.on hB) (by omega)).mono ?_; rintro e w2 ⟨rfl, h'⟩; rw [HP.out]; replace hB := on hB h'; clear h') | (go_at_call 21; refine (same_any _ _ _ _ _ _ _ (R0.out.on hB) (R1.out.on hB) m0 m1).mono ?_; rintro e w2 ⟨rfl, h'⟩; rw [HS.out]; replace hB := on hB h'; clear h') | (go_at_call 22; first | ((with_reducible refine (compareT_any A0 A1 A3 c0 c1 c3 l0 l1 l3 _ (R0.out.on hB) (R1.out.on hB) (R3.out.on hB) m0 m1 m3).mono ?_); rintro e w2 ⟨rfl, h'⟩; rw [X01.out]; replace hB := on hB h'; clear h') | ((with_reducible refine (compareT_any A1 A0 A3 c1 c0 c3 l1 l0 l3 _ (R1.out.on hB) (R0.out.on hB) (R3.out.on hB) m1 m0 m3).mono ?_); rintro e w2 ⟨rfl, h'⟩; rw [X10.out]; replace hB := on hB h'; clear h') | ((with_reducible refine (compareT_any A1 A2 A3 c1 c2 c3 l1 l2 l3 _ (R1.out.on hB) (R2.out.on hB) (R3.out.on hB) m1 m2 m3).mono ?_); rintro e w2 ⟨rfl, h'⟩; rw [X12.out]; replace hB := on hB h'; clear h') | ((with_reducible refine (compareT_any A0 A2 A3 c0 c2 c3 l0 l2 l3 _ (R0.out.on hB) (R2.out.on hB) (R3.out.on hB) m0 m2 m3).mono ?_); rintro e w2 ⟨rfl, h'⟩; rw [X02.out]; replace hB := on hB h'; clear h')))
        go_ret
        exact ⟨rfl, hB⟩
      · omega
    · clear htr
      go_enter Try.func5, Try.ntmps5
      go_wp2_with (first | (go_at_call 10; refine (awake_any _).mono ?_; rintro e w1 ⟨rfl, h'⟩; replace hB := on hB h'; clear h') | (go_at_call 11; refine (perm_any _ _ _ _ (R3.out.on hB) (by omega)).mono ?_; rintro e w2 ⟨rfl, h'⟩; rw [HP.out]; replace hB := on hB h'; clear h') | (go_at_call 21; refine (same_any _ _ _ _ _ _ _ (R0.out.on hB) (R1.out.on hB) m0 m1).mono ?_; rintro e w2 ⟨rfl, h'⟩; rw [HS.out]; replace hB := on hB h'; clear h') | (go_at_call 22; first | ((with_reducible refine (compareT_any A0 A1 A3 c0 c1 c3 l0 l1 l3 _ (R0.out.on hB) (R1.out.on hB) (R3.out.on hB) m0 m1 m3).mono ?_); rintro e w2 ⟨rfl, h'⟩; rw [X01.out]; replace hB := on hB h'; clear h') | ((with_reducible refine (compareT_any A1 A0 A3 c1 c0 c3 l1 l0 l3 _ (R1.out.on hB) (R0.out.on hB) (R3.out.on hB) m1 m0 m3).mono ?_); rintro e w2 ⟨rfl, h'⟩; rw [X10.out]; replace hB := on hB h'; clear h') | ((with_reducible refine (compareT_any A1 A2 A3 c1 c2 c3 l1 l2 l3 _ (R1.out.on hB) (R2.out.on hB) (R3.out.on hB) m1 m2 m3).mono ?_); rintro e w2 ⟨rfl, h'⟩; rw [X12.out]; replace hB := on hB h'; clear h') | ((with_reducible refine (compareT_any A0 A2 A3 c0 c2 c3 l0 l2 l3 _ (R0.out.on hB) (R2.out.on hB) (R3.out.on hB) m0 m2 m3).mono ?_); rintro e w2 ⟨rfl, h'⟩; rw [X02.out]; replace hB := on hB h'; clear h')))
      go_ret
      exact ⟨rfl, hB⟩
  · clear htr
    go_enter Try.func5, Try.ntmps5
    go_wp2_with (first | (go_at_call 10; refine (awake_any _).mono ?_; rintro e w1 ⟨rfl, h'⟩; replace hB := on hB h'; clear h') | (go_at_call 11; refine (perm_any _ _ _ _ (R3.out.on hB) (by omega)).mono ?_; rintro e w2 ⟨rfl, h'⟩; rw [HP.out]; replace hB := on hB h'; clear h') | (go_at_call 21; refine (same_any _ _ _ _ _ _ _ (R0.out.on hB) (R1.out.on hB) m0 m1).mono ?_; rintro e w2 ⟨rfl, h'⟩; rw [HS.out]; replace hB := on hB h'; clear h') | (go_at_call 22; first | ((with_reducible refine (compareT_any A0 A1 A3 c0 c1 c3 l0 l1 l3 _ (R0.out.on hB) (R1.out.on hB) (R3.out.on hB) m0 m1 m3).mono ?_); rintro e w2 ⟨rfl, h'⟩; rw [X01.out]; replace hB := on hB h'; clear h') | ((with_reducible refine (compareT_any A1 A0 A3 c1 c0 c3 l1 l0 l3 _ (R1.out.on hB) (R0.out.on hB) (R3.out.on hB) m1 m0 m3).mono ?_); rintro e w2 ⟨rfl, h'⟩; rw [X10.out]; replace hB := on hB h'; clear h') | ((with_reducible refine (compareT_any A1 A2 A3 c1 c2 c3 l1 l2 l3 _ (R1.out.on hB) (R2.out.on hB) (R3.out.on hB) m1 m2 m3).mono ?_); rintro e w2 ⟨rfl, h'⟩; rw [X12.out]; replace hB := on hB h'; clear h') | ((with_reducible refine (compareT_any A0 A2 A3 c0 c2 c3 l0 l2 l3 _ (R0.out.on hB) (R2.out.on hB) (R3.out.on hB) m0 m2 m3).mono ?_); rintro e w2 ⟨rfl, h'⟩; rw [X02.out]; replace hB := on hB h'; clear h')))
    go_ret
    exact ⟨rfl, hB⟩
theorem walk (A0 : Option Addr) (c0 : Nat) (l0 : List V) (A1 : Option Addr) (c1 : Nat) (l1 : List V) (A2 : Option Addr) (c2 : Nat) (l2 : List V) (A3 : Option Addr) (c3 : Nat) (l3 : List Int) (w : World) (r0 : RdV w A0 l0) (k0 : OkL l0) (m0 : l0.length ≤ maxLen) (r1 : RdV w A1 l1) (k1 : OkL l1) (m1 : l1.length ≤ maxLen) (r2 : RdV w A2 l2) (k2 : OkL l2) (m2 : l2.length ≤ maxLen) (r3 : RdI w A3 l3) (q3 : l3.length ≤ c3) (m3 : l3.length ≤ maxLen) (z3 : A3 = none → c3 = 0) :
    Calls Try.prog 5 #[.slice A0 l0.length c0, .slice A1 l1.length c1, .slice A2 l2.length c2, .slice A3 l3.length c3] w fun e w' => e = .returned (.bool true) ∧ Below w.heap.size w w' := by
  by_cases h : l3.length ≤ 40 ∧ l0.length = l3.length ∧ l1.length = l3.length ∧ l2.length = l3.length ∧ permB l3 = true
  · exact walk_yes A0 A1 A2 A3 c0 c1 c2 c3 l0 l1 l2 l3 w r0 r1 r2 r3 m0 m1 m2 m3 h.1 h.2.1 h.2.2.1 h.2.2.2.1 h.2.2.2.2
  · refine walk_no A0 A1 A2 A3 c0 c1 c2 c3 l0 l1 l2 l3 w r3 ?_
    cases hb : permB l3 <;> simp [hb] at h ⊢ <;> omega

theorem own : ownKnob Try.prog.godebug = none := by kernel_rfl

set_option maxRecDepth 100000 in
theorem lifted (os : Os) (started : os.Started) (H : Type) (enc : TypeId × Value → H) :
    ReturnsInHanded {} Try.checked os 5 .any (Rows.tupleOrderSpec.pre6 enc Try.prog Try.f5 Rows.tupleOrderRow.domain false) (Rows.tupleOrderSpec.post enc Try.prog Try.f5 false true false false) := by
  refine returnsInHanded_of_change (C := Try.checked) own started (by kernel_rfl) Try.func5
    (ChangeSpec.witness6 (enc := enc) (C := Try.checked) false ⟨#[], #[.slice none 0 0, .slice none 0 0, .slice none 0 0, .slice none 0 0], []⟩ 8 (by kernel_rfl) (by kernel_rfl) (by kernel_rfl) (by kernel_rfl)) ?_
  intro W base args ds gs before hval0 hW hcnd _
  have hval : ∀ (j : Nat) t v, Try.f5.params[j]? = some t → args[j]? = some v → Value.okWide Try.prog W .any base t v := hval0
  have hW' := hW
  obtain ⟨p, q, hA0, hV, rfl, hfz, hnd⟩ := hW
  have hA : DataW.TrodAll enc Try.prog W 0 (fun _ => true) true Try.f5.params.toList args.toList ds p := hA0
  have hAk := hA
  rw [Try.params5] at hA hval
  obtain ⟨v0, vs0, d0, ds0, p0, q0, hargs, rfl, rfl, h0, r0⟩ := trodAll_cons hA
  obtain ⟨v1, vs1, d1, ds1, p1, q1, rfl, rfl, rfl, h1, r1⟩ := trodAll_cons r0
  obtain ⟨v2, vs2, d2, ds2, p2, q2, rfl, rfl, rfl, h2, r2⟩ := trodAll_cons r1
  obtain ⟨v3, vs3, d3, ds3, p3, q3, rfl, rfl, rfl, h3, r3⟩ := trodAll_cons r2
  obtain ⟨rfl, rfl, rfl⟩ := trodAll_nil r3
  obtain rfl : args = #[v0, v1, v2, v3] := by cases args; simp_all
  obtain ⟨rfl, rfl⟩ := trodVars_none hV
  obtain ⟨A0, c0, l0, rfl, r0', k0', m0'⟩ := open_vals (okWide_slice Try.underlying22 (hval 0 22 v0 rfl rfl)) h0
  obtain ⟨A1, c1, l1, rfl, r1', k1', m1'⟩ := open_vals (okWide_slice Try.underlying22 (hval 1 22 v1 rfl rfl)) h1
  obtain ⟨A2, c2, l2, rfl, r2', k2', m2'⟩ := open_vals (okWide_slice Try.underlying22 (hval 2 22 v2 rfl rfl)) h2
  obtain ⟨A3, c3, l3, rfl, r3', q3', m3', z3'⟩ := open_nums (okWide_slice Try.underlying23 (hval 3 23 v3 rfl rfl)) h3
  clear hA0 hval0
  refine (walk A0 c0 l0 A1 c1 l1 A2 c2 l2 A3 c3 l3 W r0' k0' m0' r1' k1' m1' r2' k2' m2' r3' q3' m3' z3').mono fun e W' ⟨he, hg⟩ => ?_
  subst he
  refine ⟨_, rfl, post_old hW' (by simpa using hAk) (by rw [Try.params5]; decide) (fun _ _ _ => (trodAll_cons_mk (shut_bool Try.underlying4 _) trodAll_mk0)) rfl (fun _ => rfl) hg⟩

theorem proved : Rows.TupleOrderSaid :=
  OpenClaim.holds_of_wide 5 Try.f5 rfl rfl rfl rfl rfl rfl rfl ⟨rfl, rfl, rfl, rfl, rfl⟩ rfl rfl rfl rfl rfl (by kernel_rfl) Try.func5 (by kernel_rfl)
    (of_decide_eq_true (by kernel_rfl)) (by unfold Func.isWrapper; first | (rw [if_pos (by decide +kernel)]; kernel_rfl) | (rw [if_neg (by decide +kernel)]; exact ⟨rfl, rfl⟩))
    (fun os started H enc _ => lifted os started H enc)
#print axioms proved
end Go.Proofs.Ytkdiaagfjhlphaa.tupleOrder

/-
  Contracts of tuple.Same, and of the statements' own 'ints'.
-/
import Derived.Test.YtkdiaagfjhlphaaTupMem
import Derived.Test.YtkdiaagfjhlphaaValOrd
import Derived.Deep.QuietTactic
import Derived.BigQuiet
namespace Go.Proofs.Ytkdiaagfjhlphaa
open Go.RowKit FloM ValM
set_option linter.unusedVariables false
instance : DecidableEq V := fun a b => by
  cases a; cases b; simp only [V.mk.injEq]; exact inferInstance
def EqRel {α : Type} (a b : List α) (w : World) (i : Value) (wr : World) : Prop := ∃ k : Nat, i = .int .i64 (k : Nat) ∧ k ≤ a.length ∧ Below w.heap.size w wr ∧ a.take k = b.take k
theorem bel_draws {B : Nat} {a w : World} (h : Below B a w) (n : Nat) : Below B a (w.drewN n) := ⟨h.os, h.tape, h.output, h.size, h.block⟩
theorem eq_unlike {α : Type} {a b : List α} {k : Nat} {x y : α} (hx : a[k]? = some x) (hy : b[k]? = some y) (h : x ≠ y) : ¬ a = b := by
  rintro rfl; rw [hx] at hy; injection hy with hy; exact h hy
theorem eq_alike {α : Type} {a b : List α} {k : Nat} {x : α} (hx : a[k]? = some x) (hy : b[k]? = some x) (h : a.take k = b.take k) : a.take (k + 1) = b.take (k + 1) := by rw [take_snoc' hx, take_snoc' hy, h]
theorem eq_all {α : Type} {a b : List α} {k : Nat} (hk : a.length ≤ k) (hl : a.length = b.length) (h : a.take k = b.take k) : a = b := by
  rwa [List.take_of_length_le hk, List.take_of_length_le (by omega)] at h
set_option maxHeartbeats 2000000 in
theorem equal_any (A B : Option Addr) (ca cb : Nat) (a b : List V) (w : World) (ha : RdV w A a) (hb : RdV w B b) (la : a.length ≤ maxLen) (lb : b.length ≤ maxLen) :
    Calls Try.prog 35 #[.slice A a.length ca, .slice B b.length cb] w fun e w' => e = .returned (.bool (decide (a = b))) ∧ Below w.heap.size w w' := by
  unfold maxLen at la lb
  have HA := Lib.hid ha; clear ha
  have HB := Lib.hid hb; clear hb
  by_cases hl : a.length = b.length
  · have hl1 : ((a.length : Int) != (b.length : Int)) = false := by simp [hl]
    have HL := Lib.hid hl; clear hl
    go_enter Try.func35, Try.ntmps35
    go_wp2
    go_loopw [13] (fun i wr => EqRel a b w i wr) (fun i _ => a.length - (intOf i).toNat)
    case atStart => exact ⟨0, rfl, Nat.zero_le _, Below.refl _ _, rfl⟩
    case round =>
      obtain ⟨k, rfl, hk, hB, he⟩ := hrel
      have HE := Lib.hid he; clear he
      by_cases hlt : k < a.length
      · have hltb : k < b.length := by have := HL.out; omega
        have hx := List.getElem?_eq_getElem hlt
        have hy := List.getElem?_eq_getElem hltb
        obtain ⟨ab, ao, rfl, hal, a0, a1, a2⟩ := (HA.out.on hB) k _ hx
        obtain ⟨bb, bo, rfl, hbl, b0, b1, b2⟩ := (HB.out.on hB) k _ hy
        have HX := Lib.hid hx; clear hx
        have HY := Lib.hid hy; clear hy
        generalize a[k] = va at HX a0 a1 a2
        generalize b[k] = vb at HY b0 b1 b2
        obtain ⟨ka, na, sa⟩ := va
        obtain ⟨kb, nb, sb⟩ := vb
        simp only at a0 a1 a2 b0 b1 b2
        by_cases h1 : ka = kb
        · subst h1
          by_cases h2 : na = nb
          · subst h2
            by_cases h3 : sa = sb
            · subst h3
              go_wp2_with fail
              go_quiet (fail)
              all_goals
                go_wp2
                go_roundw
                case rel => exact ⟨k + 1, by go_num, by omega, bel_draws hB _, eq_alike HX.out HY.out HE.out⟩
                case measure => simp [intOf]; omega
            · have HU := Lib.hid (eq_unlike HX.out HY.out (by simpa using h3))
              have h3' : (sa.toList == sb.toList) = false := by rw [str_eq]; simpa using h3
              clear h3
              go_wp2_with fail
              go_quiet (fail)
              all_goals
                go_wp2
                go_ret
                exact ⟨ret_bool (by simp [HU.out]), bel_draws hB _⟩
          · have HU := Lib.hid (eq_unlike HX.out HY.out (by simp [h2]))
            have h2' : (na == nb) = false := by simpa using h2
            clear h2
            go_wp2_with fail
            go_quiet (fail)
            all_goals
              go_wp2
              go_ret
              exact ⟨ret_bool (by simp [HU.out]), bel_draws hB _⟩
        · have HU := Lib.hid (eq_unlike HX.out HY.out (by simp [h1]))
          have h1' : (ka == kb) = false := by simpa using h1
          clear h1
          go_wp2_with fail
          go_quiet (fail)
          all_goals
            go_wp2
            go_ret
            exact ⟨ret_bool (by simp [HU.out]), bel_draws hB _⟩
      · go_wp2
        go_ret
        exact ⟨ret_bool (by simp [eq_all (by omega) HL.out HE.out]), hB⟩
  · have hl1 : ((a.length : Int) != (b.length : Int)) = true := by simp; omega
    have HD : decide (a = b) = false := by simp; intro e; exact hl (by rw [e])
    have HD' := Lib.hid HD; clear HD hl
    go_enter Try.func35, Try.ntmps35
    go_wp2
    go_ret
    exact ⟨ret_bool (by rw [HD'.out]), Below.refl _ _⟩

set_option maxHeartbeats 1000000 in
theorem same_any (A B : Option Addr) (ca cb : Nat) (a b : List V) (w : World) (ha : RdV w A a) (hb : RdV w B b) (la : a.length ≤ maxLen) (lb : b.length ≤ maxLen) :
    Calls Try.prog 21 #[.slice A a.length ca, .slice B b.length cb] w fun e w' => e = .returned (.bool (decide (a = b))) ∧ Below w.heap.size w w' := by
  have HA := Lib.hid ha; clear ha
  have HB := Lib.hid hb; clear hb
  go_enter Try.func21, Try.ntmps21
  go_wp2_with (go_at_call 35; refine (equal_any _ _ _ _ _ _ _ HA.out HB.out la lb).mono ?_; rintro e w1 ⟨rfl, h1⟩)
  go_ret
  exact ⟨rfl, h1⟩

/-! ### ints -/
set_option maxHeartbeats 2000000 in
theorem ints_any (A B : Option Addr) (ca cb : Nat) (a b : List Int) (w : World) (ha : RdI w A a) (hb : RdI w B b) (la : a.length ≤ 1000) (lb : b.length ≤ 1000) :
    Calls Try.prog 13 #[.slice A a.length ca, .slice B b.length cb] w fun e w' => e = .returned (.bool (decide (a = b))) ∧ Below w.heap.size w w' := by
  have HA := Lib.hid ha; clear ha
  have HB := Lib.hid hb; clear hb
  by_cases hl : a.length = b.length
  · have hl1 : ((a.length : Int) != (b.length : Int)) = false := by simp [hl]
    have HL := Lib.hid hl; clear hl
    go_enter Try.func13, Try.ntmps13
    go_wp2
    go_loopw [13] (fun i wr => EqRel a b w i wr) (fun i _ => a.length - (intOf i).toNat)
    case atStart => exact ⟨0, rfl, Nat.zero_le _, Below.refl _ _, rfl⟩
    case round =>
      obtain ⟨k, rfl, hk, hB, he⟩ := hrel
      have HE := Lib.hid he; clear he
      by_cases hlt : k < a.length
      · have hltb : k < b.length := by have := HL.out; omega
        have hx := List.getElem?_eq_getElem hlt
        have hy := List.getElem?_eq_getElem hltb
        obtain ⟨ab, ao, rfl, hal, a0⟩ := (HA.out.on hB) k _ hx
        obtain ⟨bb, bo, rfl, hbl, b0⟩ := (HB.out.on hB) k _ hy
        have HX := Lib.hid hx; clear hx
        have HY := Lib.hid hy; clear hy
        generalize a[k] = va at HX a0
        generalize b[k] = vb at HY b0
        by_cases h1 : va = vb
        · subst h1
          go_wp2_with fail
          go_quiet (fail)
          all_goals
            go_wp2
            go_roundw
            case rel => exact ⟨k + 1, by go_num, by omega, bel_draws hB _, eq_alike HX.out HY.out HE.out⟩
            case measure => simp [intOf]; omega
        · have HU := Lib.hid (eq_unlike HX.out HY.out h1)
          have h1' : (va != vb) = true := by simpa using h1
          clear h1
          go_wp2_with fail
          go_quiet (fail)
          all_goals
            go_wp2
            go_ret
            exact ⟨ret_bool (by simp [HU.out]), bel_draws hB _⟩
      · go_wp2
        go_ret
        exact ⟨ret_bool (by simp [eq_all (by omega) HL.out HE.out]), hB⟩
  · have hl1 : ((a.length : Int) != (b.length : Int)) = true := by simp; omega
    have HD : decide (a = b) = false := by simp; intro e; exact hl (by rw [e])
    have HD' := Lib.hid HD; clear HD hl
    go_enter Try.func13, Try.ntmps13
    go_wp2
    go_ret
    exact ⟨ret_bool (by rw [HD'.out]), Below.refl _ _⟩
end Go.Proofs.Ytkdiaagfjhlphaa

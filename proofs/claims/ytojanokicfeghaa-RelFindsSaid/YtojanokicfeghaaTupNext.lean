/-
  Contracts of tuple.has and tuple.next.
-/
import Derived.Test.YtojanokicfeghaaTupMem
namespace Go.Proofs.Ytojanokicfeghaa
open Go.RowKit FloM ValM

set_option maxHeartbeats 1000000 in
theorem has_any (n : Nat) (c : Int) (w : World) : Calls Try.prog 74 #[.int .i64 (n : Int), .int .i64 c] w fun e w' => e = .returned (.bool (inR n c)) ∧ w = w' := by
  go_enter Try.func74, Try.ntmps74
  go_wp2
  all_goals
    go_ret
    exact ⟨ret_bool (by simp_all [inR] <;> omega), rfl⟩

def NextRel (size : Nat) (p : List Int) (place : Nat) (v : Value) : Prop := ∃ k : Nat, v = .int .i64 (k : Nat) ∧ place ≤ k ∧ k ≤ p.length ∧ nextL size p place = nextL size p k
set_option maxHeartbeats 1000000 in
theorem next_any (size : Nat) (A : Option Addr) (c : Nat) (p : List Int) (place : Nat) (w : World) (hp : RdI w A p) (hl : p.length ≤ maxLen) (h0 : place ≤ p.length) :
    Calls Try.prog 81 #[.int .i64 (size : Int), .slice A p.length c, .int .i64 (place : Int)] w fun e w' => e = .returned (.int .i64 (nextL size p place : Nat)) ∧ w = w' := by
  unfold maxLen at hl
  have HP := Lib.hid hp; clear hp
  go_enter Try.func81, Try.ntmps81
  go_wp2
  go_loop [2] (fun v => NextRel size p place v) (fun v => p.length - (intOf v).toNat)
  case atStart => exact ⟨place, rfl, Nat.le_refl _, h0, rfl⟩
  case round =>
    obtain ⟨k, rfl, hk0, hk, hn⟩ := hrel
    have HN := Lib.hid hn; clear hn
    by_cases hlt : k < p.length
    · have hx := List.getElem?_eq_getElem hlt
      obtain ⟨b, o, rfl, hb, hc⟩ := HP.out k _ hx
      have HX := Lib.hid hx; clear hx
      generalize p[k] = x at HX hc
      cases hr : inR size x with
      | true =>
        have HR := Lib.hid hr
        go_wp2_with (go_at_call 74; refine (has_any _ _ _).mono ?_; rintro e w' ⟨rfl, rfl⟩)
        go_ret
        exact ⟨ret_int (by rw [HN.out, nextL_stop HX.out HR.out]), rfl⟩
      | false =>
        have HR := Lib.hid hr
        go_wp2_with (go_at_call 74; refine (has_any _ _ _).mono ?_; rintro e w' ⟨rfl, rfl⟩)
        go_round
        case rel => exact ⟨k + 1, by go_num, by omega, by omega, by rw [HN.out, nextL_skip HX.out HR.out]⟩
        case measure => simp [intOf]; omega
    · go_wp2
      go_ret
      exact ⟨ret_int (by rw [HN.out, nextL_end (by omega)]), rfl⟩
theorem next_succ (size : Nat) (A : Option Addr) (c : Nat) (p : List Int) (x : Nat) (w : World) (hp : RdI w A p) (hl : p.length ≤ maxLen) (h0 : x < p.length) :
    Calls Try.prog 81 #[.int .i64 (size : Int), .slice A p.length c, .int .i64 ((x : Int) + 1)] w fun e w' => e = .returned (.int .i64 (nextL size p (x + 1) : Nat)) ∧ w = w' := by
  have := next_any size A c p (x + 1) w hp hl h0
  rwa [Int.natCast_add] at this
end Go.Proofs.Ytojanokicfeghaa

/-
  Contracts of tuple.Perm and tuple.Inverse.
-/
import Derived.Test.YtpmkhpbhimmeiaaGreatTupMem
import Derived.Test.YtpmkhpbhimmeiaaGreatTupOwn
import Derived.Laws.MakeOwn
import Derived.Deep.OwnRows
namespace Go.Proofs.YtpmkhpbhimmeiaaGreat
open Go.RowKit FloM ValM
set_option linter.unusedVariables false

theorem info_bool : (Tryz.prog.info? 4).map (fun i => (i.zero, i.size, i.bytes)) = some (some (.bool false), 1, 1) := by kernel_rfl
def seenF (p : List Int) (k : Nat) : Nat → Value := fun j => .bool (decide ((j : Int) ∈ p.take k))
def PermRel (w : World) (p : List Int) (i : Value) (wr : World) : Prop := ∃ k : Nat, i = .int .i64 (k : Nat) ∧ k ≤ p.length ∧ Below w.heap.size w wr ∧ wr.rowIs w.heap.size 4 p.length (seenF p k) ∧ PermPre p k
def SaysBool (b : Bool) (w : World) (e : Ending) (w' : World) : Prop := e = .returned (.bool b) ∧ Below w.heap.size w w'
set_option maxHeartbeats 1000000 in
theorem perm_any (A : Option Addr) (c : Nat) (p : List Int) (w : World) (hp : RdI w A p) (hl : p.length ≤ 1000) :
    Calls Tryz.prog 78 #[.slice A p.length c] w (SaysBool (permB p) w) := by
  have HP := Lib.hid hp; clear hp
  have hmk := fun W => run_make_row' (P := Tryz.prog) 147 4 (.bool false) 1 Tryz.underlying147 info_bool rfl .i64 .i64 p.length (by omega) (by omega) W
  go_enter Tryz.func78, Tryz.ntmps78
  go_wp2
  go_loopw [11] (fun i wr => PermRel w p i wr) (fun i _ => p.length - (intOf i).toNat)
  case atStart =>
    refine ⟨0, rfl, Nat.zero_le _, (Below.refl _ _).alloc (Nat.le_refl _) _, ?_, by simp [PermPre]⟩
    have := World.rowIs_made w (.bool false) p.length 4
    exact this.congr fun i _ => by simp [seenF]
  case round =>
    obtain ⟨k, rfl, hk, hB, hrow, hpre⟩ := hrel
    have HPre := Lib.hid hpre; clear hpre
    have HRow := Lib.hid hrow; clear hrow hmk
    by_cases hlt : k < p.length
    · have hx := List.getElem?_eq_getElem hlt
      obtain ⟨b, o, rfl, hb, hc⟩ := (HP.out.on hB) k _ hx
      have HX := Lib.hid hx; clear hx
      generalize p[k] = x at HX hc
      cases hr : inR p.length x with
      | false =>
        have HR := Lib.hid hr
        go_wp2_with (go_at_call 90; refine (has_any _ _ _).mono ?_; rintro e w' ⟨rfl, rfl⟩)
        go_ret
        exact ⟨ret_bool (by rw [perm_out HX.out HR.out]), hB⟩
      | true =>
        obtain ⟨m, rfl⟩ := Int.eq_ofNat_of_zero_le (inR_iff.1 hr).1
        have hm : m < p.length := by have := (inR_iff.1 hr).2; omega
        have HR := Lib.hid hr
        have hcell := HRow.out.cell hm
        have hfro := HRow.out.frozen m
        by_cases hin : (m : Int) ∈ p.take k
        · have hv : seenF p k m = .bool true := by simp [seenF, hin]
          rw [hv] at hcell
          have HIn := Lib.hid hin; clear hin hv
          go_wp2_with (go_at_call 90; refine (has_any _ _ _).mono ?_; rintro e w' ⟨rfl, rfl⟩)
          go_ret
          exact ⟨ret_bool (by rw [perm_twice HX.out HIn.out]), hB⟩
        · have hv : seenF p k m = .bool false := by simp [seenF, hin]
          rw [hv] at hcell
          have HIn := Lib.hid hin; clear hin hv
          go_wp2_with (go_at_call 90; refine (has_any _ _ _).mono ?_; rintro e w' ⟨rfl, rfl⟩)
          go_roundw
          case rel =>
            refine ⟨k + 1, by go_num, by omega, hB.setCell (by simp) _, ?_, permPre_succ HX.out HR.out HIn.out HPre.out⟩
            have := HRow.out.set m (.bool true)
            exact this.congr fun i _ => by
              simp only [seenF]
              rw [take_snoc' HX.out]
              by_cases e : i = m
              · subst e; simp
              · have : ¬ (i : Int) = (m : Int) := by omega
                simp [e, this]
          case measure => simp [intOf]; omega
    · go_wp2
      go_ret
      exact ⟨ret_bool (by rw [perm_all (by omega) HPre.out]), hB⟩

end Go.Proofs.YtpmkhpbhimmeiaaGreat

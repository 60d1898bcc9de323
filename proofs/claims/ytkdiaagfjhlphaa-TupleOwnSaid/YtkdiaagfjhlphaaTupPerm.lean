/-
  Contracts of tuple.Perm and tuple.Inverse.
-/
import Derived.Test.YtkdiaagfjhlphaaTupNext
import Derived.Test.YtkdiaagfjhlphaaTupOwn
import Derived.Laws.MakeOwn
import Derived.Deep.OwnRows
namespace Go.Proofs.Ytkdiaagfjhlphaa
open Go.RowKit FloM ValM
set_option linter.unusedVariables false

theorem info_bool : (Try.prog.info? 4).map (fun i => (i.zero, i.size, i.bytes)) = some (some (.bool false), 1, 1) := by kernel_rfl
def seenF (p : List Int) (k : Nat) : Nat → Value := fun j => .bool (decide ((j : Int) ∈ p.take k))
def PermRel (w : World) (p : List Int) (i : Value) (wr : World) : Prop := ∃ k : Nat, i = .int .i64 (k : Nat) ∧ k ≤ p.length ∧ Below w.heap.size w wr ∧ wr.rowIs w.heap.size 4 p.length (seenF p k) ∧ PermPre p k
def SaysBool (b : Bool) (w : World) (e : Ending) (w' : World) : Prop := e = .returned (.bool b) ∧ Below w.heap.size w w'
set_option maxHeartbeats 1000000 in
theorem perm_any (A : Option Addr) (c : Nat) (p : List Int) (w : World) (hp : RdI w A p) (hl : p.length ≤ 1000) :
    Calls Try.prog 11 #[.slice A p.length c] w (SaysBool (permB p) w) := by
  have HP := Lib.hid hp; clear hp
  have hmk := fun W => run_make_row' (P := Try.prog) 42 4 (.bool false) 1 Try.underlying42 info_bool rfl .i64 .i64 p.length (by omega) (by omega) W
  go_enter Try.func11, Try.ntmps11
  go_wp2
  go_loopw [11] (fun i wr => PermRel w p i wr) (fun i _ => p.length - (intOf i).toNat)
  case atStart =>
    refine ⟨0, rfl, Nat.zero_le _, (Below.refl _ _).alloc (Nat.le_refl _) _, ?_, by simp [PermPre]⟩
    have := World.rowIs_made w (.bool false) p.length 4
    exact this.congr fun i _ => by simp [seenF]
  case round =>
    obtain ⟨k, rfl, hk, hB, hrow, hpre⟩ := hrel
    have HPre := Lib.hid hpre; clear hpre
    have HRow := Lib.hid hrow; clear hrow hmk
    by_cases hlt : k < p.length
    · have hx := List.getElem?_eq_getElem hlt
      obtain ⟨b, o, rfl, hb, hc⟩ := (HP.out.on hB) k _ hx
      have HX := Lib.hid hx; clear hx
      generalize p[k] = x at HX hc
      cases hr : inR p.length x with
      | false =>
        have HR := Lib.hid hr
        go_wp2_with (go_at_call 25; refine (has_any _ _ _).mono ?_; rintro e w' ⟨rfl, rfl⟩)
        go_ret
        exact ⟨ret_bool (by rw [perm_out HX.out HR.out]), hB⟩
      | true =>
        obtain ⟨m, rfl⟩ := Int.eq_ofNat_of_zero_le (inR_iff.1 hr).1
        have hm : m < p.length := by have := (inR_iff.1 hr).2; omega
        have HR := Lib.hid hr
        have hcell := HRow.out.cell hm
        have hfro := HRow.out.frozen m
        by_cases hin : (m : Int) ∈ p.take k
        · have hv : seenF p k m = .bool true := by simp [seenF, hin]
          rw [hv] at hcell
          have HIn := Lib.hid hin; clear hin hv
          go_wp2_with (go_at_call 25; refine (has_any _ _ _).mono ?_; rintro e w' ⟨rfl, rfl⟩)
          go_ret
          exact ⟨ret_bool (by rw [perm_twice HX.out HIn.out]), hB⟩
        · have hv : seenF p k m = .bool false := by simp [seenF, hin]
          rw [hv] at hcell
          have HIn := Lib.hid hin; clear hin hv
          go_wp2_with (go_at_call 25; refine (has_any _ _ _).mono ?_; rintro e w' ⟨rfl, rfl⟩)
          go_roundw
          case rel =>
            refine ⟨k + 1, by go_num, by omega, hB.setCell (by simp) _, ?_, permPre_succ HX.out HR.out HIn.out HPre.out⟩
            have := HRow.out.set m (.bool true)
            exact this.congr fun i _ => by
              simp only [seenF]
              rw [take_snoc' HX.out]
              by_cases e : i = m
              · subst e; simp
              · have : ¬ (i : Int) = (m : Int) := by omega
                simp [e, this]
          case measure => simp [intOf]; omega
    · go_wp2
      go_ret
      exact ⟨ret_bool (by rw [perm_all (by omega) HPre.out]), hB⟩

/-! ### Inverse -/
def invF (p : List Int) (k : Nat) : Nat → Value := fun j => .int .i64 (if (j : Int) ∈ p.take k then idxI p j else 0)
def InvRel (w w1 : World) (p : List Int) (i : Value) (wr : World) : Prop := ∃ k : Nat, i = .int .i64 (k : Nat) ∧ k ≤ p.length ∧ Below w.heap.size w wr ∧ wr.rowIs w1.heap.size 3 p.length (invF p k)
theorem rdI_row {w : World} {g n : Nat} {f : Nat → Value} {l : List Int} (h : w.rowIs g 3 n f) (hl : ∀ i x, l[i]? = some x → i < n ∧ f i = .int .i64 x) : RdI w (some ⟨g, 0, none⟩) l := fun i x hx => by
  obtain ⟨h1, h2⟩ := hl i x hx
  exact ⟨g, 0, rfl, h.lt, by rw [Nat.zero_add, h.cell h1, h2]⟩
set_option maxHeartbeats 1000000 in
theorem inverse_any (A : Option Addr) (c : Nat) (p : List Int) (w : World) (hp : RdI w A p) (hl : p.length ≤ 1000) :
    Calls Try.prog 14 #[.slice A p.length c] w (SaysL (invL p) w) := by
  have HP := Lib.hid hp; clear hp
  have hmk := fun W => run_make_row' (P := Try.prog) 23 3 (.int .i64 0) 8 Try.underlying23 info_int rfl .i64 .i64 p.length (by omega) (by omega) W
  cases hperm : permB p with
  | false =>
    have HI := Lib.hid (show invL p = [] by unfold invL; rw [hperm]; rfl)
    go_enter Try.func14, Try.ntmps14
    go_wp2_with (go_at_call 11; refine (perm_any _ _ _ _ HP.out hl).mono ?_; rintro e w1 ⟨rfl, h1⟩)
    go_ret
    exact ⟨none, 0, by rw [HI.out]; rfl, by rw [HI.out]; exact RdI.nil, h1⟩
  | true =>
    have HI := Lib.hid (show invL p = (List.range p.length).map (idxI p) by unfold invL; rw [hperm]; rfl)
    have HPerm := Lib.hid (perm_iff.1 hperm)
    have HPB := Lib.hid hperm
    go_enter Try.func14, Try.ntmps14
    go_wp2_with (go_at_call 11; refine (perm_any _ _ _ _ HP.out hl).mono ?_; rintro e w1 ⟨rfl, h1⟩)
    go_loopw [14] (fun i wr => InvRel w w1 p i wr) (fun i _ => p.length - (intOf i).toNat)
    case atStart =>
      refine ⟨0, rfl, Nat.zero_le _, h1.alloc h1.size _, ?_⟩
      have := World.rowIs_made w1 (.int .i64 0) p.length 3
      exact this.congr fun i _ => by simp [invF]
    case round =>
      obtain ⟨k, rfl, hk, hB, hrow⟩ := hrel
      have HRow := Lib.hid hrow; clear hrow hmk
      by_cases hlt : k < p.length
      · have hx := List.getElem?_eq_getElem hlt
        obtain ⟨b, o, rfl, hb, hc⟩ := (HP.out.on hB) k _ hx
        have HX := Lib.hid hx; clear hx
        generalize p[k] = x at HX hc
        have hr := HPerm.out.1 x (List.mem_of_getElem? HX.out)
        obtain ⟨m, rfl⟩ := Int.eq_ofNat_of_zero_le (inR_iff.1 hr).1
        have hm : m < p.length := by have := (inR_iff.1 hr).2; omega
        clear hr
        have hcell := HRow.out.cell hm
        have hfro := HRow.out.frozen m
        have hv : invF p k m = .int .i64 (if (m : Int) ∈ p.take k then idxI p m else 0) := rfl
        rw [hv] at hcell
        generalize (if (m : Int) ∈ p.take k then idxI p m else 0) = old at hcell
        clear hv
        go_wp2
        go_roundw
        case rel =>
          refine ⟨k + 1, by go_num, by omega, hB.setCell h1.size _, ?_⟩
          have := HRow.out.set m (.int .i64 k)
          exact this.congr fun i _ => by
            simp only [invF]
            rw [take_snoc' HX.out]
            by_cases e : i = m
            · subst e; simp [idxI, idxOf_at HPerm.out.2 HX.out]
            · have : ¬ (i : Int) = (m : Int) := by omega
              simp [e, this]
        case measure => simp [intOf]; omega
      · have hke : k = p.length := by omega
        subst hke
        have HIL := Lib.hid (show (invL p).length = p.length by rw [HI.out, List.length_map, List.length_range])
        go_wp2
        go_ret
        refine ⟨some ⟨w1.heap.size, 0, none⟩, p.length, by rw [HIL.out]; rfl, rdI_row HRow.out fun i x hx => ?_, hB⟩
        rw [HI.out, List.getElem?_map, Option.map_eq_some_iff] at hx
        obtain ⟨j, hj, rfl⟩ := hx
        obtain ⟨hlj, hj⟩ := List.getElem?_eq_some_iff.1 hj
        rw [List.getElem_range] at hj; subst hj
        rw [List.length_range] at hlj
        exact ⟨hlj, by simp only [invF]; rw [if_pos (by rw [List.take_length]; exact perm_mem HPB.out hlj)]⟩
end Go.Proofs.Ytkdiaagfjhlphaa

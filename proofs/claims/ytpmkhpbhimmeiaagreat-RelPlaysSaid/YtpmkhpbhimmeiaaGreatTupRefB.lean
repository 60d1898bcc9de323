/-
  Contracts of antecedentref03.at and Perm. (Cut out of TupRefB, for seats whose program has no Inverse and no Text.)
-/
import Derived.Test.YtpmkhpbhimmeiaaGreatTupOwn
import Derived.Test.YtpmkhpbhimmeiaaGreatTupPerm
namespace Go.Proofs.YtpmkhpbhimmeiaaGreat
open Go.RowKit FloM ValM
set_option linter.unusedVariables false

/-! ### at -/
def atL (p : List Int) (x : Int) : Int := if x ∈ p then ((p.idxOf x : Nat) : Int) else -1
theorem at_here {p : List Int} {k : Nat} {x : Int} (h : p[k]? = some x) (hn : x ∉ p.take k) : atL p x = k := by
  unfold atL
  rw [if_pos (List.mem_of_getElem? h)]
  have e := split_take h
  have hl : (p.take k).length = k := by rw [List.length_take]; have := (List.getElem?_eq_some_iff.1 h).1; omega
  conv => lhs; rw [e]
  rw [List.idxOf_append, if_neg hn, List.idxOf_cons_self, hl]; simp
theorem at_nowhere {p : List Int} {k : Nat} {x : Int} (hk : p.length ≤ k) (hn : x ∉ p.take k) : atL p x = -1 := by
  rw [List.take_of_length_le hk] at hn; unfold atL; rw [if_neg hn]
def AtRel (p : List Int) (x : Int) (i : Value) : Prop := ∃ k : Nat, i = .int .i64 (k : Nat) ∧ k ≤ p.length ∧ x ∉ p.take k
set_option maxHeartbeats 1000000 in
theorem at_any (A : Option Addr) (c : Nat) (p : List Int) (x : Int) (w : World) (hp : RdI w A p) (hl : p.length ≤ 1000) :
    Calls Tryz.prog 63 #[.slice A p.length c, .int .i64 x] w fun e w' => e = .returned (.int .i64 (atL p x)) ∧ w = w' := by
  have HP := Lib.hid hp; clear hp
  go_enter Tryz.func63, Tryz.ntmps63
  go_wp2
  go_loop [8] (fun i => AtRel p x i) (fun i => p.length - (intOf i).toNat)
  case atStart => exact ⟨0, rfl, Nat.zero_le _, by simp⟩
  case round =>
    obtain ⟨k, rfl, hk, hn⟩ := hrel
    have HN := Lib.hid hn; clear hn
    by_cases hlt : k < p.length
    · have hx := List.getElem?_eq_getElem hlt
      obtain ⟨b, o, rfl, hb, hc⟩ := HP.out k _ hx
      have HX := Lib.hid hx; clear hx
      generalize p[k] = y at HX hc
      by_cases he : y = x
      · subst he
        go_wp2
        go_ret
        exact ⟨ret_int (by rw [at_here HX.out HN.out]), rfl⟩
      · have he' : (y == x) = false := by simpa using he
        have HU := Lib.hid he; clear he
        go_wp2
        go_round
        case rel => exact ⟨k + 1, by go_num, by omega, by rw [take_snoc' HX.out, List.mem_append, List.mem_singleton]; exact fun h => h.elim HN.out fun e => HU.out e.symm⟩
        case measure => simp [intOf]; omega
    · go_wp2
      go_ret
      exact ⟨ret_int (by rw [at_nowhere (by omega) HN.out]), rfl⟩

/-! ### Perm -/
theorem atL_neg {p : List Int} {x : Int} : atL p x < 0 ↔ x ∉ p := by
  unfold atL; split
  · rename_i h; constructor
    · intro h'; omega
    · intro h'; exact absurd h h'
  · rename_i h; exact ⟨fun _ => h, fun _ => by omega⟩
def RPermRel (p : List Int) (i : Value) : Prop := ∃ k : Nat, i = .int .i64 (k : Nat) ∧ k ≤ p.length ∧ ∀ j : Nat, j < k → (j : Int) ∈ p
set_option maxHeartbeats 1000000 in
theorem refPerm_any (A : Option Addr) (c : Nat) (p : List Int) (w : World) (hp : RdI w A p) (hl : p.length ≤ 1000) :
    Calls Tryz.prog 37 #[.slice A p.length c] w fun e w' => e = .returned (.bool (permB p)) ∧ w = w' := by
  have HP := Lib.hid hp; clear hp
  go_enter Tryz.func37, Tryz.ntmps37
  go_wp2
  go_loop [6] (fun i => RPermRel p i) (fun i => p.length - (intOf i).toNat)
  case atStart => exact ⟨0, rfl, Nat.zero_le _, fun j h => absurd h (by omega)⟩
  case round =>
    obtain ⟨k, rfl, hk, hn⟩ := hrel
    have HN := Lib.hid hn; clear hn
    by_cases hlt : k < p.length
    · by_cases hm : (k : Int) ∈ p
      · have ha : ¬ atL p k < 0 := fun h => atL_neg.1 h hm
        have HM := Lib.hid hm; clear hm
        go_wp2_with (go_at_call 63; refine (at_any _ _ _ _ _ HP.out hl).mono ?_; rintro e w' ⟨rfl, rfl⟩)
        go_round
        case rel =>
          refine ⟨k + 1, by go_num, by omega, fun j hj => ?_⟩
          rcases Nat.lt_succ_iff_lt_or_eq.1 hj with h | h
          · exact HN.out j h
          · subst h; exact HM.out
        case measure => simp [intOf]; omega
      · have ha : atL p k < 0 := atL_neg.2 hm
        have HF := Lib.hid (show permB p = false by
          cases h : permB p with
          | false => rfl
          | true => exact absurd (perm_mem h hlt) hm)
        clear hm
        go_wp2_with (go_at_call 63; refine (at_any _ _ _ _ _ HP.out hl).mono ?_; rintro e w' ⟨rfl, rfl⟩)
        go_ret
        exact ⟨ret_bool (by rw [HF.out]), rfl⟩
    · have HF := Lib.hid (show permB p = true from perm_has.2 fun x hx => by
        have hx' := inR_iff.1 hx
        have := HN.out x.toNat (by omega)
        rwa [show ((x.toNat : Nat) : Int) = x by omega] at this)
      go_wp2
      go_ret
      exact ⟨ret_bool (by rw [HF.out]), rfl⟩

end Go.Proofs.YtpmkhpbhimmeiaaGreat

/-
  The document's own words of layer 11: whether a name is among some; names that are alike.
-/
import Derived.Test.YtahljmddnfldlaaSafO
namespace Go.Proofs.Ytahljmddnfldlaa
open Go.RowKit FloM ValM Go.Shelf Go.Maps
set_option linter.unusedVariables false
set_option linter.unusedSimpArgs false
theorem bs_eq (a b : Nm) : ((bs a).toList == (bs b).toList) = decide (a = b) := by rw [bsl, bsl]; by_cases h : a = b <;> simp [h]
set_option maxRecDepth 20000 in
set_option maxHeartbeats 8000000 in
theorem in_any (A : Option Addr) (c : Nat) (l : List Nm) (s : Nm) (w : World) (h : RdN w A l) :
    Calls Try.prog 25 #[.slice A l.length c, .string (bs s)] w fun e w' => e = .returned (.bool (decide (s ∈ l))) ∧ w = w' := by
  have hm : l.length ≤ 9223372036854775807 := Nat.le_trans h.1 (by decide)
  have HH := Lib.hid h; clear h
  obtain ⟨R, hR⟩ : ∃ R, decide (s ∈ l) = R := ⟨_, rfl⟩
  rw [hR]
  have HR := Lib.hid hR; clear hR
  go_enter Try.func25, Try.ntmps25
  go_wp2
  go_loop [8] (fun i => ∃ k : Nat, i = .int .i64 (k : Nat) ∧ k ≤ l.length ∧ s ∉ l.take k) (fun i => l.length - (intOf i).toNat)
  case atStart => exact ⟨0, rfl, Nat.zero_le _, by simp⟩
  case round =>
    obtain ⟨k, rfl, hk, hn⟩ := hrel
    have HN := Lib.hid hn; clear hn
    by_cases hlt : k < l.length
    · obtain ⟨t, ht⟩ : ∃ t, l[k]? = some t := ⟨_, List.getElem?_eq_getElem hlt⟩
      obtain ⟨b, o, rfl, hb, hc⟩ := RdN.at_ HH.out ht
      have HT := Lib.hid ht; clear ht
      by_cases he : t = s
      · have f1 : ((bs t).toList == (bs s).toList) = true := by rw [bs_eq]; simp [he]
        have HRt : Hid (R = true) := Lib.hid (by rw [← HR.out]; simp only [decide_eq_true_eq]; rw [← he]; exact List.mem_of_getElem? HT.out)
        clear he
        go_wp2
        go_ret
        exact ⟨by rw [HRt.out]; rfl, rfl⟩
      · have f1 : ((bs t).toList == (bs s).toList) = false := by rw [bs_eq]; simp [he]
        have HE := Lib.hid he; clear he
        go_wp2
        go_round
        case rel => exact ⟨k + 1, by go_num, by omega, by rw [List.take_add_one, HT.out]; simp only [Option.toList_some, List.mem_append, List.mem_singleton, not_or]; exact ⟨HN.out, fun e => HE.out e.symm⟩⟩
        case measure => simp [intOf]; omega
    · obtain rfl : k = l.length := by omega
      have HRf : Hid (R = false) := Lib.hid (by have := HN.out; rw [List.take_length] at this; rw [← HR.out]; simp [this])
      go_wp2
      go_ret
      exact ⟨by rw [HRf.out]; rfl, rfl⟩
set_option maxRecDepth 20000 in
set_option maxHeartbeats 8000000 in
theorem same11_yes (A B : Option Addr) (c d : Nat) (l : List Nm) (w : World) (h : RdN w A l) (g : RdN w B l) :
    Calls Try.prog 13 #[.slice A l.length c, .slice B l.length d] w fun e w' => e = .returned (.bool true) ∧ Below w.heap.size w w' := by
  have hm : l.length ≤ 9223372036854775807 := Nat.le_trans h.1 (by decide)
  have HH := Lib.hid h; have HG := Lib.hid g; clear h g
  go_enter Try.func13, Try.ntmps13
  go_wp2
  go_loopw [13] (fun i wr => ∃ k : Nat, i = .int .i64 (k : Nat) ∧ k ≤ l.length ∧ Below w.heap.size w wr) (fun i _ => l.length - (intOf i).toNat)
  case atStart => exact ⟨0, rfl, Nat.zero_le _, Below.refl _ _⟩
  case round =>
    obtain ⟨k, rfl, hk, hB⟩ := hrel
    by_cases hlt : k < l.length
    · obtain ⟨t, ht⟩ : ∃ t, l[k]? = some t := ⟨_, List.getElem?_eq_getElem hlt⟩
      obtain ⟨b, o, rfl, hb, hc⟩ := RdN.at_ (RdX.on HH.out hB) ht
      obtain ⟨b2, o2, rfl, hb2, hc2⟩ := RdN.at_ (RdX.on HG.out hB) ht
      have f1 : ((bs t).toList == (bs t).toList) = true := by simp
      have HBB := Lib.hid hB
      clear ht hB
      go_upto_region 6 with fail
      go_quiet (fail)
      have HB2 : Hid (Below w.heap.size w (wr.drewN nq)) := Lib.hid ⟨HBB.out.os, HBB.out.tape, HBB.out.output, HBB.out.size, HBB.out.block⟩
      generalize wr.drewN nq = w2 at *
      go_wp2
      go_roundw
      case rel => exact ⟨k + 1, by go_num, by omega, HB2.out⟩
      case measure => simp [intOf]; omega
    · obtain rfl : k = l.length := by omega
      go_wp2
      go_ret
      exact ⟨rfl, hB⟩
end Go.Proofs.Ytahljmddnfldlaa

/-
  Contract of lex.Key.
-/
import Derived.Test.YtahljmddnfldlaaGreatDoorLexG
import Derived.Test.YtahljmddnfldlaaGreatDoorLexTok
namespace Go.Proofs.YtahljmddnfldlaaGreatDoor
open Go.RowKit FloM ValM Go.Shelf
set_option linter.unusedVariables false
set_option linter.unusedSimpArgs false

/-! ### Key -/
theorem key_in {l k : List UInt8} (h : k ∈ keysB) (e : l = k) : keyL l = true := by
  unfold keyL; rw [List.contains_iff_mem, e]; exact h
theorem key_out {l : List UInt8} (h : ∀ k ∈ keysB, l ≠ k) : keyL l = false := by
  rw [← Bool.not_eq_true]; unfold keyL; rw [List.contains_iff_mem]; exact fun hm => h _ hm rfl
theorem str_is {s : ByteArray} {k : List UInt8} (h : (s.toList == k) = true) : ls s = k := by rw [toList_ls, beq_iff_eq] at h; exact h
theorem str_not {s : ByteArray} {k : List UInt8} (h : (s.toList == k) = false) : ls s ≠ k := by rw [toList_ls, beq_eq_false_iff_ne] at h; exact h
set_option maxRecDepth 20000 in
set_option maxHeartbeats 4000000 in
theorem key_any (s : ByteArray) (w : World) : Calls Tryz.prog 66 #[.string s] w fun e w' => e = .returned (.bool (keyL (ls s))) ∧ w = w' := by
  cases g0 : (s.toList == [110, 111, 116]) with
  | true =>
    have HK := Lib.hid (key_in (k := [110, 111, 116]) (by decide) (str_is g0))
    go_enter Tryz.func66, Tryz.ntmps66
    go_wp2
    go_ret
    exact ⟨ret_bool (by rw [HK.out]), rfl⟩
  | false =>
  cases g1 : (s.toList == [105, 115]) with
  | true =>
    have HK := Lib.hid (key_in (k := [105, 115]) (by decide) (str_is g1))
    go_enter Tryz.func66, Tryz.ntmps66
    go_wp2
    go_ret
    exact ⟨ret_bool (by rw [HK.out]), rfl⟩
  | false =>
  cases g2 : (s.toList == [112, 108, 117, 115]) with
  | true =>
    have HK := Lib.hid (key_in (k := [112, 108, 117, 115]) (by decide) (str_is g2))
    go_enter Tryz.func66, Tryz.ntmps66
    go_wp2
    go_ret
    exact ⟨ret_bool (by rw [HK.out]), rfl⟩
  | false =>
  cases g3 : (s.toList == [109, 105, 110, 117, 115]) with
  | true =>
    have HK := Lib.hid (key_in (k := [109, 105, 110, 117, 115]) (by decide) (str_is g3))
    go_enter Tryz.func66, Tryz.ntmps66
    go_wp2
    go_ret
    exact ⟨ret_bool (by rw [HK.out]), rfl⟩
  | false =>
  cases g4 : (s.toList == [116, 105, 109, 101, 115]) with
  | true =>
    have HK := Lib.hid (key_in (k := [116, 105, 109, 101, 115]) (by decide) (str_is g4))
    go_enter Tryz.func66, Tryz.ntmps66
    go_wp2
    go_ret
    exact ⟨ret_bool (by rw [HK.out]), rfl⟩
  | false =>
  cases g5 : (s.toList == [119, 97, 108, 107]) with
  | true =>
    have HK := Lib.hid (key_in (k := [119, 97, 108, 107]) (by decide) (str_is g5))
    go_enter Tryz.func66, Tryz.ntmps66
    go_wp2
    go_ret
    exact ⟨ret_bool (by rw [HK.out]), rfl⟩
  | false =>
  cases g6 : (s.toList == [99, 111, 117, 110, 116]) with
  | true =>
    have HK := Lib.hid (key_in (k := [99, 111, 117, 110, 116]) (by decide) (str_is g6))
    go_enter Tryz.func66, Tryz.ntmps66
    go_wp2
    go_ret
    exact ⟨ret_bool (by rw [HK.out]), rfl⟩
  | false =>
  cases g7 : (s.toList == [115, 117, 109]) with
  | true =>
    have HK := Lib.hid (key_in (k := [115, 117, 109]) (by decide) (str_is g7))
    go_enter Tryz.func66, Tryz.ntmps66
    go_wp2
    go_ret
    exact ⟨ret_bool (by rw [HK.out]), rfl⟩
  | false =>
  cases g8 : (s.toList == [109, 105, 110]) with
  | true =>
    have HK := Lib.hid (key_in (k := [109, 105, 110]) (by decide) (str_is g8))
    go_enter Tryz.func66, Tryz.ntmps66
    go_wp2
    go_ret
    exact ⟨ret_bool (by rw [HK.out]), rfl⟩
  | false =>
  cases g9 : (s.toList == [109, 97, 120]) with
  | true =>
    have HK := Lib.hid (key_in (k := [109, 97, 120]) (by decide) (str_is g9))
    go_enter Tryz.func66, Tryz.ntmps66
    go_wp2
    go_ret
    exact ⟨ret_bool (by rw [HK.out]), rfl⟩
  | false =>
  cases g10 : (s.toList == [109, 101, 97, 110]) with
  | true =>
    have HK := Lib.hid (key_in (k := [109, 101, 97, 110]) (by decide) (str_is g10))
    go_enter Tryz.func66, Tryz.ntmps66
    go_wp2
    go_ret
    exact ⟨ret_bool (by rw [HK.out]), rfl⟩
  | false =>
  have HK := Lib.hid (key_out (l := ls s) (by
    intro k hk
    simp only [keysB, List.mem_cons, List.not_mem_nil, or_false] at hk
    rcases hk with rfl | rfl | rfl | rfl | rfl | rfl | rfl | rfl | rfl | rfl | rfl
    · exact str_not g0
    · exact str_not g1
    · exact str_not g2
    · exact str_not g3
    · exact str_not g4
    · exact str_not g5
    · exact str_not g6
    · exact str_not g7
    · exact str_not g8
    · exact str_not g9
    · exact str_not g10))
  go_enter Tryz.func66, Tryz.ntmps66
  go_wp2
  go_ret
  exact ⟨ret_bool (by rw [HK.out]), rfl⟩
end Go.Proofs.YtahljmddnfldlaaGreatDoor

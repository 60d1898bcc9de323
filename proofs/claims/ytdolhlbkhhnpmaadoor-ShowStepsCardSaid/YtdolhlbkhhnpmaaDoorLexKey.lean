/-
  Contract of lex.Key.
-/
import Derived.Test.YtdolhlbkhhnpmaaDoorLexG
import Derived.Test.YtdolhlbkhhnpmaaDoorLexTok
namespace Go.Proofs.YtdolhlbkhhnpmaaDoor
open Go.RowKit FloM ValM Go.Shelf
set_option linter.unusedVariables false
set_option linter.unusedSimpArgs false

/-! ### Key -/
theorem key_in {l k : List UInt8} (h : k ∈ keysB) (e : l = k) : keyL l = true := by
  unfold keyL; rw [List.contains_iff_mem, e]; exact h
theorem key_out {l : List UInt8} (h : ∀ k ∈ keysB, l ≠ k) : keyL l = false := by
  rw [← Bool.not_eq_true]; unfold keyL; rw [List.contains_iff_mem]; exact fun hm => h _ hm rfl
theorem str_is {s : ByteArray} {k : List UInt8} (h : (s.toList == k) = true) : ls s = k := by rw [toList_ls, beq_iff_eq] at h; exact h
theorem str_not {s : ByteArray} {k : List UInt8} (h : (s.toList == k) = false) : ls s ≠ k := by rw [toList_ls, beq_eq_false_iff_ne] at h; exact h
set_option maxRecDepth 20000 in
set_option maxHeartbeats 4000000 in
theorem key_any (s : ByteArray) (w : World) : Calls Tryd.prog 55 #[.string s] w fun e w' => e = .returned (.bool (keyL (ls s))) ∧ w = w' := by
  cases g0 : (s.toList == [110, 111, 116]) with
  | true =>
    have HK := Lib.hid (key_in (k := [110, 111, 116]) (by decide) (str_is g0))
    go_enter Tryd.func55, Tryd.ntmps55
    go_wp2
    go_ret
    exact ⟨ret_bool (by rw [HK.out]), rfl⟩
  | false =>
  cases g1 : (s.toList == [105, 115]) with
  | true =>
    have HK := Lib.hid (key_in (k := [105, 115]) (by decide) (str_is g1))
    go_enter Tryd.func55, Tryd.ntmps55
    go_wp2
    go_ret
    exact ⟨ret_bool (by rw [HK.out]), rfl⟩
  | false =>
  cases g2 : (s.toList == [112, 108, 117, 115]) with
  | true =>
    have HK := Lib.hid (key_in (k := [112, 108, 117, 115]) (by decide) (str_is g2))
    go_enter Tryd.func55, Tryd.ntmps55
    go_wp2
    go_ret
    exact ⟨ret_bool (by rw [HK.out]), rfl⟩
  | false =>
  cases g3 : (s.toList == [109, 105, 110, 117, 115]) with
  | true =>
    have HK := Lib.hid (key_in (k := [109, 105, 110, 117, 115]) (by decide) (str_is g3))
    go_enter Tryd.func55, Tryd.ntmps55
    go_wp2
    go_ret
    exact ⟨ret_bool (by rw [HK.out]), rfl⟩
  | false =>
  cases g4 : (s.toList == [116, 105, 109, 101, 115]) with
  | true =>
    have HK := Lib.hid (key_in (k := [116, 105, 109, 101, 115]) (by decide) (str_is g4))
    go_enter Tryd.func55, Tryd.ntmps55
    go_wp2
    go_ret
    exact ⟨ret_bool (by rw [HK.out]), rfl⟩
  | false =>
  cases g5 : (s.toList == [119, 97, 108, 107]) with
  | true =>
    have HK := Lib.hid (key_in (k := [119, 97, 108, 107]) (by decide) (str_is g5))
    go_enter Tryd.func55, Tryd.ntmps55
    go_wp2
    go_ret
    exact ⟨ret_bool (by rw [HK.out]), rfl⟩
  | false =>
  cases g6 : (s.toList == [99, 111, 117, 110, 116]) with
  | true =>
    have HK := Lib.hid (key_in (k := [99, 111, 117, 110, 116]) (by decide) (str_is g6))
    go_enter Tryd.func55, Tryd.ntmps55
    go_wp2
    go_ret
    exact ⟨ret_bool (by rw [HK.out]), rfl⟩
  | false =>
  cases g7 : (s.toList == [115, 117, 109]) with
  | true =>
    have HK := Lib.hid (key_in (k := [115, 117, 109]) (by decide) (str_is g7))
    go_enter Tryd.func55, Tryd.ntmps55
    go_wp2
    go_ret
    exact ⟨ret_bool (by rw [HK.out]), rfl⟩
  | false =>
  cases g8 : (s.toList == [109, 105, 110]) with
  | true =>
    have HK := Lib.hid (key_in (k := [109, 105, 110]) (by decide) (str_is g8))
    go_enter Tryd.func55, Tryd.ntmps55
    go_wp2
    go_ret
    exact ⟨ret_bool (by rw [HK.out]), rfl⟩
  | false =>
  cases g9 : (s.toList == [109, 97, 120]) with
  | true =>
    have HK := Lib.hid (key_in (k := [109, 97, 120]) (by decide) (str_is g9))
    go_enter Tryd.func55, Tryd.ntmps55
    go_wp2
    go_ret
    exact ⟨ret_bool (by rw [HK.out]), rfl⟩
  | false =>
  cases g10 : (s.toList == [109, 101, 97, 110]) with
  | true =>
    have HK := Lib.hid (key_in (k := [109, 101, 97, 110]) (by decide) (str_is g10))
    go_enter Tryd.func55, Tryd.ntmps55
    go_wp2
    go_ret
    exact ⟨ret_bool (by rw [HK.out]), rfl⟩
  | false =>
  have HK := Lib.hid (key_out (l := ls s) (by
    intro k hk
    simp only [keysB, List.mem_cons, List.not_mem_nil, or_false] at hk
    rcases hk with rfl | rfl | rfl | rfl | rfl | rfl | rfl | rfl | rfl | rfl | rfl
    · exact str_not g0
    · exact str_not g1
    · exact str_not g2
    · exact str_not g3
    · exact str_not g4
    · exact str_not g5
    · exact str_not g6
    · exact str_not g7
    · exact str_not g8
    · exact str_not g9
    · exact str_not g10))
  go_enter Tryd.func55, Tryd.ntmps55
  go_wp2
  go_ret
  exact ⟨ret_bool (by rw [HK.out]), rfl⟩
set_option maxRecDepth 20000 in
set_option maxHeartbeats 4000000 in
theorem refKey_any (s : ByteArray) (w : World) : Calls Tryd.prog 57 #[.string s] w fun e w' => e = .returned (.bool (keyL (ls s))) ∧ Below w.heap.size w w' := by
  have hc : ∀ k, (h : k < 11) → (w.alloc (.cells (keysB.map fun b => Value.string (bs b)).toArray 9)).cell? ⟨w.heap.size, k, none⟩ = some (.string (bs (keysB[k]'(by simp [keysB]; exact h)))) := fun k h => by
    have := (row_new (t := 9) w (keysB.map fun b => Value.string (bs b))).cell k
    rw [this, List.getElem?_map, List.getElem?_eq_getElem (by simp [keysB]; exact h)]; rfl
  have hB : Below w.heap.size w (w.alloc (.cells (keysB.map fun b => Value.string (bs b)).toArray 9)) := (Below.refl _ w).alloc (Nat.le_refl _) _
  have e0 : w.alloc (.cells (keysB.map fun b => Value.string (bs b)).toArray 9) = w.alloc (.cells #[.string ⟨#[110, 111, 116]⟩, .string ⟨#[105, 115]⟩, .string ⟨#[112, 108, 117, 115]⟩, .string ⟨#[109, 105, 110, 117, 115]⟩, .string ⟨#[116, 105, 109, 101, 115]⟩, .string ⟨#[119, 97, 108, 107]⟩, .string ⟨#[99, 111, 117, 110, 116]⟩, .string ⟨#[115, 117, 109]⟩, .string ⟨#[109, 105, 110]⟩, .string ⟨#[109, 97, 120]⟩, .string ⟨#[109, 101, 97, 110]⟩] 9) := rfl
  rw [e0] at hc hB
  have HC := Lib.hid hc
  clear hc e0
  go_enter Tryd.func57, Tryd.ntmps57
  go_wp2
  generalize w.alloc (.cells #[.string ⟨#[110, 111, 116]⟩, .string ⟨#[105, 115]⟩, .string ⟨#[112, 108, 117, 115]⟩, .string ⟨#[109, 105, 110, 117, 115]⟩, .string ⟨#[116, 105, 109, 101, 115]⟩, .string ⟨#[119, 97, 108, 107]⟩, .string ⟨#[99, 111, 117, 110, 116]⟩, .string ⟨#[115, 117, 109]⟩, .string ⟨#[109, 105, 110]⟩, .string ⟨#[109, 97, 120]⟩, .string ⟨#[109, 101, 97, 110]⟩] 9) = w1 at HC hB ⊢
  go_loop [8] (fun v => ∃ k : Nat, k ≤ 11 ∧ v = .int .i64 k ∧ Hid (∀ j, (h : j < keysB.length) → j < k → ls s ≠ keysB[j])) (fun v => 11 - (intOf v).toNat)
  case atStart => exact ⟨0, by omega, rfl, Lib.hid fun j _ h => by omega⟩
  case round =>
    obtain ⟨k, hk, rfl, HA⟩ := hrel
    by_cases hlt : k < 11
    · have hcell := HC.out k hlt
      obtain ⟨u, hu⟩ : ∃ u, bs (keysB[k]'(by simp [keysB]; exact hlt)) = u := ⟨_, rfl⟩
      rw [hu] at hcell
      have HU := Lib.hid hu; clear hu
      cases hq : (u.toList == s.toList) with
      | true =>
        have HQ := Lib.hid hq
        go_wp2
        go_ret
        have hq' := HQ.out
        rw [toList_ls, toList_ls, beq_iff_eq] at hq'
        exact ⟨ret_bool (key_in (k := keysB[k]'(by simp [keysB]; exact hlt)) (List.getElem_mem _) (by rw [← hq', ← HU.out, ls_bs])).symm, hB⟩
      | false =>
        have HQ := Lib.hid hq
        go_wp2
        go_round
        case rel =>
          refine ⟨k + 1, by omega, by go_num, Lib.hid fun j h hj => ?_⟩
          rcases Nat.lt_or_ge j k with h' | h'
          · exact HA.out j h h'
          · obtain rfl : j = k := by omega
            have := HQ.out; rw [toList_ls, toList_ls, beq_eq_false_iff_ne] at this
            exact fun e => this (by rw [e, ← HU.out, ls_bs])
        case measure => simp [intOf]; omega
    · obtain rfl : k = 11 := by omega
      go_wp2
      go_ret
      have hf : keyL (ls s) = false := key_out fun x hx => by
        obtain ⟨j, hj, rfl⟩ := List.mem_iff_getElem.1 hx
        exact HA.out j hj hj
      exact ⟨ret_bool hf.symm, hB⟩

end Go.Proofs.YtdolhlbkhhnpmaaDoor

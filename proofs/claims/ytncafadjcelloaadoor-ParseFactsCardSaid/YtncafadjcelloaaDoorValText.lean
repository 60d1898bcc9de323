/-
  Contracts of value.assemble, intText, Text, Right, Compare, Read.
-/
import Derived.Test.YtncafadjcelloaaDoorValBase
import Derived.Below
import Derived.Laws.BytesArg
namespace Go.Proofs.YtncafadjcelloaaDoor
open Go.RowKit FloM ValM

theorem ret_str {a b : ByteArray} (h : a = b) : Ending.returned (.string a) = .returned (.string b) := by rw [h]

/-! ### A block of bytes of the call's own -/
def bval (c : UInt8) : Value := .int .u8 c.toNat
def Row (t : TypeId) (w : World) (g : Nat) (cs : List Value) : Prop := w.heap[g]? = some (.cells cs.toArray t (0, 0))
theorem Row.cell {t : TypeId} {w : World} {g : Nat} {cs : List Value} (h : Row t w g cs) (i : Nat) : w.cell? ⟨g, i, none⟩ = cs[i]? := by
  unfold Row at h; simp [World.cell?, h]
theorem Row.frozen {t : TypeId} {w : World} {g : Nat} {cs : List Value} (h : Row t w g cs) (i : Nat) : w.frozen? ⟨g, i, none⟩ = false := by
  unfold Row at h; simp [World.frozen?, h]
theorem Row.set {t : TypeId} {w : World} {g : Nat} {pre post : List Value} {x : Value} (h : Row t w g (pre ++ x :: post)) (v : Value) : Row t (w.setCell ⟨g, pre.length, none⟩ v) g (pre ++ v :: post) := by
  unfold Row at h ⊢
  simp [World.setCell, Array.getElem?_modify, h]
theorem conv_row {t : TypeId} {w : World} {g : Nat} {pre : List Value} {acc : List UInt8} (h : Row t w g (pre ++ acc.map bval)) {P : Program} {src e dst : TypeId} (hs : P.underlying src = some (.slice e)) (he : P.underlying e = some (.int .u8)) (hd : P.underlying dst = some .string) (cap : Nat) :
    (convert src dst (.slice (some ⟨g, pre.length, none⟩) acc.length cap)).run P w = .ok (.string (bs acc)) w := by
  have := run_convert_bytes_arg (P := P) w src e hs he g pre.length acc.length cap (acc.map fun c => (c.toNat : Int)) (by simp) (fun i hi => by
    rw [h.cell, List.getElem?_append_right (by omega), show pre.length + i - pre.length = i from by omega]
    simp [bval, hi, List.getD]) dst hd
  rw [this]
  have e1 : strOfNums (acc.map fun c => (c.toNat : Int)) = bs acc := by
    apply ls_inj
    show (strOfNums _).data.toList = acc
    rw [strOfNums_data]
    clear this h
    induction acc with
    | nil => rfl
    | cons c r ih => rw [List.map_cons, List.map_cons, ih]; congr 1; apply UInt8.toNat_inj.1; have := c.toNat_lt; simp
  rw [e1]
def AsmRel (b least n0 : Nat) (w : World) (v0 v8 : Value) (wr : World) : Prop := ∃ (n : Nat) (acc : List UInt8) (pre : List Value), v0 = .int .u64 n ∧ v8 = .int .i64 (pre.length : Nat) ∧ pre.length + acc.length = 20 ∧ n < b ^ pre.length ∧ n ≤ n0 ∧
  padTo (least - acc.length) (digs b n) ++ acc = padTo least (digs b n0) ∧ Row 178 wr w.heap.size (pre ++ acc.map bval) ∧ Below w.heap.size w wr
theorem digit_at (d : Nat) (h : d < 16) : (ByteArray.mk #[48, 49, 50, 51, 52, 53, 54, 55, 56, 57, 97, 98, 99, 100, 101, 102])[d]'h = dch d := by
  revert d; decide

set_option maxRecDepth 20000 in
set_option maxHeartbeats 1000000 in
theorem assemble_10 (n0 least : Nat) (w : World) (hn : n0 < 18446744073709551616) (hl0 : 1 ≤ least) (hl : least ≤ 20) :
    Calls Tryd.prog 136 #[.int .u64 n0, .int .u64 10, .int .i64 least] w fun e w' => e = .returned (.string (bs (padTo least (digs 10 n0)))) ∧ Below w.heap.size w w' := by
  go_enter Tryd.func136, Tryd.ntmps136
  go_wp2
  go_loopw [0, 8] (fun n i wr => AsmRel 10 least n0 w n i wr) (fun _ i _ => (intOf i).toNat)
  case atStart =>
    refine ⟨n0, [], List.replicate 20 (.int .u8 0), rfl, rfl, rfl, by rw [List.length_replicate]; omega, Nat.le_refl _, by simp, ?_, (Below.refl _ _).alloc (Nat.le_refl _) _⟩
    exact heap_alloc_new w _
  case round =>
    obtain ⟨n, acc, pre, rfl, rfl, hlen, hlt, hle, hpad, hrow, hbel⟩ := hrel
    by_cases hgo : 0 < n ∨ acc.length < least
    · have hpos : pre ≠ [] := by
        rintro rfl
        simp at hlen hlt; omega
      obtain ⟨pre, x, rfl⟩ : ∃ p x, pre = p ++ [x] := ⟨_, _, (List.dropLast_concat_getLast hpos).symm⟩
      rw [List.append_assoc, List.singleton_append] at hrow
      have hcell := hrow.cell pre.length
      have hfr := hrow.frozen pre.length
      rw [List.getElem?_append_right (Nat.le_refl _), Nat.sub_self, List.getElem?_cons_zero] at hcell
      have hstep := pad_step 10 least n acc (by omega) hgo
      have HS := Lib.hid hstep; clear hstep
      have HP := Lib.hid hpad; clear hpad
      have HR := Lib.hid hrow; clear hrow
      have HL := Lib.hid hlt; clear hlt
      rw [List.length_append, List.length_singleton] at hlen ⊢
      obtain ⟨a, ha⟩ : ∃ a, pre.length = a := ⟨_, rfl⟩
      rw [ha] at hlen hcell hfr ⊢
      have HA := Lib.hid ha; clear ha
      have hd := Nat.mod_lt n (show 0 < 10 by omega)
      have hpow : n / 10 < 10 ^ a := by
        rw [Nat.div_lt_iff_lt_mul (by omega), ← Nat.pow_succ]; have := HL.out; rw [List.length_append, List.length_singleton, HA.out] at this; exact this
      have HW := Lib.hid hpow; clear hpow
      by_cases h0 : 0 < n
      · go_wp2
        go_roundw
        case rel =>
          refine ⟨n / 10, dch (n % 10) :: acc, pre, by go_num, by rw [HA.out], by rw [HA.out, List.length_cons]; omega, by rw [HA.out]; exact HW.out, by omega, HS.out.symm.trans HP.out, ?_, hbel.setCell (Nat.le_refl _) _⟩
          have := HR.out.set (bval (dch (n % 10)))
          rw [HA.out] at this
          rw [← digit_at (n % 10) (by omega)] at this ⊢
          exact this
        case measure => simp [intOf] <;> omega
      · have hlow : 20 - ((a : Int) + 1) < (least : Int) := by omega
        obtain rfl : n = 0 := by omega
        go_wp2
        go_roundw
        case rel =>
          refine ⟨0 / 10, dch (0 % 10) :: acc, pre, by go_num, by rw [HA.out], by rw [HA.out, List.length_cons]; omega, by rw [HA.out]; exact HW.out, by omega, HS.out.symm.trans HP.out, ?_, hbel.setCell (Nat.le_refl _) _⟩
          have := HR.out.set (bval (dch (0 % 10)))
          rw [HA.out] at this
          rw [← digit_at (0 % 10) (by omega)] at this ⊢
          exact this
        case measure => simp [intOf] <;> omega
    · obtain rfl : n = 0 := by omega
      have hres : padTo least (digs 10 n0) = acc := by rw [← hpad]; exact pad_done 10 least acc (by omega)
      have HS := Lib.hid hres; clear hpad hres hlt hle
      have HR := Lib.hid hrow
      obtain ⟨a, ha⟩ : ∃ a, pre.length = a := ⟨_, rfl⟩
      obtain ⟨c, hc⟩ : ∃ c, acc.length = c := ⟨_, rfl⟩
      have hconv := conv_row hrow Tryd.underlying154 Tryd.underlying5 Tryd.underlying9 c
      clear hrow
      rw [ha, hc] at hlen
      rw [ha, hc, show c = 20 - a from by omega] at hconv
      rw [ha]
      have h1 : (a : Int) ≤ 20 := by omega
      have h2 : a < 20 := by omega
      have hge : (least : Int) ≤ 20 - (a : Int) := by omega
      clear hlen ha hc
      go_wp2
      go_ret
      exact ⟨ret_str (by rw [HS.out]), hbel⟩

set_option maxRecDepth 20000 in
set_option maxHeartbeats 1000000 in
theorem assemble_16 (n0 least : Nat) (w : World) (hn : n0 < 18446744073709551616) (hl0 : 1 ≤ least) (hl : least ≤ 20) :
    Calls Tryd.prog 136 #[.int .u64 n0, .int .u64 16, .int .i64 least] w fun e w' => e = .returned (.string (bs (padTo least (digs 16 n0)))) ∧ Below w.heap.size w w' := by
  go_enter Tryd.func136, Tryd.ntmps136
  go_wp2
  go_loopw [0, 8] (fun n i wr => AsmRel 16 least n0 w n i wr) (fun _ i _ => (intOf i).toNat)
  case atStart =>
    refine ⟨n0, [], List.replicate 20 (.int .u8 0), rfl, rfl, rfl, by rw [List.length_replicate]; omega, Nat.le_refl _, by simp, ?_, (Below.refl _ _).alloc (Nat.le_refl _) _⟩
    exact heap_alloc_new w _
  case round =>
    obtain ⟨n, acc, pre, rfl, rfl, hlen, hlt, hle, hpad, hrow, hbel⟩ := hrel
    by_cases hgo : 0 < n ∨ acc.length < least
    · have hpos : pre ≠ [] := by
        rintro rfl
        simp at hlen hlt; omega
      obtain ⟨pre, x, rfl⟩ : ∃ p x, pre = p ++ [x] := ⟨_, _, (List.dropLast_concat_getLast hpos).symm⟩
      rw [List.append_assoc, List.singleton_append] at hrow
      have hcell := hrow.cell pre.length
      have hfr := hrow.frozen pre.length
      rw [List.getElem?_append_right (Nat.le_refl _), Nat.sub_self, List.getElem?_cons_zero] at hcell
      have hstep := pad_step 16 least n acc (by omega) hgo
      have HS := Lib.hid hstep; clear hstep
      have HP := Lib.hid hpad; clear hpad
      have HR := Lib.hid hrow; clear hrow
      have HL := Lib.hid hlt; clear hlt
      rw [List.length_append, List.length_singleton] at hlen ⊢
      obtain ⟨a, ha⟩ : ∃ a, pre.length = a := ⟨_, rfl⟩
      rw [ha] at hlen hcell hfr ⊢
      have HA := Lib.hid ha; clear ha
      have hd := Nat.mod_lt n (show 0 < 16 by omega)
      have hpow : n / 16 < 16 ^ a := by
        rw [Nat.div_lt_iff_lt_mul (by omega), ← Nat.pow_succ]; have := HL.out; rw [List.length_append, List.length_singleton, HA.out] at this; exact this
      have HW := Lib.hid hpow; clear hpow
      by_cases h0 : 0 < n
      · go_wp2
        go_roundw
        case rel =>
          refine ⟨n / 16, dch (n % 16) :: acc, pre, by go_num, by rw [HA.out], by rw [HA.out, List.length_cons]; omega, by rw [HA.out]; exact HW.out, by omega, HS.out.symm.trans HP.out, ?_, hbel.setCell (Nat.le_refl _) _⟩
          have := HR.out.set (bval (dch (n % 16)))
          rw [HA.out] at this
          rw [← digit_at (n % 16) (by omega)] at this ⊢
          exact this
        case measure => simp [intOf] <;> omega
      · have hlow : 20 - ((a : Int) + 1) < (least : Int) := by omega
        obtain rfl : n = 0 := by omega
        go_wp2
        go_roundw
        case rel =>
          refine ⟨0 / 16, dch (0 % 16) :: acc, pre, by go_num, by rw [HA.out], by rw [HA.out, List.length_cons]; omega, by rw [HA.out]; exact HW.out, by omega, HS.out.symm.trans HP.out, ?_, hbel.setCell (Nat.le_refl _) _⟩
          have := HR.out.set (bval (dch (0 % 16)))
          rw [HA.out] at this
          rw [← digit_at (0 % 16) (by omega)] at this ⊢
          exact this
        case measure => simp [intOf] <;> omega
    · obtain rfl : n = 0 := by omega
      have hres : padTo least (digs 16 n0) = acc := by rw [← hpad]; exact pad_done 16 least acc (by omega)
      have HS := Lib.hid hres; clear hpad hres hlt hle
      have HR := Lib.hid hrow
      obtain ⟨a, ha⟩ : ∃ a, pre.length = a := ⟨_, rfl⟩
      obtain ⟨c, hc⟩ : ∃ c, acc.length = c := ⟨_, rfl⟩
      have hconv := conv_row hrow Tryd.underlying154 Tryd.underlying5 Tryd.underlying9 c
      clear hrow
      rw [ha, hc] at hlen
      rw [ha, hc, show c = 20 - a from by omega] at hconv
      rw [ha]
      have h1 : (a : Int) ≤ 20 := by omega
      have h2 : a < 20 := by omega
      have hge : (least : Int) ≤ 20 - (a : Int) := by omega
      clear hlen ha hc
      go_wp2
      go_ret
      exact ⟨ret_str (by rw [HS.out]), hbel⟩

/-! ### intText -/
def intTextL (n : Int) : List UInt8 := if n < 0 then 45 :: padTo 1 (digs 10 n.natAbs) else padTo 1 (digs 10 n.natAbs)
theorem u64_of (n : Int) (h0 : -9223372036854775808 ≤ n) (h1 : n < 9223372036854775808) : IntKind.u64.wrap n = if n < 0 then n + 18446744073709551616 else n := by
  simp [IntKind.wrap, IntKind.bits, IntKind.signed]; split <;> omega
set_option maxRecDepth 20000 in
set_option maxHeartbeats 1000000 in
theorem intText_pos (n : Nat) (w : World) (h1 : n < 9223372036854775808) : Calls Tryd.prog 135 #[.int .i64 n] w fun e w' => e = .returned (.string (bs (padTo 1 (digs 10 n)))) ∧ Below w.heap.size w w' := by
  have h0 : 0 ≤ (n : Int) := by omega
  go_enter Tryd.func135, Tryd.ntmps135
  go_wp2_with (go_at_call 136; refine (assemble_10 n 1 _ (by omega) (by omega) (by omega)).mono ?_; rintro e w' ⟨rfl, hb⟩)
  go_ret
  exact ⟨rfl, hb⟩
set_option maxRecDepth 20000 in
set_option maxHeartbeats 1000000 in
theorem intText_neg (n : Nat) (w : World) (h0 : 0 < n) (h1 : n ≤ 9223372036854775808) : Calls Tryd.prog 135 #[.int .i64 (-(n : Int))] w fun e w' => e = .returned (.string (bs (45 :: padTo 1 (digs 10 n)))) ∧ Below w.heap.size w w' := by
  have hneg : -(n : Int) < 0 := by omega
  have hw : IntKind.u64.wrap (-IntKind.u64.wrap (-(n : Int))) = n := by simp [IntKind.wrap, IntKind.bits, IntKind.signed]; omega
  have hsz : ¬ 9223372036854775807 < 1 + (bs (padTo 1 (digs 10 n))).size := by
    have := digs_len 10 n 20 (by omega) (by omega)
    rw [bs_size, padTo_len]; omega
  go_enter Tryd.func135, Tryd.ntmps135
  go_wp2_with (go_at_call 136; refine (assemble_10 n 1 _ (by omega) (by omega) (by omega)).mono ?_; rintro e w' ⟨rfl, hb⟩)
  go_ret
  exact ⟨rfl, hb⟩
theorem intText_any (n : Int) (w : World) (h0 : -9223372036854775808 ≤ n) (h1 : n < 9223372036854775808) : Calls Tryd.prog 135 #[.int .i64 n] w fun e w' => e = .returned (.string (bs (intTextL n))) ∧ Below w.heap.size w w' := by
  by_cases hn : n < 0
  · have := intText_neg n.natAbs w (by omega) (by omega)
    rw [show -((n.natAbs : Nat) : Int) = n from by omega] at this
    unfold intTextL; rw [if_pos hn]; exact this
  · have := intText_pos n.natAbs w (by omega)
    rw [show ((n.natAbs : Nat) : Int) = n from by omega] at this
    unfold intTextL; rw [if_neg hn]; exact this
end Go.Proofs.YtncafadjcelloaaDoor

/-
  Contracts of value.Right, Compare, Text, Read: values as their three fields.
-/
import Derived.Test.YtncafadjcelloaaDoorValText
namespace Go.Proofs.YtncafadjcelloaaDoor
open Go.RowKit FloM ValM

/-- A value, by its fields. -/
structure V where
  k : Int
  n : Int
  s : ByteArray
def V.val (v : V) : Value := .agg #[.int .i64 v.k, .int .i64 v.n, .string v.s]
def rightV (v : V) : Bool := if v.k = 1 then decide (v.s = ByteArray.empty) else if v.k = 2 then decide (v.s = ByteArray.empty) && right v.n else if v.k = 3 then decide (v.n = 0) && name v.s else false
theorem emp_list (s : ByteArray) : s.toList = [] ↔ s = ByteArray.empty := by
  rw [toList_ls]; exact ⟨fun h => ls_inj h, fun h => by rw [h]; rfl⟩
theorem emp_isEmpty (s : ByteArray) : s.toList.isEmpty = decide (s = ByteArray.empty) := by
  rw [Bool.eq_iff_iff, List.isEmpty_iff, decide_eq_true_eq]; exact emp_list s
theorem rightV_1 (k n : Int) (s : ByteArray) (h : (k == 1) = true) : rightV ⟨k, n, s⟩ = s.toList.isEmpty := by
  simp only [beq_iff_eq] at h; subst h; rw [emp_isEmpty]; rfl
theorem rightV_2 (k n : Int) (s : ByteArray) (h : (k == 2) = true) : rightV ⟨k, n, s⟩ = (s.toList.isEmpty && right n) := by
  simp only [beq_iff_eq] at h; subst h; rw [emp_isEmpty]; rfl
theorem rightV_3 (k n : Int) (s : ByteArray) (h : (k == 3) = true) : rightV ⟨k, n, s⟩ = (decide (n = 0) && name s) := by
  simp only [beq_iff_eq] at h; subst h; rfl
theorem rightV_4 (k n : Int) (s : ByteArray) (h1 : (k == 1) = false) (h2 : (k == 2) = false) (h3 : (k == 3) = false) : rightV ⟨k, n, s⟩ = false := by
  simp only [beq_eq_false_iff_ne] at h1 h2 h3; simp [rightV, h1, h2, h3]

def RightV (v : V) (w : World) (e : Ending) (w' : World) : Prop := e = .returned (.bool (rightV v)) ∧ Below w.heap.size w w'
set_option maxRecDepth 20000 in
set_option maxHeartbeats 1000000 in
theorem right_go (k n : Int) (s : ByteArray) (w : World) (hs : s.size ≤ maxLen) : Calls Tryd.prog 134 #[.agg #[.int .i64 k, .int .i64 n, .string s]] w (RightV ⟨k, n, s⟩ w) := by
  go_enter Tryd.func134, Tryd.ntmps134
  go_wp2_with (first | (go_at_call 125; refine (right_any _ _).mono ?_; rintro e w' ⟨rfl, rfl⟩) | (go_at_call 96; refine (name_any _ _ hs).mono ?_; rintro e w' ⟨rfl, rfl⟩))
  all_goals
    go_ret
    refine ⟨ret_bool ?_, (Below.refl _ _).alloc (Nat.le_refl _) _⟩
  · rw [rightV_1 _ _ _ ‹_›]; try rfl
  · rw [rightV_2 _ _ _ ‹_›]; try simp_all
  · rw [rightV_2 _ _ _ ‹_›]; try simp_all
  · rw [rightV_3 _ _ _ ‹_›]; try simp_all
  · rw [rightV_3 _ _ _ ‹_›]; try simp_all
  · rw [rightV_4 _ _ _ ‹_› ‹_› ‹_›]

/-! ### Compare -/
def cmpV (a b : V) : Int := if a.k ≠ b.k then cmpI a.k b.k else if a.n ≠ b.n then cmpI a.n b.n else Lib.compareBytes (ls a.s) (ls b.s)
def CmpV (a b : V) (w : World) (e : Ending) (w' : World) : Prop := e = .returned (.int .i64 (cmpV a b)) ∧ Below w.heap.size w w'
/-! ### Text -/
def textV (v : V) : List UInt8 := if rightV v then (if v.k = 1 then intTextL v.n else if v.k = 2 then 35 :: padTo 16 (digs 16 (IntKind.u64.wrap v.n).toNat) else ls v.s) else []
theorem keep {W w1 : World} (hb : Below W.heap.size W w1) : ∀ b o, b < W.heap.size → w1.cell? ⟨b, o, none⟩ = W.cell? ⟨b, o, none⟩ := fun b o h => hb.cell (p := ⟨b, o, none⟩) h
def TextV (v : V) (w : World) (e : Ending) (w' : World) : Prop := e = .returned (.string (bs (textV v))) ∧ Below w.heap.size w w'
theorem TextV.mk {v : V} {w w' : World} {t : ByteArray} (h : ls t = textV v) (hb : Below w.heap.size w w') : TextV v w (.returned (.string t)) w' := ⟨by rw [← h, bs_ls], hb⟩

set_option maxRecDepth 20000 in
set_option maxHeartbeats 1000000 in
theorem text_bad (k n : Int) (s : ByteArray) (w : World) (hs : s.size ≤ maxLen) (h : rightV ⟨k, n, s⟩ = false) : Calls Tryd.prog 120 #[.agg #[.int .i64 k, .int .i64 n, .string s]] w (TextV ⟨k, n, s⟩ w) := by
  go_enter Tryd.func120, Tryd.ntmps120
  go_wp2_with (go_at_call 134; refine (right_go _ _ _ _ hs).mono ?_; rintro e w' ⟨rfl, hb⟩)
  go_ret
  exact TextV.mk (by unfold textV; rw [h]; rfl) (((Below.refl _ _).alloc (Nat.le_refl _) _).trans (hb.mono (by simp)))
set_option maxRecDepth 20000 in
set_option maxHeartbeats 1000000 in
theorem text_int (n : Int) (s : ByteArray) (w : World) (hs : s.size ≤ maxLen) (h : rightV ⟨1, n, s⟩ = true) (h0 : -9223372036854775808 ≤ n) (h1 : n < 9223372036854775808) : Calls Tryd.prog 120 #[.agg #[.int .i64 1, .int .i64 n, .string s]] w (TextV ⟨1, n, s⟩ w) := by
  go_enter Tryd.func120, Tryd.ntmps120
  go_wp2_with (first | (go_at_call 134; refine (right_go _ _ _ _ hs).mono ?_; rintro e w1 ⟨rfl, hb⟩; have hc := keep hb) | (go_at_call 135; refine (intText_any _ _ h0 h1).mono ?_; rintro e w2 ⟨rfl, hb2⟩))
  go_ret
  exact TextV.mk (by unfold textV; rw [h]; rfl) (((Below.refl _ _).alloc (Nat.le_refl _) _).trans ((hb.mono (by simp)).trans (hb2.mono (by have := hb.size; simp at this; omega))))
set_option maxRecDepth 20000 in
set_option maxHeartbeats 1000000 in
theorem text_sym (n : Int) (s : ByteArray) (w : World) (hs : s.size ≤ maxLen) (h : rightV ⟨3, n, s⟩ = true) : Calls Tryd.prog 120 #[.agg #[.int .i64 3, .int .i64 n, .string s]] w (TextV ⟨3, n, s⟩ w) := by
  go_enter Tryd.func120, Tryd.ntmps120
  go_wp2_with (go_at_call 134; refine (right_go _ _ _ _ hs).mono ?_; rintro e w1 ⟨rfl, hb⟩; have hc := keep hb)
  go_ret
  exact TextV.mk (by unfold textV; rw [h]; rfl) (((Below.refl _ _).alloc (Nat.le_refl _) _).trans (hb.mono (by simp)))
set_option maxRecDepth 20000 in
set_option maxHeartbeats 1000000 in
theorem text_flo (n : Int) (N : Nat) (s : ByteArray) (w : World) (hs : s.size ≤ maxLen) (h : rightV ⟨2, n, s⟩ = true) (hw : IntKind.u64.wrap n = N) (hN : N < 18446744073709551616) : Calls Tryd.prog 120 #[.agg #[.int .i64 2, .int .i64 n, .string s]] w (TextV ⟨2, n, s⟩ w) := by
  have hsz : ¬ 9223372036854775807 < 1 + (bs (padTo 16 (digs 16 N))).size := by
    have := digs_len 16 N 20 (by omega) (by omega)
    rw [bs_size, padTo_len]; omega
  go_enter Tryd.func120, Tryd.ntmps120
  go_wp2_with (first | (go_at_call 134; refine (right_go _ _ _ _ hs).mono ?_; rintro e w1 ⟨rfl, hb⟩; have hc := keep hb) | (go_at_call 136; refine (assemble_16 N 16 _ hN (by omega) (by omega)).mono ?_; rintro e w2 ⟨rfl, hb2⟩))
  go_ret
  exact TextV.mk (by unfold textV; rw [h]; simp only [if_true]; rw [if_neg (by decide), hw]; rfl) (((Below.refl _ _).alloc (Nat.le_refl _) _).trans ((hb.mono (by simp)).trans (hb2.mono (by have := hb.size; simp at this; omega))))
theorem u64_nat (n : Int) : ∃ N : Nat, IntKind.u64.wrap n = N ∧ N < 18446744073709551616 := by
  refine ⟨(IntKind.u64.wrap n).toNat, ?_, ?_⟩ <;> simp [IntKind.wrap, IntKind.bits, IntKind.signed] <;> omega
theorem text_go (k n : Int) (s : ByteArray) (w : World) (hs : s.size ≤ maxLen) (h0 : -9223372036854775808 ≤ n) (h1 : n < 9223372036854775808) : Calls Tryd.prog 120 #[.agg #[.int .i64 k, .int .i64 n, .string s]] w (TextV ⟨k, n, s⟩ w) := by
  by_cases h : rightV ⟨k, n, s⟩ = true
  · by_cases k1 : k = 1
    · subst k1; exact text_int n s w hs h h0 h1
    · by_cases k2 : k = 2
      · subst k2
        obtain ⟨N, hw, hN⟩ := u64_nat n
        exact text_flo n N s w hs h hw hN
      · by_cases k3 : k = 3
        · subst k3; exact text_sym n s w hs h
        · exfalso; simp [rightV, k1, k2, k3] at h
  · exact text_bad k n s w hs (by simpa using h)

/-! ### How long a text is -/
theorem textV_len (v : V) (h : Fits v.n) : (bs (textV v)).size ≤ 40 := by
  rw [bs_size]
  unfold textV
  split
  · rename_i hr
    split
    · unfold intTextL Fits at *
      have := digs_len 10 v.n.natAbs 20 (by omega) (by omega)
      split
      · rw [List.length_cons, padTo_len]; omega
      · rw [padTo_len]; omega
    · split
      · obtain ⟨N, hw, hN⟩ := u64_nat v.n
        have := digs_len 16 N 16 (by omega) (by omega)
        rw [hw, Int.toNat_natCast, List.length_cons, padTo_len]; omega
      · rename_i h1 h2
        have h3 : name v.s = true := by
          unfold rightV at hr; rw [if_neg h1, if_neg h2] at hr
          split at hr
          · rw [Bool.and_eq_true] at hr; exact hr.2
          · cases hr
        exact ((nameL_iff _).1 h3).2.1
  · simp
theorem text_empty {v : V} (h : rightV v = false) : bs (textV v) = ByteArray.empty := by
  unfold textV; rw [h]; rfl
end Go.Proofs.YtncafadjcelloaaDoor

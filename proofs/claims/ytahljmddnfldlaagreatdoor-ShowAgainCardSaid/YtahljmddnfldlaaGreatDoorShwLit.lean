/-
  Package show: blank, comparison, operation. (Printed by tools/mkblank.py.)
-/
import Derived.Test.YtahljmddnfldlaaGreatDoorShwTx
import Derived.Test.YtahljmddnfldlaaGreatDoorShwPw
import Derived.Deep.MidRow
import Derived.Deep.RegionHeld3
import Derived.Deep.CutRange
import Derived.RegionTactic
namespace Go.Proofs.YtahljmddnfldlaaGreatDoor
open Go.RowKit FloM ValM Go.Shelf
set_option linter.unusedVariables false
set_option linter.unusedSimpArgs false
def amZ : AmA := ⟨[], none, 0, []⟩
def isZ (t : Tm) : Bool := decide (t.v = []) && isV0 t.x
def blankB (x : LtI) : Bool := decide (x.m.p = []) && decide (x.m.a = []) && decide (x.o = []) && isZ x.a && isZ x.b && isZ x.c && decide (x.p = [])
theorem isZ_iff (t : Tm) : isZ t = true ↔ t = tm0 := by
  unfold isZ
  rw [Bool.and_eq_true, decide_eq_true_eq, isV0_iff]
  constructor
  · rintro ⟨h1, h2⟩; obtain ⟨v, x⟩ := t; simp only at h1 h2; rw [h1, h2]; rfl
  · rintro rfl; exact ⟨rfl, rfl⟩
theorem not_z {t : Tm} (h : isZ t = false) : t.v ≠ [] ∨ (t.v = [] ∧ t.x.k ≠ 0) ∨ (t.v = [] ∧ t.x.k = 0 ∧ t.x.n ≠ 0) ∨ (t.v = [] ∧ t.x.k = 0 ∧ t.x.n = 0 ∧ t.x.s ≠ ⟨#[]⟩) := by
  by_cases h1 : t.v = []
  · by_cases h2 : t.x.k = 0
    · by_cases h3 : t.x.n = 0
      · refine .inr (.inr (.inr ⟨h1, h2, h3, fun h4 => ?_⟩))
        have : isZ t = true := by unfold isZ isV0; simp [h1, h2, h3, h4, ls]
        rw [this] at h; cases h
      · exact .inr (.inr (.inl ⟨h1, h2, h3⟩))
    · exact .inr (.inl ⟨h1, h2⟩)
  · exact .inl h1
set_option maxRecDepth 20000 in
set_option maxHeartbeats 8000000 in
theorem blank_p (k : Int) (p : List UInt8) (Am : Option Addr) (cm : Nat) (a : List Tm) (o : List UInt8) (va vb vc : List UInt8) (ka na kb nb kc nc : Int) (sa sb sc : ByteArray) (pA : Option Addr) (pc : Nat) (l : List SI) (W : World) (hla : a.length ≤ 9223372036854775807) (hll : l.length ≤ 9223372036854775807) (h : p ≠ []) : Calls Tryz.prog 46 #[.agg #[.int .i64 k, .string (bs p), .slice Am a.length cm, .string (bs o), .string (bs va), .int .i64 ka, .int .i64 na, .string sa, .string (bs vb), .int .i64 kb, .int .i64 nb, .string sb, .string (bs vc), .int .i64 kc, .int .i64 nc, .string sc, .slice pA l.length pc]] W fun e w' => e = .returned (.bool false) ∧ Below W.heap.size W w' := by
  have f_p : ((bs p).toList == []) = false := by rw [bsl, beq_eq_false_iff_ne]; exact h
  clear h
  have hb : Below W.heap.size W ((W.alloc (.cells #[.int .i64 k, .string (bs p), .slice Am a.length cm, .string (bs o), .string (bs va), .int .i64 ka, .int .i64 na, .string sa, .string (bs vb), .int .i64 kb, .int .i64 nb, .string sb, .string (bs vc), .int .i64 kc, .int .i64 nc, .string sc, .slice pA l.length pc] 52)).alloc (.cells #[.string ByteArray.empty, .int .i64 0, .int .i64 0, .string ByteArray.empty] 48)) := ((Below.refl _ _).alloc (Nat.le_refl _) _).alloc (by simp) _
  have HB := Lib.hid hb
  clear hb
  go_enter Tryz.func46, Tryz.ntmps46
  go_wp2
  go_ret
  exact ⟨rfl, HB.out⟩
set_option maxRecDepth 20000 in
set_option maxHeartbeats 8000000 in
theorem blank_a (k : Int) (p : List UInt8) (Am : Option Addr) (cm : Nat) (a : List Tm) (o : List UInt8) (va vb vc : List UInt8) (ka na kb nb kc nc : Int) (sa sb sc : ByteArray) (pA : Option Addr) (pc : Nat) (l : List SI) (W : World) (hla : a.length ≤ 9223372036854775807) (hll : l.length ≤ 9223372036854775807) (h : a ≠ []) : Calls Tryz.prog 46 #[.agg #[.int .i64 k, .string ⟨#[]⟩, .slice Am a.length cm, .string (bs o), .string (bs va), .int .i64 ka, .int .i64 na, .string sa, .string (bs vb), .int .i64 kb, .int .i64 nb, .string sb, .string (bs vc), .int .i64 kc, .int .i64 nc, .string sc, .slice pA l.length pc]] W fun e w' => e = .returned (.bool false) ∧ Below W.heap.size W w' := by
  have f_a : ((a.length : Int) == 0) = false := by rw [beq_eq_false_iff_ne]; have := List.length_pos_iff.2 h; omega
  clear h
  have hb : Below W.heap.size W ((W.alloc (.cells #[.int .i64 k, .string ⟨#[]⟩, .slice Am a.length cm, .string (bs o), .string (bs va), .int .i64 ka, .int .i64 na, .string sa, .string (bs vb), .int .i64 kb, .int .i64 nb, .string sb, .string (bs vc), .int .i64 kc, .int .i64 nc, .string sc, .slice pA l.length pc] 52)).alloc (.cells #[.string ByteArray.empty, .int .i64 0, .int .i64 0, .string ByteArray.empty] 48)) := ((Below.refl _ _).alloc (Nat.le_refl _) _).alloc (by simp) _
  have HB := Lib.hid hb
  clear hb
  go_enter Tryz.func46, Tryz.ntmps46
  go_wp2
  go_ret
  exact ⟨rfl, HB.out⟩
set_option maxRecDepth 20000 in
set_option maxHeartbeats 8000000 in
theorem blank_o (k : Int) (p : List UInt8) (Am : Option Addr) (cm : Nat) (a : List Tm) (o : List UInt8) (va vb vc : List UInt8) (ka na kb nb kc nc : Int) (sa sb sc : ByteArray) (pA : Option Addr) (pc : Nat) (l : List SI) (W : World) (hla : a.length ≤ 9223372036854775807) (hll : l.length ≤ 9223372036854775807) (h : o ≠ []) : Calls Tryz.prog 46 #[.agg #[.int .i64 k, .string ⟨#[]⟩, .slice Am 0 cm, .string (bs o), .string (bs va), .int .i64 ka, .int .i64 na, .string sa, .string (bs vb), .int .i64 kb, .int .i64 nb, .string sb, .string (bs vc), .int .i64 kc, .int .i64 nc, .string sc, .slice pA l.length pc]] W fun e w' => e = .returned (.bool false) ∧ Below W.heap.size W w' := by
  have f_o : ((bs o).toList == []) = false := by rw [bsl, beq_eq_false_iff_ne]; exact h
  clear h
  have hb : Below W.heap.size W ((W.alloc (.cells #[.int .i64 k, .string ⟨#[]⟩, .slice Am 0 cm, .string (bs o), .string (bs va), .int .i64 ka, .int .i64 na, .string sa, .string (bs vb), .int .i64 kb, .int .i64 nb, .string sb, .string (bs vc), .int .i64 kc, .int .i64 nc, .string sc, .slice pA l.length pc] 52)).alloc (.cells #[.string ByteArray.empty, .int .i64 0, .int .i64 0, .string ByteArray.empty] 48)) := ((Below.refl _ _).alloc (Nat.le_refl _) _).alloc (by simp) _
  have HB := Lib.hid hb
  clear hb
  go_enter Tryz.func46, Tryz.ntmps46
  go_wp2
  go_ret
  exact ⟨rfl, HB.out⟩
set_option maxRecDepth 20000 in
set_option maxHeartbeats 8000000 in
theorem blank_av (k : Int) (p : List UInt8) (Am : Option Addr) (cm : Nat) (a : List Tm) (o : List UInt8) (va vb vc : List UInt8) (ka na kb nb kc nc : Int) (sa sb sc : ByteArray) (pA : Option Addr) (pc : Nat) (l : List SI) (W : World) (hla : a.length ≤ 9223372036854775807) (hll : l.length ≤ 9223372036854775807) (h : va ≠ []) : Calls Tryz.prog 46 #[.agg #[.int .i64 k, .string ⟨#[]⟩, .slice Am 0 cm, .string ⟨#[]⟩, .string (bs va), .int .i64 ka, .int .i64 na, .string sa, .string (bs vb), .int .i64 kb, .int .i64 nb, .string sb, .string (bs vc), .int .i64 kc, .int .i64 nc, .string sc, .slice pA l.length pc]] W fun e w' => e = .returned (.bool false) ∧ Below W.heap.size W w' := by
  have f_v : ¬ (bs va).toList = [] := by rw [bsl]; exact h
  clear h
  have hb : Below W.heap.size W ((W.alloc (.cells #[.int .i64 k, .string ⟨#[]⟩, .slice Am 0 cm, .string ⟨#[]⟩, .string (bs va), .int .i64 ka, .int .i64 na, .string sa, .string (bs vb), .int .i64 kb, .int .i64 nb, .string sb, .string (bs vc), .int .i64 kc, .int .i64 nc, .string sc, .slice pA l.length pc] 52)).alloc (.cells #[.string ByteArray.empty, .int .i64 0, .int .i64 0, .string ByteArray.empty] 48)) := ((Below.refl _ _).alloc (Nat.le_refl _) _).alloc (by simp) _
  have HB := Lib.hid hb
  clear hb
  go_enter Tryz.func46, Tryz.ntmps46
  go_wp2
  go_ret
  exact ⟨rfl, HB.out⟩
set_option maxRecDepth 20000 in
set_option maxHeartbeats 8000000 in
theorem blank_ak (k : Int) (p : List UInt8) (Am : Option Addr) (cm : Nat) (a : List Tm) (o : List UInt8) (va vb vc : List UInt8) (ka na kb nb kc nc : Int) (sa sb sc : ByteArray) (pA : Option Addr) (pc : Nat) (l : List SI) (W : World) (hla : a.length ≤ 9223372036854775807) (hll : l.length ≤ 9223372036854775807) (h : ka ≠ 0) : Calls Tryz.prog 46 #[.agg #[.int .i64 k, .string ⟨#[]⟩, .slice Am 0 cm, .string ⟨#[]⟩, .string ⟨#[]⟩, .int .i64 ka, .int .i64 na, .string sa, .string (bs vb), .int .i64 kb, .int .i64 nb, .string sb, .string (bs vc), .int .i64 kc, .int .i64 nc, .string sc, .slice pA l.length pc]] W fun e w' => e = .returned (.bool false) ∧ Below W.heap.size W w' := by
  have hb : Below W.heap.size W ((W.alloc (.cells #[.int .i64 k, .string ⟨#[]⟩, .slice Am 0 cm, .string ⟨#[]⟩, .string ⟨#[]⟩, .int .i64 ka, .int .i64 na, .string sa, .string (bs vb), .int .i64 kb, .int .i64 nb, .string sb, .string (bs vc), .int .i64 kc, .int .i64 nc, .string sc, .slice pA l.length pc] 52)).alloc (.cells #[.string ByteArray.empty, .int .i64 0, .int .i64 0, .string ByteArray.empty] 48)) := ((Below.refl _ _).alloc (Nat.le_refl _) _).alloc (by simp) _
  have HB := Lib.hid hb
  clear hb
  go_enter Tryz.func46, Tryz.ntmps46
  go_wp2
  go_ret
  exact ⟨rfl, HB.out⟩
set_option maxRecDepth 20000 in
set_option maxHeartbeats 8000000 in
theorem blank_an (k : Int) (p : List UInt8) (Am : Option Addr) (cm : Nat) (a : List Tm) (o : List UInt8) (va vb vc : List UInt8) (ka na kb nb kc nc : Int) (sa sb sc : ByteArray) (pA : Option Addr) (pc : Nat) (l : List SI) (W : World) (hla : a.length ≤ 9223372036854775807) (hll : l.length ≤ 9223372036854775807) (h : na ≠ 0) : Calls Tryz.prog 46 #[.agg #[.int .i64 k, .string ⟨#[]⟩, .slice Am 0 cm, .string ⟨#[]⟩, .string ⟨#[]⟩, .int .i64 0, .int .i64 na, .string sa, .string (bs vb), .int .i64 kb, .int .i64 nb, .string sb, .string (bs vc), .int .i64 kc, .int .i64 nc, .string sc, .slice pA l.length pc]] W fun e w' => e = .returned (.bool false) ∧ Below W.heap.size W w' := by
  have hb : Below W.heap.size W ((W.alloc (.cells #[.int .i64 k, .string ⟨#[]⟩, .slice Am 0 cm, .string ⟨#[]⟩, .string ⟨#[]⟩, .int .i64 0, .int .i64 na, .string sa, .string (bs vb), .int .i64 kb, .int .i64 nb, .string sb, .string (bs vc), .int .i64 kc, .int .i64 nc, .string sc, .slice pA l.length pc] 52)).alloc (.cells #[.string ByteArray.empty, .int .i64 0, .int .i64 0, .string ByteArray.empty] 48)) := ((Below.refl _ _).alloc (Nat.le_refl _) _).alloc (by simp) _
  have HB := Lib.hid hb
  clear hb
  go_enter Tryz.func46, Tryz.ntmps46
  go_wp2
  go_ret
  exact ⟨rfl, HB.out⟩
set_option maxRecDepth 20000 in
set_option maxHeartbeats 8000000 in
theorem blank_as (k : Int) (p : List UInt8) (Am : Option Addr) (cm : Nat) (a : List Tm) (o : List UInt8) (va vb vc : List UInt8) (ka na kb nb kc nc : Int) (sa sb sc : ByteArray) (pA : Option Addr) (pc : Nat) (l : List SI) (W : World) (hla : a.length ≤ 9223372036854775807) (hll : l.length ≤ 9223372036854775807) (h : sa ≠ ⟨#[]⟩) : Calls Tryz.prog 46 #[.agg #[.int .i64 k, .string ⟨#[]⟩, .slice Am 0 cm, .string ⟨#[]⟩, .string ⟨#[]⟩, .int .i64 0, .int .i64 0, .string sa, .string (bs vb), .int .i64 kb, .int .i64 nb, .string sb, .string (bs vc), .int .i64 kc, .int .i64 nc, .string sc, .slice pA l.length pc]] W fun e w' => e = .returned (.bool false) ∧ Below W.heap.size W w' := by
  have f_s : ¬ sa.toList = [] := by rw [toList_ls]; intro e; exact h (by rw [← bs_ls sa, e]; rfl)
  clear h
  have hb : Below W.heap.size W ((W.alloc (.cells #[.int .i64 k, .string ⟨#[]⟩, .slice Am 0 cm, .string ⟨#[]⟩, .string ⟨#[]⟩, .int .i64 0, .int .i64 0, .string sa, .string (bs vb), .int .i64 kb, .int .i64 nb, .string sb, .string (bs vc), .int .i64 kc, .int .i64 nc, .string sc, .slice pA l.length pc] 52)).alloc (.cells #[.string ByteArray.empty, .int .i64 0, .int .i64 0, .string ByteArray.empty] 48)) := ((Below.refl _ _).alloc (Nat.le_refl _) _).alloc (by simp) _
  have HB := Lib.hid hb
  clear hb
  go_enter Tryz.func46, Tryz.ntmps46
  go_wp2
  go_ret
  exact ⟨rfl, HB.out⟩
set_option maxRecDepth 20000 in
set_option maxHeartbeats 8000000 in
theorem blank_bv (k : Int) (p : List UInt8) (Am : Option Addr) (cm : Nat) (a : List Tm) (o : List UInt8) (va vb vc : List UInt8) (ka na kb nb kc nc : Int) (sa sb sc : ByteArray) (pA : Option Addr) (pc : Nat) (l : List SI) (W : World) (hla : a.length ≤ 9223372036854775807) (hll : l.length ≤ 9223372036854775807) (h : vb ≠ []) : Calls Tryz.prog 46 #[.agg #[.int .i64 k, .string ⟨#[]⟩, .slice Am 0 cm, .string ⟨#[]⟩, .string ⟨#[]⟩, .int .i64 0, .int .i64 0, .string ⟨#[]⟩, .string (bs vb), .int .i64 kb, .int .i64 nb, .string sb, .string (bs vc), .int .i64 kc, .int .i64 nc, .string sc, .slice pA l.length pc]] W fun e w' => e = .returned (.bool false) ∧ Below W.heap.size W w' := by
  have f_v : ¬ (bs vb).toList = [] := by rw [bsl]; exact h
  clear h
  have hb : Below W.heap.size W ((W.alloc (.cells #[.int .i64 k, .string ⟨#[]⟩, .slice Am 0 cm, .string ⟨#[]⟩, .string ⟨#[]⟩, .int .i64 0, .int .i64 0, .string ⟨#[]⟩, .string (bs vb), .int .i64 kb, .int .i64 nb, .string sb, .string (bs vc), .int .i64 kc, .int .i64 nc, .string sc, .slice pA l.length pc] 52)).alloc (.cells #[.string ByteArray.empty, .int .i64 0, .int .i64 0, .string ByteArray.empty] 48)) := ((Below.refl _ _).alloc (Nat.le_refl _) _).alloc (by simp) _
  have HB := Lib.hid hb
  clear hb
  go_enter Tryz.func46, Tryz.ntmps46
  go_wp2
  go_ret
  exact ⟨rfl, HB.out⟩
set_option maxRecDepth 20000 in
set_option maxHeartbeats 8000000 in
theorem blank_bk (k : Int) (p : List UInt8) (Am : Option Addr) (cm : Nat) (a : List Tm) (o : List UInt8) (va vb vc : List UInt8) (ka na kb nb kc nc : Int) (sa sb sc : ByteArray) (pA : Option Addr) (pc : Nat) (l : List SI) (W : World) (hla : a.length ≤ 9223372036854775807) (hll : l.length ≤ 9223372036854775807) (h : kb ≠ 0) : Calls Tryz.prog 46 #[.agg #[.int .i64 k, .string ⟨#[]⟩, .slice Am 0 cm, .string ⟨#[]⟩, .string ⟨#[]⟩, .int .i64 0, .int .i64 0, .string ⟨#[]⟩, .string ⟨#[]⟩, .int .i64 kb, .int .i64 nb, .string sb, .string (bs vc), .int .i64 kc, .int .i64 nc, .string sc, .slice pA l.length pc]] W fun e w' => e = .returned (.bool false) ∧ Below W.heap.size W w' := by
  have hb : Below W.heap.size W ((W.alloc (.cells #[.int .i64 k, .string ⟨#[]⟩, .slice Am 0 cm, .string ⟨#[]⟩, .string ⟨#[]⟩, .int .i64 0, .int .i64 0, .string ⟨#[]⟩, .string ⟨#[]⟩, .int .i64 kb, .int .i64 nb, .string sb, .string (bs vc), .int .i64 kc, .int .i64 nc, .string sc, .slice pA l.length pc] 52)).alloc (.cells #[.string ByteArray.empty, .int .i64 0, .int .i64 0, .string ByteArray.empty] 48)) := ((Below.refl _ _).alloc (Nat.le_refl _) _).alloc (by simp) _
  have HB := Lib.hid hb
  clear hb
  go_enter Tryz.func46, Tryz.ntmps46
  go_wp2
  go_ret
  exact ⟨rfl, HB.out⟩
set_option maxRecDepth 20000 in
set_option maxHeartbeats 8000000 in
theorem blank_bn (k : Int) (p : List UInt8) (Am : Option Addr) (cm : Nat) (a : List Tm) (o : List UInt8) (va vb vc : List UInt8) (ka na kb nb kc nc : Int) (sa sb sc : ByteArray) (pA : Option Addr) (pc : Nat) (l : List SI) (W : World) (hla : a.length ≤ 9223372036854775807) (hll : l.length ≤ 9223372036854775807) (h : nb ≠ 0) : Calls Tryz.prog 46 #[.agg #[.int .i64 k, .string ⟨#[]⟩, .slice Am 0 cm, .string ⟨#[]⟩, .string ⟨#[]⟩, .int .i64 0, .int .i64 0, .string ⟨#[]⟩, .string ⟨#[]⟩, .int .i64 0, .int .i64 nb, .string sb, .string (bs vc), .int .i64 kc, .int .i64 nc, .string sc, .slice pA l.length pc]] W fun e w' => e = .returned (.bool false) ∧ Below W.heap.size W w' := by
  have hb : Below W.heap.size W ((W.alloc (.cells #[.int .i64 k, .string ⟨#[]⟩, .slice Am 0 cm, .string ⟨#[]⟩, .string ⟨#[]⟩, .int .i64 0, .int .i64 0, .string ⟨#[]⟩, .string ⟨#[]⟩, .int .i64 0, .int .i64 nb, .string sb, .string (bs vc), .int .i64 kc, .int .i64 nc, .string sc, .slice pA l.length pc] 52)).alloc (.cells #[.string ByteArray.empty, .int .i64 0, .int .i64 0, .string ByteArray.empty] 48)) := ((Below.refl _ _).alloc (Nat.le_refl _) _).alloc (by simp) _
  have HB := Lib.hid hb
  clear hb
  go_enter Tryz.func46, Tryz.ntmps46
  go_wp2
  go_ret
  exact ⟨rfl, HB.out⟩
set_option maxRecDepth 20000 in
set_option maxHeartbeats 8000000 in
theorem blank_bs (k : Int) (p : List UInt8) (Am : Option Addr) (cm : Nat) (a : List Tm) (o : List UInt8) (va vb vc : List UInt8) (ka na kb nb kc nc : Int) (sa sb sc : ByteArray) (pA : Option Addr) (pc : Nat) (l : List SI) (W : World) (hla : a.length ≤ 9223372036854775807) (hll : l.length ≤ 9223372036854775807) (h : sb ≠ ⟨#[]⟩) : Calls Tryz.prog 46 #[.agg #[.int .i64 k, .string ⟨#[]⟩, .slice Am 0 cm, .string ⟨#[]⟩, .string ⟨#[]⟩, .int .i64 0, .int .i64 0, .string ⟨#[]⟩, .string ⟨#[]⟩, .int .i64 0, .int .i64 0, .string sb, .string (bs vc), .int .i64 kc, .int .i64 nc, .string sc, .slice pA l.length pc]] W fun e w' => e = .returned (.bool false) ∧ Below W.heap.size W w' := by
  have f_s : ¬ sb.toList = [] := by rw [toList_ls]; intro e; exact h (by rw [← bs_ls sb, e]; rfl)
  clear h
  have hb : Below W.heap.size W ((W.alloc (.cells #[.int .i64 k, .string ⟨#[]⟩, .slice Am 0 cm, .string ⟨#[]⟩, .string ⟨#[]⟩, .int .i64 0, .int .i64 0, .string ⟨#[]⟩, .string ⟨#[]⟩, .int .i64 0, .int .i64 0, .string sb, .string (bs vc), .int .i64 kc, .int .i64 nc, .string sc, .slice pA l.length pc] 52)).alloc (.cells #[.string ByteArray.empty, .int .i64 0, .int .i64 0, .string ByteArray.empty] 48)) := ((Below.refl _ _).alloc (Nat.le_refl _) _).alloc (by simp) _
  have HB := Lib.hid hb
  clear hb
  go_enter Tryz.func46, Tryz.ntmps46
  go_wp2
  go_ret
  exact ⟨rfl, HB.out⟩
set_option maxRecDepth 20000 in
set_option maxHeartbeats 8000000 in
theorem blank_cv (k : Int) (p : List UInt8) (Am : Option Addr) (cm : Nat) (a : List Tm) (o : List UInt8) (va vb vc : List UInt8) (ka na kb nb kc nc : Int) (sa sb sc : ByteArray) (pA : Option Addr) (pc : Nat) (l : List SI) (W : World) (hla : a.length ≤ 9223372036854775807) (hll : l.length ≤ 9223372036854775807) (h : vc ≠ []) : Calls Tryz.prog 46 #[.agg #[.int .i64 k, .string ⟨#[]⟩, .slice Am 0 cm, .string ⟨#[]⟩, .string ⟨#[]⟩, .int .i64 0, .int .i64 0, .string ⟨#[]⟩, .string ⟨#[]⟩, .int .i64 0, .int .i64 0, .string ⟨#[]⟩, .string (bs vc), .int .i64 kc, .int .i64 nc, .string sc, .slice pA l.length pc]] W fun e w' => e = .returned (.bool false) ∧ Below W.heap.size W w' := by
  have f_v : ¬ (bs vc).toList = [] := by rw [bsl]; exact h
  clear h
  have hb : Below W.heap.size W ((W.alloc (.cells #[.int .i64 k, .string ⟨#[]⟩, .slice Am 0 cm, .string ⟨#[]⟩, .string ⟨#[]⟩, .int .i64 0, .int .i64 0, .string ⟨#[]⟩, .string ⟨#[]⟩, .int .i64 0, .int .i64 0, .string ⟨#[]⟩, .string (bs vc), .int .i64 kc, .int .i64 nc, .string sc, .slice pA l.length pc] 52)).alloc (.cells #[.string ByteArray.empty, .int .i64 0, .int .i64 0, .string ByteArray.empty] 48)) := ((Below.refl _ _).alloc (Nat.le_refl _) _).alloc (by simp) _
  have HB := Lib.hid hb
  clear hb
  go_enter Tryz.func46, Tryz.ntmps46
  go_wp2
  go_ret
  exact ⟨rfl, HB.out⟩
set_option maxRecDepth 20000 in
set_option maxHeartbeats 8000000 in
theorem blank_ck (k : Int) (p : List UInt8) (Am : Option Addr) (cm : Nat) (a : List Tm) (o : List UInt8) (va vb vc : List UInt8) (ka na kb nb kc nc : Int) (sa sb sc : ByteArray) (pA : Option Addr) (pc : Nat) (l : List SI) (W : World) (hla : a.length ≤ 9223372036854775807) (hll : l.length ≤ 9223372036854775807) (h : kc ≠ 0) : Calls Tryz.prog 46 #[.agg #[.int .i64 k, .string ⟨#[]⟩, .slice Am 0 cm, .string ⟨#[]⟩, .string ⟨#[]⟩, .int .i64 0, .int .i64 0, .string ⟨#[]⟩, .string ⟨#[]⟩, .int .i64 0, .int .i64 0, .string ⟨#[]⟩, .string ⟨#[]⟩, .int .i64 kc, .int .i64 nc, .string sc, .slice pA l.length pc]] W fun e w' => e = .returned (.bool false) ∧ Below W.heap.size W w' := by
  have hb : Below W.heap.size W ((W.alloc (.cells #[.int .i64 k, .string ⟨#[]⟩, .slice Am 0 cm, .string ⟨#[]⟩, .string ⟨#[]⟩, .int .i64 0, .int .i64 0, .string ⟨#[]⟩, .string ⟨#[]⟩, .int .i64 0, .int .i64 0, .string ⟨#[]⟩, .string ⟨#[]⟩, .int .i64 kc, .int .i64 nc, .string sc, .slice pA l.length pc] 52)).alloc (.cells #[.string ByteArray.empty, .int .i64 0, .int .i64 0, .string ByteArray.empty] 48)) := ((Below.refl _ _).alloc (Nat.le_refl _) _).alloc (by simp) _
  have HB := Lib.hid hb
  clear hb
  go_enter Tryz.func46, Tryz.ntmps46
  go_wp2
  go_ret
  exact ⟨rfl, HB.out⟩
set_option maxRecDepth 20000 in
set_option maxHeartbeats 8000000 in
theorem blank_cn (k : Int) (p : List UInt8) (Am : Option Addr) (cm : Nat) (a : List Tm) (o : List UInt8) (va vb vc : List UInt8) (ka na kb nb kc nc : Int) (sa sb sc : ByteArray) (pA : Option Addr) (pc : Nat) (l : List SI) (W : World) (hla : a.length ≤ 9223372036854775807) (hll : l.length ≤ 9223372036854775807) (h : nc ≠ 0) : Calls Tryz.prog 46 #[.agg #[.int .i64 k, .string ⟨#[]⟩, .slice Am 0 cm, .string ⟨#[]⟩, .string ⟨#[]⟩, .int .i64 0, .int .i64 0, .string ⟨#[]⟩, .string ⟨#[]⟩, .int .i64 0, .int .i64 0, .string ⟨#[]⟩, .string ⟨#[]⟩, .int .i64 0, .int .i64 nc, .string sc, .slice pA l.length pc]] W fun e w' => e = .returned (.bool false) ∧ Below W.heap.size W w' := by
  have hb : Below W.heap.size W ((W.alloc (.cells #[.int .i64 k, .string ⟨#[]⟩, .slice Am 0 cm, .string ⟨#[]⟩, .string ⟨#[]⟩, .int .i64 0, .int .i64 0, .string ⟨#[]⟩, .string ⟨#[]⟩, .int .i64 0, .int .i64 0, .string ⟨#[]⟩, .string ⟨#[]⟩, .int .i64 0, .int .i64 nc, .string sc, .slice pA l.length pc] 52)).alloc (.cells #[.string ByteArray.empty, .int .i64 0, .int .i64 0, .string ByteArray.empty] 48)) := ((Below.refl _ _).alloc (Nat.le_refl _) _).alloc (by simp) _
  have HB := Lib.hid hb
  clear hb
  go_enter Tryz.func46, Tryz.ntmps46
  go_wp2
  go_ret
  exact ⟨rfl, HB.out⟩
set_option maxRecDepth 20000 in
set_option maxHeartbeats 8000000 in
theorem blank_cs (k : Int) (p : List UInt8) (Am : Option Addr) (cm : Nat) (a : List Tm) (o : List UInt8) (va vb vc : List UInt8) (ka na kb nb kc nc : Int) (sa sb sc : ByteArray) (pA : Option Addr) (pc : Nat) (l : List SI) (W : World) (hla : a.length ≤ 9223372036854775807) (hll : l.length ≤ 9223372036854775807) (h : sc ≠ ⟨#[]⟩) : Calls Tryz.prog 46 #[.agg #[.int .i64 k, .string ⟨#[]⟩, .slice Am 0 cm, .string ⟨#[]⟩, .string ⟨#[]⟩, .int .i64 0, .int .i64 0, .string ⟨#[]⟩, .string ⟨#[]⟩, .int .i64 0, .int .i64 0, .string ⟨#[]⟩, .string ⟨#[]⟩, .int .i64 0, .int .i64 0, .string sc, .slice pA l.length pc]] W fun e w' => e = .returned (.bool false) ∧ Below W.heap.size W w' := by
  have f_s : ¬ sc.toList = [] := by rw [toList_ls]; intro e; exact h (by rw [← bs_ls sc, e]; rfl)
  clear h
  have hb : Below W.heap.size W ((W.alloc (.cells #[.int .i64 k, .string ⟨#[]⟩, .slice Am 0 cm, .string ⟨#[]⟩, .string ⟨#[]⟩, .int .i64 0, .int .i64 0, .string ⟨#[]⟩, .string ⟨#[]⟩, .int .i64 0, .int .i64 0, .string ⟨#[]⟩, .string ⟨#[]⟩, .int .i64 0, .int .i64 0, .string sc, .slice pA l.length pc] 52)).alloc (.cells #[.string ByteArray.empty, .int .i64 0, .int .i64 0, .string ByteArray.empty] 48)) := ((Below.refl _ _).alloc (Nat.le_refl _) _).alloc (by simp) _
  have HB := Lib.hid hb
  clear hb
  go_enter Tryz.func46, Tryz.ntmps46
  go_wp2
  go_ret
  exact ⟨rfl, HB.out⟩
set_option maxRecDepth 20000 in
set_option maxHeartbeats 8000000 in
theorem blank_l (k : Int) (p : List UInt8) (Am : Option Addr) (cm : Nat) (a : List Tm) (o : List UInt8) (va vb vc : List UInt8) (ka na kb nb kc nc : Int) (sa sb sc : ByteArray) (pA : Option Addr) (pc : Nat) (l : List SI) (W : World) (hla : a.length ≤ 9223372036854775807) (hll : l.length ≤ 9223372036854775807) (h : l ≠ []) : Calls Tryz.prog 46 #[.agg #[.int .i64 k, .string ⟨#[]⟩, .slice Am 0 cm, .string ⟨#[]⟩, .string ⟨#[]⟩, .int .i64 0, .int .i64 0, .string ⟨#[]⟩, .string ⟨#[]⟩, .int .i64 0, .int .i64 0, .string ⟨#[]⟩, .string ⟨#[]⟩, .int .i64 0, .int .i64 0, .string ⟨#[]⟩, .slice pA l.length pc]] W fun e w' => e = .returned (.bool false) ∧ Below W.heap.size W w' := by
  have f_l : ((l.length : Int) == 0) = false := by rw [beq_eq_false_iff_ne]; have := List.length_pos_iff.2 h; omega
  clear h
  have hb : Below W.heap.size W ((W.alloc (.cells #[.int .i64 k, .string ⟨#[]⟩, .slice Am 0 cm, .string ⟨#[]⟩, .string ⟨#[]⟩, .int .i64 0, .int .i64 0, .string ⟨#[]⟩, .string ⟨#[]⟩, .int .i64 0, .int .i64 0, .string ⟨#[]⟩, .string ⟨#[]⟩, .int .i64 0, .int .i64 0, .string ⟨#[]⟩, .slice pA l.length pc] 52)).alloc (.cells #[.string ByteArray.empty, .int .i64 0, .int .i64 0, .string ByteArray.empty] 48)) := ((Below.refl _ _).alloc (Nat.le_refl _) _).alloc (by simp) _
  have HB := Lib.hid hb
  clear hb
  go_enter Tryz.func46, Tryz.ntmps46
  go_wp2
  go_ret
  exact ⟨rfl, HB.out⟩
set_option maxRecDepth 20000 in
set_option maxHeartbeats 8000000 in
theorem blank_all (k : Int) (p : List UInt8) (Am : Option Addr) (cm : Nat) (a : List Tm) (o : List UInt8) (va vb vc : List UInt8) (ka na kb nb kc nc : Int) (sa sb sc : ByteArray) (pA : Option Addr) (pc : Nat) (l : List SI) (W : World) (hla : a.length ≤ 9223372036854775807) (hll : l.length ≤ 9223372036854775807)  : Calls Tryz.prog 46 #[.agg #[.int .i64 k, .string ⟨#[]⟩, .slice Am 0 cm, .string ⟨#[]⟩, .string ⟨#[]⟩, .int .i64 0, .int .i64 0, .string ⟨#[]⟩, .string ⟨#[]⟩, .int .i64 0, .int .i64 0, .string ⟨#[]⟩, .string ⟨#[]⟩, .int .i64 0, .int .i64 0, .string ⟨#[]⟩, .slice pA 0 pc]] W fun e w' => e = .returned (.bool true) ∧ Below W.heap.size W w' := by
  have hb : Below W.heap.size W ((W.alloc (.cells #[.int .i64 k, .string ⟨#[]⟩, .slice Am 0 cm, .string ⟨#[]⟩, .string ⟨#[]⟩, .int .i64 0, .int .i64 0, .string ⟨#[]⟩, .string ⟨#[]⟩, .int .i64 0, .int .i64 0, .string ⟨#[]⟩, .string ⟨#[]⟩, .int .i64 0, .int .i64 0, .string ⟨#[]⟩, .slice pA 0 pc] 52)).alloc (.cells #[.string ByteArray.empty, .int .i64 0, .int .i64 0, .string ByteArray.empty] 48)) := ((Below.refl _ _).alloc (Nat.le_refl _) _).alloc (by simp) _
  have HB := Lib.hid hb
  clear hb
  go_enter Tryz.func46, Tryz.ntmps46
  go_wp2
  go_ret
  exact ⟨rfl, HB.out⟩
end Go.Proofs.YtahljmddnfldlaaGreatDoor
namespace Go.Proofs.YtahljmddnfldlaaGreatDoor
open Go.RowKit FloM ValM Go.Shelf
set_option linter.unusedVariables false
set_option linter.unusedSimpArgs false
theorem isZ_ne {t : Tm} (h : t ≠ tm0) : isZ t = false := by
  cases hz : isZ t with
  | false => rfl
  | true => exact absurd ((isZ_iff t).1 hz) h
theorem blank_any (y : LtI) (W : World) (hla : y.m.a.length ≤ 9223372036854775807) (hll : y.p.length ≤ 9223372036854775807) :
    Calls Tryz.prog 46 #[.agg (ltIC y).toArray] W fun e w' => e = .returned (.bool (blankB y)) ∧ Below W.heap.size W w' := by
  obtain ⟨k, ⟨p, Am, cm, a⟩, o, ⟨va, ⟨ka, na, sa⟩⟩, ⟨vb, ⟨kb, nb, sb⟩⟩, ⟨vc, ⟨kc, nc, sc⟩⟩, pA, pc, l⟩ := y
  simp only at hla hll
  by_cases hp : p = []
  · by_cases ha : a = []
    · by_cases ho : o = []
      · subst hp ha ho
        by_cases hza : (⟨va, ⟨ka, na, sa⟩⟩ : Tm) = tm0
        · injection hza with e1 e2; injection e2 with e2 e3 e4
          subst e1 e2 e3 e4
          by_cases hzb : (⟨vb, ⟨kb, nb, sb⟩⟩ : Tm) = tm0
          · injection hzb with e1 e2; injection e2 with e2 e3 e4
            subst e1 e2 e3 e4
            by_cases hzc : (⟨vc, ⟨kc, nc, sc⟩⟩ : Tm) = tm0
            · injection hzc with e1 e2; injection e2 with e2 e3 e4
              subst e1 e2 e3 e4
              by_cases hl : l = []
              · subst hl
                exact blank_all k [] Am cm [] [] [] [] [] 0 0 0 0 0 0 ⟨#[]⟩ ⟨#[]⟩ ⟨#[]⟩ pA pc [] W hla hll
              · have e : blankB ⟨k, ⟨[], Am, cm, []⟩, [], ⟨[], ⟨0, 0, ByteArray.empty⟩⟩, ⟨[], ⟨0, 0, ByteArray.empty⟩⟩, ⟨[], ⟨0, 0, ByteArray.empty⟩⟩, pA, pc, l⟩ = false := by unfold blankB; simp [hl]
                rw [e]
                exact blank_l k [] Am cm [] [] [] [] [] 0 0 0 0 0 0 ⟨#[]⟩ ⟨#[]⟩ ⟨#[]⟩ pA pc l W hla hll hl
            · have hz := isZ_ne hzc
              have e : blankB ⟨k, ⟨[], Am, cm, []⟩, [], ⟨[], ⟨0, 0, ByteArray.empty⟩⟩, ⟨[], ⟨0, 0, ByteArray.empty⟩⟩, ⟨vc, ⟨kc, nc, sc⟩⟩, pA, pc, l⟩ = false := by unfold blankB; simp only; rw [hz]; simp
              rw [e]
              rcases not_z hz with h | ⟨rfl, h⟩ | ⟨rfl, h2, h⟩ | ⟨rfl, h2, h3, h⟩
              · exact blank_cv k [] Am cm [] [] [] [] vc 0 0 0 0 kc nc ⟨#[]⟩ ⟨#[]⟩ sc pA pc l W hla hll h
              · exact blank_ck k [] Am cm [] [] [] [] [] 0 0 0 0 kc nc ⟨#[]⟩ ⟨#[]⟩ sc pA pc l W hla hll h
              · simp only at h2; subst h2; exact blank_cn k [] Am cm [] [] [] [] [] 0 0 0 0 0 nc ⟨#[]⟩ ⟨#[]⟩ sc pA pc l W hla hll h
              · simp only at h2 h3; subst h2 h3; exact blank_cs k [] Am cm [] [] [] [] [] 0 0 0 0 0 0 ⟨#[]⟩ ⟨#[]⟩ sc pA pc l W hla hll h
          · have hz := isZ_ne hzb
            have e : blankB ⟨k, ⟨[], Am, cm, []⟩, [], ⟨[], ⟨0, 0, ByteArray.empty⟩⟩, ⟨vb, ⟨kb, nb, sb⟩⟩, ⟨vc, ⟨kc, nc, sc⟩⟩, pA, pc, l⟩ = false := by unfold blankB; simp only; rw [hz]; simp
            rw [e]
            rcases not_z hz with h | ⟨rfl, h⟩ | ⟨rfl, h2, h⟩ | ⟨rfl, h2, h3, h⟩
            · exact blank_bv k [] Am cm [] [] [] vb vc 0 0 kb nb kc nc ⟨#[]⟩ sb sc pA pc l W hla hll h
            · exact blank_bk k [] Am cm [] [] [] [] vc 0 0 kb nb kc nc ⟨#[]⟩ sb sc pA pc l W hla hll h
            · simp only at h2; subst h2; exact blank_bn k [] Am cm [] [] [] [] vc 0 0 0 nb kc nc ⟨#[]⟩ sb sc pA pc l W hla hll h
            · simp only at h2 h3; subst h2 h3; exact blank_bs k [] Am cm [] [] [] [] vc 0 0 0 0 kc nc ⟨#[]⟩ sb sc pA pc l W hla hll h
        · have hz := isZ_ne hza
          have e : blankB ⟨k, ⟨[], Am, cm, []⟩, [], ⟨va, ⟨ka, na, sa⟩⟩, ⟨vb, ⟨kb, nb, sb⟩⟩, ⟨vc, ⟨kc, nc, sc⟩⟩, pA, pc, l⟩ = false := by unfold blankB; simp only; rw [hz]; simp
          rw [e]
          rcases not_z hz with h | ⟨rfl, h⟩ | ⟨rfl, h2, h⟩ | ⟨rfl, h2, h3, h⟩
          · exact blank_av k [] Am cm [] [] va vb vc ka na kb nb kc nc sa sb sc pA pc l W hla hll h
          · exact blank_ak k [] Am cm [] [] [] vb vc ka na kb nb kc nc sa sb sc pA pc l W hla hll h
          · simp only at h2; subst h2; exact blank_an k [] Am cm [] [] [] vb vc 0 na kb nb kc nc sa sb sc pA pc l W hla hll h
          · simp only at h2 h3; subst h2 h3; exact blank_as k [] Am cm [] [] [] vb vc 0 0 kb nb kc nc sa sb sc pA pc l W hla hll h
      · have e : blankB ⟨k, ⟨p, Am, cm, a⟩, o, ⟨va, ⟨ka, na, sa⟩⟩, ⟨vb, ⟨kb, nb, sb⟩⟩, ⟨vc, ⟨kc, nc, sc⟩⟩, pA, pc, l⟩ = false := by unfold blankB; simp [ho]
        rw [e]
        subst hp ha
        exact blank_o k [] Am cm [] o va vb vc ka na kb nb kc nc sa sb sc pA pc l W hla hll ho
    · have e : blankB ⟨k, ⟨p, Am, cm, a⟩, o, ⟨va, ⟨ka, na, sa⟩⟩, ⟨vb, ⟨kb, nb, sb⟩⟩, ⟨vc, ⟨kc, nc, sc⟩⟩, pA, pc, l⟩ = false := by unfold blankB; simp [ha]
      rw [e]
      subst hp
      exact blank_a k [] Am cm a o va vb vc ka na kb nb kc nc sa sb sc pA pc l W hla hll ha
  · have e : blankB ⟨k, ⟨p, Am, cm, a⟩, o, ⟨va, ⟨ka, na, sa⟩⟩, ⟨vb, ⟨kb, nb, sb⟩⟩, ⟨vc, ⟨kc, nc, sc⟩⟩, pA, pc, l⟩ = false := by unfold blankB; simp [hp]
    rw [e]
    exact blank_p k p Am cm a o va vb vc ka na kb nb kc nc sa sb sc pA pc l W hla hll hp
/-! ### Marks and words -/
def cmpX (o : List UInt8) : List UInt8 := if o = [60] ∨ o = [60, 61] ∨ o = [61] ∨ o = [33, 61] then o else []
def oprX (o : List UInt8) : List UInt8 := if o = [43] then [112, 108, 117, 115] else if o = [45] then [109, 105, 110, 117, 115] else if o = [42] then [116, 105, 109, 101, 115] else []
theorem bs_is {o c : List UInt8} (h : o = c) : ((bs o).toList == c) = true := by rw [bsl, h]; simp
theorem bs_not {o c : List UInt8} (h : o ≠ c) : ((bs o).toList == c) = false := by rw [bsl, beq_eq_false_iff_ne]; exact h
set_option maxRecDepth 20000 in
set_option maxHeartbeats 4000000 in
theorem comparison_any (o : List UInt8) (W : World) : Calls Tryz.prog 44 #[.string (bs o)] W fun e w' => e = .returned (.string (bs (cmpX o))) ∧ w' = W := by
  by_cases h1 : o = [60]
  · subst h1
    have f1 := bs_is (o := [60]) rfl
    go_enter Tryz.func44, Tryz.ntmps44
    go_wp2
    go_ret
    exact ⟨rfl, rfl⟩
  by_cases h2 : o = [60, 61]
  · subst h2
    have f1 := bs_not (o := [60, 61]) (c := [60]) (by decide); have f2 := bs_is (o := [60, 61]) rfl
    go_enter Tryz.func44, Tryz.ntmps44
    go_wp2
    go_ret
    exact ⟨rfl, rfl⟩
  by_cases h3 : o = [61]
  · subst h3
    have f1 := bs_not (o := [61]) (c := [60]) (by decide); have f2 := bs_not (o := [61]) (c := [60, 61]) (by decide); have f3 := bs_is (o := [61]) rfl
    go_enter Tryz.func44, Tryz.ntmps44
    go_wp2
    go_ret
    exact ⟨rfl, rfl⟩
  by_cases h4 : o = [33, 61]
  · subst h4
    have f1 := bs_not (o := [33, 61]) (c := [60]) (by decide); have f2 := bs_not (o := [33, 61]) (c := [60, 61]) (by decide); have f3 := bs_not (o := [33, 61]) (c := [61]) (by decide); have f4 := bs_is (o := [33, 61]) rfl
    go_enter Tryz.func44, Tryz.ntmps44
    go_wp2
    go_ret
    exact ⟨rfl, rfl⟩
  have e : cmpX o = [] := by unfold cmpX; rw [if_neg (by simp [h1, h2, h3, h4])]
  rw [e]
  have f1 := bs_not h1; have f2 := bs_not h2; have f3 := bs_not h3; have f4 := bs_not h4
  clear h1 h2 h3 h4 e
  go_enter Tryz.func44, Tryz.ntmps44
  go_wp2
  go_ret
  exact ⟨rfl, rfl⟩
set_option maxRecDepth 20000 in
set_option maxHeartbeats 4000000 in
theorem operation9_any (o : List UInt8) (W : World) : Calls Tryz.prog 45 #[.string (bs o)] W fun e w' => e = .returned (.string (bs (oprX o))) ∧ w' = W := by
  by_cases h1 : o = [43]
  · subst h1
    have f1 := bs_is (o := [43]) rfl
    go_enter Tryz.func45, Tryz.ntmps45
    go_wp2
    go_ret
    exact ⟨rfl, rfl⟩
  by_cases h2 : o = [45]
  · subst h2
    have f1 := bs_not (o := [45]) (c := [43]) (by decide); have f2 := bs_is (o := [45]) rfl
    go_enter Tryz.func45, Tryz.ntmps45
    go_wp2
    go_ret
    exact ⟨rfl, rfl⟩
  by_cases h3 : o = [42]
  · subst h3
    have f1 := bs_not (o := [42]) (c := [43]) (by decide); have f2 := bs_not (o := [42]) (c := [45]) (by decide); have f3 := bs_is (o := [42]) rfl
    go_enter Tryz.func45, Tryz.ntmps45
    go_wp2
    go_ret
    exact ⟨rfl, rfl⟩
  have e : oprX o = [] := by unfold oprX; rw [if_neg h1, if_neg h2, if_neg h3]
  rw [e]
  have f1 := bs_not h1; have f2 := bs_not h2; have f3 := bs_not h3
  clear h1 h2 h3 e
  go_enter Tryz.func45, Tryz.ntmps45
  go_wp2
  go_ret
  exact ⟨rfl, rfl⟩
/-! ### A literal's text -/
def litT (x : LtI) : List UInt8 :=
  if x.k = 1 then atomX x.m
  else if x.k = 2 then wholeX [[110, 111, 116, 32], atomX x.m]
  else if x.k = 3 then wholeX [termX x.a, [32], cmpX x.o, [32], termX x.b]
  else if x.k = 4 then wholeX [varX x.a, [32, 105, 115, 32], termX x.b, [32], oprX x.o, [32], termX x.c]
  else if x.k = 5 then wholeX [[119, 97, 108, 107, 40], termX x.a, [44, 32], pathX deepT (x.p.map stN), [44, 32], termX x.b, [41]]
  else []
def restL (x : LtI) : LtI :=
  if x.k = 1 ∨ x.k = 2 then { x with m := amZ }
  else if x.k = 3 then { x with a := tm0, o := [], b := tm0 }
  else if x.k = 4 then { x with a := tm0, b := tm0, o := [], c := tm0 }
  else if x.k = 5 then { x with a := tm0, pA := none, pc := 0, p := [], b := tm0 }
  else x
def litX (x : LtI) : List UInt8 := if blankB (restL x) = true then litT x else []
end Go.Proofs.YtahljmddnfldlaaGreatDoor
namespace Go.Proofs.YtahljmddnfldlaaGreatDoor
open Go.RowKit FloM ValM Go.Shelf
set_option linter.unusedVariables false
set_option linter.unusedSimpArgs false
set_option maxRecDepth 20000 in
set_option maxHeartbeats 16000000 in
theorem literal_1 (x : LtI) (W : World) (hx : x.rd W) (hok : x.ok) (hk : x.k = 1) : Calls Tryz.prog 20 #[.agg (ltIC x).toArray] W fun e w' => e = .returned (.string (bs (litX x))) ∧ Below W.heap.size W w' := by
  have HLX : Hid (litX x = if blankB { x with m := amZ } = true then atomX x.m else []) := Lib.hid (by
    have e1 : restL x = { x with m := amZ } := by unfold restL; rw [if_pos (.inl hk)]
    have e2 : litT x = atomX x.m := by unfold litT; rw [if_pos hk]
    unfold litX; rw [e1, e2])
  have hla : x.m.a.length ≤ 9223372036854775807 := Nat.le_trans hx.1.1 (by decide)
  have hlp : x.p.length ≤ 9223372036854775807 := Nat.le_trans hx.2.1 (by decide)
  have HRX : Hid (x.rd W) := Lib.hid hx
  have HOK := Lib.hid hok
  have HBL : Hid (∀ V, Calls Tryz.prog 46 #[.agg (ltIC { x with m := amZ }).toArray] V fun e w' => e = .returned (.bool (blankB { x with m := amZ })) ∧ Below V.heap.size V w') := Lib.hid fun V => blank_any { x with m := amZ } V (by first | exact hla | exact Nat.zero_le _) (by first | exact hlp | exact Nat.zero_le _)
  have HA : Hid (∀ V, Below W.heap.size W V → Calls Tryz.prog 12 #[.agg #[.string (bs x.m.p), .slice x.m.A x.m.a.length x.m.c]] V fun e w' => e = .returned (.string (bs (atomX x.m))) ∧ Below V.heap.size V w') := Lib.hid fun V hV => atom9_any x.m V (AmA.rd.on HRX.out.1 hV) HOK.out.1
  have HRG : Hid ((W.alloc (.cells (ltIC x).toArray 52)).rangeAt W.heap.size 0 (ltIC x)) := Lib.hid (fun j v hj => by rw [Nat.zero_add]; exact ((row_new (t := 52) W (ltIC x)).cell j).trans hj)
  have HZ : Hid (Row 52 ((W.alloc (.cells (ltIC x).toArray 52)).alloc (.cells [.int .i64 0, .string ByteArray.empty, .slice none 0 0, .string ByteArray.empty, .string ByteArray.empty, .int .i64 0, .int .i64 0, .string ByteArray.empty, .string ByteArray.empty, .int .i64 0, .int .i64 0, .string ByteArray.empty, .string ByteArray.empty, .int .i64 0, .int .i64 0, .string ByteArray.empty, .slice none 0 0].toArray 52)) (W.heap.size + 1) [.int .i64 0, .string ByteArray.empty, .slice none 0 0, .string ByteArray.empty, .string ByteArray.empty, .int .i64 0, .int .i64 0, .string ByteArray.empty, .string ByteArray.empty, .int .i64 0, .int .i64 0, .string ByteArray.empty, .string ByteArray.empty, .int .i64 0, .int .i64 0, .string ByteArray.empty, .slice none 0 0]) := Lib.hid (by have h := row_new (t := 52) (W.alloc (.cells (ltIC x).toArray 52)) [.int .i64 0, .string ByteArray.empty, .slice none 0 0, .string ByteArray.empty, .string ByteArray.empty, .int .i64 0, .int .i64 0, .string ByteArray.empty, .string ByteArray.empty, .int .i64 0, .int .i64 0, .string ByteArray.empty, .string ByteArray.empty, .int .i64 0, .int .i64 0, .string ByteArray.empty, .slice none 0 0]; rw [World.size_alloc] at h; exact h)
  have HR00 : Hid (Row 52 ((W.alloc (.cells (ltIC x).toArray 52)).alloc (.cells [.int .i64 0, .string ByteArray.empty, .slice none 0 0, .string ByteArray.empty, .string ByteArray.empty, .int .i64 0, .int .i64 0, .string ByteArray.empty, .string ByteArray.empty, .int .i64 0, .int .i64 0, .string ByteArray.empty, .string ByteArray.empty, .int .i64 0, .int .i64 0, .string ByteArray.empty, .slice none 0 0].toArray 52)) W.heap.size (ltIC x)) := Lib.hid ((row_new (t := 52) W (ltIC x)).alloc _)
  have hB0 : Below W.heap.size W ((W.alloc (.cells (ltIC x).toArray 52)).alloc (.cells [.int .i64 0, .string ByteArray.empty, .slice none 0 0, .string ByteArray.empty, .string ByteArray.empty, .int .i64 0, .int .i64 0, .string ByteArray.empty, .string ByteArray.empty, .int .i64 0, .int .i64 0, .string ByteArray.empty, .string ByteArray.empty, .int .i64 0, .int .i64 0, .string ByteArray.empty, .slice none 0 0].toArray 52)) := ((Below.refl _ _).alloc (Nat.le_refl _) _).alloc (by simp) _
  have HB0 := Lib.hid hB0
  have hall : (ltIC x).all (·.oneCell') = true := rfl
  clear hx hok hB0 hla hlp
  generalize hYB : blankB { x with m := amZ } = YB at *
  clear hYB
  go_enter Tryz.func20, Tryz.ntmps20
  go_upto_region 3 with (first
    | (refine wpList_load_mid rfl 52 (.tmp 1) rfl W.heap.size 0 rfl (ltIC x) _ HRG.out Tryz.underlying52 rfl (by kernel_rfl) ?_)
    | (refine wpList_storeR rfl 52 (.tmp 4) (.tmp 5) rfl (W.heap.size + 1) 0 rfl (.agg (ltIC x).toArray) rfl (ltIC x) rfl (pre := []) (old := [.int .i64 0, .string ByteArray.empty, .slice none 0 0, .string ByteArray.empty, .string ByteArray.empty, .int .i64 0, .int .i64 0, .string ByteArray.empty, .string ByteArray.empty, .int .i64 0, .int .i64 0, .string ByteArray.empty, .string ByteArray.empty, .int .i64 0, .int .i64 0, .string ByteArray.empty, .slice none 0 0]) (post := []) HZ.out rfl rfl (by kernel_rfl) hall ?_; intro w1 hR hF hs; have hB : Below W.heap.size W w1 := HB0.out.trans ((hF W.heap.size).below (Nat.le_refl _) (fun k hk e => by omega)); have HR1 : Hid (Row 52 w1 (W.heap.size + 1) (ltIC x)) := Lib.hid (by simpa using hR); have HR0 : Hid (Row 52 w1 W.heap.size (ltIC x)) := Lib.hid (Row.fr HR00.out (hF (W.heap.size + 1)) (by omega) (by omega)); have hs1 : w1.heap.size = W.heap.size + 1 + 1 := (by rw [hs]; simp); clear hR hF hs))
  clear HRG HZ HR00 HB0 hall
  have c0 : w1.cell? ⟨W.heap.size, 0, none⟩ = some (.int .i64 1) := by rw [← hk]; exact HR0.out.cell 0
  clear hk
  have HLY : Hid (∀ V, Row 52 V (W.heap.size + 1) ([.int .i64 x.k] ++ [.string ⟨#[]⟩, .slice none 0 0] ++ [.string (bs x.o), .string (bs x.a.v), .int .i64 x.a.x.k, .int .i64 x.a.x.n, .string x.a.x.s, .string (bs x.b.v), .int .i64 x.b.x.k, .int .i64 x.b.x.n, .string x.b.x.s, .string (bs x.c.v), .int .i64 x.c.x.k, .int .i64 x.c.x.n, .string x.c.x.s, .slice x.pA x.p.length x.pc]) → V.rangeAt (W.heap.size + 1) 0 (ltIC { x with m := amZ })) := Lib.hid fun V h => by
    have e : ([.int .i64 x.k] ++ [.string ⟨#[]⟩, .slice none 0 0] ++ [.string (bs x.o), .string (bs x.a.v), .int .i64 x.a.x.k, .int .i64 x.a.x.n, .string x.a.x.s, .string (bs x.b.v), .int .i64 x.b.x.k, .int .i64 x.b.x.n, .string x.b.x.s, .string (bs x.c.v), .int .i64 x.c.x.k, .int .i64 x.c.x.n, .string x.c.x.s, .slice x.pA x.p.length x.pc]) = ltIC { x with m := amZ } := rfl
    rw [e] at h
    exact fun j v hj => by rw [Nat.zero_add]; exact (h.cell j).trans hj
  have c1 : w1.cell? ⟨W.heap.size, 1, none⟩ = some (.string (bs x.m.p)) := HR0.out.cell 1
  have c2 : w1.cell? ⟨W.heap.size, 2, none⟩ = some (.slice x.m.A x.m.a.length x.m.c) := HR0.out.cell 2
  generalize atomX x.m = R at *
  go_upto_region 6 with (go_at_call 12; refine (HA.out _ hB).mono ?_; rintro e w2 ⟨rfl, h'⟩; replace hB := on hB h'; replace HR1 := Lib.hid (rowOn HR1.out h'); clear h' c0 c1 c2)
  clear HA HR0
  cases YB with
  | true =>
    go_wp2_with (first
      | (refine wpList_storeR rfl 25 (.tmp 14) (.tmp 13) rfl (W.heap.size + 1) 1 rfl (.agg #[.string ⟨#[]⟩, .slice none 0 0]) rfl [.string ⟨#[]⟩, .slice none 0 0] rfl (pre := [.int .i64 x.k]) (old := [.string (bs x.m.p), .slice x.m.A x.m.a.length x.m.c]) (post := [.string (bs x.o), .string (bs x.a.v), .int .i64 x.a.x.k, .int .i64 x.a.x.n, .string x.a.x.s, .string (bs x.b.v), .int .i64 x.b.x.k, .int .i64 x.b.x.n, .string x.b.x.s, .string (bs x.c.v), .int .i64 x.c.x.k, .int .i64 x.c.x.n, .string x.c.x.s, .slice x.pA x.p.length x.pc]) HR1.out rfl rfl (by kernel_rfl) rfl ?_; intro v1 hR hF hs; replace hB := hB.trans ((hF W.heap.size).below (Nat.le_refl _) (fun k hk e => by omega)); have HQ1 := Lib.hid hR; clear hR hF hs)
      | (refine wpList_load_mid rfl 52 (.tmp 4) rfl (W.heap.size + 1) 0 rfl (ltIC { x with m := amZ }) _ (HLY.out _ HQ1.out) Tryz.underlying52 rfl (by kernel_rfl) ?_)
      | (go_at_call 46; refine (HBL.out _).mono ?_; rintro e w9 ⟨rfl, h'⟩; replace hB := on hB h'; clear h'))
    go_ret
    rw [HLX.out]
    exact ⟨rfl, hB⟩
  | false =>
    go_wp2_with (first
      | (refine wpList_storeR rfl 25 (.tmp 14) (.tmp 13) rfl (W.heap.size + 1) 1 rfl (.agg #[.string ⟨#[]⟩, .slice none 0 0]) rfl [.string ⟨#[]⟩, .slice none 0 0] rfl (pre := [.int .i64 x.k]) (old := [.string (bs x.m.p), .slice x.m.A x.m.a.length x.m.c]) (post := [.string (bs x.o), .string (bs x.a.v), .int .i64 x.a.x.k, .int .i64 x.a.x.n, .string x.a.x.s, .string (bs x.b.v), .int .i64 x.b.x.k, .int .i64 x.b.x.n, .string x.b.x.s, .string (bs x.c.v), .int .i64 x.c.x.k, .int .i64 x.c.x.n, .string x.c.x.s, .slice x.pA x.p.length x.pc]) HR1.out rfl rfl (by kernel_rfl) rfl ?_; intro v1 hR hF hs; replace hB := hB.trans ((hF W.heap.size).below (Nat.le_refl _) (fun k hk e => by omega)); have HQ1 := Lib.hid hR; clear hR hF hs)
      | (refine wpList_load_mid rfl 52 (.tmp 4) rfl (W.heap.size + 1) 0 rfl (ltIC { x with m := amZ }) _ (HLY.out _ HQ1.out) Tryz.underlying52 rfl (by kernel_rfl) ?_)
      | (go_at_call 46; refine (HBL.out _).mono ?_; rintro e w9 ⟨rfl, h'⟩; replace hB := on hB h'; clear h'))
    go_ret
    rw [HLX.out]
    exact ⟨rfl, hB⟩
set_option maxRecDepth 20000 in
set_option maxHeartbeats 16000000 in
theorem literal_2 (x : LtI) (W : World) (hx : x.rd W) (hok : x.ok) (hk : x.k = 2) : Calls Tryz.prog 20 #[.agg (ltIC x).toArray] W fun e w' => e = .returned (.string (bs (litX x))) ∧ Below W.heap.size W w' := by
  have HLX : Hid (litX x = if blankB { x with m := amZ } = true then wholeX [[110, 111, 116, 32], atomX x.m] else []) := Lib.hid (by
    have e1 : restL x = { x with m := amZ } := by unfold restL; rw [if_pos (.inr hk)]
    have e2 : litT x = wholeX [[110, 111, 116, 32], atomX x.m] := by unfold litT; rw [if_neg (by omega), if_pos hk]
    unfold litX; rw [e1, e2])
  have hla : x.m.a.length ≤ 9223372036854775807 := Nat.le_trans hx.1.1 (by decide)
  have hlp : x.p.length ≤ 9223372036854775807 := Nat.le_trans hx.2.1 (by decide)
  have HRX : Hid (x.rd W) := Lib.hid hx
  have HOK := Lib.hid hok
  have HBL : Hid (∀ V, Calls Tryz.prog 46 #[.agg (ltIC { x with m := amZ }).toArray] V fun e w' => e = .returned (.bool (blankB { x with m := amZ })) ∧ Below V.heap.size V w') := Lib.hid fun V => blank_any { x with m := amZ } V (by first | exact hla | exact Nat.zero_le _) (by first | exact hlp | exact Nat.zero_le _)
  have HA : Hid (∀ V, Below W.heap.size W V → Calls Tryz.prog 12 #[.agg #[.string (bs x.m.p), .slice x.m.A x.m.a.length x.m.c]] V fun e w' => e = .returned (.string (bs (atomX x.m))) ∧ Below V.heap.size V w') := Lib.hid fun V hV => atom9_any x.m V (AmA.rd.on HRX.out.1 hV) HOK.out.1
  have hal : (atomX x.m).length ≤ 600 := headX_len HOK.out.1.2
  have HW : Hid (∀ V, Calls Tryz.prog 21 #[.slice (some ⟨V.heap.size, 0, none⟩) 2 2] (V.alloc (.cells #[.string ⟨#[110, 111, 116, 32]⟩, .string (bs (atomX x.m))] 9)) fun e w' => e = .returned (.string (bs (wholeX [[110, 111, 116, 32], atomX x.m]))) ∧ Below V.heap.size V w') := Lib.hid fun V => whole_lists V [[110, 111, 116, 32], atomX x.m] (by simp) (by simp; omega)
  clear hal
  have HRG : Hid ((W.alloc (.cells (ltIC x).toArray 52)).rangeAt W.heap.size 0 (ltIC x)) := Lib.hid (fun j v hj => by rw [Nat.zero_add]; exact ((row_new (t := 52) W (ltIC x)).cell j).trans hj)
  have HZ : Hid (Row 52 ((W.alloc (.cells (ltIC x).toArray 52)).alloc (.cells [.int .i64 0, .string ByteArray.empty, .slice none 0 0, .string ByteArray.empty, .string ByteArray.empty, .int .i64 0, .int .i64 0, .string ByteArray.empty, .string ByteArray.empty, .int .i64 0, .int .i64 0, .string ByteArray.empty, .string ByteArray.empty, .int .i64 0, .int .i64 0, .string ByteArray.empty, .slice none 0 0].toArray 52)) (W.heap.size + 1) [.int .i64 0, .string ByteArray.empty, .slice none 0 0, .string ByteArray.empty, .string ByteArray.empty, .int .i64 0, .int .i64 0, .string ByteArray.empty, .string ByteArray.empty, .int .i64 0, .int .i64 0, .string ByteArray.empty, .string ByteArray.empty, .int .i64 0, .int .i64 0, .string ByteArray.empty, .slice none 0 0]) := Lib.hid (by have h := row_new (t := 52) (W.alloc (.cells (ltIC x).toArray 52)) [.int .i64 0, .string ByteArray.empty, .slice none 0 0, .string ByteArray.empty, .string ByteArray.empty, .int .i64 0, .int .i64 0, .string ByteArray.empty, .string ByteArray.empty, .int .i64 0, .int .i64 0, .string ByteArray.empty, .string ByteArray.empty, .int .i64 0, .int .i64 0, .string ByteArray.empty, .slice none 0 0]; rw [World.size_alloc] at h; exact h)
  have HR00 : Hid (Row 52 ((W.alloc (.cells (ltIC x).toArray 52)).alloc (.cells [.int .i64 0, .string ByteArray.empty, .slice none 0 0, .string ByteArray.empty, .string ByteArray.empty, .int .i64 0, .int .i64 0, .string ByteArray.empty, .string ByteArray.empty, .int .i64 0, .int .i64 0, .string ByteArray.empty, .string ByteArray.empty, .int .i64 0, .int .i64 0, .string ByteArray.empty, .slice none 0 0].toArray 52)) W.heap.size (ltIC x)) := Lib.hid ((row_new (t := 52) W (ltIC x)).alloc _)
  have hB0 : Below W.heap.size W ((W.alloc (.cells (ltIC x).toArray 52)).alloc (.cells [.int .i64 0, .string ByteArray.empty, .slice none 0 0, .string ByteArray.empty, .string ByteArray.empty, .int .i64 0, .int .i64 0, .string ByteArray.empty, .string ByteArray.empty, .int .i64 0, .int .i64 0, .string ByteArray.empty, .string ByteArray.empty, .int .i64 0, .int .i64 0, .string ByteArray.empty, .slice none 0 0].toArray 52)) := ((Below.refl _ _).alloc (Nat.le_refl _) _).alloc (by simp) _
  have HB0 := Lib.hid hB0
  have hall : (ltIC x).all (·.oneCell') = true := rfl
  clear hx hok hB0 hla hlp
  generalize hYB : blankB { x with m := amZ } = YB at *
  clear hYB
  go_enter Tryz.func20, Tryz.ntmps20
  go_upto_region 3 with (first
    | (refine wpList_load_mid rfl 52 (.tmp 1) rfl W.heap.size 0 rfl (ltIC x) _ HRG.out Tryz.underlying52 rfl (by kernel_rfl) ?_)
    | (refine wpList_storeR rfl 52 (.tmp 4) (.tmp 5) rfl (W.heap.size + 1) 0 rfl (.agg (ltIC x).toArray) rfl (ltIC x) rfl (pre := []) (old := [.int .i64 0, .string ByteArray.empty, .slice none 0 0, .string ByteArray.empty, .string ByteArray.empty, .int .i64 0, .int .i64 0, .string ByteArray.empty, .string ByteArray.empty, .int .i64 0, .int .i64 0, .string ByteArray.empty, .string ByteArray.empty, .int .i64 0, .int .i64 0, .string ByteArray.empty, .slice none 0 0]) (post := []) HZ.out rfl rfl (by kernel_rfl) hall ?_; intro w1 hR hF hs; have hB : Below W.heap.size W w1 := HB0.out.trans ((hF W.heap.size).below (Nat.le_refl _) (fun k hk e => by omega)); have HR1 : Hid (Row 52 w1 (W.heap.size + 1) (ltIC x)) := Lib.hid (by simpa using hR); have HR0 : Hid (Row 52 w1 W.heap.size (ltIC x)) := Lib.hid (Row.fr HR00.out (hF (W.heap.size + 1)) (by omega) (by omega)); have hs1 : w1.heap.size = W.heap.size + 1 + 1 := (by rw [hs]; simp); clear hR hF hs))
  clear HRG HZ HR00 HB0 hall
  have c0 : w1.cell? ⟨W.heap.size, 0, none⟩ = some (.int .i64 2) := by rw [← hk]; exact HR0.out.cell 0
  clear hk
  have HLY : Hid (∀ V, Row 52 V (W.heap.size + 1) ([.int .i64 x.k] ++ [.string ⟨#[]⟩, .slice none 0 0] ++ [.string (bs x.o), .string (bs x.a.v), .int .i64 x.a.x.k, .int .i64 x.a.x.n, .string x.a.x.s, .string (bs x.b.v), .int .i64 x.b.x.k, .int .i64 x.b.x.n, .string x.b.x.s, .string (bs x.c.v), .int .i64 x.c.x.k, .int .i64 x.c.x.n, .string x.c.x.s, .slice x.pA x.p.length x.pc]) → V.rangeAt (W.heap.size + 1) 0 (ltIC { x with m := amZ })) := Lib.hid fun V h => by
    have e : ([.int .i64 x.k] ++ [.string ⟨#[]⟩, .slice none 0 0] ++ [.string (bs x.o), .string (bs x.a.v), .int .i64 x.a.x.k, .int .i64 x.a.x.n, .string x.a.x.s, .string (bs x.b.v), .int .i64 x.b.x.k, .int .i64 x.b.x.n, .string x.b.x.s, .string (bs x.c.v), .int .i64 x.c.x.k, .int .i64 x.c.x.n, .string x.c.x.s, .slice x.pA x.p.length x.pc]) = ltIC { x with m := amZ } := rfl
    rw [e] at h
    exact fun j v hj => by rw [Nat.zero_add]; exact (h.cell j).trans hj
  have c1 : w1.cell? ⟨W.heap.size, 1, none⟩ = some (.string (bs x.m.p)) := HR0.out.cell 1
  have c2 : w1.cell? ⟨W.heap.size, 2, none⟩ = some (.slice x.m.A x.m.a.length x.m.c) := HR0.out.cell 2
  generalize wholeX [[110, 111, 116, 32], atomX x.m] = R at *
  generalize atomX x.m = R0 at *
  go_upto_region 9 with (first
    | (go_at_call 12; refine (HA.out _ hB).mono ?_; rintro e w2 ⟨rfl, h'⟩; replace hB := on hB h'; replace HR1 := Lib.hid (rowOn HR1.out h'); clear h' c0 c1 c2)
    | (go_at_call 21; refine (HW.out _).mono ?_; rintro e w3 ⟨rfl, h'⟩; replace hB := on hB h'; replace HR1 := Lib.hid (rowOn HR1.out h'); clear h'))
  clear HA HW HR0
  cases YB with
  | true =>
    go_wp2_with (first
      | (refine wpList_storeR rfl 25 (.tmp 23) (.tmp 22) rfl (W.heap.size + 1) 1 rfl (.agg #[.string ⟨#[]⟩, .slice none 0 0]) rfl [.string ⟨#[]⟩, .slice none 0 0] rfl (pre := [.int .i64 x.k]) (old := [.string (bs x.m.p), .slice x.m.A x.m.a.length x.m.c]) (post := [.string (bs x.o), .string (bs x.a.v), .int .i64 x.a.x.k, .int .i64 x.a.x.n, .string x.a.x.s, .string (bs x.b.v), .int .i64 x.b.x.k, .int .i64 x.b.x.n, .string x.b.x.s, .string (bs x.c.v), .int .i64 x.c.x.k, .int .i64 x.c.x.n, .string x.c.x.s, .slice x.pA x.p.length x.pc]) HR1.out rfl rfl (by kernel_rfl) rfl ?_; intro v1 hR hF hs; replace hB := hB.trans ((hF W.heap.size).below (Nat.le_refl _) (fun k hk e => by omega)); have HQ1 := Lib.hid hR; clear hR hF hs)
      | (refine wpList_load_mid rfl 52 (.tmp 4) rfl (W.heap.size + 1) 0 rfl (ltIC { x with m := amZ }) _ (HLY.out _ HQ1.out) Tryz.underlying52 rfl (by kernel_rfl) ?_)
      | (go_at_call 46; refine (HBL.out _).mono ?_; rintro e w9 ⟨rfl, h'⟩; replace hB := on hB h'; clear h'))
    go_ret
    rw [HLX.out]
    exact ⟨rfl, hB⟩
  | false =>
    go_wp2_with (first
      | (refine wpList_storeR rfl 25 (.tmp 23) (.tmp 22) rfl (W.heap.size + 1) 1 rfl (.agg #[.string ⟨#[]⟩, .slice none 0 0]) rfl [.string ⟨#[]⟩, .slice none 0 0] rfl (pre := [.int .i64 x.k]) (old := [.string (bs x.m.p), .slice x.m.A x.m.a.length x.m.c]) (post := [.string (bs x.o), .string (bs x.a.v), .int .i64 x.a.x.k, .int .i64 x.a.x.n, .string x.a.x.s, .string (bs x.b.v), .int .i64 x.b.x.k, .int .i64 x.b.x.n, .string x.b.x.s, .string (bs x.c.v), .int .i64 x.c.x.k, .int .i64 x.c.x.n, .string x.c.x.s, .slice x.pA x.p.length x.pc]) HR1.out rfl rfl (by kernel_rfl) rfl ?_; intro v1 hR hF hs; replace hB := hB.trans ((hF W.heap.size).below (Nat.le_refl _) (fun k hk e => by omega)); have HQ1 := Lib.hid hR; clear hR hF hs)
      | (refine wpList_load_mid rfl 52 (.tmp 4) rfl (W.heap.size + 1) 0 rfl (ltIC { x with m := amZ }) _ (HLY.out _ HQ1.out) Tryz.underlying52 rfl (by kernel_rfl) ?_)
      | (go_at_call 46; refine (HBL.out _).mono ?_; rintro e w9 ⟨rfl, h'⟩; replace hB := on hB h'; clear h'))
    go_ret
    rw [HLX.out]
    exact ⟨rfl, hB⟩
end Go.Proofs.YtahljmddnfldlaaGreatDoor
namespace Go.Proofs.YtahljmddnfldlaaGreatDoor
open Go.RowKit FloM ValM Go.Shelf
set_option linter.unusedVariables false
set_option linter.unusedSimpArgs false
set_option maxRecDepth 20000 in
set_option maxHeartbeats 16000000 in
theorem literal_3 (x : LtI) (W : World) (hx : x.rd W) (hok : x.ok) (hk : x.k = 3) : Calls Tryz.prog 20 #[.agg (ltIC x).toArray] W fun e w' => e = .returned (.string (bs (litX x))) ∧ Below W.heap.size W w' := by
  have HLX : Hid (litX x = if blankB { x with a := tm0, o := [], b := tm0 } = true then wholeX [termX x.a, [32], cmpX x.o, [32], termX x.b] else []) := Lib.hid (by
    have e1 : restL x = { x with a := tm0, o := [], b := tm0 } := by unfold restL; rw [if_neg (by omega), if_pos hk]
    have e2 : litT x = wholeX [termX x.a, [32], cmpX x.o, [32], termX x.b] := by unfold litT; rw [if_neg (by omega), if_neg (by omega), if_pos hk]
    unfold litX; rw [e1, e2])
  have hla : x.m.a.length ≤ 9223372036854775807 := Nat.le_trans hx.1.1 (by decide)
  have hlp : x.p.length ≤ 9223372036854775807 := Nat.le_trans hx.2.1 (by decide)
  have HRX : Hid (x.rd W) := Lib.hid hx
  have HOK := Lib.hid hok
  have HBL : Hid (∀ V, Calls Tryz.prog 46 #[.agg (ltIC { x with a := tm0, o := [], b := tm0 }).toArray] V fun e w' => e = .returned (.bool (blankB { x with a := tm0, o := [], b := tm0 })) ∧ Below V.heap.size V w') := Lib.hid fun V => blank_any { x with a := tm0, o := [], b := tm0 } V (by first | exact hla | exact Nat.zero_le _) (by first | exact hlp | exact Nat.zero_le _)
  have HTa : Hid (∀ V, Calls Tryz.prog 40 #[.agg #[.string (bs x.a.v), .int .i64 x.a.x.k, .int .i64 x.a.x.n, .string x.a.x.s]] V fun e w' => e = .returned (.string (bs (termX x.a))) ∧ Below V.heap.size V w') := Lib.hid fun V => term_tm x.a V HOK.out.2.2.1
  have HTb : Hid (∀ V, Calls Tryz.prog 40 #[.agg #[.string (bs x.b.v), .int .i64 x.b.x.k, .int .i64 x.b.x.n, .string x.b.x.s]] V fun e w' => e = .returned (.string (bs (termX x.b))) ∧ Below V.heap.size V w') := Lib.hid fun V => term_tm x.b V HOK.out.2.2.2.1
  have HO : Hid (∀ V, Calls Tryz.prog 44 #[.string (bs x.o)] V fun e w' => e = .returned (.string (bs (cmpX x.o))) ∧ w' = V) := Lib.hid fun V => comparison_any x.o V
  have la := termX_len HOK.out.2.2.1
  have lb := termX_len HOK.out.2.2.2.1
  have lo : (cmpX x.o).length ≤ 2 := by
    unfold cmpX
    split
    · rename_i h; rcases h with h | h | h | h <;> rw [h] <;> decide
    · simp
  have HW : Hid (∀ V, Calls Tryz.prog 21 #[.slice (some ⟨V.heap.size, 0, none⟩) 5 5] (V.alloc (.cells #[.string (bs (termX x.a)), .string ⟨#[32]⟩, .string (bs (cmpX x.o)), .string ⟨#[32]⟩, .string (bs (termX x.b))] 9)) fun e w' => e = .returned (.string (bs (wholeX [termX x.a, [32], cmpX x.o, [32], termX x.b]))) ∧ Below V.heap.size V w') := Lib.hid fun V => whole_lists V [termX x.a, [32], cmpX x.o, [32], termX x.b] (by simp) (by simp; omega)
  clear la lb lo
  have HRG : Hid ((W.alloc (.cells (ltIC x).toArray 52)).rangeAt W.heap.size 0 (ltIC x)) := Lib.hid (fun j v hj => by rw [Nat.zero_add]; exact ((row_new (t := 52) W (ltIC x)).cell j).trans hj)
  have HZ : Hid (Row 52 ((W.alloc (.cells (ltIC x).toArray 52)).alloc (.cells [.int .i64 0, .string ByteArray.empty, .slice none 0 0, .string ByteArray.empty, .string ByteArray.empty, .int .i64 0, .int .i64 0, .string ByteArray.empty, .string ByteArray.empty, .int .i64 0, .int .i64 0, .string ByteArray.empty, .string ByteArray.empty, .int .i64 0, .int .i64 0, .string ByteArray.empty, .slice none 0 0].toArray 52)) (W.heap.size + 1) [.int .i64 0, .string ByteArray.empty, .slice none 0 0, .string ByteArray.empty, .string ByteArray.empty, .int .i64 0, .int .i64 0, .string ByteArray.empty, .string ByteArray.empty, .int .i64 0, .int .i64 0, .string ByteArray.empty, .string ByteArray.empty, .int .i64 0, .int .i64 0, .string ByteArray.empty, .slice none 0 0]) := Lib.hid (by have h := row_new (t := 52) (W.alloc (.cells (ltIC x).toArray 52)) [.int .i64 0, .string ByteArray.empty, .slice none 0 0, .string ByteArray.empty, .string ByteArray.empty, .int .i64 0, .int .i64 0, .string ByteArray.empty, .string ByteArray.empty, .int .i64 0, .int .i64 0, .string ByteArray.empty, .string ByteArray.empty, .int .i64 0, .int .i64 0, .string ByteArray.empty, .slice none 0 0]; rw [World.size_alloc] at h; exact h)
  have HR00 : Hid (Row 52 ((W.alloc (.cells (ltIC x).toArray 52)).alloc (.cells [.int .i64 0, .string ByteArray.empty, .slice none 0 0, .string ByteArray.empty, .string ByteArray.empty, .int .i64 0, .int .i64 0, .string ByteArray.empty, .string ByteArray.empty, .int .i64 0, .int .i64 0, .string ByteArray.empty, .string ByteArray.empty, .int .i64 0, .int .i64 0, .string ByteArray.empty, .slice none 0 0].toArray 52)) W.heap.size (ltIC x)) := Lib.hid ((row_new (t := 52) W (ltIC x)).alloc _)
  have hB0 : Below W.heap.size W ((W.alloc (.cells (ltIC x).toArray 52)).alloc (.cells [.int .i64 0, .string ByteArray.empty, .slice none 0 0, .string ByteArray.empty, .string ByteArray.empty, .int .i64 0, .int .i64 0, .string ByteArray.empty, .string ByteArray.empty, .int .i64 0, .int .i64 0, .string ByteArray.empty, .string ByteArray.empty, .int .i64 0, .int .i64 0, .string ByteArray.empty, .slice none 0 0].toArray 52)) := ((Below.refl _ _).alloc (Nat.le_refl _) _).alloc (by simp) _
  have HB0 := Lib.hid hB0
  have hall : (ltIC x).all (·.oneCell') = true := rfl
  clear hx hok hB0 hla hlp
  generalize hYB : blankB { x with a := tm0, o := [], b := tm0 } = YB at *
  clear hYB
  go_enter Tryz.func20, Tryz.ntmps20
  go_upto_region 3 with (first
    | (refine wpList_load_mid rfl 52 (.tmp 1) rfl W.heap.size 0 rfl (ltIC x) _ HRG.out Tryz.underlying52 rfl (by kernel_rfl) ?_)
    | (refine wpList_storeR rfl 52 (.tmp 4) (.tmp 5) rfl (W.heap.size + 1) 0 rfl (.agg (ltIC x).toArray) rfl (ltIC x) rfl (pre := []) (old := [.int .i64 0, .string ByteArray.empty, .slice none 0 0, .string ByteArray.empty, .string ByteArray.empty, .int .i64 0, .int .i64 0, .string ByteArray.empty, .string ByteArray.empty, .int .i64 0, .int .i64 0, .string ByteArray.empty, .string ByteArray.empty, .int .i64 0, .int .i64 0, .string ByteArray.empty, .slice none 0 0]) (post := []) HZ.out rfl rfl (by kernel_rfl) hall ?_; intro w1 hR hF hs; have hB : Below W.heap.size W w1 := HB0.out.trans ((hF W.heap.size).below (Nat.le_refl _) (fun k hk e => by omega)); have HR1 : Hid (Row 52 w1 (W.heap.size + 1) (ltIC x)) := Lib.hid (by simpa using hR); have HR0 : Hid (Row 52 w1 W.heap.size (ltIC x)) := Lib.hid (Row.fr HR00.out (hF (W.heap.size + 1)) (by omega) (by omega)); have hs1 : w1.heap.size = W.heap.size + 1 + 1 := (by rw [hs]; simp); clear hR hF hs))
  clear HRG HZ HR00 HB0 hall
  have c0 : w1.cell? ⟨W.heap.size, 0, none⟩ = some (.int .i64 3) := by rw [← hk]; exact HR0.out.cell 0
  clear hk
  have HLY : Hid (∀ V, Row 52 V (W.heap.size + 1) ([.int .i64 x.k, .string (bs x.m.p), .slice x.m.A x.m.a.length x.m.c, .string ⟨#[]⟩, .string ⟨#[]⟩, .int .i64 0, .int .i64 0, .string ⟨#[]⟩] ++ [.string ⟨#[]⟩, .int .i64 0, .int .i64 0, .string ⟨#[]⟩] ++ [.string (bs x.c.v), .int .i64 x.c.x.k, .int .i64 x.c.x.n, .string x.c.x.s, .slice x.pA x.p.length x.pc]) → V.rangeAt (W.heap.size + 1) 0 (ltIC { x with a := tm0, o := [], b := tm0 })) := Lib.hid fun V h => by
    have e : ([.int .i64 x.k, .string (bs x.m.p), .slice x.m.A x.m.a.length x.m.c, .string ⟨#[]⟩, .string ⟨#[]⟩, .int .i64 0, .int .i64 0, .string ⟨#[]⟩] ++ [.string ⟨#[]⟩, .int .i64 0, .int .i64 0, .string ⟨#[]⟩] ++ [.string (bs x.c.v), .int .i64 x.c.x.k, .int .i64 x.c.x.n, .string x.c.x.s, .slice x.pA x.p.length x.pc]) = ltIC { x with a := tm0, o := [], b := tm0 } := rfl
    rw [e] at h
    exact fun j v hj => by rw [Nat.zero_add]; exact (h.cell j).trans hj
  generalize wholeX [termX x.a, [32], cmpX x.o, [32], termX x.b] = R at *
  generalize termX x.a = TA at *
  generalize termX x.b = TB at *
  generalize cmpX x.o = CO at *
  have c3 : w1.cell? ⟨W.heap.size, 3, none⟩ = some (.string (bs x.o)) := HR0.out.cell 3
  have c4 : w1.cell? ⟨W.heap.size, 4, none⟩ = some (.string (bs x.a.v)) := HR0.out.cell 4
  have c5 : w1.cell? ⟨W.heap.size, 5, none⟩ = some (.int .i64 x.a.x.k) := HR0.out.cell 5
  have c6 : w1.cell? ⟨W.heap.size, 6, none⟩ = some (.int .i64 x.a.x.n) := HR0.out.cell 6
  have c7 : w1.cell? ⟨W.heap.size, 7, none⟩ = some (.string x.a.x.s) := HR0.out.cell 7
  have c8 : w1.cell? ⟨W.heap.size, 8, none⟩ = some (.string (bs x.b.v)) := HR0.out.cell 8
  have c9 : w1.cell? ⟨W.heap.size, 9, none⟩ = some (.int .i64 x.b.x.k) := HR0.out.cell 9
  have c10 : w1.cell? ⟨W.heap.size, 10, none⟩ = some (.int .i64 x.b.x.n) := HR0.out.cell 10
  have c11 : w1.cell? ⟨W.heap.size, 11, none⟩ = some (.string x.b.x.s) := HR0.out.cell 11
  go_upto_region 11 with fail
  have HS : Hid (∀ u, Below w1.heap.size w1 u → (Below w1.heap.size w1 u ∧ u.cell? ⟨W.heap.size, 3, none⟩ = some (.string (bs x.o)) ∧ u.cell? ⟨W.heap.size, 4, none⟩ = some (.string (bs x.a.v)) ∧ u.cell? ⟨W.heap.size, 5, none⟩ = some (.int .i64 x.a.x.k) ∧ u.cell? ⟨W.heap.size, 6, none⟩ = some (.int .i64 x.a.x.n) ∧ u.cell? ⟨W.heap.size, 7, none⟩ = some (.string x.a.x.s) ∧ u.cell? ⟨W.heap.size, 8, none⟩ = some (.string (bs x.b.v)) ∧ u.cell? ⟨W.heap.size, 9, none⟩ = some (.int .i64 x.b.x.k) ∧ u.cell? ⟨W.heap.size, 10, none⟩ = some (.int .i64 x.b.x.n) ∧ u.cell? ⟨W.heap.size, 11, none⟩ = some (.string x.b.x.s))) := Lib.hid fun u hu => ⟨hu, (rowOn HR0.out hu).cell 3, (rowOn HR0.out hu).cell 4, (rowOn HR0.out hu).cell 5, (rowOn HR0.out hu).cell 6, (rowOn HR0.out hu).cell 7, (rowOn HR0.out hu).cell 8, (rowOn HR0.out hu).cell 9, (rowOn HR0.out hu).cell 10, (rowOn HR0.out hu).cell 11⟩
  have h4 : Below w1.heap.size w1 w1.drew := (Below.refl _ _).drew
  clear HR0 c0 c3 c4 c5 c6 c7 c8 c9 c10 c11
  go_region_held3 (fun u => Below w1.heap.size w1 u ∧ u.cell? ⟨W.heap.size, 3, none⟩ = some (.string (bs x.o)) ∧ u.cell? ⟨W.heap.size, 4, none⟩ = some (.string (bs x.a.v)) ∧ u.cell? ⟨W.heap.size, 5, none⟩ = some (.int .i64 x.a.x.k) ∧ u.cell? ⟨W.heap.size, 6, none⟩ = some (.int .i64 x.a.x.n) ∧ u.cell? ⟨W.heap.size, 7, none⟩ = some (.string x.a.x.s) ∧ u.cell? ⟨W.heap.size, 8, none⟩ = some (.string (bs x.b.v)) ∧ u.cell? ⟨W.heap.size, 9, none⟩ = some (.int .i64 x.b.x.k) ∧ u.cell? ⟨W.heap.size, 10, none⟩ = some (.int .i64 x.b.x.n) ∧ u.cell? ⟨W.heap.size, 11, none⟩ = some (.string x.b.x.s))
    (exact HS.out _ (by first | exact Below.refl _ _ | exact h4 | exact h4.alloc (by have := h4.size; omega) _))
    ((first
      | (go_at_call 40; with_reducible refine (HTa.out _).mono ?_; rintro e w3 ⟨rfl, h'⟩; replace h4 := on h4 h'; clear h')
      | (go_at_call 40; with_reducible refine (HTb.out _).mono ?_; rintro e w3 ⟨rfl, h'⟩; replace h4 := on h4 h'; clear h')
      | (go_at_call 44; with_reducible refine (HO.out _).mono ?_; rintro e w3 ⟨rfl, rfl⟩)
      | (go_at_call 21; refine (HW.out _).mono ?_; rintro e w4 ⟨rfl, h'⟩; replace h4 := on h4 h'; clear h')))
  all_goals
    replace hB := on hB h4
    replace HR1 := Lib.hid (rowOn HR1.out h4)
    clear HTa HTb HO HW HS h4
    go_upto_region 12 with fail
    cases YB with
    | true =>
      go_wp2_with (first
        | (refine wpList_storeR rfl 48 (.tmp 39) (.tmp 37) rfl (W.heap.size + 1) 4 rfl (.agg #[.string ⟨#[]⟩, .int .i64 0, .int .i64 0, .string ⟨#[]⟩]) rfl [.string ⟨#[]⟩, .int .i64 0, .int .i64 0, .string ⟨#[]⟩] rfl (pre := [.int .i64 x.k, .string (bs x.m.p), .slice x.m.A x.m.a.length x.m.c, .string (bs x.o)]) (old := [.string (bs x.a.v), .int .i64 x.a.x.k, .int .i64 x.a.x.n, .string x.a.x.s]) (post := [.string (bs x.b.v), .int .i64 x.b.x.k, .int .i64 x.b.x.n, .string x.b.x.s, .string (bs x.c.v), .int .i64 x.c.x.k, .int .i64 x.c.x.n, .string x.c.x.s, .slice x.pA x.p.length x.pc]) HR1.out rfl rfl (by kernel_rfl) rfl ?_; intro v1 hR hF hs; replace hB := hB.trans ((hF W.heap.size).below (Nat.le_refl _) (fun k hk e => by omega)); have HQ1 := Lib.hid hR; clear hR hF hs)
        | (refine wpList_storeR rfl 9 (.tmp 40) _ rfl (W.heap.size + 1) 3 rfl (.string ⟨#[]⟩) rfl [.string ⟨#[]⟩] rfl (pre := [.int .i64 x.k, .string (bs x.m.p), .slice x.m.A x.m.a.length x.m.c]) (old := [.string (bs x.o)]) (post := [.string ⟨#[]⟩, .int .i64 0, .int .i64 0, .string ⟨#[]⟩, .string (bs x.b.v), .int .i64 x.b.x.k, .int .i64 x.b.x.n, .string x.b.x.s, .string (bs x.c.v), .int .i64 x.c.x.k, .int .i64 x.c.x.n, .string x.c.x.s, .slice x.pA x.p.length x.pc]) HQ1.out rfl rfl (by kernel_rfl) rfl ?_; intro v2 hR hF hs; replace hB := hB.trans ((hF W.heap.size).below (Nat.le_refl _) (fun k hk e => by omega)); have HQ2 := Lib.hid hR; clear hR hF hs)
        | (refine wpList_storeR rfl 48 (.tmp 41) (.tmp 38) rfl (W.heap.size + 1) 8 rfl (.agg #[.string ⟨#[]⟩, .int .i64 0, .int .i64 0, .string ⟨#[]⟩]) rfl [.string ⟨#[]⟩, .int .i64 0, .int .i64 0, .string ⟨#[]⟩] rfl (pre := [.int .i64 x.k, .string (bs x.m.p), .slice x.m.A x.m.a.length x.m.c, .string ⟨#[]⟩, .string ⟨#[]⟩, .int .i64 0, .int .i64 0, .string ⟨#[]⟩]) (old := [.string (bs x.b.v), .int .i64 x.b.x.k, .int .i64 x.b.x.n, .string x.b.x.s]) (post := [.string (bs x.c.v), .int .i64 x.c.x.k, .int .i64 x.c.x.n, .string x.c.x.s, .slice x.pA x.p.length x.pc]) HQ2.out rfl rfl (by kernel_rfl) rfl ?_; intro v3 hR hF hs; replace hB := hB.trans ((hF W.heap.size).below (Nat.le_refl _) (fun k hk e => by omega)); have HQ3 := Lib.hid hR; clear hR hF hs)
        | (refine wpList_load_mid rfl 52 (.tmp 4) rfl (W.heap.size + 1) 0 rfl (ltIC { x with a := tm0, o := [], b := tm0 }) _ (HLY.out _ HQ3.out) Tryz.underlying52 rfl (by kernel_rfl) ?_)
        | (go_at_call 46; refine (HBL.out _).mono ?_; rintro e w9 ⟨rfl, h'⟩; replace hB := on hB h'; clear h'))
      go_ret
      rw [HLX.out]
      exact ⟨rfl, hB⟩
    | false =>
      go_wp2_with (first
        | (refine wpList_storeR rfl 48 (.tmp 39) (.tmp 37) rfl (W.heap.size + 1) 4 rfl (.agg #[.string ⟨#[]⟩, .int .i64 0, .int .i64 0, .string ⟨#[]⟩]) rfl [.string ⟨#[]⟩, .int .i64 0, .int .i64 0, .string ⟨#[]⟩] rfl (pre := [.int .i64 x.k, .string (bs x.m.p), .slice x.m.A x.m.a.length x.m.c, .string (bs x.o)]) (old := [.string (bs x.a.v), .int .i64 x.a.x.k, .int .i64 x.a.x.n, .string x.a.x.s]) (post := [.string (bs x.b.v), .int .i64 x.b.x.k, .int .i64 x.b.x.n, .string x.b.x.s, .string (bs x.c.v), .int .i64 x.c.x.k, .int .i64 x.c.x.n, .string x.c.x.s, .slice x.pA x.p.length x.pc]) HR1.out rfl rfl (by kernel_rfl) rfl ?_; intro v1 hR hF hs; replace hB := hB.trans ((hF W.heap.size).below (Nat.le_refl _) (fun k hk e => by omega)); have HQ1 := Lib.hid hR; clear hR hF hs)
        | (refine wpList_storeR rfl 9 (.tmp 40) _ rfl (W.heap.size + 1) 3 rfl (.string ⟨#[]⟩) rfl [.string ⟨#[]⟩] rfl (pre := [.int .i64 x.k, .string (bs x.m.p), .slice x.m.A x.m.a.length x.m.c]) (old := [.string (bs x.o)]) (post := [.string ⟨#[]⟩, .int .i64 0, .int .i64 0, .string ⟨#[]⟩, .string (bs x.b.v), .int .i64 x.b.x.k, .int .i64 x.b.x.n, .string x.b.x.s, .string (bs x.c.v), .int .i64 x.c.x.k, .int .i64 x.c.x.n, .string x.c.x.s, .slice x.pA x.p.length x.pc]) HQ1.out rfl rfl (by kernel_rfl) rfl ?_; intro v2 hR hF hs; replace hB := hB.trans ((hF W.heap.size).below (Nat.le_refl _) (fun k hk e => by omega)); have HQ2 := Lib.hid hR; clear hR hF hs)
        | (refine wpList_storeR rfl 48 (.tmp 41) (.tmp 38) rfl (W.heap.size + 1) 8 rfl (.agg #[.string ⟨#[]⟩, .int .i64 0, .int .i64 0, .string ⟨#[]⟩]) rfl [.string ⟨#[]⟩, .int .i64 0, .int .i64 0, .string ⟨#[]⟩] rfl (pre := [.int .i64 x.k, .string (bs x.m.p), .slice x.m.A x.m.a.length x.m.c, .string ⟨#[]⟩, .string ⟨#[]⟩, .int .i64 0, .int .i64 0, .string ⟨#[]⟩]) (old := [.string (bs x.b.v), .int .i64 x.b.x.k, .int .i64 x.b.x.n, .string x.b.x.s]) (post := [.string (bs x.c.v), .int .i64 x.c.x.k, .int .i64 x.c.x.n, .string x.c.x.s, .slice x.pA x.p.length x.pc]) HQ2.out rfl rfl (by kernel_rfl) rfl ?_; intro v3 hR hF hs; replace hB := hB.trans ((hF W.heap.size).below (Nat.le_refl _) (fun k hk e => by omega)); have HQ3 := Lib.hid hR; clear hR hF hs)
        | (refine wpList_load_mid rfl 52 (.tmp 4) rfl (W.heap.size + 1) 0 rfl (ltIC { x with a := tm0, o := [], b := tm0 }) _ (HLY.out _ HQ3.out) Tryz.underlying52 rfl (by kernel_rfl) ?_)
        | (go_at_call 46; refine (HBL.out _).mono ?_; rintro e w9 ⟨rfl, h'⟩; replace hB := on hB h'; clear h'))
      go_ret
      rw [HLX.out]
      exact ⟨rfl, hB⟩
end Go.Proofs.YtahljmddnfldlaaGreatDoor
namespace Go.Proofs.YtahljmddnfldlaaGreatDoor
open Go.RowKit FloM ValM Go.Shelf
set_option linter.unusedVariables false
set_option linter.unusedSimpArgs false
set_option maxRecDepth 20000 in
set_option maxHeartbeats 16000000 in
theorem literal_4 (x : LtI) (W : World) (hx : x.rd W) (hok : x.ok) (hk : x.k = 4) : Calls Tryz.prog 20 #[.agg (ltIC x).toArray] W fun e w' => e = .returned (.string (bs (litX x))) ∧ Below W.heap.size W w' := by
  have HLX : Hid (litX x = if blankB { x with a := tm0, b := tm0, o := [], c := tm0 } = true then wholeX [varX x.a, [32, 105, 115, 32], termX x.b, [32], oprX x.o, [32], termX x.c] else []) := Lib.hid (by
    have e1 : restL x = { x with a := tm0, b := tm0, o := [], c := tm0 } := by unfold restL; rw [if_neg (by omega), if_neg (by omega), if_pos hk]
    have e2 : litT x = wholeX [varX x.a, [32, 105, 115, 32], termX x.b, [32], oprX x.o, [32], termX x.c] := by unfold litT; rw [if_neg (by omega), if_neg (by omega), if_neg (by omega), if_pos hk]
    unfold litX; rw [e1, e2])
  have hla : x.m.a.length ≤ 9223372036854775807 := Nat.le_trans hx.1.1 (by decide)
  have hlp : x.p.length ≤ 9223372036854775807 := Nat.le_trans hx.2.1 (by decide)
  have HRX : Hid (x.rd W) := Lib.hid hx
  have HOK := Lib.hid hok
  have HBL : Hid (∀ V, Calls Tryz.prog 46 #[.agg (ltIC { x with a := tm0, b := tm0, o := [], c := tm0 }).toArray] V fun e w' => e = .returned (.bool (blankB { x with a := tm0, b := tm0, o := [], c := tm0 })) ∧ Below V.heap.size V w') := Lib.hid fun V => blank_any { x with a := tm0, b := tm0, o := [], c := tm0 } V (by first | exact hla | exact Nat.zero_le _) (by first | exact hlp | exact Nat.zero_le _)
  have HTa : Hid (∀ V, Calls Tryz.prog 39 #[.agg #[.string (bs x.a.v), .int .i64 x.a.x.k, .int .i64 x.a.x.n, .string x.a.x.s]] V fun e w' => e = .returned (.string (bs (varX x.a))) ∧ Below V.heap.size V w') := Lib.hid fun V => variable_tm x.a V HOK.out.2.2.1
  have HTb : Hid (∀ V, Calls Tryz.prog 40 #[.agg #[.string (bs x.b.v), .int .i64 x.b.x.k, .int .i64 x.b.x.n, .string x.b.x.s]] V fun e w' => e = .returned (.string (bs (termX x.b))) ∧ Below V.heap.size V w') := Lib.hid fun V => term_tm x.b V HOK.out.2.2.2.1
  have HTc : Hid (∀ V, Calls Tryz.prog 40 #[.agg #[.string (bs x.c.v), .int .i64 x.c.x.k, .int .i64 x.c.x.n, .string x.c.x.s]] V fun e w' => e = .returned (.string (bs (termX x.c))) ∧ Below V.heap.size V w') := Lib.hid fun V => term_tm x.c V HOK.out.2.2.2.2.1
  have HO : Hid (∀ V, Calls Tryz.prog 45 #[.string (bs x.o)] V fun e w' => e = .returned (.string (bs (oprX x.o))) ∧ w' = V) := Lib.hid fun V => operation9_any x.o V
  have la := varX_len x.a
  have lb := termX_len HOK.out.2.2.2.1
  have lc := termX_len HOK.out.2.2.2.2.1
  have lo : (oprX x.o).length ≤ 5 := by unfold oprX; repeat (first | split | decide | simp)
  have HW : Hid (∀ V, Calls Tryz.prog 21 #[.slice (some ⟨V.heap.size, 0, none⟩) 7 7] (V.alloc (.cells #[.string (bs (varX x.a)), .string ⟨#[32, 105, 115, 32]⟩, .string (bs (termX x.b)), .string ⟨#[32]⟩, .string (bs (oprX x.o)), .string ⟨#[32]⟩, .string (bs (termX x.c))] 9)) fun e w' => e = .returned (.string (bs (wholeX [varX x.a, [32, 105, 115, 32], termX x.b, [32], oprX x.o, [32], termX x.c]))) ∧ Below V.heap.size V w') := Lib.hid fun V => whole_lists V [varX x.a, [32, 105, 115, 32], termX x.b, [32], oprX x.o, [32], termX x.c] (by simp) (by simp; omega)
  clear la lb lc lo
  have HRG : Hid ((W.alloc (.cells (ltIC x).toArray 52)).rangeAt W.heap.size 0 (ltIC x)) := Lib.hid (fun j v hj => by rw [Nat.zero_add]; exact ((row_new (t := 52) W (ltIC x)).cell j).trans hj)
  have HZ : Hid (Row 52 ((W.alloc (.cells (ltIC x).toArray 52)).alloc (.cells [.int .i64 0, .string ByteArray.empty, .slice none 0 0, .string ByteArray.empty, .string ByteArray.empty, .int .i64 0, .int .i64 0, .string ByteArray.empty, .string ByteArray.empty, .int .i64 0, .int .i64 0, .string ByteArray.empty, .string ByteArray.empty, .int .i64 0, .int .i64 0, .string ByteArray.empty, .slice none 0 0].toArray 52)) (W.heap.size + 1) [.int .i64 0, .string ByteArray.empty, .slice none 0 0, .string ByteArray.empty, .string ByteArray.empty, .int .i64 0, .int .i64 0, .string ByteArray.empty, .string ByteArray.empty, .int .i64 0, .int .i64 0, .string ByteArray.empty, .string ByteArray.empty, .int .i64 0, .int .i64 0, .string ByteArray.empty, .slice none 0 0]) := Lib.hid (by have h := row_new (t := 52) (W.alloc (.cells (ltIC x).toArray 52)) [.int .i64 0, .string ByteArray.empty, .slice none 0 0, .string ByteArray.empty, .string ByteArray.empty, .int .i64 0, .int .i64 0, .string ByteArray.empty, .string ByteArray.empty, .int .i64 0, .int .i64 0, .string ByteArray.empty, .string ByteArray.empty, .int .i64 0, .int .i64 0, .string ByteArray.empty, .slice none 0 0]; rw [World.size_alloc] at h; exact h)
  have HR00 : Hid (Row 52 ((W.alloc (.cells (ltIC x).toArray 52)).alloc (.cells [.int .i64 0, .string ByteArray.empty, .slice none 0 0, .string ByteArray.empty, .string ByteArray.empty, .int .i64 0, .int .i64 0, .string ByteArray.empty, .string ByteArray.empty, .int .i64 0, .int .i64 0, .string ByteArray.empty, .string ByteArray.empty, .int .i64 0, .int .i64 0, .string ByteArray.empty, .slice none 0 0].toArray 52)) W.heap.size (ltIC x)) := Lib.hid ((row_new (t := 52) W (ltIC x)).alloc _)
  have hB0 : Below W.heap.size W ((W.alloc (.cells (ltIC x).toArray 52)).alloc (.cells [.int .i64 0, .string ByteArray.empty, .slice none 0 0, .string ByteArray.empty, .string ByteArray.empty, .int .i64 0, .int .i64 0, .string ByteArray.empty, .string ByteArray.empty, .int .i64 0, .int .i64 0, .string ByteArray.empty, .string ByteArray.empty, .int .i64 0, .int .i64 0, .string ByteArray.empty, .slice none 0 0].toArray 52)) := ((Below.refl _ _).alloc (Nat.le_refl _) _).alloc (by simp) _
  have HB0 := Lib.hid hB0
  have hall : (ltIC x).all (·.oneCell') = true := rfl
  clear hx hok hB0 hla hlp
  generalize hYB : blankB { x with a := tm0, b := tm0, o := [], c := tm0 } = YB at *
  clear hYB
  go_enter Tryz.func20, Tryz.ntmps20
  go_upto_region 3 with (first
    | (refine wpList_load_mid rfl 52 (.tmp 1) rfl W.heap.size 0 rfl (ltIC x) _ HRG.out Tryz.underlying52 rfl (by kernel_rfl) ?_)
    | (refine wpList_storeR rfl 52 (.tmp 4) (.tmp 5) rfl (W.heap.size + 1) 0 rfl (.agg (ltIC x).toArray) rfl (ltIC x) rfl (pre := []) (old := [.int .i64 0, .string ByteArray.empty, .slice none 0 0, .string ByteArray.empty, .string ByteArray.empty, .int .i64 0, .int .i64 0, .string ByteArray.empty, .string ByteArray.empty, .int .i64 0, .int .i64 0, .string ByteArray.empty, .string ByteArray.empty, .int .i64 0, .int .i64 0, .string ByteArray.empty, .slice none 0 0]) (post := []) HZ.out rfl rfl (by kernel_rfl) hall ?_; intro w1 hR hF hs; have hB : Below W.heap.size W w1 := HB0.out.trans ((hF W.heap.size).below (Nat.le_refl _) (fun k hk e => by omega)); have HR1 : Hid (Row 52 w1 (W.heap.size + 1) (ltIC x)) := Lib.hid (by simpa using hR); have HR0 : Hid (Row 52 w1 W.heap.size (ltIC x)) := Lib.hid (Row.fr HR00.out (hF (W.heap.size + 1)) (by omega) (by omega)); have hs1 : w1.heap.size = W.heap.size + 1 + 1 := (by rw [hs]; simp); clear hR hF hs))
  clear HRG HZ HR00 HB0 hall
  have c0 : w1.cell? ⟨W.heap.size, 0, none⟩ = some (.int .i64 4) := by rw [← hk]; exact HR0.out.cell 0
  clear hk
  have HLY : Hid (∀ V, Row 52 V (W.heap.size + 1) ([.int .i64 x.k, .string (bs x.m.p), .slice x.m.A x.m.a.length x.m.c, .string ⟨#[]⟩, .string ⟨#[]⟩, .int .i64 0, .int .i64 0, .string ⟨#[]⟩, .string ⟨#[]⟩, .int .i64 0, .int .i64 0, .string ⟨#[]⟩] ++ [.string ⟨#[]⟩, .int .i64 0, .int .i64 0, .string ⟨#[]⟩] ++ [.slice x.pA x.p.length x.pc]) → V.rangeAt (W.heap.size + 1) 0 (ltIC { x with a := tm0, b := tm0, o := [], c := tm0 })) := Lib.hid fun V h => by
    have e : ([.int .i64 x.k, .string (bs x.m.p), .slice x.m.A x.m.a.length x.m.c, .string ⟨#[]⟩, .string ⟨#[]⟩, .int .i64 0, .int .i64 0, .string ⟨#[]⟩, .string ⟨#[]⟩, .int .i64 0, .int .i64 0, .string ⟨#[]⟩] ++ [.string ⟨#[]⟩, .int .i64 0, .int .i64 0, .string ⟨#[]⟩] ++ [.slice x.pA x.p.length x.pc]) = ltIC { x with a := tm0, b := tm0, o := [], c := tm0 } := rfl
    rw [e] at h
    exact fun j v hj => by rw [Nat.zero_add]; exact (h.cell j).trans hj
  generalize wholeX [varX x.a, [32, 105, 115, 32], termX x.b, [32], oprX x.o, [32], termX x.c] = R at *
  generalize varX x.a = TA at *
  generalize termX x.b = TB at *
  generalize termX x.c = TC at *
  generalize oprX x.o = CO at *
  have c3 : w1.cell? ⟨W.heap.size, 3, none⟩ = some (.string (bs x.o)) := HR0.out.cell 3
  have c4 : w1.cell? ⟨W.heap.size, 4, none⟩ = some (.string (bs x.a.v)) := HR0.out.cell 4
  have c5 : w1.cell? ⟨W.heap.size, 5, none⟩ = some (.int .i64 x.a.x.k) := HR0.out.cell 5
  have c6 : w1.cell? ⟨W.heap.size, 6, none⟩ = some (.int .i64 x.a.x.n) := HR0.out.cell 6
  have c7 : w1.cell? ⟨W.heap.size, 7, none⟩ = some (.string x.a.x.s) := HR0.out.cell 7
  have c8 : w1.cell? ⟨W.heap.size, 8, none⟩ = some (.string (bs x.b.v)) := HR0.out.cell 8
  have c9 : w1.cell? ⟨W.heap.size, 9, none⟩ = some (.int .i64 x.b.x.k) := HR0.out.cell 9
  have c10 : w1.cell? ⟨W.heap.size, 10, none⟩ = some (.int .i64 x.b.x.n) := HR0.out.cell 10
  have c11 : w1.cell? ⟨W.heap.size, 11, none⟩ = some (.string x.b.x.s) := HR0.out.cell 11
  have c12 : w1.cell? ⟨W.heap.size, 12, none⟩ = some (.string (bs x.c.v)) := HR0.out.cell 12
  have c13 : w1.cell? ⟨W.heap.size, 13, none⟩ = some (.int .i64 x.c.x.k) := HR0.out.cell 13
  have c14 : w1.cell? ⟨W.heap.size, 14, none⟩ = some (.int .i64 x.c.x.n) := HR0.out.cell 14
  have c15 : w1.cell? ⟨W.heap.size, 15, none⟩ = some (.string x.c.x.s) := HR0.out.cell 15
  go_upto_region 14 with fail
  have HS : Hid (∀ u, Below w1.heap.size w1 u → (Below w1.heap.size w1 u ∧ u.cell? ⟨W.heap.size, 3, none⟩ = some (.string (bs x.o)) ∧ u.cell? ⟨W.heap.size, 4, none⟩ = some (.string (bs x.a.v)) ∧ u.cell? ⟨W.heap.size, 5, none⟩ = some (.int .i64 x.a.x.k) ∧ u.cell? ⟨W.heap.size, 6, none⟩ = some (.int .i64 x.a.x.n) ∧ u.cell? ⟨W.heap.size, 7, none⟩ = some (.string x.a.x.s) ∧ u.cell? ⟨W.heap.size, 8, none⟩ = some (.string (bs x.b.v)) ∧ u.cell? ⟨W.heap.size, 9, none⟩ = some (.int .i64 x.b.x.k) ∧ u.cell? ⟨W.heap.size, 10, none⟩ = some (.int .i64 x.b.x.n) ∧ u.cell? ⟨W.heap.size, 11, none⟩ = some (.string x.b.x.s) ∧ u.cell? ⟨W.heap.size, 12, none⟩ = some (.string (bs x.c.v)) ∧ u.cell? ⟨W.heap.size, 13, none⟩ = some (.int .i64 x.c.x.k) ∧ u.cell? ⟨W.heap.size, 14, none⟩ = some (.int .i64 x.c.x.n) ∧ u.cell? ⟨W.heap.size, 15, none⟩ = some (.string x.c.x.s))) := Lib.hid fun u hu => ⟨hu, (rowOn HR0.out hu).cell 3, (rowOn HR0.out hu).cell 4, (rowOn HR0.out hu).cell 5, (rowOn HR0.out hu).cell 6, (rowOn HR0.out hu).cell 7, (rowOn HR0.out hu).cell 8, (rowOn HR0.out hu).cell 9, (rowOn HR0.out hu).cell 10, (rowOn HR0.out hu).cell 11, (rowOn HR0.out hu).cell 12, (rowOn HR0.out hu).cell 13, (rowOn HR0.out hu).cell 14, (rowOn HR0.out hu).cell 15⟩
  have h4 : Below w1.heap.size w1 w1.drew := (Below.refl _ _).drew
  clear HR0 c0 c3 c4 c5 c6 c7 c8 c9 c10 c11 c12 c13 c14 c15
  go_region_held3 (fun u => Below w1.heap.size w1 u ∧ u.cell? ⟨W.heap.size, 3, none⟩ = some (.string (bs x.o)) ∧ u.cell? ⟨W.heap.size, 4, none⟩ = some (.string (bs x.a.v)) ∧ u.cell? ⟨W.heap.size, 5, none⟩ = some (.int .i64 x.a.x.k) ∧ u.cell? ⟨W.heap.size, 6, none⟩ = some (.int .i64 x.a.x.n) ∧ u.cell? ⟨W.heap.size, 7, none⟩ = some (.string x.a.x.s) ∧ u.cell? ⟨W.heap.size, 8, none⟩ = some (.string (bs x.b.v)) ∧ u.cell? ⟨W.heap.size, 9, none⟩ = some (.int .i64 x.b.x.k) ∧ u.cell? ⟨W.heap.size, 10, none⟩ = some (.int .i64 x.b.x.n) ∧ u.cell? ⟨W.heap.size, 11, none⟩ = some (.string x.b.x.s) ∧ u.cell? ⟨W.heap.size, 12, none⟩ = some (.string (bs x.c.v)) ∧ u.cell? ⟨W.heap.size, 13, none⟩ = some (.int .i64 x.c.x.k) ∧ u.cell? ⟨W.heap.size, 14, none⟩ = some (.int .i64 x.c.x.n) ∧ u.cell? ⟨W.heap.size, 15, none⟩ = some (.string x.c.x.s))
    (exact HS.out _ (by first | exact Below.refl _ _ | exact h4 | exact h4.alloc (by have := h4.size; omega) _))
    ((first
      | (go_at_call 39; with_reducible refine (HTa.out _).mono ?_; rintro e w3 ⟨rfl, h'⟩; replace h4 := on h4 h'; clear h')
      | (go_at_call 40; with_reducible refine (HTb.out _).mono ?_; rintro e w3 ⟨rfl, h'⟩; replace h4 := on h4 h'; clear h')
      | (go_at_call 45; with_reducible refine (HO.out _).mono ?_; rintro e w3 ⟨rfl, rfl⟩)
      | (go_at_call 40; with_reducible refine (HTc.out _).mono ?_; rintro e w3 ⟨rfl, h'⟩; replace h4 := on h4 h'; clear h')
      | (go_at_call 21; refine (HW.out _).mono ?_; rintro e w4 ⟨rfl, h'⟩; replace h4 := on h4 h'; clear h')))
  all_goals
    replace hB := on hB h4
    replace HR1 := Lib.hid (rowOn HR1.out h4)
    clear HTa HTb HTc HO HW HS h4
    go_upto_region 15 with fail
    cases YB with
    | true =>
      go_wp2_with (first
        | (refine wpList_storeR rfl 48 (.tmp 61) (.tmp 58) rfl (W.heap.size + 1) 4 rfl (.agg #[.string ⟨#[]⟩, .int .i64 0, .int .i64 0, .string ⟨#[]⟩]) rfl [.string ⟨#[]⟩, .int .i64 0, .int .i64 0, .string ⟨#[]⟩] rfl (pre := [.int .i64 x.k, .string (bs x.m.p), .slice x.m.A x.m.a.length x.m.c, .string (bs x.o)]) (old := [.string (bs x.a.v), .int .i64 x.a.x.k, .int .i64 x.a.x.n, .string x.a.x.s]) (post := [.string (bs x.b.v), .int .i64 x.b.x.k, .int .i64 x.b.x.n, .string x.b.x.s, .string (bs x.c.v), .int .i64 x.c.x.k, .int .i64 x.c.x.n, .string x.c.x.s, .slice x.pA x.p.length x.pc]) HR1.out rfl rfl (by kernel_rfl) rfl ?_; intro v1 hR hF hs; replace hB := hB.trans ((hF W.heap.size).below (Nat.le_refl _) (fun k hk e => by omega)); have HQ1 := Lib.hid hR; clear hR hF hs)
        | (refine wpList_storeR rfl 48 (.tmp 62) (.tmp 59) rfl (W.heap.size + 1) 8 rfl (.agg #[.string ⟨#[]⟩, .int .i64 0, .int .i64 0, .string ⟨#[]⟩]) rfl [.string ⟨#[]⟩, .int .i64 0, .int .i64 0, .string ⟨#[]⟩] rfl (pre := [.int .i64 x.k, .string (bs x.m.p), .slice x.m.A x.m.a.length x.m.c, .string (bs x.o), .string ⟨#[]⟩, .int .i64 0, .int .i64 0, .string ⟨#[]⟩]) (old := [.string (bs x.b.v), .int .i64 x.b.x.k, .int .i64 x.b.x.n, .string x.b.x.s]) (post := [.string (bs x.c.v), .int .i64 x.c.x.k, .int .i64 x.c.x.n, .string x.c.x.s, .slice x.pA x.p.length x.pc]) HQ1.out rfl rfl (by kernel_rfl) rfl ?_; intro v2 hR hF hs; replace hB := hB.trans ((hF W.heap.size).below (Nat.le_refl _) (fun k hk e => by omega)); have HQ2 := Lib.hid hR; clear hR hF hs)
        | (refine wpList_storeR rfl 9 (.tmp 63) _ rfl (W.heap.size + 1) 3 rfl (.string ⟨#[]⟩) rfl [.string ⟨#[]⟩] rfl (pre := [.int .i64 x.k, .string (bs x.m.p), .slice x.m.A x.m.a.length x.m.c]) (old := [.string (bs x.o)]) (post := [.string ⟨#[]⟩, .int .i64 0, .int .i64 0, .string ⟨#[]⟩, .string ⟨#[]⟩, .int .i64 0, .int .i64 0, .string ⟨#[]⟩, .string (bs x.c.v), .int .i64 x.c.x.k, .int .i64 x.c.x.n, .string x.c.x.s, .slice x.pA x.p.length x.pc]) HQ2.out rfl rfl (by kernel_rfl) rfl ?_; intro v3 hR hF hs; replace hB := hB.trans ((hF W.heap.size).below (Nat.le_refl _) (fun k hk e => by omega)); have HQ3 := Lib.hid hR; clear hR hF hs)
        | (refine wpList_storeR rfl 48 (.tmp 64) (.tmp 60) rfl (W.heap.size + 1) 12 rfl (.agg #[.string ⟨#[]⟩, .int .i64 0, .int .i64 0, .string ⟨#[]⟩]) rfl [.string ⟨#[]⟩, .int .i64 0, .int .i64 0, .string ⟨#[]⟩] rfl (pre := [.int .i64 x.k, .string (bs x.m.p), .slice x.m.A x.m.a.length x.m.c, .string ⟨#[]⟩, .string ⟨#[]⟩, .int .i64 0, .int .i64 0, .string ⟨#[]⟩, .string ⟨#[]⟩, .int .i64 0, .int .i64 0, .string ⟨#[]⟩]) (old := [.string (bs x.c.v), .int .i64 x.c.x.k, .int .i64 x.c.x.n, .string x.c.x.s]) (post := [.slice x.pA x.p.length x.pc]) HQ3.out rfl rfl (by kernel_rfl) rfl ?_; intro v4 hR hF hs; replace hB := hB.trans ((hF W.heap.size).below (Nat.le_refl _) (fun k hk e => by omega)); have HQ4 := Lib.hid hR; clear hR hF hs)
        | (refine wpList_load_mid rfl 52 (.tmp 4) rfl (W.heap.size + 1) 0 rfl (ltIC { x with a := tm0, b := tm0, o := [], c := tm0 }) _ (HLY.out _ HQ4.out) Tryz.underlying52 rfl (by kernel_rfl) ?_)
        | (go_at_call 46; refine (HBL.out _).mono ?_; rintro e w9 ⟨rfl, h'⟩; replace hB := on hB h'; clear h'))
      go_ret
      rw [HLX.out]
      exact ⟨rfl, hB⟩
    | false =>
      go_wp2_with (first
        | (refine wpList_storeR rfl 48 (.tmp 61) (.tmp 58) rfl (W.heap.size + 1) 4 rfl (.agg #[.string ⟨#[]⟩, .int .i64 0, .int .i64 0, .string ⟨#[]⟩]) rfl [.string ⟨#[]⟩, .int .i64 0, .int .i64 0, .string ⟨#[]⟩] rfl (pre := [.int .i64 x.k, .string (bs x.m.p), .slice x.m.A x.m.a.length x.m.c, .string (bs x.o)]) (old := [.string (bs x.a.v), .int .i64 x.a.x.k, .int .i64 x.a.x.n, .string x.a.x.s]) (post := [.string (bs x.b.v), .int .i64 x.b.x.k, .int .i64 x.b.x.n, .string x.b.x.s, .string (bs x.c.v), .int .i64 x.c.x.k, .int .i64 x.c.x.n, .string x.c.x.s, .slice x.pA x.p.length x.pc]) HR1.out rfl rfl (by kernel_rfl) rfl ?_; intro v1 hR hF hs; replace hB := hB.trans ((hF W.heap.size).below (Nat.le_refl _) (fun k hk e => by omega)); have HQ1 := Lib.hid hR; clear hR hF hs)
        | (refine wpList_storeR rfl 48 (.tmp 62) (.tmp 59) rfl (W.heap.size + 1) 8 rfl (.agg #[.string ⟨#[]⟩, .int .i64 0, .int .i64 0, .string ⟨#[]⟩]) rfl [.string ⟨#[]⟩, .int .i64 0, .int .i64 0, .string ⟨#[]⟩] rfl (pre := [.int .i64 x.k, .string (bs x.m.p), .slice x.m.A x.m.a.length x.m.c, .string (bs x.o), .string ⟨#[]⟩, .int .i64 0, .int .i64 0, .string ⟨#[]⟩]) (old := [.string (bs x.b.v), .int .i64 x.b.x.k, .int .i64 x.b.x.n, .string x.b.x.s]) (post := [.string (bs x.c.v), .int .i64 x.c.x.k, .int .i64 x.c.x.n, .string x.c.x.s, .slice x.pA x.p.length x.pc]) HQ1.out rfl rfl (by kernel_rfl) rfl ?_; intro v2 hR hF hs; replace hB := hB.trans ((hF W.heap.size).below (Nat.le_refl _) (fun k hk e => by omega)); have HQ2 := Lib.hid hR; clear hR hF hs)
        | (refine wpList_storeR rfl 9 (.tmp 63) _ rfl (W.heap.size + 1) 3 rfl (.string ⟨#[]⟩) rfl [.string ⟨#[]⟩] rfl (pre := [.int .i64 x.k, .string (bs x.m.p), .slice x.m.A x.m.a.length x.m.c]) (old := [.string (bs x.o)]) (post := [.string ⟨#[]⟩, .int .i64 0, .int .i64 0, .string ⟨#[]⟩, .string ⟨#[]⟩, .int .i64 0, .int .i64 0, .string ⟨#[]⟩, .string (bs x.c.v), .int .i64 x.c.x.k, .int .i64 x.c.x.n, .string x.c.x.s, .slice x.pA x.p.length x.pc]) HQ2.out rfl rfl (by kernel_rfl) rfl ?_; intro v3 hR hF hs; replace hB := hB.trans ((hF W.heap.size).below (Nat.le_refl _) (fun k hk e => by omega)); have HQ3 := Lib.hid hR; clear hR hF hs)
        | (refine wpList_storeR rfl 48 (.tmp 64) (.tmp 60) rfl (W.heap.size + 1) 12 rfl (.agg #[.string ⟨#[]⟩, .int .i64 0, .int .i64 0, .string ⟨#[]⟩]) rfl [.string ⟨#[]⟩, .int .i64 0, .int .i64 0, .string ⟨#[]⟩] rfl (pre := [.int .i64 x.k, .string (bs x.m.p), .slice x.m.A x.m.a.length x.m.c, .string ⟨#[]⟩, .string ⟨#[]⟩, .int .i64 0, .int .i64 0, .string ⟨#[]⟩, .string ⟨#[]⟩, .int .i64 0, .int .i64 0, .string ⟨#[]⟩]) (old := [.string (bs x.c.v), .int .i64 x.c.x.k, .int .i64 x.c.x.n, .string x.c.x.s]) (post := [.slice x.pA x.p.length x.pc]) HQ3.out rfl rfl (by kernel_rfl) rfl ?_; intro v4 hR hF hs; replace hB := hB.trans ((hF W.heap.size).below (Nat.le_refl _) (fun k hk e => by omega)); have HQ4 := Lib.hid hR; clear hR hF hs)
        | (refine wpList_load_mid rfl 52 (.tmp 4) rfl (W.heap.size + 1) 0 rfl (ltIC { x with a := tm0, b := tm0, o := [], c := tm0 }) _ (HLY.out _ HQ4.out) Tryz.underlying52 rfl (by kernel_rfl) ?_)
        | (go_at_call 46; refine (HBL.out _).mono ?_; rintro e w9 ⟨rfl, h'⟩; replace hB := on hB h'; clear h'))
      go_ret
      rw [HLX.out]
      exact ⟨rfl, hB⟩
end Go.Proofs.YtahljmddnfldlaaGreatDoor
namespace Go.Proofs.YtahljmddnfldlaaGreatDoor
open Go.RowKit FloM ValM Go.Shelf
set_option linter.unusedVariables false
set_option linter.unusedSimpArgs false
theorem pathX_len (l : List St) : (pathX deepT l).length ≤ 5000 := by
  unfold pathX
  split
  · simp
  · rename_i h100
    cases hr : runE [] l with
    | none => simp
    | some st =>
      match st, hr with
      | [], _ => simp
      | _ :: _ :: _, _ => simp
      | [e], hr =>
        have h1 := run_len _ _ _ hr
        have h2 := tot_one e
        have h3 : totE [] = 0 := rfl
        simp only
        split
        · simp
        · omega
set_option maxRecDepth 20000 in
set_option maxHeartbeats 16000000 in
theorem literal_5 (x : LtI) (W : World) (hx : x.rd W) (hok : x.ok) (hk : x.k = 5) : Calls Tryz.prog 20 #[.agg (ltIC x).toArray] W fun e w' => e = .returned (.string (bs (litX x))) ∧ Below W.heap.size W w' := by
  have HLX : Hid (litX x = if blankB { x with a := tm0, pA := none, pc := 0, p := [], b := tm0 } = true then wholeX [[119, 97, 108, 107, 40], termX x.a, [44, 32], pathX deepT (x.p.map stN), [44, 32], termX x.b, [41]] else []) := Lib.hid (by
    have e1 : restL x = { x with a := tm0, pA := none, pc := 0, p := [], b := tm0 } := by unfold restL; rw [if_neg (by omega), if_neg (by omega), if_neg (by omega), if_pos hk]
    have e2 : litT x = wholeX [[119, 97, 108, 107, 40], termX x.a, [44, 32], pathX deepT (x.p.map stN), [44, 32], termX x.b, [41]] := by unfold litT; rw [if_neg (by omega), if_neg (by omega), if_neg (by omega), if_neg (by omega), if_pos hk]
    unfold litX; rw [e1, e2])
  have hla : x.m.a.length ≤ 9223372036854775807 := Nat.le_trans hx.1.1 (by decide)
  have hlp : x.p.length ≤ 9223372036854775807 := Nat.le_trans hx.2.1 (by decide)
  have HRX : Hid (x.rd W) := Lib.hid hx
  have HOK := Lib.hid hok
  have HBL : Hid (∀ V, Calls Tryz.prog 46 #[.agg (ltIC { x with a := tm0, pA := none, pc := 0, p := [], b := tm0 }).toArray] V fun e w' => e = .returned (.bool (blankB { x with a := tm0, pA := none, pc := 0, p := [], b := tm0 })) ∧ Below V.heap.size V w') := Lib.hid fun V => blank_any { x with a := tm0, pA := none, pc := 0, p := [], b := tm0 } V (by first | exact hla | exact Nat.zero_le _) (by first | exact hlp | exact Nat.zero_le _)
  have HTa : Hid (∀ V, Calls Tryz.prog 40 #[.agg #[.string (bs x.a.v), .int .i64 x.a.x.k, .int .i64 x.a.x.n, .string x.a.x.s]] V fun e w' => e = .returned (.string (bs (termX x.a))) ∧ Below V.heap.size V w') := Lib.hid fun V => term_tm x.a V HOK.out.2.2.1
  have HTb : Hid (∀ V, Calls Tryz.prog 40 #[.agg #[.string (bs x.b.v), .int .i64 x.b.x.k, .int .i64 x.b.x.n, .string x.b.x.s]] V fun e w' => e = .returned (.string (bs (termX x.b))) ∧ Below V.heap.size V w') := Lib.hid fun V => term_tm x.b V HOK.out.2.2.2.1
  have HP : Hid (∀ V, Below W.heap.size W V → Calls Tryz.prog 16 #[.slice x.pA x.p.length x.pc] V fun e w' => e = .returned (.string (bs (pathX deepT (x.p.map stN)))) ∧ Below V.heap.size V w') := Lib.hid fun V hV => showPath_any x.pA x.pc x.p V (HRX.out.2.on hV) HOK.out.2.2.2.2.2
  have la := termX_len HOK.out.2.2.1
  have lb := termX_len HOK.out.2.2.2.1
  have lo := pathX_len (x.p.map stN)
  have HW : Hid (∀ V, Calls Tryz.prog 21 #[.slice (some ⟨V.heap.size, 0, none⟩) 7 7] (V.alloc (.cells #[.string ⟨#[119, 97, 108, 107, 40]⟩, .string (bs (termX x.a)), .string ⟨#[44, 32]⟩, .string (bs (pathX deepT (x.p.map stN))), .string ⟨#[44, 32]⟩, .string (bs (termX x.b)), .string ⟨#[41]⟩] 9)) fun e w' => e = .returned (.string (bs (wholeX [[119, 97, 108, 107, 40], termX x.a, [44, 32], pathX deepT (x.p.map stN), [44, 32], termX x.b, [41]]))) ∧ Below V.heap.size V w') := Lib.hid fun V => whole_lists V [[119, 97, 108, 107, 40], termX x.a, [44, 32], pathX deepT (x.p.map stN), [44, 32], termX x.b, [41]] (by simp) (by simp; omega)
  clear la lb lo
  have HRG : Hid ((W.alloc (.cells (ltIC x).toArray 52)).rangeAt W.heap.size 0 (ltIC x)) := Lib.hid (fun j v hj => by rw [Nat.zero_add]; exact ((row_new (t := 52) W (ltIC x)).cell j).trans hj)
  have HZ : Hid (Row 52 ((W.alloc (.cells (ltIC x).toArray 52)).alloc (.cells [.int .i64 0, .string ByteArray.empty, .slice none 0 0, .string ByteArray.empty, .string ByteArray.empty, .int .i64 0, .int .i64 0, .string ByteArray.empty, .string ByteArray.empty, .int .i64 0, .int .i64 0, .string ByteArray.empty, .string ByteArray.empty, .int .i64 0, .int .i64 0, .string ByteArray.empty, .slice none 0 0].toArray 52)) (W.heap.size + 1) [.int .i64 0, .string ByteArray.empty, .slice none 0 0, .string ByteArray.empty, .string ByteArray.empty, .int .i64 0, .int .i64 0, .string ByteArray.empty, .string ByteArray.empty, .int .i64 0, .int .i64 0, .string ByteArray.empty, .string ByteArray.empty, .int .i64 0, .int .i64 0, .string ByteArray.empty, .slice none 0 0]) := Lib.hid (by have h := row_new (t := 52) (W.alloc (.cells (ltIC x).toArray 52)) [.int .i64 0, .string ByteArray.empty, .slice none 0 0, .string ByteArray.empty, .string ByteArray.empty, .int .i64 0, .int .i64 0, .string ByteArray.empty, .string ByteArray.empty, .int .i64 0, .int .i64 0, .string ByteArray.empty, .string ByteArray.empty, .int .i64 0, .int .i64 0, .string ByteArray.empty, .slice none 0 0]; rw [World.size_alloc] at h; exact h)
  have HR00 : Hid (Row 52 ((W.alloc (.cells (ltIC x).toArray 52)).alloc (.cells [.int .i64 0, .string ByteArray.empty, .slice none 0 0, .string ByteArray.empty, .string ByteArray.empty, .int .i64 0, .int .i64 0, .string ByteArray.empty, .string ByteArray.empty, .int .i64 0, .int .i64 0, .string ByteArray.empty, .string ByteArray.empty, .int .i64 0, .int .i64 0, .string ByteArray.empty, .slice none 0 0].toArray 52)) W.heap.size (ltIC x)) := Lib.hid ((row_new (t := 52) W (ltIC x)).alloc _)
  have hB0 : Below W.heap.size W ((W.alloc (.cells (ltIC x).toArray 52)).alloc (.cells [.int .i64 0, .string ByteArray.empty, .slice none 0 0, .string ByteArray.empty, .string ByteArray.empty, .int .i64 0, .int .i64 0, .string ByteArray.empty, .string ByteArray.empty, .int .i64 0, .int .i64 0, .string ByteArray.empty, .string ByteArray.empty, .int .i64 0, .int .i64 0, .string ByteArray.empty, .slice none 0 0].toArray 52)) := ((Below.refl _ _).alloc (Nat.le_refl _) _).alloc (by simp) _
  have HB0 := Lib.hid hB0
  have hall : (ltIC x).all (·.oneCell') = true := rfl
  clear hx hok hB0 hla hlp
  generalize hYB : blankB { x with a := tm0, pA := none, pc := 0, p := [], b := tm0 } = YB at *
  clear hYB
  go_enter Tryz.func20, Tryz.ntmps20
  go_upto_region 3 with (first
    | (refine wpList_load_mid rfl 52 (.tmp 1) rfl W.heap.size 0 rfl (ltIC x) _ HRG.out Tryz.underlying52 rfl (by kernel_rfl) ?_)
    | (refine wpList_storeR rfl 52 (.tmp 4) (.tmp 5) rfl (W.heap.size + 1) 0 rfl (.agg (ltIC x).toArray) rfl (ltIC x) rfl (pre := []) (old := [.int .i64 0, .string ByteArray.empty, .slice none 0 0, .string ByteArray.empty, .string ByteArray.empty, .int .i64 0, .int .i64 0, .string ByteArray.empty, .string ByteArray.empty, .int .i64 0, .int .i64 0, .string ByteArray.empty, .string ByteArray.empty, .int .i64 0, .int .i64 0, .string ByteArray.empty, .slice none 0 0]) (post := []) HZ.out rfl rfl (by kernel_rfl) hall ?_; intro w1 hR hF hs; have hB : Below W.heap.size W w1 := HB0.out.trans ((hF W.heap.size).below (Nat.le_refl _) (fun k hk e => by omega)); have HR1 : Hid (Row 52 w1 (W.heap.size + 1) (ltIC x)) := Lib.hid (by simpa using hR); have HR0 : Hid (Row 52 w1 W.heap.size (ltIC x)) := Lib.hid (Row.fr HR00.out (hF (W.heap.size + 1)) (by omega) (by omega)); have hs1 : w1.heap.size = W.heap.size + 1 + 1 := (by rw [hs]; simp); clear hR hF hs))
  clear HRG HZ HR00 HB0 hall
  have c0 : w1.cell? ⟨W.heap.size, 0, none⟩ = some (.int .i64 5) := by rw [← hk]; exact HR0.out.cell 0
  clear hk
  have HLY : Hid (∀ V, Row 52 V (W.heap.size + 1) ([.int .i64 x.k, .string (bs x.m.p), .slice x.m.A x.m.a.length x.m.c, .string (bs x.o), .string ⟨#[]⟩, .int .i64 0, .int .i64 0, .string ⟨#[]⟩] ++ [.string ⟨#[]⟩, .int .i64 0, .int .i64 0, .string ⟨#[]⟩] ++ [.string (bs x.c.v), .int .i64 x.c.x.k, .int .i64 x.c.x.n, .string x.c.x.s, .slice none 0 0]) → V.rangeAt (W.heap.size + 1) 0 (ltIC { x with a := tm0, pA := none, pc := 0, p := [], b := tm0 })) := Lib.hid fun V h => by
    have e : ([.int .i64 x.k, .string (bs x.m.p), .slice x.m.A x.m.a.length x.m.c, .string (bs x.o), .string ⟨#[]⟩, .int .i64 0, .int .i64 0, .string ⟨#[]⟩] ++ [.string ⟨#[]⟩, .int .i64 0, .int .i64 0, .string ⟨#[]⟩] ++ [.string (bs x.c.v), .int .i64 x.c.x.k, .int .i64 x.c.x.n, .string x.c.x.s, .slice none 0 0]) = ltIC { x with a := tm0, pA := none, pc := 0, p := [], b := tm0 } := rfl
    rw [e] at h
    exact fun j v hj => by rw [Nat.zero_add]; exact (h.cell j).trans hj
  generalize wholeX [[119, 97, 108, 107, 40], termX x.a, [44, 32], pathX deepT (x.p.map stN), [44, 32], termX x.b, [41]] = R at *
  generalize termX x.a = TA at *
  generalize termX x.b = TB at *
  generalize pathX deepT (x.p.map stN) = CO at *
  have c4 : w1.cell? ⟨W.heap.size, 4, none⟩ = some (.string (bs x.a.v)) := HR0.out.cell 4
  have c5 : w1.cell? ⟨W.heap.size, 5, none⟩ = some (.int .i64 x.a.x.k) := HR0.out.cell 5
  have c6 : w1.cell? ⟨W.heap.size, 6, none⟩ = some (.int .i64 x.a.x.n) := HR0.out.cell 6
  have c7 : w1.cell? ⟨W.heap.size, 7, none⟩ = some (.string x.a.x.s) := HR0.out.cell 7
  have c8 : w1.cell? ⟨W.heap.size, 8, none⟩ = some (.string (bs x.b.v)) := HR0.out.cell 8
  have c9 : w1.cell? ⟨W.heap.size, 9, none⟩ = some (.int .i64 x.b.x.k) := HR0.out.cell 9
  have c10 : w1.cell? ⟨W.heap.size, 10, none⟩ = some (.int .i64 x.b.x.n) := HR0.out.cell 10
  have c11 : w1.cell? ⟨W.heap.size, 11, none⟩ = some (.string x.b.x.s) := HR0.out.cell 11
  have c16 : w1.cell? ⟨W.heap.size, 16, none⟩ = some (.slice x.pA x.p.length x.pc) := HR0.out.cell 16
  go_upto_region 17 with fail
  have HS : Hid (∀ u, Below w1.heap.size w1 u → (Below w1.heap.size w1 u ∧ u.cell? ⟨W.heap.size, 4, none⟩ = some (.string (bs x.a.v)) ∧ u.cell? ⟨W.heap.size, 5, none⟩ = some (.int .i64 x.a.x.k) ∧ u.cell? ⟨W.heap.size, 6, none⟩ = some (.int .i64 x.a.x.n) ∧ u.cell? ⟨W.heap.size, 7, none⟩ = some (.string x.a.x.s) ∧ u.cell? ⟨W.heap.size, 8, none⟩ = some (.string (bs x.b.v)) ∧ u.cell? ⟨W.heap.size, 9, none⟩ = some (.int .i64 x.b.x.k) ∧ u.cell? ⟨W.heap.size, 10, none⟩ = some (.int .i64 x.b.x.n) ∧ u.cell? ⟨W.heap.size, 11, none⟩ = some (.string x.b.x.s) ∧ u.cell? ⟨W.heap.size, 16, none⟩ = some (.slice x.pA x.p.length x.pc))) := Lib.hid fun u hu => ⟨hu, (rowOn HR0.out hu).cell 4, (rowOn HR0.out hu).cell 5, (rowOn HR0.out hu).cell 6, (rowOn HR0.out hu).cell 7, (rowOn HR0.out hu).cell 8, (rowOn HR0.out hu).cell 9, (rowOn HR0.out hu).cell 10, (rowOn HR0.out hu).cell 11, (rowOn HR0.out hu).cell 16⟩
  have h4 : Below w1.heap.size w1 w1.drew := (Below.refl _ _).drew
  clear HR0 c0 c4 c5 c6 c7 c8 c9 c10 c11 c16
  go_region_held3 (fun u => Below w1.heap.size w1 u ∧ u.cell? ⟨W.heap.size, 4, none⟩ = some (.string (bs x.a.v)) ∧ u.cell? ⟨W.heap.size, 5, none⟩ = some (.int .i64 x.a.x.k) ∧ u.cell? ⟨W.heap.size, 6, none⟩ = some (.int .i64 x.a.x.n) ∧ u.cell? ⟨W.heap.size, 7, none⟩ = some (.string x.a.x.s) ∧ u.cell? ⟨W.heap.size, 8, none⟩ = some (.string (bs x.b.v)) ∧ u.cell? ⟨W.heap.size, 9, none⟩ = some (.int .i64 x.b.x.k) ∧ u.cell? ⟨W.heap.size, 10, none⟩ = some (.int .i64 x.b.x.n) ∧ u.cell? ⟨W.heap.size, 11, none⟩ = some (.string x.b.x.s) ∧ u.cell? ⟨W.heap.size, 16, none⟩ = some (.slice x.pA x.p.length x.pc))
    (exact HS.out _ (by first | exact Below.refl _ _ | exact h4 | exact h4.alloc (by have := h4.size; omega) _))
    ((first
      | (go_at_call 40; with_reducible refine (HTa.out _).mono ?_; rintro e w3 ⟨rfl, h'⟩; replace h4 := on h4 h'; clear h')
      | (go_at_call 16; with_reducible refine (HP.out _ (on hB (by first | exact h4 | exact (Below.refl _ _)))).mono ?_; rintro e w3 ⟨rfl, h'⟩; replace h4 := on h4 h'; clear h')
      | (go_at_call 40; with_reducible refine (HTb.out _).mono ?_; rintro e w3 ⟨rfl, h'⟩; replace h4 := on h4 h'; clear h')
      | (go_at_call 21; refine (HW.out _).mono ?_; rintro e w4 ⟨rfl, h'⟩; replace h4 := on h4 h'; clear h')))
  all_goals
    replace hB := on hB h4
    replace HR1 := Lib.hid (rowOn HR1.out h4)
    clear HTa HTb HP HW HS h4
    go_upto_region 18 with fail
    cases YB with
    | true =>
      go_wp2_with (first
        | (refine wpList_storeR rfl 48 (.tmp 80) (.tmp 78) rfl (W.heap.size + 1) 4 rfl (.agg #[.string ⟨#[]⟩, .int .i64 0, .int .i64 0, .string ⟨#[]⟩]) rfl [.string ⟨#[]⟩, .int .i64 0, .int .i64 0, .string ⟨#[]⟩] rfl (pre := [.int .i64 x.k, .string (bs x.m.p), .slice x.m.A x.m.a.length x.m.c, .string (bs x.o)]) (old := [.string (bs x.a.v), .int .i64 x.a.x.k, .int .i64 x.a.x.n, .string x.a.x.s]) (post := [.string (bs x.b.v), .int .i64 x.b.x.k, .int .i64 x.b.x.n, .string x.b.x.s, .string (bs x.c.v), .int .i64 x.c.x.k, .int .i64 x.c.x.n, .string x.c.x.s, .slice x.pA x.p.length x.pc]) HR1.out rfl rfl (by kernel_rfl) rfl ?_; intro v1 hR hF hs; replace hB := hB.trans ((hF W.heap.size).below (Nat.le_refl _) (fun k hk e => by omega)); have HQ1 := Lib.hid hR; clear hR hF hs)
        | (refine wpList_storeR rfl 44 (.tmp 81) _ rfl (W.heap.size + 1) 16 rfl (.slice none 0 0) rfl [.slice none 0 0] rfl (pre := [.int .i64 x.k, .string (bs x.m.p), .slice x.m.A x.m.a.length x.m.c, .string (bs x.o), .string ⟨#[]⟩, .int .i64 0, .int .i64 0, .string ⟨#[]⟩, .string (bs x.b.v), .int .i64 x.b.x.k, .int .i64 x.b.x.n, .string x.b.x.s, .string (bs x.c.v), .int .i64 x.c.x.k, .int .i64 x.c.x.n, .string x.c.x.s]) (old := [.slice x.pA x.p.length x.pc]) (post := []) HQ1.out rfl rfl (by kernel_rfl) rfl ?_; intro v2 hR hF hs; replace hB := hB.trans ((hF W.heap.size).below (Nat.le_refl _) (fun k hk e => by omega)); have HQ2 := Lib.hid hR; clear hR hF hs)
        | (refine wpList_storeR rfl 48 (.tmp 82) (.tmp 79) rfl (W.heap.size + 1) 8 rfl (.agg #[.string ⟨#[]⟩, .int .i64 0, .int .i64 0, .string ⟨#[]⟩]) rfl [.string ⟨#[]⟩, .int .i64 0, .int .i64 0, .string ⟨#[]⟩] rfl (pre := [.int .i64 x.k, .string (bs x.m.p), .slice x.m.A x.m.a.length x.m.c, .string (bs x.o), .string ⟨#[]⟩, .int .i64 0, .int .i64 0, .string ⟨#[]⟩]) (old := [.string (bs x.b.v), .int .i64 x.b.x.k, .int .i64 x.b.x.n, .string x.b.x.s]) (post := [.string (bs x.c.v), .int .i64 x.c.x.k, .int .i64 x.c.x.n, .string x.c.x.s, .slice none 0 0]) HQ2.out rfl rfl (by kernel_rfl) rfl ?_; intro v3 hR hF hs; replace hB := hB.trans ((hF W.heap.size).below (Nat.le_refl _) (fun k hk e => by omega)); have HQ3 := Lib.hid hR; clear hR hF hs)
        | (refine wpList_load_mid rfl 52 (.tmp 4) rfl (W.heap.size + 1) 0 rfl (ltIC { x with a := tm0, pA := none, pc := 0, p := [], b := tm0 }) _ (HLY.out _ HQ3.out) Tryz.underlying52 rfl (by kernel_rfl) ?_)
        | (go_at_call 46; refine (HBL.out _).mono ?_; rintro e w9 ⟨rfl, h'⟩; replace hB := on hB h'; clear h'))
      go_ret
      rw [HLX.out]
      exact ⟨rfl, hB⟩
    | false =>
      go_wp2_with (first
        | (refine wpList_storeR rfl 48 (.tmp 80) (.tmp 78) rfl (W.heap.size + 1) 4 rfl (.agg #[.string ⟨#[]⟩, .int .i64 0, .int .i64 0, .string ⟨#[]⟩]) rfl [.string ⟨#[]⟩, .int .i64 0, .int .i64 0, .string ⟨#[]⟩] rfl (pre := [.int .i64 x.k, .string (bs x.m.p), .slice x.m.A x.m.a.length x.m.c, .string (bs x.o)]) (old := [.string (bs x.a.v), .int .i64 x.a.x.k, .int .i64 x.a.x.n, .string x.a.x.s]) (post := [.string (bs x.b.v), .int .i64 x.b.x.k, .int .i64 x.b.x.n, .string x.b.x.s, .string (bs x.c.v), .int .i64 x.c.x.k, .int .i64 x.c.x.n, .string x.c.x.s, .slice x.pA x.p.length x.pc]) HR1.out rfl rfl (by kernel_rfl) rfl ?_; intro v1 hR hF hs; replace hB := hB.trans ((hF W.heap.size).below (Nat.le_refl _) (fun k hk e => by omega)); have HQ1 := Lib.hid hR; clear hR hF hs)
        | (refine wpList_storeR rfl 44 (.tmp 81) _ rfl (W.heap.size + 1) 16 rfl (.slice none 0 0) rfl [.slice none 0 0] rfl (pre := [.int .i64 x.k, .string (bs x.m.p), .slice x.m.A x.m.a.length x.m.c, .string (bs x.o), .string ⟨#[]⟩, .int .i64 0, .int .i64 0, .string ⟨#[]⟩, .string (bs x.b.v), .int .i64 x.b.x.k, .int .i64 x.b.x.n, .string x.b.x.s, .string (bs x.c.v), .int .i64 x.c.x.k, .int .i64 x.c.x.n, .string x.c.x.s]) (old := [.slice x.pA x.p.length x.pc]) (post := []) HQ1.out rfl rfl (by kernel_rfl) rfl ?_; intro v2 hR hF hs; replace hB := hB.trans ((hF W.heap.size).below (Nat.le_refl _) (fun k hk e => by omega)); have HQ2 := Lib.hid hR; clear hR hF hs)
        | (refine wpList_storeR rfl 48 (.tmp 82) (.tmp 79) rfl (W.heap.size + 1) 8 rfl (.agg #[.string ⟨#[]⟩, .int .i64 0, .int .i64 0, .string ⟨#[]⟩]) rfl [.string ⟨#[]⟩, .int .i64 0, .int .i64 0, .string ⟨#[]⟩] rfl (pre := [.int .i64 x.k, .string (bs x.m.p), .slice x.m.A x.m.a.length x.m.c, .string (bs x.o), .string ⟨#[]⟩, .int .i64 0, .int .i64 0, .string ⟨#[]⟩]) (old := [.string (bs x.b.v), .int .i64 x.b.x.k, .int .i64 x.b.x.n, .string x.b.x.s]) (post := [.string (bs x.c.v), .int .i64 x.c.x.k, .int .i64 x.c.x.n, .string x.c.x.s, .slice none 0 0]) HQ2.out rfl rfl (by kernel_rfl) rfl ?_; intro v3 hR hF hs; replace hB := hB.trans ((hF W.heap.size).below (Nat.le_refl _) (fun k hk e => by omega)); have HQ3 := Lib.hid hR; clear hR hF hs)
        | (refine wpList_load_mid rfl 52 (.tmp 4) rfl (W.heap.size + 1) 0 rfl (ltIC { x with a := tm0, pA := none, pc := 0, p := [], b := tm0 }) _ (HLY.out _ HQ3.out) Tryz.underlying52 rfl (by kernel_rfl) ?_)
        | (go_at_call 46; refine (HBL.out _).mono ?_; rintro e w9 ⟨rfl, h'⟩; replace hB := on hB h'; clear h'))
      go_ret
      rw [HLX.out]
      exact ⟨rfl, hB⟩
end Go.Proofs.YtahljmddnfldlaaGreatDoor
namespace Go.Proofs.YtahljmddnfldlaaGreatDoor
open Go.RowKit FloM ValM Go.Shelf
set_option linter.unusedVariables false
set_option linter.unusedSimpArgs false
set_option maxRecDepth 20000 in
set_option maxHeartbeats 16000000 in
theorem literal_0 (x : LtI) (W : World) (hx : x.rd W) (hok : x.ok) (hk : ¬ (x.k = 1 ∨ x.k = 2 ∨ x.k = 3 ∨ x.k = 4 ∨ x.k = 5)) : Calls Tryz.prog 20 #[.agg (ltIC x).toArray] W fun e w' => e = .returned (.string (bs (litX x))) ∧ Below W.heap.size W w' := by
  have HLX : Hid (litX x = if blankB x = true then ([] : List UInt8) else []) := Lib.hid (by
    have e1 : restL x = x := by unfold restL; rw [if_neg (by omega), if_neg (by omega), if_neg (by omega), if_neg (by omega)]
    have e2 : litT x = ([] : List UInt8) := by unfold litT; rw [if_neg (by omega), if_neg (by omega), if_neg (by omega), if_neg (by omega), if_neg (by omega)]
    unfold litX; rw [e1, e2])
  have hla : x.m.a.length ≤ 9223372036854775807 := Nat.le_trans hx.1.1 (by decide)
  have hlp : x.p.length ≤ 9223372036854775807 := Nat.le_trans hx.2.1 (by decide)
  have HRX : Hid (x.rd W) := Lib.hid hx
  have HOK := Lib.hid hok
  have HBL : Hid (∀ V, Calls Tryz.prog 46 #[.agg (ltIC x).toArray] V fun e w' => e = .returned (.bool (blankB x)) ∧ Below V.heap.size V w') := Lib.hid fun V => blank_any x V (by first | exact hla | exact Nat.zero_le _) (by first | exact hlp | exact Nat.zero_le _)
  have HRG : Hid ((W.alloc (.cells (ltIC x).toArray 52)).rangeAt W.heap.size 0 (ltIC x)) := Lib.hid (fun j v hj => by rw [Nat.zero_add]; exact ((row_new (t := 52) W (ltIC x)).cell j).trans hj)
  have HZ : Hid (Row 52 ((W.alloc (.cells (ltIC x).toArray 52)).alloc (.cells [.int .i64 0, .string ByteArray.empty, .slice none 0 0, .string ByteArray.empty, .string ByteArray.empty, .int .i64 0, .int .i64 0, .string ByteArray.empty, .string ByteArray.empty, .int .i64 0, .int .i64 0, .string ByteArray.empty, .string ByteArray.empty, .int .i64 0, .int .i64 0, .string ByteArray.empty, .slice none 0 0].toArray 52)) (W.heap.size + 1) [.int .i64 0, .string ByteArray.empty, .slice none 0 0, .string ByteArray.empty, .string ByteArray.empty, .int .i64 0, .int .i64 0, .string ByteArray.empty, .string ByteArray.empty, .int .i64 0, .int .i64 0, .string ByteArray.empty, .string ByteArray.empty, .int .i64 0, .int .i64 0, .string ByteArray.empty, .slice none 0 0]) := Lib.hid (by have h := row_new (t := 52) (W.alloc (.cells (ltIC x).toArray 52)) [.int .i64 0, .string ByteArray.empty, .slice none 0 0, .string ByteArray.empty, .string ByteArray.empty, .int .i64 0, .int .i64 0, .string ByteArray.empty, .string ByteArray.empty, .int .i64 0, .int .i64 0, .string ByteArray.empty, .string ByteArray.empty, .int .i64 0, .int .i64 0, .string ByteArray.empty, .slice none 0 0]; rw [World.size_alloc] at h; exact h)
  have HR00 : Hid (Row 52 ((W.alloc (.cells (ltIC x).toArray 52)).alloc (.cells [.int .i64 0, .string ByteArray.empty, .slice none 0 0, .string ByteArray.empty, .string ByteArray.empty, .int .i64 0, .int .i64 0, .string ByteArray.empty, .string ByteArray.empty, .int .i64 0, .int .i64 0, .string ByteArray.empty, .string ByteArray.empty, .int .i64 0, .int .i64 0, .string ByteArray.empty, .slice none 0 0].toArray 52)) W.heap.size (ltIC x)) := Lib.hid ((row_new (t := 52) W (ltIC x)).alloc _)
  have hB0 : Below W.heap.size W ((W.alloc (.cells (ltIC x).toArray 52)).alloc (.cells [.int .i64 0, .string ByteArray.empty, .slice none 0 0, .string ByteArray.empty, .string ByteArray.empty, .int .i64 0, .int .i64 0, .string ByteArray.empty, .string ByteArray.empty, .int .i64 0, .int .i64 0, .string ByteArray.empty, .string ByteArray.empty, .int .i64 0, .int .i64 0, .string ByteArray.empty, .slice none 0 0].toArray 52)) := ((Below.refl _ _).alloc (Nat.le_refl _) _).alloc (by simp) _
  have HB0 := Lib.hid hB0
  have hall : (ltIC x).all (·.oneCell') = true := rfl
  clear hx hok hB0 hla hlp
  generalize hYB : blankB x = YB at *
  clear hYB
  go_enter Tryz.func20, Tryz.ntmps20
  go_upto_region 3 with (first
    | (refine wpList_load_mid rfl 52 (.tmp 1) rfl W.heap.size 0 rfl (ltIC x) _ HRG.out Tryz.underlying52 rfl (by kernel_rfl) ?_)
    | (refine wpList_storeR rfl 52 (.tmp 4) (.tmp 5) rfl (W.heap.size + 1) 0 rfl (.agg (ltIC x).toArray) rfl (ltIC x) rfl (pre := []) (old := [.int .i64 0, .string ByteArray.empty, .slice none 0 0, .string ByteArray.empty, .string ByteArray.empty, .int .i64 0, .int .i64 0, .string ByteArray.empty, .string ByteArray.empty, .int .i64 0, .int .i64 0, .string ByteArray.empty, .string ByteArray.empty, .int .i64 0, .int .i64 0, .string ByteArray.empty, .slice none 0 0]) (post := []) HZ.out rfl rfl (by kernel_rfl) hall ?_; intro w1 hR hF hs; have hB : Below W.heap.size W w1 := HB0.out.trans ((hF W.heap.size).below (Nat.le_refl _) (fun k hk e => by omega)); have HR1 : Hid (Row 52 w1 (W.heap.size + 1) (ltIC x)) := Lib.hid (by simpa using hR); have HR0 : Hid (Row 52 w1 W.heap.size (ltIC x)) := Lib.hid (Row.fr HR00.out (hF (W.heap.size + 1)) (by omega) (by omega)); have hs1 : w1.heap.size = W.heap.size + 1 + 1 := (by rw [hs]; simp); clear hR hF hs))
  clear HRG HZ HR00 HB0 hall
  have c0 : w1.cell? ⟨W.heap.size, 0, none⟩ = some (.int .i64 x.k) := HR0.out.cell 0
  have g1 : (x.k == 1) = false := by rw [beq_eq_false_iff_ne]; omega
  have g2 : (x.k == 2) = false := by rw [beq_eq_false_iff_ne]; omega
  have g3 : (x.k == 3) = false := by rw [beq_eq_false_iff_ne]; omega
  have g4 : (x.k == 4) = false := by rw [beq_eq_false_iff_ne]; omega
  have g5 : (x.k == 5) = false := by rw [beq_eq_false_iff_ne]; omega
  clear HR0 hk
  cases YB with
  | true =>
    go_wp2_with (first
      | (refine wpList_load_mid rfl 52 (.tmp 4) rfl (W.heap.size + 1) 0 rfl (ltIC x) _ (fun j v hj => by rw [Nat.zero_add]; exact (HR1.out.cell j).trans hj) Tryz.underlying52 rfl (by kernel_rfl) ?_)
      | (go_at_call 46; refine (HBL.out _).mono ?_; rintro e w9 ⟨rfl, h'⟩; replace hB := on hB h'; clear h'))
    go_ret
    rw [HLX.out]
    exact ⟨rfl, hB⟩
  | false =>
    go_wp2_with (first
      | (refine wpList_load_mid rfl 52 (.tmp 4) rfl (W.heap.size + 1) 0 rfl (ltIC x) _ (fun j v hj => by rw [Nat.zero_add]; exact (HR1.out.cell j).trans hj) Tryz.underlying52 rfl (by kernel_rfl) ?_)
      | (go_at_call 46; refine (HBL.out _).mono ?_; rintro e w9 ⟨rfl, h'⟩; replace hB := on hB h'; clear h'))
    go_ret
    rw [HLX.out]
    exact ⟨rfl, hB⟩
theorem literal9_any (x : LtI) (W : World) (hx : x.rd W) (hok : x.ok) : Calls Tryz.prog 20 #[.agg (ltIC x).toArray] W fun e w' => e = .returned (.string (bs (litX x))) ∧ Below W.heap.size W w' := by
  by_cases h1 : x.k = 1
  · exact literal_1 x W hx hok h1
  by_cases h2 : x.k = 2
  · exact literal_2 x W hx hok h2
  by_cases h3 : x.k = 3
  · exact literal_3 x W hx hok h3
  by_cases h4 : x.k = 4
  · exact literal_4 x W hx hok h4
  by_cases h5 : x.k = 5
  · exact literal_5 x W hx hok h5
  exact literal_0 x W hx hok (by omega)
theorem cmpX_len (o : List UInt8) : (cmpX o).length ≤ 2 := by
  unfold cmpX
  split
  · rename_i h; rcases h with h | h | h | h <;> rw [h] <;> decide
  · simp
theorem oprX_len (o : List UInt8) : (oprX o).length ≤ 5 := by unfold oprX; repeat (first | split | decide | simp)
theorem litX_len {x : LtI} (hok : x.ok) : (litX x).length ≤ 70000 := by
  have ha := termX_len hok.2.2.1; have hb := termX_len hok.2.2.2.1; have hc := termX_len hok.2.2.2.2.1
  have hv := varX_len x.a
  have hm : (atomX x.m).length ≤ 600 := headX_len hok.1.2
  have hp := pathX_len (x.p.map stN)
  have hco := cmpX_len x.o; have hop := oprX_len x.o
  unfold litX
  split
  · unfold litT
    split
    · omega
    split
    · have := wholeX_len [[110, 111, 116, 32], atomX x.m]; simp at this; omega
    split
    · have := wholeX_len [termX x.a, [32], cmpX x.o, [32], termX x.b]; simp at this; omega
    split
    · have := wholeX_len [varX x.a, [32, 105, 115, 32], termX x.b, [32], oprX x.o, [32], termX x.c]; simp at this; omega
    split
    · have := wholeX_len [[119, 97, 108, 107, 40], termX x.a, [44, 32], pathX deepT (x.p.map stN), [44, 32], termX x.b, [41]]; simp at this; omega
    · simp
  · simp
theorem lit_h {x : RlI} {W : World} (hx : x.rd W) (hok : x.ok) : LitH x litX W := fun y hy V hV => literal9_any y V ((hx.2.2 y hy).on hV) (hok.2.2 y hy)
theorem lit_p {x : PgI} {W : World} (hx : x.rd W) (hok : x.ok) : LitP x litX W := fun y hy => lit_h (hx.2.1 y hy) (hok.1 y hy)
/-- The whole printer. -/
theorem showText_any (x : PgI) (W : World) (hx : x.rd W) (hok : x.ok) : Calls Tryz.prog 9 #[.agg #[.slice x.A x.r.length x.c, .string (bs x.q.p), .slice x.q.A x.q.a.length x.q.c]] W fun e w' => e = .returned (.string (bs (textX litX x))) ∧ Below W.heap.size W w' :=
  text9_any x W hx hok litX (lit_p hx hok) (fun y hy z hz => litX_len ((hok.1 y hy).2.2 z hz))
end Go.Proofs.YtahljmddnfldlaaGreatDoor

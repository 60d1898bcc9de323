/-
  What layer 4 wants of layers 1 and 2: values by their fields, value.Compare and antecedentref02.Compare, small facts. (Cut out of the texts ValName, ValBase, ValText, ValVal, ValNum of layer 2, for seats whose program has no Name, Text, Read.)
-/
import Derived.Test.YtpmkhpbhimmeiaaGreatChecked
import Derived.Test.YtpmkhpbhimmeiaaGreatValMath
import Derived.WalkKit
import Derived.WalkLawsBesides
import Derived.Laws.Externs
import Derived.Lib.Hide
import Derived.Lib.Bytealg
import Derived.RowKit3
import Derived.BigQuiet
import Derived.LoopTactic
import Derived.Deep.LoopGhost
namespace FloM
end FloM
namespace Go.Proofs.YtpmkhpbhimmeiaaGreat
open Go.RowKit FloM ValM
theorem ret_int {k : IntKind} {a b : Int} (h : a = b) : Ending.returned (.int k a) = .returned (.int k b) := by rw [h]
theorem ret_bool {a b : Bool} (h : a = b) : Ending.returned (.bool a) = .returned (.bool b) := by rw [h]
theorem toList_ls (s : ByteArray) : s.toList = ls s := ByteArray.toList_eq s
theorem str_eq (s t : ByteArray) : (s.toList == t.toList) = decide (s = t) := by
  rw [toList_ls, toList_ls, Bool.eq_iff_iff]; simp only [beq_iff_eq, decide_eq_true_eq]
  exact ⟨ls_inj, fun h => by rw [h]⟩

theorem size_pos {s : ByteArray} (h : ¬ s = ByteArray.empty) : 0 < s.size := by
  rcases Nat.eq_zero_or_pos s.size with h0 | h0
  · exact absurd (ls_inj (t := ByteArray.empty) (List.eq_nil_of_length_eq_zero h0)) h
  · exact h0

/-! ### Comparisons -/
def cmpI (a b : Int) : Int := if a < b then -1 else if b < a then 1 else 0
set_option maxHeartbeats 400000 in
theorem nan_int (a : Int) (w : World) : Calls Tryz.prog 117 #[.int .i64 a] w fun e w' => e = .returned (.bool false) ∧ w = w' := by
  have h : (a == a) = true := by simp
  go_enter Tryz.func117, Tryz.ntmps117
  go_wp2
  go_ret
  exact ⟨rfl, rfl⟩
set_option maxHeartbeats 400000 in
theorem nan_i64 (a : Int) (w : World) : Calls Tryz.prog 118 #[.int .i64 a] w fun e w' => e = .returned (.bool false) ∧ w = w' := by
  have h : (a == a) = true := by simp
  go_enter Tryz.func118, Tryz.ntmps118
  go_wp2
  go_ret
  exact ⟨rfl, rfl⟩
set_option maxHeartbeats 400000 in
theorem cmp_int (a b : Int) (w : World) : Calls Tryz.prog 101 #[.int .i64 a, .int .i64 b] w fun e w' => e = .returned (.int .i64 (cmpI a b)) ∧ w = w' := by
  go_enter Tryz.func101, Tryz.ntmps101
  go_wp2_with (go_at_call 117; refine (nan_int _ _).mono ?_; rintro e w' ⟨rfl, rfl⟩)
  all_goals
    go_ret
    exact ⟨ret_int (by unfold cmpI; split <;> (try split) <;> omega), rfl⟩
set_option maxHeartbeats 400000 in
theorem cmp_i64 (a b : Int) (w : World) : Calls Tryz.prog 102 #[.int .i64 a, .int .i64 b] w fun e w' => e = .returned (.int .i64 (cmpI a b)) ∧ w = w' := by
  go_enter Tryz.func102, Tryz.ntmps102
  go_wp2_with (go_at_call 118; refine (nan_i64 _ _).mono ?_; rintro e w' ⟨rfl, rfl⟩)
  all_goals
    go_ret
    exact ⟨ret_int (by unfold cmpI; split <;> (try split) <;> omega), rfl⟩

@[go_sem] theorem cmpstring_run (a b : ByteArray) (w : World) : (callFunc 122 #[.string a, .string b]).run Tryz.prog w = .ok (.value (.int .i64 (Lib.compareBytes a.data.toList b.data.toList))) w := by
  rw [run_callFunc_extern Tryz.func122 (by kernel_rfl) (by kernel_rfl) (by kernel_rfl) (e := Extern.BytealgCompare.compare) (by kernel_rfl)]
  simp [Lib.run_compareString]
set_option maxHeartbeats 400000 in
theorem cmpstr_any (a b : ByteArray) (w : World) : Calls Tryz.prog 119 #[.string a, .string b] w fun e w' => e = .returned (.int .i64 (Lib.compareBytes (ls a) (ls b))) ∧ w = w' := by
  go_enter Tryz.func119, Tryz.ntmps119
  go_wp2
  go_ret
  exact ⟨rfl, rfl⟩
set_option maxHeartbeats 400000 in
theorem strcmp_any (a b : ByteArray) (w : World) : Calls Tryz.prog 103 #[.string a, .string b] w fun e w' => e = .returned (.int .i64 (Lib.compareBytes (ls a) (ls b))) ∧ w = w' := by
  go_enter Tryz.func103, Tryz.ntmps103
  go_wp2_with (go_at_call 119; refine (cmpstr_any _ _ _).mono ?_; rintro e w' ⟨rfl, rfl⟩)
  go_ret
  exact ⟨rfl, rfl⟩


theorem ne_list {u : ByteArray} (h : 0 < u.size) : ¬ u.toList = [] := by
  rw [toList_ls]; intro e; have := ls_len u; rw [e] at this; simp at this; omega
theorem ne_list' {u : ByteArray} (h : 0 < u.size) : u.toList.isEmpty = false := by
  have := ne_list h; cases e : u.toList with
  | nil => exact absurd e this
  | cons _ _ => rfl
theorem on {W w w' : World} (h : Below W.heap.size W w) (k : Below w.heap.size w w') : Below W.heap.size W w' := h.trans (k.mono h.size)
def Fits (n : Int) : Prop := -9223372036854775808 ≤ n ∧ n < 9223372036854775808

theorem short {n : Nat} (h : n ≤ 40) : n ≤ maxLen := by unfold maxLen; omega
theorem fits_of {n : Int} (h : (Lit.int .i64 n).wf = true) : Fits n := by
  unfold Fits; simp [Lit.wf, IntKind.min, IntKind.max, IntKind.bits, IntKind.signed] at h; omega
theorem nxt {w u u1 w' : World} (hB : Below w.heap.size w u) (g : Below u.heap.size u u1) (h' : Below u1.heap.size u1 w') : Below w.heap.size w w' := on (on hB g) h'


theorem ret_str {a b : ByteArray} (h : a = b) : Ending.returned (.string a) = .returned (.string b) := by rw [h]

/-! ### A block of bytes of the call's own -/
def bval (c : UInt8) : Value := .int .u8 c.toNat
def Row (t : TypeId) (w : World) (g : Nat) (cs : List Value) : Prop := w.heap[g]? = some (.cells cs.toArray t (0, 0))
theorem Row.cell {t : TypeId} {w : World} {g : Nat} {cs : List Value} (h : Row t w g cs) (i : Nat) : w.cell? ⟨g, i, none⟩ = cs[i]? := by
  unfold Row at h; simp [World.cell?, h]
theorem Row.frozen {t : TypeId} {w : World} {g : Nat} {cs : List Value} (h : Row t w g cs) (i : Nat) : w.frozen? ⟨g, i, none⟩ = false := by
  unfold Row at h; simp [World.frozen?, h]
theorem Row.set {t : TypeId} {w : World} {g : Nat} {pre post : List Value} {x : Value} (h : Row t w g (pre ++ x :: post)) (v : Value) : Row t (w.setCell ⟨g, pre.length, none⟩ v) g (pre ++ v :: post) := by
  unfold Row at h ⊢
  simp [World.setCell, Array.getElem?_modify, h]
/-- A value, by its fields. -/
structure V where
  k : Int
  n : Int
  s : ByteArray
def V.val (v : V) : Value := .agg #[.int .i64 v.k, .int .i64 v.n, .string v.s]
theorem emp_list (s : ByteArray) : s.toList = [] ↔ s = ByteArray.empty := by
  rw [toList_ls]; exact ⟨fun h => ls_inj h, fun h => by rw [h]; rfl⟩
theorem emp_isEmpty (s : ByteArray) : s.toList.isEmpty = decide (s = ByteArray.empty) := by
  rw [Bool.eq_iff_iff, List.isEmpty_iff, decide_eq_true_eq]; exact emp_list s
/-! ### Compare -/
def cmpV (a b : V) : Int := if a.k ≠ b.k then cmpI a.k b.k else if a.n ≠ b.n then cmpI a.n b.n else Lib.compareBytes (ls a.s) (ls b.s)
def CmpV (a b : V) (w : World) (e : Ending) (w' : World) : Prop := e = .returned (.int .i64 (cmpV a b)) ∧ Below w.heap.size w w'
set_option maxHeartbeats 1000000 in
theorem compare_go (k n l m : Int) (s t : ByteArray) (w : World) : Calls Tryz.prog 76 #[.agg #[.int .i64 k, .int .i64 n, .string s], .agg #[.int .i64 l, .int .i64 m, .string t]] w (CmpV ⟨k, n, s⟩ ⟨l, m, t⟩ w) := by
  go_enter Tryz.func76, Tryz.ntmps76
  go_wp2_with (first | (go_at_call 101; refine (cmp_int _ _ _).mono ?_; rintro e w' ⟨rfl, rfl⟩) | (go_at_call 102; refine (cmp_i64 _ _ _).mono ?_; rintro e w' ⟨rfl, rfl⟩) | (go_at_call 103; refine (strcmp_any _ _ _).mono ?_; rintro e w' ⟨rfl, rfl⟩))
  all_goals
    go_ret
    refine ⟨ret_int ?_, ((Below.refl _ _).alloc (Nat.le_refl _) _).alloc (by simp) _⟩
    simp only [bne_iff_ne, bne_eq_false_iff_eq] at *
    simp [cmpV, *]

theorem keep {W w1 : World} (hb : Below W.heap.size W w1) : ∀ b o, b < W.heap.size → w1.cell? ⟨b, o, none⟩ = W.cell? ⟨b, o, none⟩ := fun b o h => hb.cell (p := ⟨b, o, none⟩) h
def SaysB (b : Bool) (w : World) (e : Ending) (w' : World) : Prop := e = .returned (.bool b) ∧ Below w.heap.size w w'
theorem less_cmp : ∀ a b : List UInt8, (Op.bytesLess a b = true ↔ Lib.compareBytes a b = -1) ∧ (Op.bytesLess b a = true ↔ Lib.compareBytes a b = 1)
  | [], [] => by decide
  | [], _ :: _ => by simp [Op.bytesLess, Lib.compareBytes]
  | _ :: _, [] => by simp [Op.bytesLess, Lib.compareBytes]
  | x :: a, y :: b => by
    have ih := less_cmp a b
    unfold Op.bytesLess Lib.compareBytes
    by_cases h1 : x < y
    · have h2 : ¬ y < x := UInt8.not_lt.2 (UInt8.le_of_lt h1)
      have h3 : ¬ y = x := fun e => by rw [e] at h1; exact UInt8.lt_irrefl _ h1
      simp [h1, h2, h3]
    · by_cases h2 : y < x
      · have h3 : ¬ x = y := fun e => by rw [e] at h2; exact UInt8.lt_irrefl _ h2
        simp [h1, h2, h3]
      · have e : x = y := UInt8.le_antisymm (UInt8.not_lt.1 h2) (UInt8.not_lt.1 h1)
        subst e
        simp [h1, ih.1, ih.2]
theorem cmp_range : ∀ a b : List UInt8, Lib.compareBytes a b = -1 ∨ Lib.compareBytes a b = 0 ∨ Lib.compareBytes a b = 1
  | [], [] => by simp [Lib.compareBytes]
  | [], _ :: _ => by simp [Lib.compareBytes]
  | _ :: _, [] => by simp [Lib.compareBytes]
  | x :: a, y :: b => by
    have := cmp_range a b
    unfold Lib.compareBytes; split
    · exact .inl rfl
    · split
      · exact .inr (.inr rfl)
      · exact this
theorem cmp_zero : ∀ a b : List UInt8, Lib.compareBytes a b = 0 ↔ a = b
  | [], [] => by simp [Lib.compareBytes]
  | [], _ :: _ => by simp [Lib.compareBytes]
  | _ :: _, [] => by simp [Lib.compareBytes]
  | x :: a, y :: b => by
    have ih := cmp_zero a b
    unfold Lib.compareBytes
    by_cases h1 : x < y
    · have h3 : ¬ x = y := fun e => by rw [e] at h1; exact UInt8.lt_irrefl _ h1
      simp [h1, h3]
    · by_cases h2 : y < x
      · have h3 : ¬ x = y := fun e => by rw [e] at h2; exact UInt8.lt_irrefl _ h2
        simp [h1, h2, h3]
      · have e : x = y := UInt8.le_antisymm (UInt8.not_lt.1 h2) (UInt8.not_lt.1 h1)
        subst e
        simp [h1, ih]
theorem cmpV_k {k n l m r : Int} {s t : ByteArray} (h : (k != l) = true) (hr : (k < l ∧ r = -1) ∨ (l ≤ k ∧ r = 1)) : cmpV ⟨k, n, s⟩ ⟨l, m, t⟩ = r := by
  have h : k ≠ l := by simpa using h
  unfold cmpV cmpI; simp only; rw [if_pos h]
  rcases hr with ⟨h1, rfl⟩ | ⟨h1, rfl⟩
  · rw [if_pos h1]
  · rw [if_neg (by omega), if_pos (by omega)]
theorem cmpV_n {k n l m r : Int} {s t : ByteArray} (h : (k != l) = false) (h' : (n != m) = true) (hr : (n < m ∧ r = -1) ∨ (m ≤ n ∧ r = 1)) : cmpV ⟨k, n, s⟩ ⟨l, m, t⟩ = r := by
  have h : k = l := by simpa using h
  have h' : n ≠ m := by simpa using h'
  unfold cmpV cmpI; simp only; rw [if_neg (by simpa using h), if_pos h']
  rcases hr with ⟨h1, rfl⟩ | ⟨h1, rfl⟩
  · rw [if_pos h1]
  · rw [if_neg (by omega), if_pos (by omega)]
theorem cmpV_s {k n l m r : Int} {s t : ByteArray} (h : (k != l) = false) (h' : (n != m) = false) (hr : (Op.bytesLess s.toList t.toList = true ∧ r = -1) ∨ (Op.bytesLess s.toList t.toList = false ∧ (!s.toList == t.toList) = true ∧ r = 1) ∨ ((!s.toList == t.toList) = false ∧ r = 0)) : cmpV ⟨k, n, s⟩ ⟨l, m, t⟩ = r := by
  have h : k = l := by simpa using h
  have h' : n = m := by simpa using h'
  unfold cmpV; simp only; rw [if_neg (by simpa using h), if_neg (by simpa using h')]
  rw [toList_ls, toList_ls] at hr
  have hl := less_cmp (ls s) (ls t)
  have hz := cmp_zero (ls s) (ls t)
  rcases hr with ⟨h1, rfl⟩ | ⟨h1, h2, rfl⟩ | ⟨h1, rfl⟩
  · exact hl.1.1 h1
  · rcases cmp_range (ls s) (ls t) with c | c | c
    · rw [hl.1.2 c] at h1; cases h1
    · rw [hz.1 c] at h2; simp at h2
    · exact c
  · exact hz.2 (by simpa using h1)
set_option maxHeartbeats 1000000 in
theorem refCompare_go (k n l m : Int) (s t : ByteArray) (w : World) : Calls Tryz.prog 66 #[.agg #[.int .i64 k, .int .i64 n, .string s], .agg #[.int .i64 l, .int .i64 m, .string t]] w (CmpV ⟨k, n, s⟩ ⟨l, m, t⟩ w) := by
  go_enter Tryz.func66, Tryz.ntmps66
  go_wp2
  all_goals
    go_ret
    refine ⟨ret_int ?_, ((Below.refl _ _).alloc (Nat.le_refl _) _).alloc (by simp) _⟩
    first
    | exact (cmpV_k ‹(k != l) = true› (.inl ⟨by assumption, rfl⟩)).symm
    | exact (cmpV_k ‹(k != l) = true› (.inr ⟨by assumption, rfl⟩)).symm
    | exact (cmpV_n ‹(k != l) = false› ‹(n != m) = true› (.inl ⟨by assumption, rfl⟩)).symm
    | exact (cmpV_n ‹(k != l) = false› ‹(n != m) = true› (.inr ⟨by assumption, rfl⟩)).symm
    | exact (cmpV_s ‹(k != l) = false› ‹(n != m) = false› (.inl ⟨by assumption, rfl⟩)).symm
    | exact (cmpV_s ‹(k != l) = false› ‹(n != m) = false› (.inr (.inl ⟨by assumption, by assumption, rfl⟩))).symm
    | exact (cmpV_s ‹(k != l) = false› ‹(n != m) = false› (.inr (.inr ⟨by assumption, rfl⟩))).symm
end Go.Proofs.YtpmkhpbhimmeiaaGreat

/-
  Contracts of slices.Clone, Grow and Concat for rows of tuples and of nodes; of Clone for values and numbers.
-/
import Derived.Test.YtpmkhpbhimmeiaaGreatBtMem
import Derived.Test.YtpmkhpbhimmeiaaGreatTupApp
import Derived.LoopTactic
import Derived.Laws.Cover3
namespace Go.Proofs.YtpmkhpbhimmeiaaGreat
open Go.RowKit FloM ValM
set_option linter.unusedVariables false
@[go_sem] theorem run_eql_tups (w : World) (a : Option Addr) (l c : Nat) : (binOp .eql 23 (.slice a l c) (.slice none 0 0)).run Tryz.prog w = .ok (.bool a.isNone) w := by
  simp only [binOp]
  simp [run_equal_slice_nil w _ _ a l c Tryz.underlying23]
@[go_sem] theorem run_eql_ptrs (w : World) (a : Option Addr) (l c : Nat) : (binOp .eql 123 (.slice a l c) (.slice none 0 0)).run Tryz.prog w = .ok (.bool a.isNone) w := by
  simp only [binOp]
  simp [run_equal_slice_nil w _ _ a l c Tryz.underlying123]
@[go_sem] theorem run_eql_vals (w : World) (a : Option Addr) (l c : Nat) : (binOp .eql 25 (.slice a l c) (.slice none 0 0)).run Tryz.prog w = .ok (.bool a.isNone) w := by
  simp only [binOp]
  simp [run_equal_slice_nil w _ _ a l c Tryz.underlying25]
@[go_sem] theorem run_eql_ints (w : World) (a : Option Addr) (l c : Nat) : (binOp .eql 24 (.slice a l c) (.slice none 0 0)).run Tryz.prog w = .ok (.bool a.isNone) w := by
  simp only [binOp]
  simp [run_equal_slice_nil w _ _ a l c Tryz.underlying24]
structure Pt where
  A : Option Addr
  c : Nat
  l : List Value
def Pt.val (x : Pt) : Value := .slice x.A x.l.length x.c
structure PtOk (w : World) (x : Pt) : Prop where
  rd : RdC w x.A x.l
  one : ∀ u ∈ x.l, u.oneCell' = true
theorem PtOk.on {w w' : World} {x : Pt} (h : PtOk w x) (hb : Below w.heap.size w w') : PtOk w' x := ⟨h.rd.on hb, h.one⟩
def catL (xs : List Pt) : List Value := xs.flatMap Pt.l
theorem catL_snoc {xs : List Pt} {k : Nat} {x : Pt} (h : xs[k]? = some x) : catL (xs.take (k + 1)) = catL (xs.take k) ++ x.l := by rw [take_snoc' h]; simp [catL]
theorem catL_le (xs : List Pt) (k : Nat) : (catL (xs.take k)).length ≤ (catL xs).length := by
  have e : catL xs = catL (xs.take k) ++ catL (xs.drop k) := by unfold catL; rw [← List.flatMap_append, List.take_append_drop]
  rw [e, List.length_append]; omega
def CatRel (xs : List Pt) (s i : Value) : Prop := ∃ k : Nat, i = .int .i64 (k : Nat) ∧ k ≤ xs.length ∧ s = .int .i64 ((catL (xs.take k)).length : Nat)
def CatRel2 (E : TypeId) (w : World) (B : Nat) (xs : List Pt) (s i : Value) (wr : World) : Prop := ∃ k : Nat, i = .int .i64 (k : Nat) ∧ k ≤ xs.length ∧ Below w.heap.size w wr ∧ ∃ A c, s = .slice A (catL (xs.take k)).length c ∧ wr.ownsRow B E 1 (.slice A (catL (xs.take k)).length c) (catL (xs.take k)).length (catL (xs.take k))

set_option maxHeartbeats 1000000 in
theorem growT_any (n : Nat) (w : World) (hn : n ≤ 1000000) :
    Calls Tryz.prog 105 #[.slice none 0 0, .int .i64 (n : Int)] w fun e w' => ∃ A c, e = .returned (.slice A 0 c) ∧ w'.ownsRow w.heap.size 25 1 (.slice A 0 c) 0 [] ∧ Below w.heap.size w w' := by
  obtain ⟨i0, hi0, hz0, hz1, hz2⟩ := info_parts info_tup
  by_cases h0 : n = 0
  · subst h0
    go_enter Tryz.func105, Tryz.ntmps105
    go_wp2
    go_ret
    exact ⟨none, 0, rfl, own_nil _ _ _ _, Below.refl _ _⟩
  · have hr : ∀ ty, (Builtin.append_ #[23, 3] ty #[.slice none 0 0, .int .i64 (n : Int)]).run Tryz.prog w = .ok (.slice (some ⟨w.heap.size, 0, none⟩) n (grownCap w n 0 25)) (w.drew.alloc (.cells (Builtin.zeroCells (Value.cells (.slice none 0 0)) n ++ Builtin.zeroCells (Value.cells (.slice none 0 0)) (grownCap w n 0 25 - n)) 25)) := fun ty =>
      Lib.run_append_nil_zeros w 23 3 ty 25 i0 _ .i64 .i64 Tryz.underlying23 Tryz.underlying3 hi0 hz0 n (by omega) (by omega) (by omega) (by rw [hz2]; omega)
    have hge := grownCap_ge w n 0 25
    have hcm : grownCap w n 0 25 ≤ maxLen := grownCap_le_maxLen w n 0 25 (by unfold maxLen; omega)
    generalize grownCap w n 0 25 = cap at hr hge hcm
    have HCM := Lib.hid hcm; clear hcm
    have HR := Lib.hid hr; clear hr hi0 hz0 hz1 hz2
    go_enter Tryz.func105, Tryz.ntmps105
    go_wp2_with (at_builtin; refine Lib.wpList_append_run _ rfl _ _ _ _ rfl _ _ rfl rfl _ _ (HR.out _) ?_)
    go_ret
    refine ⟨some ⟨w.heap.size, 0, none⟩, cap, rfl, ⟨rfl, .inr ⟨w.heap.size, cap, _, rfl, Nat.le_refl _, heap_alloc_new w.drew _, Nat.zero_le _, HCM.out, ?_, by simp⟩⟩, ((Below.refl _ _).drew).alloc (Nat.le_refl _) _⟩
    simp [size_zeroCells]
    omega

set_option maxHeartbeats 4000000 in
theorem catT_any (b o : Nat) (cp : Nat) (xs : List Pt) (w : World) (h : RdC w (some ⟨b, o, none⟩) (xs.map Pt.val)) (hx : ∀ x ∈ xs, PtOk w x) (hs : (catL xs).length ≤ 1000000) (hl : xs.length ≤ 1000) :
    Calls Tryz.prog 80 #[.slice (some ⟨b, o, none⟩) xs.length cp] w (SaysC (catL xs) w) := by
  have HX := Lib.hid hx; have HH := Lib.hid h; clear hx h
  obtain ⟨i0, hi0, hz0, hz1, hz2⟩ := info_parts info_tup
  have HI := Lib.hid (And.intro hi0 (And.intro hz0 (And.intro hz1 hz2))); clear hi0 hz0 hz1 hz2
  go_enter Tryz.func80, Tryz.ntmps80
  go_wp2
  go_loop [3, 11] (fun s i => CatRel xs s i) (fun _ i => xs.length - (intOf i).toNat)
  case atStart => exact ⟨0, rfl, Nat.zero_le _, rfl⟩
  case round =>
    obtain ⟨k, rfl, hk, rfl⟩ := hrel
    have hle := catL_le xs k
    by_cases hlt : k < xs.length
    · have hx := List.getElem?_eq_getElem hlt
      generalize xs[k] = x at hx
      obtain ⟨b', o', e, hb', hc⟩ := HH.out k x.val (by simp [hx])
      injection e with e; injection e with e1 e2 _; subst e1 e2
      have hsn := catL_snoc hx
      have hle2 := catL_le xs (k + 1)
      rw [hsn, List.length_append] at hle2
      have HS := Lib.hid hsn; clear hsn hx
      unfold Pt.val at hc
      go_wp2
      go_round
      case rel => exact ⟨k + 1, by go_num, by omega, by rw [HS.out, List.length_append]; go_num⟩
      case measure => simp [intOf]; omega
    · obtain rfl : k = xs.length := by omega
      rw [List.take_length] at hle ⊢
      go_wp2_with (go_at_call 105; refine (growT_any _ _ hs).mono ?_; rintro e w1 ⟨A1, c1, rfl, ho1, hb1⟩)
      have HO1 := Lib.hid ho1; clear ho1
      go_loopw [6, 27] (fun s i wr => CatRel2 25 w w.heap.size xs s i wr) (fun _ i _ => xs.length - (intOf i).toNat)
      case atStart => exact ⟨0, rfl, Nat.zero_le _, hb1, A1, c1, rfl, HO1.out⟩
      case round =>
        obtain ⟨k, rfl, hk, hB, A2, c2, rfl, ho2⟩ := hrel
        have HO2 := Lib.hid ho2; clear ho2 HO1
        have hle := catL_le xs k
        by_cases hlt : k < xs.length
        · have hx := List.getElem?_eq_getElem hlt
          generalize xs[k] = x at hx
          obtain ⟨b', o', e, hb', hc⟩ := (HH.out.on hB) k x.val (by simp [hx])
          injection e with e; injection e with e1 e2 _; subst e1 e2
          have hok := (HX.out x (List.mem_of_getElem? hx)).on hB
          have hsn := catL_snoc hx
          have hle2 := catL_le xs (k + 1)
          rw [hsn, List.length_append] at hle2
          have HS := Lib.hid hsn; have HK := Lib.hid hok; clear hsn hx hok
          unfold Pt.val at hc
          obtain ⟨hi0, hz0, hz1, hz2⟩ := HI.out
          have HI0 := Lib.hid hi0; have HZ0 := Lib.hid hz0; have HZ1 := Lib.hid hz1; have HZ2 := Lib.hid hz2
          clear hi0 hz0 hz1 hz2
          go_wp2_with (at_builtin; refine wpList_appC rfl (.tmp 31) (.tmp 32) 23 rfl w.heap.size 25 i0 _ 24 Tryz.underlying23 HI0.out HZ0.out HZ1.out HZ2.out rfl (by omega) A2 _ c2 _ rfl HO2.out x.A x.c _ x.l rfl rfl HK.out.rd HK.out.one (by omega) hB.size ?_; intro A3 c3 w3 ho3 hg3)
          go_roundw
          case rel => exact ⟨k + 1, by go_num, by omega, hB.grown hg3 hB.size (own_base HO2.out), A3, c3, by rw [HS.out, List.length_append], by rw [HS.out, List.length_append]; exact ho3⟩
          case measure => simp [intOf]; omega
        · obtain rfl : k = xs.length := by omega
          have HO3 := HO2.out
          rw [List.take_length] at HO3 ⊢
          have HO4 := Lib.hid HO3; clear HO3 HO2
          go_wp2
          go_ret
          exact ⟨A2, c2, rfl, own_rdC HO4.out, fun a ha => by subst ha; exact own_base HO4.out a.block rfl, (own_cap HO4.out).1, (own_cap HO4.out).2, own_froz HO4.out, hB⟩

set_option maxHeartbeats 1000000 in
theorem cloneT_any (A : Option Addr) (c : Nat) (l : List Value) (w : World) (h : RdC w A l) (h1 : ∀ u ∈ l, u.oneCell' = true) (hl : l.length ≤ 1000000) :
    Calls Tryz.prog 109 #[.slice A l.length c] w (SaysC l w) := by
  cases A with
  | none =>
    have hl0 : l = [] := by
      cases l with
      | nil => rfl
      | cons x r => obtain ⟨b, o, e, _⟩ := h 0 x rfl; cases e
    subst hl0
    go_enter Tryz.func109, Tryz.ntmps109
    go_wp2
    go_ret
    exact ⟨none, 0, rfl, RdC.nil, (fun a ha => by cases ha), Nat.le_refl _, (by unfold maxLen; omega), (fun a ha => by cases ha), Below.refl _ _⟩
  | some a =>
    have HH := Lib.hid h; have H1 := Lib.hid h1; clear h h1
    obtain ⟨i0, hi0, hz0, hz1, hz2⟩ := info_parts info_tup
    have HI0 := Lib.hid hi0; have HZ0 := Lib.hid hz0; have HZ1 := Lib.hid hz1; have HZ2 := Lib.hid hz2
    clear hi0 hz0 hz1 hz2
    have hB : Below w.heap.size w (w.alloc (.cells #[] 25)) := (Below.refl _ _).alloc (Nat.le_refl _) _
    go_enter Tryz.func109, Tryz.ntmps109
    go_wp2_with (at_builtin; refine wpList_appC rfl (.tmp 5) (.tmp 6) 23 rfl w.heap.size 25 i0 _ 24 Tryz.underlying23 HI0.out HZ0.out HZ1.out HZ2.out rfl (by omega) _ 0 0 [] rfl (own_made1 w _) (some a) c _ l rfl rfl (HH.out.on hB) H1.out (by omega) hB.size ?_; intro A3 c3 w3 ho3 hg3)
    go_ret
    simp only [List.nil_append, Nat.zero_add] at ho3 ⊢
    exact ⟨A3, c3, rfl, own_rdC ho3, fun a ha => by subst ha; exact own_base ho3 a.block rfl, (own_cap ho3).1, (own_cap ho3).2, own_froz ho3, hB.grown hg3 hB.size (own_base (own_made1 w 25))⟩

set_option maxHeartbeats 1000000 in
theorem growP_any (n : Nat) (w : World) (hn : n ≤ 1000000) :
    Calls Tryz.prog 120 #[.slice none 0 0, .int .i64 (n : Int)] w fun e w' => ∃ A c, e = .returned (.slice A 0 c) ∧ w'.ownsRow w.heap.size 105 1 (.slice A 0 c) 0 [] ∧ Below w.heap.size w w' := by
  obtain ⟨i0, hi0, hz0, hz1, hz2⟩ := info_parts info_ptr
  by_cases h0 : n = 0
  · subst h0
    go_enter Tryz.func120, Tryz.ntmps120
    go_wp2
    go_ret
    exact ⟨none, 0, rfl, own_nil _ _ _ _, Below.refl _ _⟩
  · have hr : ∀ ty, (Builtin.append_ #[123, 3] ty #[.slice none 0 0, .int .i64 (n : Int)]).run Tryz.prog w = .ok (.slice (some ⟨w.heap.size, 0, none⟩) n (grownCap w n 0 105)) (w.drew.alloc (.cells (Builtin.zeroCells (Value.cells (.pointer none)) n ++ Builtin.zeroCells (Value.cells (.pointer none)) (grownCap w n 0 105 - n)) 105)) := fun ty =>
      Lib.run_append_nil_zeros w 123 3 ty 105 i0 _ .i64 .i64 Tryz.underlying123 Tryz.underlying3 hi0 hz0 n (by omega) (by omega) (by omega) (by rw [hz2]; omega)
    have hge := grownCap_ge w n 0 105
    have hcm : grownCap w n 0 105 ≤ maxLen := grownCap_le_maxLen w n 0 105 (by unfold maxLen; omega)
    generalize grownCap w n 0 105 = cap at hr hge hcm
    have HCM := Lib.hid hcm; clear hcm
    have HR := Lib.hid hr; clear hr hi0 hz0 hz1 hz2
    go_enter Tryz.func120, Tryz.ntmps120
    go_wp2_with (at_builtin; refine Lib.wpList_append_run _ rfl _ _ _ _ rfl _ _ rfl rfl _ _ (HR.out _) ?_)
    go_ret
    refine ⟨some ⟨w.heap.size, 0, none⟩, cap, rfl, ⟨rfl, .inr ⟨w.heap.size, cap, _, rfl, Nat.le_refl _, heap_alloc_new w.drew _, Nat.zero_le _, HCM.out, ?_, by simp⟩⟩, ((Below.refl _ _).drew).alloc (Nat.le_refl _) _⟩
    simp [size_zeroCells]
    omega

set_option maxHeartbeats 4000000 in
theorem catP_any (b o : Nat) (cp : Nat) (xs : List Pt) (w : World) (h : RdC w (some ⟨b, o, none⟩) (xs.map Pt.val)) (hx : ∀ x ∈ xs, PtOk w x) (hs : (catL xs).length ≤ 1000000) (hl : xs.length ≤ 1000) :
    Calls Tryz.prog 108 #[.slice (some ⟨b, o, none⟩) xs.length cp] w (SaysC (catL xs) w) := by
  have HX := Lib.hid hx; have HH := Lib.hid h; clear hx h
  obtain ⟨i0, hi0, hz0, hz1, hz2⟩ := info_parts info_ptr
  have HI := Lib.hid (And.intro hi0 (And.intro hz0 (And.intro hz1 hz2))); clear hi0 hz0 hz1 hz2
  go_enter Tryz.func108, Tryz.ntmps108
  go_wp2
  go_loop [3, 11] (fun s i => CatRel xs s i) (fun _ i => xs.length - (intOf i).toNat)
  case atStart => exact ⟨0, rfl, Nat.zero_le _, rfl⟩
  case round =>
    obtain ⟨k, rfl, hk, rfl⟩ := hrel
    have hle := catL_le xs k
    by_cases hlt : k < xs.length
    · have hx := List.getElem?_eq_getElem hlt
      generalize xs[k] = x at hx
      obtain ⟨b', o', e, hb', hc⟩ := HH.out k x.val (by simp [hx])
      injection e with e; injection e with e1 e2 _; subst e1 e2
      have hsn := catL_snoc hx
      have hle2 := catL_le xs (k + 1)
      rw [hsn, List.length_append] at hle2
      have HS := Lib.hid hsn; clear hsn hx
      unfold Pt.val at hc
      go_wp2
      go_round
      case rel => exact ⟨k + 1, by go_num, by omega, by rw [HS.out, List.length_append]; go_num⟩
      case measure => simp [intOf]; omega
    · obtain rfl : k = xs.length := by omega
      rw [List.take_length] at hle ⊢
      go_wp2_with (go_at_call 120; refine (growP_any _ _ hs).mono ?_; rintro e w1 ⟨A1, c1, rfl, ho1, hb1⟩)
      have HO1 := Lib.hid ho1; clear ho1
      go_loopw [6, 27] (fun s i wr => CatRel2 105 w w.heap.size xs s i wr) (fun _ i _ => xs.length - (intOf i).toNat)
      case atStart => exact ⟨0, rfl, Nat.zero_le _, hb1, A1, c1, rfl, HO1.out⟩
      case round =>
        obtain ⟨k, rfl, hk, hB, A2, c2, rfl, ho2⟩ := hrel
        have HO2 := Lib.hid ho2; clear ho2 HO1
        have hle := catL_le xs k
        by_cases hlt : k < xs.length
        · have hx := List.getElem?_eq_getElem hlt
          generalize xs[k] = x at hx
          obtain ⟨b', o', e, hb', hc⟩ := (HH.out.on hB) k x.val (by simp [hx])
          injection e with e; injection e with e1 e2 _; subst e1 e2
          have hok := (HX.out x (List.mem_of_getElem? hx)).on hB
          have hsn := catL_snoc hx
          have hle2 := catL_le xs (k + 1)
          rw [hsn, List.length_append] at hle2
          have HS := Lib.hid hsn; have HK := Lib.hid hok; clear hsn hx hok
          unfold Pt.val at hc
          obtain ⟨hi0, hz0, hz1, hz2⟩ := HI.out
          have HI0 := Lib.hid hi0; have HZ0 := Lib.hid hz0; have HZ1 := Lib.hid hz1; have HZ2 := Lib.hid hz2
          clear hi0 hz0 hz1 hz2
          go_wp2_with (at_builtin; refine wpList_appC rfl (.tmp 31) (.tmp 32) 123 rfl w.heap.size 105 i0 _ 8 Tryz.underlying123 HI0.out HZ0.out HZ1.out HZ2.out rfl (by omega) A2 _ c2 _ rfl HO2.out x.A x.c _ x.l rfl rfl HK.out.rd HK.out.one (by omega) hB.size ?_; intro A3 c3 w3 ho3 hg3)
          go_roundw
          case rel => exact ⟨k + 1, by go_num, by omega, hB.grown hg3 hB.size (own_base HO2.out), A3, c3, by rw [HS.out, List.length_append], by rw [HS.out, List.length_append]; exact ho3⟩
          case measure => simp [intOf]; omega
        · obtain rfl : k = xs.length := by omega
          have HO3 := HO2.out
          rw [List.take_length] at HO3 ⊢
          have HO4 := Lib.hid HO3; clear HO3 HO2
          go_wp2
          go_ret
          exact ⟨A2, c2, rfl, own_rdC HO4.out, fun a ha => by subst ha; exact own_base HO4.out a.block rfl, (own_cap HO4.out).1, (own_cap HO4.out).2, own_froz HO4.out, hB⟩

set_option maxHeartbeats 1000000 in
theorem cloneP_any (A : Option Addr) (c : Nat) (l : List Value) (w : World) (h : RdC w A l) (h1 : ∀ u ∈ l, u.oneCell' = true) (hl : l.length ≤ 1000000) :
    Calls Tryz.prog 106 #[.slice A l.length c] w (SaysC l w) := by
  cases A with
  | none =>
    have hl0 : l = [] := by
      cases l with
      | nil => rfl
      | cons x r => obtain ⟨b, o, e, _⟩ := h 0 x rfl; cases e
    subst hl0
    go_enter Tryz.func106, Tryz.ntmps106
    go_wp2
    go_ret
    exact ⟨none, 0, rfl, RdC.nil, (fun a ha => by cases ha), Nat.le_refl _, (by unfold maxLen; omega), (fun a ha => by cases ha), Below.refl _ _⟩
  | some a =>
    have HH := Lib.hid h; have H1 := Lib.hid h1; clear h h1
    obtain ⟨i0, hi0, hz0, hz1, hz2⟩ := info_parts info_ptr
    have HI0 := Lib.hid hi0; have HZ0 := Lib.hid hz0; have HZ1 := Lib.hid hz1; have HZ2 := Lib.hid hz2
    clear hi0 hz0 hz1 hz2
    have hB : Below w.heap.size w (w.alloc (.cells #[] 105)) := (Below.refl _ _).alloc (Nat.le_refl _) _
    go_enter Tryz.func106, Tryz.ntmps106
    go_wp2_with (at_builtin; refine wpList_appC rfl (.tmp 5) (.tmp 6) 123 rfl w.heap.size 105 i0 _ 8 Tryz.underlying123 HI0.out HZ0.out HZ1.out HZ2.out rfl (by omega) _ 0 0 [] rfl (own_made1 w _) (some a) c _ l rfl rfl (HH.out.on hB) H1.out (by omega) hB.size ?_; intro A3 c3 w3 ho3 hg3)
    go_ret
    simp only [List.nil_append, Nat.zero_add] at ho3 ⊢
    exact ⟨A3, c3, rfl, own_rdC ho3, fun a ha => by subst ha; exact own_base ho3 a.block rfl, (own_cap ho3).1, (own_cap ho3).2, own_froz ho3, hB.grown hg3 hB.size (own_base (own_made1 w 105))⟩

/-! ### Clone of values and of numbers -/
structure SaysW (l : List V) (w : World) (e : Ending) (w' : World) (A : Option Addr) (c : Nat) : Prop where
  val : e = .returned (.slice A l.length c)
  rd : RdV w' A l
  own : ∀ a, A = some a → w.heap.size ≤ a.block
  cap : l.length ≤ c
  ty : ∀ a, A = some a → ∃ c z, w'.heap[a.block]? = some (.cells c 69 z)
  b : Below w.heap.size w w'
theorem own_ty {w : World} {base size : Nat} {e : TypeId} {A : Option Addr} {c n : Nat} {xs : List Value} (h : w.ownsRow base e size (.slice A n c) n xs) : ∀ a, A = some a → ∃ c z, w.heap[a.block]? = some (.cells c e z) := fun a ha => by
  rcases h.2 with ⟨e, _⟩ | ⟨g, cap, cur, e, _, hg, _⟩
  · injection e with e _ _; rw [e] at ha; cases ha
  · injection e with e _ _; rw [e] at ha; cases ha
    exact ⟨_, _, hg⟩
theorem SaysW.ok {l : List V} {w w' : World} {e : Ending} {A : Option Addr} {c : Nat} (h : SaysW l w e w' A c) {X : Nat → Prop} (hX : ∀ k, X k → k < w.heap.size) : SlOk X w' ⟨A, c, l⟩ := ⟨h.rd, fun a ha hx => by have := h.own a ha; have := hX _ hx; omega, h.cap, h.ty⟩
theorem rdV_cells {w : World} {A : Option Addr} {l : List V} (h : RdV w A l) : ∀ v l', l = v :: l' → ∃ a, A = some a := fun v l' e => by subst e; obtain ⟨b, o, e, _⟩ := h 0 v rfl; exact ⟨_, e⟩
set_option maxHeartbeats 1000000 in
theorem cloneV_any (A : Option Addr) (c : Nat) (l : List V) (w : World) (h : RdV w A l) (hl : l.length ≤ 1000) :
    Calls Tryz.prog 79 #[.slice A l.length c] w fun e w' => ∃ A' c', SaysW l w e w' A' c' := by
  cases A with
  | none =>
    have hl0 : l = [] := by
      cases l with
      | nil => rfl
      | cons x r => obtain ⟨b, o, e, _⟩ := h 0 x rfl; cases e
    subst hl0
    go_enter Tryz.func79, Tryz.ntmps79
    go_wp2
    go_ret
    exact ⟨none, 0, rfl, RdV.nil, (fun a ha => by cases ha), Nat.le_refl _, (fun a ha => by cases ha), Below.refl _ _⟩
  | some a =>
    have HH := Lib.hid h; clear h
    have hB : Below w.heap.size w (w.alloc (.cells #[] 69)) := (Below.refl _ _).alloc (Nat.le_refl _) _
    go_enter Tryz.func79, Tryz.ntmps79
    go_wp2_with (at_builtin; refine wpList_appV rfl (.tmp 5) (.tmp 6) rfl w.heap.size _ 0 [] l l rfl rfl (own_made0 w) (some a) c rfl (HH.out.on hB) (by simp; omega) hB.size ?_; intro A3 c3 w3 ho3 hg3)
    go_ret
    exact ⟨A3, c3, rfl, own_rdV ho3, (fun a ha => by subst ha; exact own_base ho3 a.block rfl), (own_cap ho3).1, own_ty ho3, hB.grown hg3 hB.size (own_base (own_made0 w))⟩
theorem rdI_rdC {w : World} {A : Option Addr} {l : List Int} (h : RdI w A l) : RdC w A (icells l) := fun j u hu => by
  unfold icells at hu
  rw [List.getElem?_map] at hu
  cases hx : l[j]? with
  | none => rw [hx] at hu; cases hu
  | some x => rw [hx] at hu; cases hu; exact h j x hx
theorem rdC_rdI {w : World} {A : Option Addr} {l : List Int} (h : RdC w A (icells l)) : RdI w A l := fun j u hu => h j _ (by simp [icells, hu])
set_option maxHeartbeats 1000000 in
theorem cloneI_any (A : Option Addr) (c : Nat) (l : List Int) (w : World) (h : RdI w A l) (hl : l.length ≤ 1000) :
    Calls Tryz.prog 62 #[.slice A l.length c] w fun e w' => ∃ A' c', e = .returned (.slice A' l.length c') ∧ RdI w' A' l ∧ (∀ a, A' = some a → w.heap.size ≤ a.block) ∧ l.length ≤ c' ∧ c' ≤ maxLen ∧ Below w.heap.size w w' := by
  cases A with
  | none =>
    have hl0 : l = [] := by
      cases l with
      | nil => rfl
      | cons x r => obtain ⟨b, o, e, _⟩ := h 0 x rfl; cases e
    subst hl0
    go_enter Tryz.func62, Tryz.ntmps62
    go_wp2
    go_ret
    exact ⟨none, 0, rfl, RdI.nil, (fun a ha => by cases ha), Nat.le_refl _, (by unfold maxLen; omega), Below.refl _ _⟩
  | some a =>
    have HH := Lib.hid (rdI_rdC h); clear h
    have HL := Lib.hid (show (icells l).length = l.length by simp [icells])
    obtain ⟨i0, hi0, hz0, hz1, hz2⟩ := info_parts info_int
    have HI0 := Lib.hid hi0; have HZ0 := Lib.hid hz0; have HZ1 := Lib.hid hz1; have HZ2 := Lib.hid hz2
    clear hi0 hz0 hz1 hz2
    have hB : Below w.heap.size w (w.alloc (.cells #[] 3)) := (Below.refl _ _).alloc (Nat.le_refl _) _
    go_enter Tryz.func62, Tryz.ntmps62
    go_wp2_with (at_builtin; refine wpList_appC rfl (.tmp 5) (.tmp 6) 24 rfl w.heap.size 3 i0 _ 8 Tryz.underlying24 HI0.out HZ0.out HZ1.out HZ2.out rfl (by omega) _ 0 0 [] rfl (own_made1 w _) (some a) c _ (icells l) HL.out rfl (HH.out.on hB) (fun u hu => by simp only [icells, List.mem_map] at hu; obtain ⟨_, _, rfl⟩ := hu; rfl) (by omega) hB.size ?_; intro A3 c3 w3 ho3 hg3)
    go_ret
    simp only [List.nil_append, Nat.zero_add] at ho3 ⊢
    exact ⟨A3, c3, rfl, rdC_rdI (own_rdC ho3), (fun a ha => by subst ha; exact own_base ho3 a.block rfl), (own_cap ho3).1, (own_cap ho3).2, hB.grown hg3 hB.size (own_base (own_made1 w 3))⟩
end Go.Proofs.YtpmkhpbhimmeiaaGreat

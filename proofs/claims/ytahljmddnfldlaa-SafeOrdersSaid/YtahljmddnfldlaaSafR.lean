/-
  Package safe: whether a literal is ready.
-/
import Derived.Test.YtahljmddnfldlaaSafE
namespace Go.Proofs.Ytahljmddnfldlaa
open Go.RowKit FloM ValM Go.Shelf Go.Maps
set_option linter.unusedVariables false
set_option linter.unusedSimpArgs false
def readyL (x : LtI) (S : List Nm) : Bool := if x.k = 2 then allS (tmL x) S else if x.k = 3 then (inS x.a S && inS x.b S) || (decide (x.o = [61]) && (inS x.a S || inS x.b S)) else if x.k = 4 then inS x.b S && inS x.c S else true
theorem have_two (b n : Nat) (S : List Nm) (t u : Tm) (V : World) (h : SetAt V b n S) (h1 : TmOk t) (h2 : TmOk u) :
    Calls Try.prog 35 #[.map (some b), .slice (some ⟨V.heap.size, 0, none⟩) 2 2] (V.alloc (.cells #[.string (bs t.v), .int .i64 t.x.k, .int .i64 t.x.n, .string t.x.s, .string (bs u.v), .int .i64 u.x.k, .int .i64 u.x.n, .string u.x.s] 40)) fun e w' => e = .returned (.bool (inS t S && inS u S)) ∧ Below V.heap.size V w' := by
  have b1 : Below V.heap.size V (V.alloc (.cells #[.string (bs t.v), .int .i64 t.x.k, .int .i64 t.x.n, .string t.x.s, .string (bs u.v), .int .i64 u.x.k, .int .i64 u.x.n, .string u.x.s] 40)) := (Below.refl _ _).alloc (Nat.le_refl _) _
  have r1 : Row 40 (V.alloc (.cells #[.string (bs t.v), .int .i64 t.x.k, .int .i64 t.x.n, .string t.x.s, .string (bs u.v), .int .i64 u.x.k, .int .i64 u.x.n, .string u.x.s] 40)) V.heap.size (cellsOf tmC [t, u]) := row_new V _
  have hh := have_any b n S (some ⟨V.heap.size, 0, none⟩) 2 [t, u] _ (h.on b1) (rdX_row (cl := tmC) (fun _ => rfl) (few_max (by show 2 ≤ 1000; decide)) r1) (fun y hy => by
    simp only [List.mem_cons, List.not_mem_nil, or_false] at hy
    rcases hy with rfl | rfl
    · exact h1
    · exact h2)
  refine hh.mono ?_
  rintro e w' ⟨rfl, hb⟩
  exact ⟨by unfold allS; simp, on b1 hb⟩
theorem have_one (b n : Nat) (S : List Nm) (t : Tm) (V : World) (h : SetAt V b n S) (h1 : TmOk t) :
    Calls Try.prog 35 #[.map (some b), .slice (some ⟨V.heap.size, 0, none⟩) 1 1] (V.alloc (.cells #[.string (bs t.v), .int .i64 t.x.k, .int .i64 t.x.n, .string t.x.s] 40)) fun e w' => e = .returned (.bool (inS t S)) ∧ Below V.heap.size V w' := by
  have b1 : Below V.heap.size V (V.alloc (.cells #[.string (bs t.v), .int .i64 t.x.k, .int .i64 t.x.n, .string t.x.s] 40)) := (Below.refl _ _).alloc (Nat.le_refl _) _
  have r1 : Row 40 (V.alloc (.cells #[.string (bs t.v), .int .i64 t.x.k, .int .i64 t.x.n, .string t.x.s] 40)) V.heap.size (cellsOf tmC [t]) := row_new V _
  have hh := have_any b n S (some ⟨V.heap.size, 0, none⟩) 1 [t] _ (h.on b1) (rdX_row (cl := tmC) (fun _ => rfl) (few_max (by show 1 ≤ 1000; decide)) r1) (fun y hy => by
    simp only [List.mem_cons, List.not_mem_nil, or_false] at hy
    exact hy ▸ h1)
  refine hh.mono ?_
  rintro e w' ⟨rfl, hb⟩
  exact ⟨by unfold allS; simp, on b1 hb⟩
set_option maxRecDepth 20000 in
set_option maxHeartbeats 8000000 in
theorem ready_2 (b n : Nat) (S : List Nm) (x : LtI) (W : World) (h : SetAt W b n S) (hx : x.rd W) (hok : x.ok) (hl : x.m.a.length ≤ 1000) (hk : x.k = 2) : Calls Try.prog 28 #[.map (some b), .agg (ltIC x).toArray] W fun e w' => e = .returned (.bool (allS (tmL x) S)) ∧ Below W.heap.size W w' := by
  have hr0 := lit_row x W
  have hB0 : Below W.heap.size W (W.alloc (.cells (ltIC x).toArray 43)) := (Below.refl _ _).alloc (Nat.le_refl _) _
  have HB0 := Lib.hid hB0; have HX := Lib.hid hx
  have HRG := Lib.hid (lit_at x W)
  have HT := Lib.hid (terms_any x _ (hx.on hB0) hl)
  have HSS := Lib.hid (h.on hB0)
  have HH : Hid (∀ A c V, SetAt V b n S → RdX 4 tmC V A (tmL x) → Calls Try.prog 35 #[.map (some b), .slice A (tmL x).length c] V fun e w' => e = .returned (.bool (allS (tmL x) S)) ∧ Below V.heap.size V w') := Lib.hid fun A c V h1 h2 => have_any b n S A c (tmL x) V h1 h2 (tmL_ok hok)
  clear hx hok h
  generalize allS (tmL x) S = R at *
  generalize tmL x = ts at *
  go_enter Try.func28, Try.ntmps28
  go_upto_region 1 with fail
  generalize W.alloc (.cells (ltIC x).toArray 43) = W1 at *
  have c0 : W1.cell? ⟨W.heap.size, 0, none⟩ = some (.int .i64 2) := by rw [← hk]; exact hr0.cell 0
  clear hr0 hB0 hk
  go_wp2_with (first
    | (refine wpList_load_mid rfl 43 (.tmp 3) rfl W.heap.size 0 rfl (ltIC x) _ HRG.out Try.underlying43 rfl (by kernel_rfl) ?_)
    | (go_at_call 39; refine HT.out.mono ?_; rintro e w1 ⟨A, c, rfl, hO, hB1⟩; have HRD : Hid (RdX 4 tmC w1 A ts) := Lib.hid (RdX.of_own (fun _ => rfl) hO); have HB1 := Lib.hid hB1; clear hO hB1)
    | (go_at_call 35; refine (HH.out A c _ (HSS.out.on HB1.out) HRD.out).mono ?_; rintro e w2 ⟨rfl, h'⟩; have HB2 := Lib.hid h'; clear h'))
  go_ret
  exact ⟨rfl, on (on HB0.out HB1.out) HB2.out⟩
set_option maxRecDepth 20000 in
set_option maxHeartbeats 8000000 in
theorem ready_3 (b n : Nat) (S : List Nm) (x : LtI) (W : World) (h : SetAt W b n S) (hx : x.rd W) (hok : x.ok) (hl : x.m.a.length ≤ 1000) (hk : x.k = 3) : Calls Try.prog 28 #[.map (some b), .agg (ltIC x).toArray] W fun e w' => e = .returned (.bool ((inS x.a S && inS x.b S) || (decide (x.o = [61]) && (inS x.a S || inS x.b S)))) ∧ Below W.heap.size W w' := by
  have hr0 := lit_row x W
  have hB0 : Below W.heap.size W (W.alloc (.cells (ltIC x).toArray 43)) := (Below.refl _ _).alloc (Nat.le_refl _) _
  have HB0 := Lib.hid hB0
  have HSS := Lib.hid (h.on hB0)
  have HOK := Lib.hid hok
  clear hx hok h hl
  have HAB : Hid (∀ V, Below (W.alloc (.cells (ltIC x).toArray 43)).heap.size (W.alloc (.cells (ltIC x).toArray 43)) V → Calls Try.prog 35 #[.map (some b), .slice (some ⟨V.heap.size, 0, none⟩) 2 2] (V.alloc (.cells #[.string (bs x.a.v), .int .i64 x.a.x.k, .int .i64 x.a.x.n, .string x.a.x.s, .string (bs x.b.v), .int .i64 x.b.x.k, .int .i64 x.b.x.n, .string x.b.x.s] 40)) fun e w' => e = .returned (.bool (inS x.a S && inS x.b S)) ∧ Below V.heap.size V w') := Lib.hid fun V hV => have_two b n S x.a x.b V (HSS.out.on hV) HOK.out.2.2.1 HOK.out.2.2.2.1
  have HA : Hid (∀ V, Below (W.alloc (.cells (ltIC x).toArray 43)).heap.size (W.alloc (.cells (ltIC x).toArray 43)) V → Calls Try.prog 35 #[.map (some b), .slice (some ⟨V.heap.size, 0, none⟩) 1 1] (V.alloc (.cells #[.string (bs x.a.v), .int .i64 x.a.x.k, .int .i64 x.a.x.n, .string x.a.x.s] 40)) fun e w' => e = .returned (.bool (inS x.a S)) ∧ Below V.heap.size V w') := Lib.hid fun V hV => have_one b n S x.a V (HSS.out.on hV) HOK.out.2.2.1
  have HB : Hid (∀ V, Below (W.alloc (.cells (ltIC x).toArray 43)).heap.size (W.alloc (.cells (ltIC x).toArray 43)) V → Calls Try.prog 35 #[.map (some b), .slice (some ⟨V.heap.size, 0, none⟩) 1 1] (V.alloc (.cells #[.string (bs x.b.v), .int .i64 x.b.x.k, .int .i64 x.b.x.n, .string x.b.x.s] 40)) fun e w' => e = .returned (.bool (inS x.b S)) ∧ Below V.heap.size V w') := Lib.hid fun V hV => have_one b n S x.b V (HSS.out.on hV) HOK.out.2.2.2.1
  have fo : ((bs x.o).toList == [61]) = decide (x.o = [61]) := by rw [bsl]; by_cases h : x.o = [61] <;> simp [h]
  generalize decide (x.o = [61]) = E at *
  generalize inS x.a S = P at *
  generalize inS x.b S = Q at *
  clear HOK HSS
  cases P <;> cases Q <;> cases E
  all_goals
    simp only [Bool.and_self, Bool.and_true, Bool.and_false, Bool.true_and, Bool.false_and, Bool.or_false, Bool.or_true, Bool.false_or, Bool.true_or, Bool.or_self] at HAB ⊢
    go_enter Try.func28, Try.ntmps28
    go_upto_region 1 with fail
    generalize W.alloc (.cells (ltIC x).toArray 43) = W1 at *
    have HR0 := Lib.hid hr0
    have c0 : W1.cell? ⟨W.heap.size, 0, none⟩ = some (.int .i64 3) := by rw [← hk]; exact hr0.cell 0
    have h4 : Below W1.heap.size W1 W1 := Below.refl _ _
    have c3 : W1.cell? ⟨W.heap.size, 3, none⟩ = some (.string (bs x.o)) := HR0.out.cell 3
    have c4 : W1.cell? ⟨W.heap.size, 4, none⟩ = some (.string (bs x.a.v)) := HR0.out.cell 4
    have c5 : W1.cell? ⟨W.heap.size, 5, none⟩ = some (.int .i64 x.a.x.k) := HR0.out.cell 5
    have c6 : W1.cell? ⟨W.heap.size, 6, none⟩ = some (.int .i64 x.a.x.n) := HR0.out.cell 6
    have c7 : W1.cell? ⟨W.heap.size, 7, none⟩ = some (.string x.a.x.s) := HR0.out.cell 7
    have c8 : W1.cell? ⟨W.heap.size, 8, none⟩ = some (.string (bs x.b.v)) := HR0.out.cell 8
    have c9 : W1.cell? ⟨W.heap.size, 9, none⟩ = some (.int .i64 x.b.x.k) := HR0.out.cell 9
    have c10 : W1.cell? ⟨W.heap.size, 10, none⟩ = some (.int .i64 x.b.x.n) := HR0.out.cell 10
    have c11 : W1.cell? ⟨W.heap.size, 11, none⟩ = some (.string x.b.x.s) := HR0.out.cell 11
    have c12 : W1.cell? ⟨W.heap.size, 12, none⟩ = some (.string (bs x.c.v)) := HR0.out.cell 12
    have c13 : W1.cell? ⟨W.heap.size, 13, none⟩ = some (.int .i64 x.c.x.k) := HR0.out.cell 13
    have c14 : W1.cell? ⟨W.heap.size, 14, none⟩ = some (.int .i64 x.c.x.n) := HR0.out.cell 14
    have c15 : W1.cell? ⟨W.heap.size, 15, none⟩ = some (.string x.c.x.s) := HR0.out.cell 15
    clear hr0 hB0 hk
    go_wp2_with (first
      | (go_at_call 35; with_reducible refine (HAB.out _ h4).mono ?_; rintro e w3 ⟨rfl, h'⟩; replace h4 := on h4 h'; replace c3 := (rowOn HR0.out h4).cell 3; replace c4 := (rowOn HR0.out h4).cell 4; replace c5 := (rowOn HR0.out h4).cell 5; replace c6 := (rowOn HR0.out h4).cell 6; replace c7 := (rowOn HR0.out h4).cell 7; replace c8 := (rowOn HR0.out h4).cell 8; replace c9 := (rowOn HR0.out h4).cell 9; replace c10 := (rowOn HR0.out h4).cell 10; replace c11 := (rowOn HR0.out h4).cell 11; simp only [ltIC, List.getElem?_cons_zero, List.getElem?_cons_succ] at c3 c4 c5 c6 c7 c8 c9 c10 c11; clear h' HAB)
      | (go_at_call 35; with_reducible refine (HA.out _ h4).mono ?_; rintro e w3 ⟨rfl, h'⟩; replace h4 := on h4 h'; replace c3 := (rowOn HR0.out h4).cell 3; replace c4 := (rowOn HR0.out h4).cell 4; replace c5 := (rowOn HR0.out h4).cell 5; replace c6 := (rowOn HR0.out h4).cell 6; replace c7 := (rowOn HR0.out h4).cell 7; replace c8 := (rowOn HR0.out h4).cell 8; replace c9 := (rowOn HR0.out h4).cell 9; replace c10 := (rowOn HR0.out h4).cell 10; replace c11 := (rowOn HR0.out h4).cell 11; simp only [ltIC, List.getElem?_cons_zero, List.getElem?_cons_succ] at c3 c4 c5 c6 c7 c8 c9 c10 c11; clear h' HA)
      | (go_at_call 35; with_reducible refine (HB.out _ h4).mono ?_; rintro e w3 ⟨rfl, h'⟩; replace h4 := on h4 h'; replace c3 := (rowOn HR0.out h4).cell 3; replace c4 := (rowOn HR0.out h4).cell 4; replace c5 := (rowOn HR0.out h4).cell 5; replace c6 := (rowOn HR0.out h4).cell 6; replace c7 := (rowOn HR0.out h4).cell 7; replace c8 := (rowOn HR0.out h4).cell 8; replace c9 := (rowOn HR0.out h4).cell 9; replace c10 := (rowOn HR0.out h4).cell 10; replace c11 := (rowOn HR0.out h4).cell 11; simp only [ltIC, List.getElem?_cons_zero, List.getElem?_cons_succ] at c3 c4 c5 c6 c7 c8 c9 c10 c11; clear h' HB))
    go_ret
    exact ⟨rfl, on HB0.out h4⟩
set_option maxRecDepth 20000 in
set_option maxHeartbeats 8000000 in
theorem ready_4 (b n : Nat) (S : List Nm) (x : LtI) (W : World) (h : SetAt W b n S) (hx : x.rd W) (hok : x.ok) (hl : x.m.a.length ≤ 1000) (hk : x.k = 4) : Calls Try.prog 28 #[.map (some b), .agg (ltIC x).toArray] W fun e w' => e = .returned (.bool (inS x.b S && inS x.c S)) ∧ Below W.heap.size W w' := by
  have hr0 := lit_row x W
  have hB0 : Below W.heap.size W (W.alloc (.cells (ltIC x).toArray 43)) := (Below.refl _ _).alloc (Nat.le_refl _) _
  have HB0 := Lib.hid hB0
  have HSS := Lib.hid (h.on hB0)
  have HOK := Lib.hid hok
  clear hx hok h hl
  have HBC : Hid (∀ V, Below (W.alloc (.cells (ltIC x).toArray 43)).heap.size (W.alloc (.cells (ltIC x).toArray 43)) V → Calls Try.prog 35 #[.map (some b), .slice (some ⟨V.heap.size, 0, none⟩) 2 2] (V.alloc (.cells #[.string (bs x.b.v), .int .i64 x.b.x.k, .int .i64 x.b.x.n, .string x.b.x.s, .string (bs x.c.v), .int .i64 x.c.x.k, .int .i64 x.c.x.n, .string x.c.x.s] 40)) fun e w' => e = .returned (.bool (inS x.b S && inS x.c S)) ∧ Below V.heap.size V w') := Lib.hid fun V hV => have_two b n S x.b x.c V (HSS.out.on hV) HOK.out.2.2.2.1 HOK.out.2.2.2.2.1
  generalize (inS x.b S && inS x.c S) = R at *
  clear HOK HSS
  go_enter Try.func28, Try.ntmps28
  go_upto_region 1 with fail
  generalize W.alloc (.cells (ltIC x).toArray 43) = W1 at *
  have HR0 := Lib.hid hr0
  have c0 : W1.cell? ⟨W.heap.size, 0, none⟩ = some (.int .i64 4) := by rw [← hk]; exact hr0.cell 0
  have h4 : Below W1.heap.size W1 W1 := Below.refl _ _
  have c3 : W1.cell? ⟨W.heap.size, 3, none⟩ = some (.string (bs x.o)) := HR0.out.cell 3
  have c4 : W1.cell? ⟨W.heap.size, 4, none⟩ = some (.string (bs x.a.v)) := HR0.out.cell 4
  have c5 : W1.cell? ⟨W.heap.size, 5, none⟩ = some (.int .i64 x.a.x.k) := HR0.out.cell 5
  have c6 : W1.cell? ⟨W.heap.size, 6, none⟩ = some (.int .i64 x.a.x.n) := HR0.out.cell 6
  have c7 : W1.cell? ⟨W.heap.size, 7, none⟩ = some (.string x.a.x.s) := HR0.out.cell 7
  have c8 : W1.cell? ⟨W.heap.size, 8, none⟩ = some (.string (bs x.b.v)) := HR0.out.cell 8
  have c9 : W1.cell? ⟨W.heap.size, 9, none⟩ = some (.int .i64 x.b.x.k) := HR0.out.cell 9
  have c10 : W1.cell? ⟨W.heap.size, 10, none⟩ = some (.int .i64 x.b.x.n) := HR0.out.cell 10
  have c11 : W1.cell? ⟨W.heap.size, 11, none⟩ = some (.string x.b.x.s) := HR0.out.cell 11
  have c12 : W1.cell? ⟨W.heap.size, 12, none⟩ = some (.string (bs x.c.v)) := HR0.out.cell 12
  have c13 : W1.cell? ⟨W.heap.size, 13, none⟩ = some (.int .i64 x.c.x.k) := HR0.out.cell 13
  have c14 : W1.cell? ⟨W.heap.size, 14, none⟩ = some (.int .i64 x.c.x.n) := HR0.out.cell 14
  have c15 : W1.cell? ⟨W.heap.size, 15, none⟩ = some (.string x.c.x.s) := HR0.out.cell 15
  clear hr0 hB0 hk HR0
  go_wp2_with (go_at_call 35; with_reducible refine (HBC.out _ h4).mono ?_; rintro e w3 ⟨rfl, h'⟩; replace h4 := on h4 h'; clear h' HBC)
  go_ret
  exact ⟨rfl, on HB0.out h4⟩
set_option maxRecDepth 20000 in
set_option maxHeartbeats 8000000 in
theorem ready_0 (b n : Nat) (S : List Nm) (x : LtI) (W : World) (h : SetAt W b n S) (hx : x.rd W) (hok : x.ok) (hl : x.m.a.length ≤ 1000) (h2 : x.k ≠ 2) (h3 : x.k ≠ 3) (h4 : x.k ≠ 4) : Calls Try.prog 28 #[.map (some b), .agg (ltIC x).toArray] W fun e w' => e = .returned (.bool true) ∧ Below W.heap.size W w' := by
  have hr0 := lit_row x W
  have hB0 : Below W.heap.size W (W.alloc (.cells (ltIC x).toArray 43)) := (Below.refl _ _).alloc (Nat.le_refl _) _
  have HB0 := Lib.hid hB0
  clear hx hok h hl
  go_enter Try.func28, Try.ntmps28
  go_upto_region 1 with fail
  generalize W.alloc (.cells (ltIC x).toArray 43) = W1 at *
  have c0 : W1.cell? ⟨W.heap.size, 0, none⟩ = some (.int .i64 x.k) := hr0.cell 0
  have g2 : (x.k == 2) = false := by rw [beq_eq_false_iff_ne]; exact h2
  have g3 : (x.k == 3) = false := by rw [beq_eq_false_iff_ne]; exact h3
  have g4 : (x.k == 4) = false := by rw [beq_eq_false_iff_ne]; exact h4
  clear hr0 hB0 h2 h3 h4
  go_wp2
  go_ret
  exact ⟨rfl, HB0.out⟩
theorem ready_any (b n : Nat) (S : List Nm) (x : LtI) (W : World) (h : SetAt W b n S) (hx : x.rd W) (hok : x.ok) (hl : x.m.a.length ≤ 1000) : Calls Try.prog 28 #[.map (some b), .agg (ltIC x).toArray] W fun e w' => e = .returned (.bool (readyL x S)) ∧ Below W.heap.size W w' := by
  unfold readyL
  by_cases h2 : x.k = 2
  · rw [if_pos h2]; exact ready_2 b n S x W h hx hok hl h2
  by_cases h3 : x.k = 3
  · rw [if_neg h2, if_pos h3]; exact ready_3 b n S x W h hx hok hl h3
  by_cases h4 : x.k = 4
  · rw [if_neg h2, if_neg h3, if_pos h4]; exact ready_4 b n S x W h hx hok hl h4
  · rw [if_neg h2, if_neg h3, if_neg h4]; exact ready_0 b n S x W h hx hok hl h2 h3 h4
end Go.Proofs.Ytahljmddnfldlaa

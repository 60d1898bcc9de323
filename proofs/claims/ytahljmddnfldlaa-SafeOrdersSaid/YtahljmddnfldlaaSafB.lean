/-
  Package safe: the terms of a literal; sets that are made, asked, and added to.
-/
import Derived.Test.YtahljmddnfldlaaSafA
import Derived.Test.YtahljmddnfldlaaSafN
import Derived.Deep.MidRow
import Derived.Deep.RegionHeld3
import Derived.Deep.CutRange
import Derived.RegionTactic
import Derived.BigQuiet
namespace Go.Proofs.Ytahljmddnfldlaa
open Go.RowKit FloM ValM Go.Shelf Go.Maps
set_option linter.unusedVariables false
set_option linter.unusedSimpArgs false
/-! ### Terms -/
def tmL (x : LtI) : List Tm := x.m.a ++ [x.a, x.b, x.c]
def vsT (l : List Tm) : List Nm := (l.map Tm.v).filter fun v => !decide (v = [])
def vsL (x : LtI) : List Nm := vsT (tmL x)
theorem vsT_app (a b : List Tm) : vsT (a ++ b) = vsT a ++ vsT b := by simp [vsT]
theorem vsT_mem {l : List Tm} {y : Nm} : y ∈ vsT l ↔ y ≠ [] ∧ ∃ t ∈ l, t.v = y := by
  unfold vsT
  rw [List.mem_filter, List.mem_map]
  constructor
  · rintro ⟨⟨t, h1, h2⟩, h3⟩; exact ⟨by simpa using h3, t, h1, h2⟩
  · rintro ⟨h1, t, h2, h3⟩; exact ⟨⟨t, h2, h3⟩, by simpa using h1⟩
theorem lit_row (x : LtI) (W : World) : Row 43 (W.alloc (.cells (ltIC x).toArray 43)) W.heap.size (ltIC x) := row_new W _
theorem terms_cat (x : LtI) (V : World) (h : RdX 4 tmC V x.m.A x.m.a) (hl : x.m.a.length ≤ 1000) : Calls Try.prog 45 #[.slice (some ⟨V.heap.size + 1, 0, none⟩) 2 2] ((V.alloc (.cells #[.string (bs x.a.v), .int .i64 x.a.x.k, .int .i64 x.a.x.n, .string x.a.x.s, .string (bs x.b.v), .int .i64 x.b.x.k, .int .i64 x.b.x.n, .string x.b.x.s, .string (bs x.c.v), .int .i64 x.c.x.k, .int .i64 x.c.x.n, .string x.c.x.s] 40)).alloc (.cells #[.slice x.m.A x.m.a.length x.m.c, .slice (some ⟨V.heap.size, 0, none⟩) 3 3] 34)) (SaysT (tmL x) V) := by
  have b1 : Below V.heap.size V (V.alloc (.cells #[.string (bs x.a.v), .int .i64 x.a.x.k, .int .i64 x.a.x.n, .string x.a.x.s, .string (bs x.b.v), .int .i64 x.b.x.k, .int .i64 x.b.x.n, .string x.b.x.s, .string (bs x.c.v), .int .i64 x.c.x.k, .int .i64 x.c.x.n, .string x.c.x.s] 40)) := (Below.refl _ _).alloc (Nat.le_refl _) _
  have b2 : Below V.heap.size V ((V.alloc (.cells #[.string (bs x.a.v), .int .i64 x.a.x.k, .int .i64 x.a.x.n, .string x.a.x.s, .string (bs x.b.v), .int .i64 x.b.x.k, .int .i64 x.b.x.n, .string x.b.x.s, .string (bs x.c.v), .int .i64 x.c.x.k, .int .i64 x.c.x.n, .string x.c.x.s] 40)).alloc (.cells #[.slice x.m.A x.m.a.length x.m.c, .slice (some ⟨V.heap.size, 0, none⟩) 3 3] 34)) := b1.alloc b1.size _
  have r1 : Row 40 (V.alloc (.cells #[.string (bs x.a.v), .int .i64 x.a.x.k, .int .i64 x.a.x.n, .string x.a.x.s, .string (bs x.b.v), .int .i64 x.b.x.k, .int .i64 x.b.x.n, .string x.b.x.s, .string (bs x.c.v), .int .i64 x.c.x.k, .int .i64 x.c.x.n, .string x.c.x.s] 40)) V.heap.size (cellsOf tmC [x.a, x.b, x.c]) := row_new V _
  have r2 := row_new (t := 34) (V.alloc (.cells #[.string (bs x.a.v), .int .i64 x.a.x.k, .int .i64 x.a.x.n, .string x.a.x.s, .string (bs x.b.v), .int .i64 x.b.x.k, .int .i64 x.b.x.n, .string x.b.x.s, .string (bs x.c.v), .int .i64 x.c.x.k, .int .i64 x.c.x.n, .string x.c.x.s] 40)) [.slice x.m.A x.m.a.length x.m.c, .slice (some ⟨V.heap.size, 0, none⟩) 3 3]
  rw [World.size_alloc] at r2
  have r1' := r1.alloc (.cells [.slice x.m.A x.m.a.length x.m.c, .slice (some ⟨V.heap.size, 0, none⟩) 3 3].toArray 34)
  have hc := catTm_any (V.heap.size + 1) 2 [⟨x.m.A, x.m.c, x.m.a⟩, ⟨some ⟨V.heap.size, 0, none⟩, 3, [x.a, x.b, x.c]⟩] _ r2.lt (fun j y hj => by
    rw [Nat.zero_add, r2.cell j]
    match j, hj with
    | 0, hj => simp only [List.getElem?_cons_zero, Option.some.injEq] at hj; subst hj; rfl
    | 1, hj => simp only [List.getElem?_cons_succ, List.getElem?_cons_zero, Option.some.injEq] at hj; subst hj; rfl
    | j + 2, hj => simp at hj) (fun y hy => by
    simp only [List.mem_cons, List.not_mem_nil, or_false] at hy
    rcases hy with rfl | rfl
    · exact h.on b2
    · exact rdX_row (cl := tmC) (fun _ => rfl) (few_max (by show 3 ≤ 1000; decide)) r1') (by show (x.m.a ++ ([x.a, x.b, x.c] ++ [])).length ≤ 1000000; simp; omega) (by show 2 ≤ 1000; decide)
  have e : catT [⟨x.m.A, x.m.c, x.m.a⟩, ⟨some ⟨V.heap.size, 0, none⟩, 3, [x.a, x.b, x.c]⟩] = tmL x := rfl
  rw [e] at hc
  refine hc.mono ?_
  rintro e w' ⟨A, c, rfl, ho, hb⟩
  exact ⟨A, c, rfl, own_less ho b2.size, on b2 hb⟩
set_option maxRecDepth 20000 in
set_option maxHeartbeats 8000000 in
theorem terms_any (x : LtI) (W : World) (hx : x.rd W) (hl : x.m.a.length ≤ 1000) : Calls Try.prog 39 #[.agg (ltIC x).toArray] W (SaysT (tmL x) W) := by
  have hr0 := lit_row x W
  have hB0 : Below W.heap.size W (W.alloc (.cells (ltIC x).toArray 43)) := (Below.refl _ _).alloc (Nat.le_refl _) _
  have HB0 := Lib.hid hB0; have HX := Lib.hid hx; clear hx hB0
  go_enter Try.func39, Try.ntmps39
  go_upto_region 1 with fail
  generalize W.alloc (.cells (ltIC x).toArray 43) = W1 at hr0 HB0
  have HR0 := Lib.hid hr0; clear hr0
  have HCT : Hid (∀ V, Below W1.heap.size W1 V → Calls Try.prog 45 #[.slice (some ⟨V.heap.size + 1, 0, none⟩) 2 2] ((V.alloc (.cells #[.string (bs x.a.v), .int .i64 x.a.x.k, .int .i64 x.a.x.n, .string x.a.x.s, .string (bs x.b.v), .int .i64 x.b.x.k, .int .i64 x.b.x.n, .string x.b.x.s, .string (bs x.c.v), .int .i64 x.c.x.k, .int .i64 x.c.x.n, .string x.c.x.s] 40)).alloc (.cells #[.slice x.m.A x.m.a.length x.m.c, .slice (some ⟨V.heap.size, 0, none⟩) 3 3] 34)) (SaysT (tmL x) V)) := Lib.hid fun V hV => terms_cat x V (HX.out.1.on (on HB0.out hV)) hl
  have c2 : W1.cell? ⟨W.heap.size, 2, none⟩ = some (.slice x.m.A x.m.a.length x.m.c) := HR0.out.cell 2
  have c4 : W1.cell? ⟨W.heap.size, 4, none⟩ = some (.string (bs x.a.v)) := HR0.out.cell 4
  have c5 : W1.cell? ⟨W.heap.size, 5, none⟩ = some (.int .i64 x.a.x.k) := HR0.out.cell 5
  have c6 : W1.cell? ⟨W.heap.size, 6, none⟩ = some (.int .i64 x.a.x.n) := HR0.out.cell 6
  have c7 : W1.cell? ⟨W.heap.size, 7, none⟩ = some (.string x.a.x.s) := HR0.out.cell 7
  have c8 : W1.cell? ⟨W.heap.size, 8, none⟩ = some (.string (bs x.b.v)) := HR0.out.cell 8
  have c9 : W1.cell? ⟨W.heap.size, 9, none⟩ = some (.int .i64 x.b.x.k) := HR0.out.cell 9
  have c10 : W1.cell? ⟨W.heap.size, 10, none⟩ = some (.int .i64 x.b.x.n) := HR0.out.cell 10
  have c11 : W1.cell? ⟨W.heap.size, 11, none⟩ = some (.string x.b.x.s) := HR0.out.cell 11
  have c12 : W1.cell? ⟨W.heap.size, 12, none⟩ = some (.string (bs x.c.v)) := HR0.out.cell 12
  have c13 : W1.cell? ⟨W.heap.size, 13, none⟩ = some (.int .i64 x.c.x.k) := HR0.out.cell 13
  have c14 : W1.cell? ⟨W.heap.size, 14, none⟩ = some (.int .i64 x.c.x.n) := HR0.out.cell 14
  have c15 : W1.cell? ⟨W.heap.size, 15, none⟩ = some (.string x.c.x.s) := HR0.out.cell 15
  have h4 : Below W1.heap.size W1 W1 := Below.refl _ _
  clear HX hl HR0
  go_wp2_with (go_at_call 45; refine (HCT.out _ h4).mono ?_; rintro e w3 ⟨A, c, rfl, hO, h'⟩; have HO := Lib.hid hO; replace h4 := on h4 h'; clear h' hO)
  go_ret
  exact ⟨A, c, rfl, own_less HO.out HB0.out.size, on HB0.out h4⟩
/-! ### Sets -/
def SetOf1 (l : List Nm) (w : World) (i : Value) (wr : World) : Prop := ∃ k : Nat, i = .int .i64 (k : Nat) ∧ k ≤ l.length ∧ Below w.heap.size w wr ∧ SetAt wr w.heap.size k (l.take k)
set_option maxRecDepth 20000 in
set_option maxHeartbeats 8000000 in
theorem setOf_any (A : Option Addr) (c : Nat) (l : List Nm) (w : World) (h : RdN w A l) (hok : NmOk l) (hl : l.length ≤ 1000000) : Calls Try.prog 27 #[.slice A l.length c] w fun e w' => e = .returned (.map (some w.heap.size)) ∧ SetAt w' w.heap.size l.length l ∧ Below w.heap.size w w' := by
  have HH := Lib.hid h; have HK := Lib.hid hok; clear h hok
  have hmm := @run_makeMap Try.prog
  go_enter Try.func27, Try.ntmps27
  go_wp2
  go_loopw [9] (fun i wr => SetOf1 l w i wr) (fun i _ => l.length - (intOf i).toNat)
  case atStart => exact ⟨0, rfl, Nat.zero_le _, (Below.refl _ _).alloc (Nat.le_refl _) _, setAt_made w⟩
  case round =>
    obtain ⟨k, rfl, hk, hB, hS⟩ := hrel
    by_cases hlt : k < l.length
    · obtain ⟨s, hs⟩ : ∃ s, l[k]? = some s := ⟨_, List.getElem?_eq_getElem hlt⟩
      obtain ⟨b, o, rfl, hb, hc⟩ := RdN.at_ (RdX.on HH.out hB) hs
      obtain ⟨D, hD, hE⟩ := hS
      have hkey := key_of (HK.out s (List.mem_of_getElem? hs))
      have HE := Lib.hid hE; have HS := Lib.hid hs; have HD := Lib.hid hD; clear hE hs hD
      go_wp2_with (first
        | (at_mapUpdate; refine wpList_mapUpdate_own _ rfl _ _ _ 70 rfl 9 82 keyLaw Try.underlying70 (unitElem (H := Unit)) w.heap.size k _ rfl HD.out (by unfold maxLen; omega) _ _ _ rfl rfl hkey _ [] unitElem_mk ?_; intro w1 hown1 hgrow1; have HO := Lib.hid hown1; have HG := Lib.hid hgrow1; clear hown1 hgrow1))
      go_roundw
      case rel =>
        refine ⟨k + 1, by go_num, by omega, hB.grown HG.out hB.size (fun j hj => by cases hj; exact Nat.le_refl _), ?_⟩
        have e : l.take (k + 1) = l.take k ++ [s] := by rw [List.take_add_one, HS.out]; rfl
        rw [e]
        exact set_put HD.out HE.out HO.out
      case measure => simp [intOf]; omega
    · obtain rfl : k = l.length := by omega
      rw [List.take_length] at hS
      have HS := Lib.hid hS; clear hS
      go_wp2
      go_ret
      exact ⟨rfl, HS.out, hB⟩
end Go.Proofs.Ytahljmddnfldlaa

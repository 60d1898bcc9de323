/-
  Programs that are read: their memory; atoms and paths that are alike.
-/
import Derived.Test.YtncafadjcelloaaDoorPrsTop
import Derived.Test.YtncafadjcelloaaDoorPrsS
import Derived.RegionTactic
import Derived.BigQuiet
import Derived.Lib.QuietBelow
import Derived.Deep.RegionHeld3
import Derived.Deep.MidRow
import Derived.Deep.CutRange
import Derived.Test.YtncafadjcelloaaDoorPrsM
import Derived.Test.YtncafadjcelloaaDoorPrsN
namespace Go.Proofs.YtncafadjcelloaaDoor
open Go.RowKit FloM ValM Go.Shelf
set_option linter.unusedVariables false
set_option linter.unusedSimpArgs false
def RdX {β : Type} (sz : Nat) (cl : β → List Value) (W : World) (A : Option Addr) (l : List β) : Prop := l.length ≤ maxLen ∧ ∀ i x, l[i]? = some x → ∃ b o, A = some ⟨b, o, none⟩ ∧ b < W.heap.size ∧ ∀ j v, (cl x)[j]? = some v → W.cell? ⟨b, o + i * sz + j, none⟩ = some v
theorem RdX.on {β : Type} {sz : Nat} {cl : β → List Value} {W W' : World} {A : Option Addr} {l : List β} (h : RdX sz cl W A l) (hb : Below W.heap.size W W') : RdX sz cl W' A l := ⟨h.1, fun i x hx => by
  obtain ⟨b, o, e, hl, hc⟩ := h.2 i x hx
  exact ⟨b, o, e, Nat.lt_of_lt_of_le hl hb.size, fun j v hj => (keep hb _ _ hl).trans (hc j v hj)⟩⟩
theorem cells_get {β : Type} {cl : β → List Value} {sz : Nat} (hs : ∀ x, (cl x).length = sz) : ∀ (l : List β) (i : Nat) (x : β), l[i]? = some x → ∀ j v, (cl x)[j]? = some v → (cellsOf cl l)[i * sz + j]? = some v
  | [], i, x, h, j, v, hj => by simp at h
  | y :: l, 0, x, h, j, v, hj => by
    have hy : y = x := by simpa using h
    subst hy
    have hj2 := (List.getElem?_eq_some_iff.1 hj).1
    show (cl y ++ cellsOf cl l)[0 * sz + j]? = some v
    rw [List.getElem?_append_left (by omega), Nat.zero_mul, Nat.zero_add]; exact hj
  | y :: l, i + 1, x, h, j, v, hj => by
    have := cells_get hs l i x (by simpa using h) j v hj
    show (cl y ++ cellsOf cl l)[(i + 1) * sz + j]? = some v
    have h1 := hs y
    have e : (i + 1) * sz + j = (cl y).length + (i * sz + j) := by rw [h1, Nat.add_mul, Nat.one_mul]; omega
    rw [e, List.getElem?_append_right (by omega), Nat.add_sub_cancel_left]; exact this
theorem own_max {w : World} {base size n : Nat} {e : TypeId} {v : Value} {xs : List Value} (h : w.ownsRow base e size v n xs) : n ≤ maxLen := by
  rcases h.2 with ⟨_, h0⟩ | ⟨g, cap, cur, hv, hbg, hg, h1, h2, r⟩
  · omega
  · omega
theorem RdX.of_own {β : Type} {sz : Nat} {cl : β → List Value} {W : World} {base c : Nat} {E : TypeId} {A : Option Addr} {l : List β} (hs : ∀ x, (cl x).length = sz) (h : W.ownsRow base E sz (.slice A l.length c) l.length (cellsOf cl l)) : RdX sz cl W A l := ⟨own_max h, fun i x hx => by
  obtain ⟨g, e, _, hg, hc⟩ := own_cells h (by have := (List.getElem?_eq_some_iff.1 hx).1; omega)
  exact ⟨g, 0, e, hg, fun j v hj => by rw [Nat.zero_add]; exact hc _ _ (cells_get hs l i x hx j v hj)⟩⟩
def stC (s : St) : List Value := [.int .i64 (s.k : Int), .string (bs s.l)]
def AmA.rd (W : World) (x : AmA) : Prop := RdX 4 tmC W x.A x.a
def LtA.rd (W : World) (x : LtA) : Prop := x.m.rd W ∧ RdX 2 stC W x.pA x.p
def RlA.rd (W : World) (x : RlA) : Prop := x.h.rd W ∧ RdX 17 litC W x.A x.b ∧ ∀ y ∈ x.b, y.rd W
def PgA.rd (W : World) (x : PgA) : Prop := RdX 4 rlC W x.A x.r ∧ (∀ y ∈ x.r, y.rd W) ∧ x.q.rd W
section
variable {W W' : World} {base : Nat}
theorem AmA.rd.on {x : AmA} (h : x.rd W) (hb : Below W.heap.size W W') : x.rd W' := RdX.on h hb
theorem LtA.rd.on {x : LtA} (h : x.rd W) (hb : Below W.heap.size W W') : x.rd W' := ⟨AmA.rd.on h.1 hb, RdX.on h.2 hb⟩
theorem RlA.rd.on {x : RlA} (h : x.rd W) (hb : Below W.heap.size W W') : x.rd W' := ⟨AmA.rd.on h.1 hb, RdX.on h.2.1 hb, fun y hy => (h.2.2 y hy).on hb⟩
theorem PgA.rd.on {x : PgA} (h : x.rd W) (hb : Below W.heap.size W W') : x.rd W' := ⟨RdX.on h.1 hb, fun y hy => (h.2.1 y hy).on hb, AmA.rd.on h.2.2 hb⟩
theorem AmA.ok.rd {x : AmA} (h : x.ok W base) : x.rd W := RdX.of_own (fun _ => rfl) h
theorem LtA.ok.rd {x : LtA} (h : x.ok W base) : x.rd W := ⟨AmA.ok.rd h.1, RdX.of_own (cl := stC) (fun _ => rfl) h.2⟩
theorem RlA.ok.rd {x : RlA} (h : x.ok W base) : x.rd W := ⟨AmA.ok.rd h.1, RdX.of_own (fun _ => rfl) h.2.1, fun y hy => (h.2.2 y hy).rd⟩
theorem PgA.ok.rd {x : PgA} (h : x.ok W base) : x.rd W := ⟨RdX.of_own (fun _ => rfl) h.1, fun y hy => (h.2.1 y hy).rd, AmA.ok.rd h.2.2⟩
end
set_option maxRecDepth 20000 in
set_option maxHeartbeats 4000000 in
theorem atoms_yes (x y : AmA) (W : World) (hx : x.rd W) (hy : y.rd W) (h : x.am = y.am) :
    Calls Tryd.prog 16 #[.agg #[.string (bs x.p), .slice x.A x.a.length x.c], .agg #[.string (bs y.p), .slice y.A y.a.length y.c]] W fun e w' => e = .returned (.bool true) ∧ Below W.heap.size W w' := by
  obtain ⟨p, A, c, l⟩ := x
  obtain ⟨p2, A2, c2, l2⟩ := y
  unfold AmA.am at h
  injection h with h1 h2
  subst h1 h2
  have HX := Lib.hid hx; have HY := Lib.hid hy
  have hmx : l.length ≤ 9223372036854775807 := Nat.le_trans hx.1 (by decide)
  clear hx hy
  have hb0 : Below W.heap.size W ((W.alloc (.cells #[.string (bs p), .slice A l.length c] 26)).alloc (.cells #[.string (bs p), .slice A2 l.length c2] 26)) := ((Below.refl _ _).alloc (Nat.le_refl _) _).alloc (by simp) _
  have HB0 := Lib.hid hb0
  have R1 := Lib.hid ((row_new (t := 26) W [.string (bs p), .slice A l.length c]).alloc (.cells #[.string (bs p), .slice A2 l.length c2] 26))
  have R2 := Lib.hid (row_new (t := 26) (W.alloc (.cells #[.string (bs p), .slice A l.length c] 26)) [.string (bs p), .slice A2 l.length c2])
  rw [World.size_alloc] at R2
  go_enter Tryd.func16, Tryd.ntmps16
  go_wp2
  go_loopw [23] (fun vi wr => ∃ k : Nat, vi = .int .i64 (k : Nat) ∧ k ≤ l.length ∧ Below ((W.alloc (.cells #[.string (bs p), .slice A l.length c] 26)).alloc (.cells #[.string (bs p), .slice A2 l.length c2] 26)).heap.size ((W.alloc (.cells #[.string (bs p), .slice A l.length c] 26)).alloc (.cells #[.string (bs p), .slice A2 l.length c2] 26)) wr) (fun vi _ => l.length - (intOf vi).toNat)
  case atStart => exact ⟨0, rfl, Nat.zero_le _, Below.refl _ _⟩
  case round =>
    obtain ⟨k, rfl, hk, hb⟩ := hrel
    have hbW : Below W.heap.size W wr := on HB0.out hb
    have HBW := Lib.hid hbW
    have a0 := (rowOn R1.out hb).cell 1
    have a1 := (rowOn R2.out hb).cell 1
    by_cases hlt : k < l.length
    · obtain ⟨t, ht⟩ : ∃ t, l[k]? = some t := ⟨_, List.getElem?_eq_getElem hlt⟩
      obtain ⟨g, o, rfl, hg, hc⟩ := (RdX.on HX.out hbW).2 k t ht
      obtain ⟨g2, o2, rfl, hg2, hc2⟩ := (RdX.on HY.out hbW).2 k t ht
      have x0 := hc 0 _ rfl; have x1 := hc 1 _ rfl; have x2 := hc 2 _ rfl; have x3 := hc 3 _ rfl
      have y0 := hc2 0 _ rfl; have y1 := hc2 1 _ rfl; have y2 := hc2 2 _ rfl; have y3 := hc2 3 _ rfl
      rw [Nat.add_zero] at x0 y0
      have HB := Lib.hid hb
      clear hc hc2 ht hbW hb
      go_wp2
      go_quiet (fail)
      go_wp2
      go_roundw
      case rel => exact ⟨k + 1, by go_num, by omega, ⟨HB.out.os, HB.out.tape, HB.out.output, HB.out.size, HB.out.block⟩⟩
      case measure => simp [intOf]; omega
    · obtain rfl : k = l.length := by omega
      go_wp2
      go_ret
      exact ⟨rfl, HBW.out⟩
set_option maxRecDepth 20000 in
set_option maxHeartbeats 4000000 in
theorem paths_yes (A A2 : Option Addr) (c c2 : Nat) (l : List St) (W : World) (hx : RdX 2 stC W A l) (hy : RdX 2 stC W A2 l) :
    Calls Tryd.prog 26 #[.slice A l.length c, .slice A2 l.length c2] W fun e w' => e = .returned (.bool true) ∧ Below W.heap.size W w' := by
  have HX := Lib.hid hx; have HY := Lib.hid hy
  have hmx : l.length ≤ 9223372036854775807 := Nat.le_trans hx.1 (by decide)
  clear hx hy
  go_enter Tryd.func26, Tryd.ntmps26
  go_wp2
  go_loopw [13] (fun vi wr => ∃ k : Nat, vi = .int .i64 (k : Nat) ∧ k ≤ l.length ∧ Below W.heap.size W wr) (fun vi _ => l.length - (intOf vi).toNat)
  case atStart => exact ⟨0, rfl, Nat.zero_le _, Below.refl _ _⟩
  case round =>
    obtain ⟨k, rfl, hk, hbW⟩ := hrel
    have HBW := Lib.hid hbW
    by_cases hlt : k < l.length
    · obtain ⟨t, ht⟩ : ∃ t, l[k]? = some t := ⟨_, List.getElem?_eq_getElem hlt⟩
      obtain ⟨g, o, rfl, hg, hc⟩ := (RdX.on HX.out hbW).2 k t ht
      obtain ⟨g2, o2, rfl, hg2, hc2⟩ := (RdX.on HY.out hbW).2 k t ht
      have x0 := hc 0 _ rfl; have x1 := hc 1 _ rfl
      have y0 := hc2 0 _ rfl; have y1 := hc2 1 _ rfl
      rw [Nat.add_zero] at x0 y0
      clear hc hc2 ht hbW
      go_wp2
      go_quiet (fail)
      go_wp2
      go_roundw
      case rel => exact ⟨k + 1, by go_num, by omega, ⟨HBW.out.os, HBW.out.tape, HBW.out.output, HBW.out.size, HBW.out.block⟩⟩
      case measure => simp [intOf]; omega
    · obtain rfl : k = l.length := by omega
      go_wp2
      go_ret
      exact ⟨rfl, HBW.out⟩
theorem step_storeR {P : Program} {op : Oper} {a : Act} {w : World} {K : Act → World → Prop} {Q : Exit → Act → World → Prop} (ty : TypeId) (x y : Operand) (ho : op.op = .store ty x y)
    (g : Nat) (hx : a.eval x = .pointer (some ⟨g, 0, none⟩)) (v : Value) (hy : a.eval y = v) (vs : List Value) (hv : v.cells.toList = vs) {T : TypeId} {old : List Value} (hg : Row T w g old) (hl : old.length = vs.length)
    (hi : (P.info? ty).map (·.size) = some vs.length) (h1 : vs.all (·.oneCell') = true)
    (h : ∀ w', Row T w' g vs → (∀ B, Fr (· = g) B w w') → w'.heap.size = w.heap.size → K (a.put op.dst undef) w') : Oper.wp P op a w K Q := by
  have hvs : v.cells.size = vs.length := by rw [← hv]; simp
  have hth : w.there g 0 v.cells.size := fun j hj => by
    rw [hg.cell]
    refine ⟨?_, hg.frozen _⟩
    rw [Nat.zero_add, List.getElem?_eq_getElem (by omega)]
    rfl
  unfold Oper.wp execOp
  simp only [ho, hx, hy, Instr.storeAt, Instr.sureAddr, Sem.run_bind, Sem.run_pure, Result.andThen_ok, run_storeVar_any w g 0 ty v hth (by rw [hvs]; exact hi) (by rw [← hv] at h1; simpa using h1)]
  refine h _ ?_ (fun B => fr_sets g _ _ _ _) (size_sets g _ _ _)
  rw [hv]
  have := row_sets vs old [] [] w hl (by simpa using hg)
  simpa using this
end Go.Proofs.YtncafadjcelloaaDoor
namespace Go.Proofs.YtncafadjcelloaaDoor
open Go.RowKit FloM ValM Go.Shelf
set_option linter.unusedVariables false
set_option linter.unusedSimpArgs false
theorem rl_parts {x y : RlA} (h : x.rl = y.rl) : x.h.am = y.h.am ∧ x.f = y.f ∧ x.b.map LtA.lt = y.b.map LtA.lt := by
  unfold RlA.rl at h; injection h with h1 h2 h3; exact ⟨h1, h2, h3⟩
theorem lt_parts {x y : LtA} (h : x.lt = y.lt) : x.k = y.k ∧ x.m.am = y.m.am ∧ x.o = y.o ∧ x.a = y.a ∧ x.b = y.b ∧ x.c = y.c ∧ x.p = y.p := by
  unfold LtA.lt at h; injection h with h1 h2 h3 h4 h5 h6 h7; exact ⟨h1, h2, h3, h4, h5, h6, h7⟩
theorem at_both {α β : Type} {f : α → β} {l m : List α} (h : l.map f = m.map f) {k : Nat} {x : α} (hx : l[k]? = some x) : ∃ y, m[k]? = some y ∧ f x = f y := by
  have h1 : (l.map f)[k]? = some (f x) := by rw [List.getElem?_map, hx]; rfl
  rw [h, List.getElem?_map] at h1
  cases h2 : m[k]? with
  | none => rw [h2] at h1; cases h1
  | some y => rw [h2] at h1; injection h1 with h1; exact ⟨y, rfl, h1.symm⟩
theorem len_both {α β : Type} {f : α → β} {l m : List α} (h : l.map f = m.map f) : l.length = m.length := by have := congrArg List.length h; simpa using this
theorem row_at {t : TypeId} {w : World} {g : Nat} (h : w.heap.size = g) (cs : List Value) : Row t (w.alloc (.cells cs.toArray t)) g cs := by subst h; exact row_new w cs
abbrev W2 (W : World) (X Y : PgA) : World := (W.alloc (.cells #[.slice X.A X.r.length X.c, .string (bs X.q.p), .slice X.q.A X.q.a.length X.q.c] 28)).alloc (.cells #[.slice Y.A Y.r.length Y.c, .string (bs Y.q.p), .slice Y.q.A Y.q.a.length Y.q.c] 28)
set_option maxRecDepth 20000 in
set_option maxHeartbeats 8000000 in
theorem same_yes (X Y : PgA) (W : World) (hx : X.rd W) (hy : Y.rd W) (h : X.pg = Y.pg) :
    Calls Tryd.prog 12 #[.agg (pgC X).toArray, .agg (pgC Y).toArray] W fun e w' => e = .returned (.bool true) ∧ Below W.heap.size W w' := by
  have hq : X.q.am = Y.q.am := congrArg Pg.q h
  have hr : X.r.map RlA.rl = Y.r.map RlA.rl := congrArg Pg.r h
  have hlen := len_both hr
  have HX := Lib.hid hx; have HY := Lib.hid hy; have HR := Lib.hid hr; have HQ := Lib.hid hq
  have hmx : X.r.length ≤ 9223372036854775807 := hx.1.1
  have hne : ((X.r.length : Int) != (Y.r.length : Int)) = false := by rw [hlen]; simp
  have hle1 := Nat.le_of_eq hlen; have hle2 := Nat.le_of_eq hlen.symm
  clear hlen
  clear hx hy hr hq h
  have hb0 : Below W.heap.size W (W2 W X Y) := ((Below.refl _ _).alloc (Nat.le_refl _) _).alloc (by simp) _
  have HB0 := Lib.hid hb0
  have R1 := Lib.hid ((row_new (t := 28) W [.slice X.A X.r.length X.c, .string (bs X.q.p), .slice X.q.A X.q.a.length X.q.c]).alloc (.cells #[.slice Y.A Y.r.length Y.c, .string (bs Y.q.p), .slice Y.q.A Y.q.a.length Y.q.c] 28))
  have R2 := Lib.hid (row_new (t := 28) (W.alloc (.cells #[.slice X.A X.r.length X.c, .string (bs X.q.p), .slice X.q.A X.q.a.length X.q.c] 28)) [.slice Y.A Y.r.length Y.c, .string (bs Y.q.p), .slice Y.q.A Y.q.a.length Y.q.c])
  rw [World.size_alloc] at R2
  have HA := Lib.hid (atoms_yes X.q Y.q (W2 W X Y) (AmA.rd.on HX.out.2.2 hb0) (AmA.rd.on HY.out.2.2 hb0) HQ.out)
  clear hb0 HQ
  unfold pgC
  go_enter Tryd.func12, Tryd.ntmps12
  go_wp2_with (go_at_call 16; refine HA.out.mono ?_; rintro e w1 ⟨rfl, hb⟩; have HB1 := Lib.hid hb; have b0 := (rowOn R1.out hb).cell 0; clear hb)
  go_loopw [29] (fun vi wr => ∃ k : Nat, vi = .int .i64 (k : Nat) ∧ k ≤ X.r.length ∧ Below (W2 W X Y).heap.size (W2 W X Y) wr) (fun vi _ => X.r.length - (intOf vi).toNat)
  case atStart => exact ⟨0, rfl, Nat.zero_le _, HB1.out⟩
  case round =>
    obtain ⟨k, rfl, hk, hb⟩ := hrel
    have HB := Lib.hid hb
    have hbW : Below W.heap.size W wr := on HB0.out hb
    have HBW := Lib.hid hbW
    have HZ : Hid (W.heap.size < wr.heap.size ∧ W.heap.size + 1 < wr.heap.size) := Lib.hid ⟨(rowOn R1.out hb).lt, (rowOn R2.out hb).lt⟩
    have a0 := (rowOn R1.out hb).cell 0
    have a1 := (rowOn R2.out hb).cell 0
    by_cases hlt : k < X.r.length
    · obtain ⟨x, hx⟩ : ∃ x, X.r[k]? = some x := ⟨_, List.getElem?_eq_getElem hlt⟩
      obtain ⟨y, hy, hxy⟩ := at_both HR.out hx
      have hlt2 : k < Y.r.length := by omega
      obtain ⟨g, o, hA, hg, hc⟩ := (RdX.on HX.out.1 hbW).2 k x hx
      obtain ⟨g2, o2, hA2, hg2, hc2⟩ := (RdX.on HY.out.1 hbW).2 k y hy
      have x0 := hc 0 _ rfl; have x1 := hc 1 _ rfl; have x2 := hc 2 _ rfl; have x3 := hc 3 _ rfl
      have y0 := hc2 0 _ rfl; have y1 := hc2 1 _ rfl; have y2 := hc2 2 _ rfl; have y3 := hc2 3 _ rfl
      rw [Nat.add_zero] at x0 y0
      rw [hA] at a0
      rw [hA2] at a1
      have HXM := Lib.hid hx; have HYM := Lib.hid hy; have HBO := Lib.hid hb
      clear hc hc2 hbW hb hA hA2 hx hy
      have HS : Hid (∀ u, Below wr.heap.size wr u → (Below wr.heap.size wr u ∧ u.cell? ⟨W.heap.size, 0, none⟩ = some (.slice (some ⟨g, o, none⟩) X.r.length X.c) ∧ u.cell? ⟨W.heap.size + 1, 0, none⟩ = some (.slice (some ⟨g2, o2, none⟩) Y.r.length Y.c) ∧ u.cell? ⟨g, o + k * 4, none⟩ = some (.string (bs x.h.p)) ∧ u.cell? ⟨g, o + k * 4 + 1, none⟩ = some (.slice x.h.A x.h.a.length x.h.c) ∧ u.cell? ⟨g, o + k * 4 + 2, none⟩ = some (.int .i64 (x.f : Int)) ∧ u.cell? ⟨g, o + k * 4 + 3, none⟩ = some (.slice x.A x.b.length x.c) ∧ u.cell? ⟨g2, o2 + k * 4, none⟩ = some (.string (bs y.h.p)) ∧ u.cell? ⟨g2, o2 + k * 4 + 1, none⟩ = some (.slice y.h.A y.h.a.length y.h.c) ∧ u.cell? ⟨g2, o2 + k * 4 + 2, none⟩ = some (.int .i64 (y.f : Int)) ∧ u.cell? ⟨g2, o2 + k * 4 + 3, none⟩ = some (.slice y.A y.b.length y.c))) := Lib.hid fun u hu => ⟨hu, (keep hu _ _ HZ.out.1).trans a0, (keep hu _ _ HZ.out.2).trans a1, (keep hu _ _ hg).trans x0, (keep hu _ _ hg).trans x1, (keep hu _ _ hg).trans x2, (keep hu _ _ hg).trans x3, (keep hu _ _ hg2).trans y0, (keep hu _ _ hg2).trans y1, (keep hu _ _ hg2).trans y2, (keep hu _ _ hg2).trans y3⟩
      go_upto_region 6 with fail
      go_cut [6, 7, 29] from 29 to 130 (fun v6 v7 v29 wx => v29 = .int .i64 (k : Nat) ∧ ∃ p q, v6 = .pointer (some ⟨p, 0, none⟩) ∧ v7 = .pointer (some ⟨q, 0, none⟩) ∧ Row 51 wx p [.string (bs x.h.p), .slice x.h.A x.h.a.length x.h.c, .int .i64 (x.f : Int), .slice x.A x.b.length x.c] ∧ Row 51 wx q [.string (bs y.h.p), .slice y.h.A y.h.a.length y.h.c, .int .i64 (y.f : Int), .slice y.A y.b.length y.c] ∧ Below wr.heap.size wr wx)
      case first =>
        go_region_held3 (fun u => Below wr.heap.size wr u ∧ u.cell? ⟨W.heap.size, 0, none⟩ = some (.slice (some ⟨g, o, none⟩) X.r.length X.c) ∧ u.cell? ⟨W.heap.size + 1, 0, none⟩ = some (.slice (some ⟨g2, o2, none⟩) Y.r.length Y.c) ∧ u.cell? ⟨g, o + k * 4, none⟩ = some (.string (bs x.h.p)) ∧ u.cell? ⟨g, o + k * 4 + 1, none⟩ = some (.slice x.h.A x.h.a.length x.h.c) ∧ u.cell? ⟨g, o + k * 4 + 2, none⟩ = some (.int .i64 (x.f : Int)) ∧ u.cell? ⟨g, o + k * 4 + 3, none⟩ = some (.slice x.A x.b.length x.c) ∧ u.cell? ⟨g2, o2 + k * 4, none⟩ = some (.string (bs y.h.p)) ∧ u.cell? ⟨g2, o2 + k * 4 + 1, none⟩ = some (.slice y.h.A y.h.a.length y.h.c) ∧ u.cell? ⟨g2, o2 + k * 4 + 2, none⟩ = some (.int .i64 (y.f : Int)) ∧ u.cell? ⟨g2, o2 + k * 4 + 3, none⟩ = some (.slice y.A y.b.length y.c)) (exact HS.out _ (by repeat (first | (with_reducible exact Below.refl _ _) | (with_reducible refine Below.drew ?_) | (with_reducible refine Below.alloc ?_ (by simp; try omega) _)))) (fail)
        all_goals go_wp2_with fail
        all_goals go_meet
        · exact ⟨rfl, wr.heap.size, wr.heap.size + 1, rfl, rfl, rowOn ((row_new (t := 51) wr [.string (bs x.h.p), .slice x.h.A x.h.a.length x.h.c, .int .i64 (x.f : Int), .slice x.A x.b.length x.c]).alloc _) (Below.refl _ _).drew, rowOn (row_at (w := wr.alloc _) (by simp) [.string (bs y.h.p), .slice y.h.A y.h.a.length y.h.c, .int .i64 (y.f : Int), .slice y.A y.b.length y.c]) (Below.refl _ _).drew, (((Below.refl _ _).alloc (Nat.le_refl _) _).alloc (by simp) _).drew⟩
        · exact ⟨rfl, wr.heap.size + 1, wr.heap.size, rfl, rfl, rowOn (row_at (w := wr.alloc _) (by simp) [.string (bs x.h.p), .slice x.h.A x.h.a.length x.h.c, .int .i64 (x.f : Int), .slice x.A x.b.length x.c]) (Below.refl _ _).drew, rowOn ((row_new (t := 51) wr [.string (bs y.h.p), .slice y.h.A y.h.a.length y.h.c, .int .i64 (y.f : Int), .slice y.A y.b.length y.c]).alloc _) (Below.refl _ _).drew, (((Below.refl _ _).alloc (Nat.le_refl _) _).alloc (by simp) _).drew⟩
      case rest =>
        obtain ⟨rfl, p, q, rfl, rfl, hRp, hRq, hbc⟩ := hcut
        obtain ⟨hham, hf, hbm⟩ := rl_parts hxy
        have hcW : Below W.heap.size W wc := on HBW.out hbc
        have HCW := Lib.hid hcW
        have HXR := Lib.hid (HX.out.2.1 x (List.mem_of_getElem? HXM.out)); have HYR := Lib.hid (HY.out.2.1 y (List.mem_of_getElem? HYM.out))
        have HBM := Lib.hid hbm
        have hfb : ((x.f : Int) != (y.f : Int)) = false := by rw [hf]; simp
        have hbl := len_both hbm
        have hbn : ((x.b.length : Int) != (y.b.length : Int)) = false := by rw [hbl]; simp
        have hbl1 := Nat.le_of_eq hbl; have hbl2 := Nat.le_of_eq hbl.symm
        have hmb : x.b.length ≤ 9223372036854775807 := HXR.out.2.1.1
        have HAT := Lib.hid (atoms_yes x.h y.h wc (AmA.rd.on HXR.out.1 hcW) (AmA.rd.on HYR.out.1 hcW) hham)
        have RP := Lib.hid hRp; have RQ := Lib.hid hRq; have HBC := Lib.hid hbc
        have p0 := hRp.cell 0; have p1 := hRp.cell 1; have p2 := hRp.cell 2; have p3 := hRp.cell 3
        have q0 := hRq.cell 0; have q1 := hRq.cell 1; have q2 := hRq.cell 2; have q3 := hRq.cell 3
        simp only [List.getElem?_cons_zero, List.getElem?_cons_succ] at p0 p1 p2 p3 q0 q1 q2 q3
        clear hham hf hbm hbl hRp hRq hbc hcW hxy HS x0 x1 x2 x3 y0 y1 y2 y3 a0 a1 HB HBW
        go_wp2_with (go_at_call 16; refine HAT.out.mono ?_; rintro e w5 ⟨rfl, hb5⟩; have p3' := (rowOn RP.out hb5).cell 3; have q3' := (rowOn RQ.out hb5).cell 3; simp only [List.getElem?_cons_zero, List.getElem?_cons_succ] at p3' q3'; have HB5 := Lib.hid hb5; clear hb5)
        go_loopw [67] (fun vi wr2 => ∃ j : Nat, vi = .int .i64 (j : Nat) ∧ j ≤ x.b.length ∧ Below wc.heap.size wc wr2) (fun vi _ => x.b.length - (intOf vi).toNat)
        case atStart => exact ⟨0, rfl, Nat.zero_le _, HB5.out⟩
        case round =>
          obtain ⟨j, rfl, hj, hb2⟩ := hrel
          have HB2 := Lib.hid hb2
          have h2W : Below W.heap.size W wr := on HCW.out hb2
          have HZ2 : Hid (p < wr.heap.size ∧ q < wr.heap.size) := Lib.hid ⟨(rowOn RP.out hb2).lt, (rowOn RQ.out hb2).lt⟩
          have b0 := (rowOn RP.out hb2).cell 3; have b1 := (rowOn RQ.out hb2).cell 3
          simp only [List.getElem?_cons_zero, List.getElem?_cons_succ] at b0 b1
          clear p0 p1 p2 p3 q0 q1 q2 q3
          by_cases hjlt : j < x.b.length
          · obtain ⟨u, hu⟩ : ∃ u, x.b[j]? = some u := ⟨_, List.getElem?_eq_getElem hjlt⟩
            obtain ⟨v, hv, huv⟩ := at_both HBM.out hu
            have hjlt2 : j < y.b.length := by omega
            obtain ⟨g3, o3, hA3, hg3, hc3⟩ := (RdX.on HXR.out.2.1 h2W).2 j u hu
            obtain ⟨g4, o4, hA4, hg4, hc4⟩ := (RdX.on HYR.out.2.1 h2W).2 j v hv
            have HUR := Lib.hid (HXR.out.2.2 u (List.mem_of_getElem? hu)); have HVR := Lib.hid (HYR.out.2.2 v (List.mem_of_getElem? hv))
            obtain ⟨lk, um, lo, la, lb, lc, uA, uC, lp⟩ := u
            obtain ⟨lk2, vm, lo2, la2, lb2, lc2, vA, vC, lp2⟩ := v
            obtain ⟨e1, hmm, e3, e4, e5, e6, e7⟩ := lt_parts huv
            simp only at e1 hmm e3 e4 e5 e6 e7
            subst e1 e3 e4 e5 e6 e7
            have RU : Hid (wr.rangeAt g3 (o3 + j * 17) [.int .i64 (lk : Int), .string (bs um.p), .slice um.A um.a.length um.c, .string (bs lo), .string (bs la.v), .int .i64 la.x.k, .int .i64 la.x.n, .string la.x.s, .string (bs lb.v), .int .i64 lb.x.k, .int .i64 lb.x.n, .string lb.x.s, .string (bs lc.v), .int .i64 lc.x.k, .int .i64 lc.x.n, .string lc.x.s, .slice uA lp.length uC]) := Lib.hid hc3; have RV : Hid (wr.rangeAt g4 (o4 + j * 17) [.int .i64 (lk : Int), .string (bs vm.p), .slice vm.A vm.a.length vm.c, .string (bs lo), .string (bs la.v), .int .i64 la.x.k, .int .i64 la.x.n, .string la.x.s, .string (bs lb.v), .int .i64 lb.x.k, .int .i64 lb.x.n, .string lb.x.s, .string (bs lc.v), .int .i64 lc.x.k, .int .i64 lc.x.n, .string lc.x.s, .slice vA lp.length vC]) := Lib.hid hc4
            rw [hA3] at b0
            rw [hA4] at b1
            clear hA3 hA4 hc3 hc4 hb2 huv hu hv
            go_upto_region 12 with fail
            go_cut [9, 10, 67] from 67 to 129 (fun v9 v10 v67 wx => v67 = .int .i64 (j : Nat) ∧ ∃ p2 q2, v9 = .pointer (some ⟨p2, 0, none⟩) ∧ v10 = .pointer (some ⟨q2, 0, none⟩) ∧ Row 58 wx p2 [.int .i64 (lk : Int), .string (bs um.p), .slice um.A um.a.length um.c, .string (bs lo), .string (bs la.v), .int .i64 la.x.k, .int .i64 la.x.n, .string la.x.s, .string (bs lb.v), .int .i64 lb.x.k, .int .i64 lb.x.n, .string lb.x.s, .string (bs lc.v), .int .i64 lc.x.k, .int .i64 lc.x.n, .string lc.x.s, .slice uA lp.length uC] ∧ Row 58 wx q2 [.int .i64 (lk : Int), .string (bs vm.p), .slice vm.A vm.a.length vm.c, .string (bs lo), .string (bs la.v), .int .i64 la.x.k, .int .i64 la.x.n, .string la.x.s, .string (bs lb.v), .int .i64 lb.x.k, .int .i64 lb.x.n, .string lb.x.s, .string (bs lc.v), .int .i64 lc.x.k, .int .i64 lc.x.n, .string lc.x.s, .slice vA lp.length vC] ∧ Below wr.heap.size wr wx)
            case first =>
              refine wp_region_held_drew (S := fun u => Below wr.heap.size wr u) (by kernel_rfl) (Below.refl _ _).drew (fun hHeld => ?_)
              refine wpAnyH_take (i := 0) (v := ?v0) rfl (by kernel_rfl) (by kernel_rfl) (by kernel_rfl) (fun _ _ _ h => h) (Or.inl ⟨by rfl, ?hy0⟩) hHeld ?rest0
              case hy0 => (intro w hSw; (try dsimp only at hSw); have hz0 := (keep hSw _ _ HZ2.out.1).trans b0; have hz1 := (keep hSw _ _ HZ2.out.2).trans b1; go_simp; try with_reducible rfl)
              try simp only [Act.put, List.setIfInBounds_toArray, List.set_cons_zero, List.set_cons_succ, List.getElem_toArray, List.getElem_cons_zero, List.getElem_cons_succ]
              refine wpAnyH_take (i := 1) (v := ?v1) rfl (by kernel_rfl) (by kernel_rfl) (by kernel_rfl) (fun _ _ _ h => h) (Or.inl ⟨by rfl, ?hy1⟩) hHeld ?rest1
              case hy1 => (intro w hSw; (try dsimp only at hSw); have hz0 := (keep hSw _ _ HZ2.out.1).trans b0; have hz1 := (keep hSw _ _ HZ2.out.2).trans b1; go_simp; try with_reducible rfl)
              try simp only [Act.put, List.setIfInBounds_toArray, List.set_cons_zero, List.set_cons_succ, List.getElem_toArray, List.getElem_cons_zero, List.getElem_cons_succ]
              refine wpAnyH_take (i := 2) (v := ?v2) rfl (by kernel_rfl) (by kernel_rfl) (by kernel_rfl) (fun _ _ _ h => h) (Or.inl ⟨by rfl, ?hy2⟩) hHeld ?rest2
              case hy2 => (intro w hSw; (try dsimp only at hSw); have hz0 := (keep hSw _ _ HZ2.out.1).trans b0; have hz1 := (keep hSw _ _ HZ2.out.2).trans b1; go_simp; try with_reducible rfl)
              try simp only [Act.put, List.setIfInBounds_toArray, List.set_cons_zero, List.set_cons_succ, List.getElem_toArray, List.getElem_cons_zero, List.getElem_cons_succ]
              refine wpAnyH_take (i := 3) (v := ?v3) rfl (by kernel_rfl) (by kernel_rfl) (by kernel_rfl) (fun _ _ _ h => h) (Or.inl ⟨by rfl, ?hy3⟩) hHeld ?rest3
              case hy3 => (intro w hSw; (try dsimp only at hSw); have hz0 := (keep hSw _ _ HZ2.out.1).trans b0; have hz1 := (keep hSw _ _ HZ2.out.2).trans b1; go_simp; try with_reducible rfl)
              try simp only [Act.put, List.setIfInBounds_toArray, List.set_cons_zero, List.set_cons_succ, List.getElem_toArray, List.getElem_cons_zero, List.getElem_cons_succ]
              refine wpAnyH_take (i := 4) (v := .agg #[.int .i64 (lk : Int), .string (bs um.p), .slice um.A um.a.length um.c, .string (bs lo), .string (bs la.v), .int .i64 la.x.k, .int .i64 la.x.n, .string la.x.s, .string (bs lb.v), .int .i64 lb.x.k, .int .i64 lb.x.n, .string lb.x.s, .string (bs lc.v), .int .i64 lc.x.k, .int .i64 lc.x.n, .string lc.x.s, .slice uA lp.length uC]) rfl (by kernel_rfl) (by kernel_rfl) (by kernel_rfl) (fun _ _ _ h => h) (yieldsIf_load_mid (by rfl) 58 (.tmp 73) rfl g3 (o3 + j * 17) (by simp [Act.eval, Act.put]) [.int .i64 (lk : Int), .string (bs um.p), .slice um.A um.a.length um.c, .string (bs lo), .string (bs la.v), .int .i64 la.x.k, .int .i64 la.x.n, .string la.x.s, .string (bs lb.v), .int .i64 lb.x.k, .int .i64 lb.x.n, .string lb.x.s, .string (bs lc.v), .int .i64 lc.x.k, .int .i64 lc.x.n, .string lc.x.s, .slice uA lp.length uC] _ (fun w hw j' v' h' => (keep hw _ _ hg3).trans (RU.out j' v' h')) Tryd.underlying58 rfl (by kernel_rfl)) hHeld ?rest4
              try simp only [Act.put, List.setIfInBounds_toArray, List.set_cons_zero, List.set_cons_succ, List.getElem_toArray, List.getElem_cons_zero, List.getElem_cons_succ]
              refine wpAnyH_take (i := 5) (v := ?v5) rfl (by kernel_rfl) (by kernel_rfl) (by kernel_rfl) (fun _ _ _ h => h) (Or.inl ⟨by rfl, ?hy5⟩) hHeld ?rest5
              case hy5 => (intro w hSw; (try dsimp only at hSw); have hz0 := (keep hSw _ _ HZ2.out.1).trans b0; have hz1 := (keep hSw _ _ HZ2.out.2).trans b1; go_simp; try with_reducible rfl)
              try simp only [Act.put, List.setIfInBounds_toArray, List.set_cons_zero, List.set_cons_succ, List.getElem_toArray, List.getElem_cons_zero, List.getElem_cons_succ]
              refine wpAnyH_take (i := 6) (v := ?v6) rfl (by kernel_rfl) (by kernel_rfl) (by kernel_rfl) (fun _ _ _ h => h) (Or.inl ⟨by rfl, ?hy6⟩) hHeld ?rest6
              case hy6 => (intro w hSw; (try dsimp only at hSw); have hz0 := (keep hSw _ _ HZ2.out.1).trans b0; have hz1 := (keep hSw _ _ HZ2.out.2).trans b1; go_simp; try with_reducible rfl)
              try simp only [Act.put, List.setIfInBounds_toArray, List.set_cons_zero, List.set_cons_succ, List.getElem_toArray, List.getElem_cons_zero, List.getElem_cons_succ]
              refine wpAnyH_take (i := 7) (v := ?v7) rfl (by kernel_rfl) (by kernel_rfl) (by kernel_rfl) (fun _ _ _ h => h) (Or.inl ⟨by rfl, ?hy7⟩) hHeld ?rest7
              case hy7 => (intro w hSw; (try dsimp only at hSw); have hz0 := (keep hSw _ _ HZ2.out.1).trans b0; have hz1 := (keep hSw _ _ HZ2.out.2).trans b1; go_simp; try with_reducible rfl)
              try simp only [Act.put, List.setIfInBounds_toArray, List.set_cons_zero, List.set_cons_succ, List.getElem_toArray, List.getElem_cons_zero, List.getElem_cons_succ]
              refine wpAnyH_take (i := 8) (v := ?v8) rfl (by kernel_rfl) (by kernel_rfl) (by kernel_rfl) (fun _ _ _ h => h) (Or.inl ⟨by rfl, ?hy8⟩) hHeld ?rest8
              case hy8 => (intro w hSw; (try dsimp only at hSw); have hz0 := (keep hSw _ _ HZ2.out.1).trans b0; have hz1 := (keep hSw _ _ HZ2.out.2).trans b1; go_simp; try with_reducible rfl)
              try simp only [Act.put, List.setIfInBounds_toArray, List.set_cons_zero, List.set_cons_succ, List.getElem_toArray, List.getElem_cons_zero, List.getElem_cons_succ]
              refine wpAnyH_take (i := 9) (v := .agg #[.int .i64 (lk : Int), .string (bs vm.p), .slice vm.A vm.a.length vm.c, .string (bs lo), .string (bs la.v), .int .i64 la.x.k, .int .i64 la.x.n, .string la.x.s, .string (bs lb.v), .int .i64 lb.x.k, .int .i64 lb.x.n, .string lb.x.s, .string (bs lc.v), .int .i64 lc.x.k, .int .i64 lc.x.n, .string lc.x.s, .slice vA lp.length vC]) rfl (by kernel_rfl) (by kernel_rfl) (by kernel_rfl) (fun _ _ _ h => h) (yieldsIf_load_mid (by rfl) 58 (.tmp 78) rfl g4 (o4 + j * 17) (by simp [Act.eval, Act.put]) [.int .i64 (lk : Int), .string (bs vm.p), .slice vm.A vm.a.length vm.c, .string (bs lo), .string (bs la.v), .int .i64 la.x.k, .int .i64 la.x.n, .string la.x.s, .string (bs lb.v), .int .i64 lb.x.k, .int .i64 lb.x.n, .string lb.x.s, .string (bs lc.v), .int .i64 lc.x.k, .int .i64 lc.x.n, .string lc.x.s, .slice vA lp.length vC] _ (fun w hw j' v' h' => (keep hw _ _ hg4).trans (RV.out j' v' h')) Tryd.underlying58 rfl (by kernel_rfl)) hHeld ?rest9
              try simp only [Act.put, List.setIfInBounds_toArray, List.set_cons_zero, List.set_cons_succ, List.getElem_toArray, List.getElem_cons_zero, List.getElem_cons_succ]
              clear hHeld
              refine wpAnyH_ready (rs := [10, 11]) (by kernel_rfl) (by simp) ?_
              refine AllReadyH.cons rfl (fun K hK => ?_) (AllReadyH.cons rfl (fun K hK => ?_) AllReadyH.nil)
              · go_simp
                refine hK.out _ _ ((by repeat (first | (with_reducible exact Below.refl _ _) | (with_reducible refine Below.drew ?_) | (with_reducible refine Below.alloc ?_ (by simp; try omega) _)))) (fun _ => ?_)
                clear hK K
                refine wpAnyH_ready (rs := [11]) (by kernel_rfl) (by simp) ?_
                refine AllReadyH.cons rfl (fun K hK => ?_) AllReadyH.nil
                go_simp
                refine hK.out _ _ ((by repeat (first | (with_reducible exact Below.refl _ _) | (with_reducible refine Below.drew ?_) | (with_reducible refine Below.alloc ?_ (by simp; try omega) _)))) (fun _ => ?_)
                clear hK K
                refine wpAnyH_ready (rs := [12]) (by kernel_rfl) (by simp) ?_
                refine AllReadyH.cons rfl (fun K hK => ?_) AllReadyH.nil
                rw [if_pos (by rfl)]
                try simp only [Act.put, List.setIfInBounds_toArray, List.set_cons_zero, List.set_cons_succ, List.getElem_toArray, List.getElem_cons_zero, List.getElem_cons_succ]
                obtain ⟨V0, hV0⟩ : ∃ V0, ((wr.alloc (.cells #[.int .i64 0, .string ⟨#[]⟩, .slice none 0 0, .string ⟨#[]⟩, .string ⟨#[]⟩, .int .i64 0, .int .i64 0, .string ⟨#[]⟩, .string ⟨#[]⟩, .int .i64 0, .int .i64 0, .string ⟨#[]⟩, .string ⟨#[]⟩, .int .i64 0, .int .i64 0, .string ⟨#[]⟩, .slice none 0 0] 58)).alloc (.cells #[.int .i64 0, .string ⟨#[]⟩, .slice none 0 0, .string ⟨#[]⟩, .string ⟨#[]⟩, .int .i64 0, .int .i64 0, .string ⟨#[]⟩, .string ⟨#[]⟩, .int .i64 0, .int .i64 0, .string ⟨#[]⟩, .string ⟨#[]⟩, .int .i64 0, .int .i64 0, .string ⟨#[]⟩, .slice none 0 0] 58)).drew = V0 := ⟨_, rfl⟩
                have hb0 : Below wr.heap.size wr V0 := by rw [← hV0]; exact (((Below.refl _ _).alloc (Nat.le_refl _) _).alloc (by simp) _).drew
                have r1 : Row 58 V0 wr.heap.size [.int .i64 0, .string ⟨#[]⟩, .slice none 0 0, .string ⟨#[]⟩, .string ⟨#[]⟩, .int .i64 0, .int .i64 0, .string ⟨#[]⟩, .string ⟨#[]⟩, .int .i64 0, .int .i64 0, .string ⟨#[]⟩, .string ⟨#[]⟩, .int .i64 0, .int .i64 0, .string ⟨#[]⟩, .slice none 0 0] := by rw [← hV0]; exact rowOn ((row_new (t := 58) wr [.int .i64 0, .string ⟨#[]⟩, .slice none 0 0, .string ⟨#[]⟩, .string ⟨#[]⟩, .int .i64 0, .int .i64 0, .string ⟨#[]⟩, .string ⟨#[]⟩, .int .i64 0, .int .i64 0, .string ⟨#[]⟩, .string ⟨#[]⟩, .int .i64 0, .int .i64 0, .string ⟨#[]⟩, .slice none 0 0]).alloc _) (Below.refl _ _).drew
                have r2 : Row 58 V0 (wr.heap.size + 1) [.int .i64 0, .string ⟨#[]⟩, .slice none 0 0, .string ⟨#[]⟩, .string ⟨#[]⟩, .int .i64 0, .int .i64 0, .string ⟨#[]⟩, .string ⟨#[]⟩, .int .i64 0, .int .i64 0, .string ⟨#[]⟩, .string ⟨#[]⟩, .int .i64 0, .int .i64 0, .string ⟨#[]⟩, .slice none 0 0] := by rw [← hV0]; exact rowOn (row_at (w := wr.alloc _) (by simp) [.int .i64 0, .string ⟨#[]⟩, .slice none 0 0, .string ⟨#[]⟩, .string ⟨#[]⟩, .int .i64 0, .int .i64 0, .string ⟨#[]⟩, .string ⟨#[]⟩, .int .i64 0, .int .i64 0, .string ⟨#[]⟩, .string ⟨#[]⟩, .int .i64 0, .int .i64 0, .string ⟨#[]⟩, .slice none 0 0]) (Below.refl _ _).drew
                rw [hV0]
                clear hV0
                refine step_storeR 58 (.tmp 9) (.tmp 74) ?hoq10 wr.heap.size ?hxq10 (.agg #[.int .i64 (lk : Int), .string (bs um.p), .slice um.A um.a.length um.c, .string (bs lo), .string (bs la.v), .int .i64 la.x.k, .int .i64 la.x.n, .string la.x.s, .string (bs lb.v), .int .i64 lb.x.k, .int .i64 lb.x.n, .string lb.x.s, .string (bs lc.v), .int .i64 lc.x.k, .int .i64 lc.x.n, .string lc.x.s, .slice uA lp.length uC]) ?hyq10 [.int .i64 (lk : Int), .string (bs um.p), .slice um.A um.a.length um.c, .string (bs lo), .string (bs la.v), .int .i64 la.x.k, .int .i64 la.x.n, .string la.x.s, .string (bs lb.v), .int .i64 lb.x.k, .int .i64 lb.x.n, .string lb.x.s, .string (bs lc.v), .int .i64 lc.x.k, .int .i64 lc.x.n, .string lc.x.s, .slice uA lp.length uC] rfl r1 rfl (by kernel_rfl) rfl ?hKzq10
                case hoq10 => rfl
                case hxq10 => first | rfl | simp [Act.eval, Act.put]
                case hyq10 => first | rfl | simp [Act.eval, Act.put]
                intro V1 hR1 hF1 hs1
                have b1' : Below wr.heap.size wr V1 := hb0.trans ((hF1 _).below (Nat.le_refl _) fun k hk e => by omega)
                have rr := r2.fr (hF1 _) r2.lt (by omega)
                refine hK.out _ _ b1' (fun _ => ?_)
                clear hK K
                refine wpAnyH_ready (rs := [13]) (by kernel_rfl) (by simp) ?_
                refine AllReadyH.cons rfl (fun K hK => ?_) AllReadyH.nil
                rw [if_pos (by rfl)]
                try simp only [Act.put, List.setIfInBounds_toArray, List.set_cons_zero, List.set_cons_succ, List.getElem_toArray, List.getElem_cons_zero, List.getElem_cons_succ]
                refine step_storeR 58 (.tmp 10) (.tmp 79) ?ho2q10 (wr.heap.size + 1) ?hx2q10 (.agg #[.int .i64 (lk : Int), .string (bs vm.p), .slice vm.A vm.a.length vm.c, .string (bs lo), .string (bs la.v), .int .i64 la.x.k, .int .i64 la.x.n, .string la.x.s, .string (bs lb.v), .int .i64 lb.x.k, .int .i64 lb.x.n, .string lb.x.s, .string (bs lc.v), .int .i64 lc.x.k, .int .i64 lc.x.n, .string lc.x.s, .slice vA lp.length vC]) ?hy2q10 [.int .i64 (lk : Int), .string (bs vm.p), .slice vm.A vm.a.length vm.c, .string (bs lo), .string (bs la.v), .int .i64 la.x.k, .int .i64 la.x.n, .string la.x.s, .string (bs lb.v), .int .i64 lb.x.k, .int .i64 lb.x.n, .string lb.x.s, .string (bs lc.v), .int .i64 lc.x.k, .int .i64 lc.x.n, .string lc.x.s, .slice vA lp.length vC] rfl rr rfl (by kernel_rfl) rfl ?hK2zq10
                case ho2q10 => rfl
                case hx2q10 => first | rfl | simp [Act.eval, Act.put]
                case hy2q10 => first | rfl | simp [Act.eval, Act.put]
                intro V2 hR2 hF2 hs2
                have b2' : Below wr.heap.size wr V2 := b1'.trans ((hF2 _).below (Nat.le_refl _) fun k hk e => by omega)
                have hR1' := hR1.fr (hF2 _) hR1.lt (by omega)
                refine hK.out _ _ b2' (fun _ => ?_)
                clear hK K
                refine wpAnyH_done (by kernel_rfl) ?_ _
                try simp only [Act.put, List.setIfInBounds_toArray, List.set_cons_zero, List.set_cons_succ, List.getElem_toArray, List.getElem_cons_zero, List.getElem_cons_succ]
                go_wp2_with fail
                go_meet
                exact ⟨rfl, wr.heap.size, (wr.heap.size + 1), rfl, rfl, hR1', hR2, b2'⟩
              · go_simp
                refine hK.out _ _ ((by repeat (first | (with_reducible exact Below.refl _ _) | (with_reducible refine Below.drew ?_) | (with_reducible refine Below.alloc ?_ (by simp; try omega) _)))) (fun _ => ?_)
                clear hK K
                refine wpAnyH_ready (rs := [10]) (by kernel_rfl) (by simp) ?_
                refine AllReadyH.cons rfl (fun K hK => ?_) AllReadyH.nil
                go_simp
                refine hK.out _ _ ((by repeat (first | (with_reducible exact Below.refl _ _) | (with_reducible refine Below.drew ?_) | (with_reducible refine Below.alloc ?_ (by simp; try omega) _)))) (fun _ => ?_)
                clear hK K
                refine wpAnyH_ready (rs := [12]) (by kernel_rfl) (by simp) ?_
                refine AllReadyH.cons rfl (fun K hK => ?_) AllReadyH.nil
                rw [if_pos (by rfl)]
                try simp only [Act.put, List.setIfInBounds_toArray, List.set_cons_zero, List.set_cons_succ, List.getElem_toArray, List.getElem_cons_zero, List.getElem_cons_succ]
                obtain ⟨V0, hV0⟩ : ∃ V0, ((wr.alloc (.cells #[.int .i64 0, .string ⟨#[]⟩, .slice none 0 0, .string ⟨#[]⟩, .string ⟨#[]⟩, .int .i64 0, .int .i64 0, .string ⟨#[]⟩, .string ⟨#[]⟩, .int .i64 0, .int .i64 0, .string ⟨#[]⟩, .string ⟨#[]⟩, .int .i64 0, .int .i64 0, .string ⟨#[]⟩, .slice none 0 0] 58)).alloc (.cells #[.int .i64 0, .string ⟨#[]⟩, .slice none 0 0, .string ⟨#[]⟩, .string ⟨#[]⟩, .int .i64 0, .int .i64 0, .string ⟨#[]⟩, .string ⟨#[]⟩, .int .i64 0, .int .i64 0, .string ⟨#[]⟩, .string ⟨#[]⟩, .int .i64 0, .int .i64 0, .string ⟨#[]⟩, .slice none 0 0] 58)).drew = V0 := ⟨_, rfl⟩
                have hb0 : Below wr.heap.size wr V0 := by rw [← hV0]; exact (((Below.refl _ _).alloc (Nat.le_refl _) _).alloc (by simp) _).drew
                have r1 : Row 58 V0 wr.heap.size [.int .i64 0, .string ⟨#[]⟩, .slice none 0 0, .string ⟨#[]⟩, .string ⟨#[]⟩, .int .i64 0, .int .i64 0, .string ⟨#[]⟩, .string ⟨#[]⟩, .int .i64 0, .int .i64 0, .string ⟨#[]⟩, .string ⟨#[]⟩, .int .i64 0, .int .i64 0, .string ⟨#[]⟩, .slice none 0 0] := by rw [← hV0]; exact rowOn ((row_new (t := 58) wr [.int .i64 0, .string ⟨#[]⟩, .slice none 0 0, .string ⟨#[]⟩, .string ⟨#[]⟩, .int .i64 0, .int .i64 0, .string ⟨#[]⟩, .string ⟨#[]⟩, .int .i64 0, .int .i64 0, .string ⟨#[]⟩, .string ⟨#[]⟩, .int .i64 0, .int .i64 0, .string ⟨#[]⟩, .slice none 0 0]).alloc _) (Below.refl _ _).drew
                have r2 : Row 58 V0 (wr.heap.size + 1) [.int .i64 0, .string ⟨#[]⟩, .slice none 0 0, .string ⟨#[]⟩, .string ⟨#[]⟩, .int .i64 0, .int .i64 0, .string ⟨#[]⟩, .string ⟨#[]⟩, .int .i64 0, .int .i64 0, .string ⟨#[]⟩, .string ⟨#[]⟩, .int .i64 0, .int .i64 0, .string ⟨#[]⟩, .slice none 0 0] := by rw [← hV0]; exact rowOn (row_at (w := wr.alloc _) (by simp) [.int .i64 0, .string ⟨#[]⟩, .slice none 0 0, .string ⟨#[]⟩, .string ⟨#[]⟩, .int .i64 0, .int .i64 0, .string ⟨#[]⟩, .string ⟨#[]⟩, .int .i64 0, .int .i64 0, .string ⟨#[]⟩, .string ⟨#[]⟩, .int .i64 0, .int .i64 0, .string ⟨#[]⟩, .slice none 0 0]) (Below.refl _ _).drew
                rw [hV0]
                clear hV0
                refine step_storeR 58 (.tmp 9) (.tmp 74) ?hoq11 (wr.heap.size + 1) ?hxq11 (.agg #[.int .i64 (lk : Int), .string (bs um.p), .slice um.A um.a.length um.c, .string (bs lo), .string (bs la.v), .int .i64 la.x.k, .int .i64 la.x.n, .string la.x.s, .string (bs lb.v), .int .i64 lb.x.k, .int .i64 lb.x.n, .string lb.x.s, .string (bs lc.v), .int .i64 lc.x.k, .int .i64 lc.x.n, .string lc.x.s, .slice uA lp.length uC]) ?hyq11 [.int .i64 (lk : Int), .string (bs um.p), .slice um.A um.a.length um.c, .string (bs lo), .string (bs la.v), .int .i64 la.x.k, .int .i64 la.x.n, .string la.x.s, .string (bs lb.v), .int .i64 lb.x.k, .int .i64 lb.x.n, .string lb.x.s, .string (bs lc.v), .int .i64 lc.x.k, .int .i64 lc.x.n, .string lc.x.s, .slice uA lp.length uC] rfl r2 rfl (by kernel_rfl) rfl ?hKzq11
                case hoq11 => rfl
                case hxq11 => first | rfl | simp [Act.eval, Act.put]
                case hyq11 => first | rfl | simp [Act.eval, Act.put]
                intro V1 hR1 hF1 hs1
                have b1' : Below wr.heap.size wr V1 := hb0.trans ((hF1 _).below (Nat.le_refl _) fun k hk e => by omega)
                have rr := r1.fr (hF1 _) r1.lt (by omega)
                refine hK.out _ _ b1' (fun _ => ?_)
                clear hK K
                refine wpAnyH_ready (rs := [13]) (by kernel_rfl) (by simp) ?_
                refine AllReadyH.cons rfl (fun K hK => ?_) AllReadyH.nil
                rw [if_pos (by rfl)]
                try simp only [Act.put, List.setIfInBounds_toArray, List.set_cons_zero, List.set_cons_succ, List.getElem_toArray, List.getElem_cons_zero, List.getElem_cons_succ]
                refine step_storeR 58 (.tmp 10) (.tmp 79) ?ho2q11 wr.heap.size ?hx2q11 (.agg #[.int .i64 (lk : Int), .string (bs vm.p), .slice vm.A vm.a.length vm.c, .string (bs lo), .string (bs la.v), .int .i64 la.x.k, .int .i64 la.x.n, .string la.x.s, .string (bs lb.v), .int .i64 lb.x.k, .int .i64 lb.x.n, .string lb.x.s, .string (bs lc.v), .int .i64 lc.x.k, .int .i64 lc.x.n, .string lc.x.s, .slice vA lp.length vC]) ?hy2q11 [.int .i64 (lk : Int), .string (bs vm.p), .slice vm.A vm.a.length vm.c, .string (bs lo), .string (bs la.v), .int .i64 la.x.k, .int .i64 la.x.n, .string la.x.s, .string (bs lb.v), .int .i64 lb.x.k, .int .i64 lb.x.n, .string lb.x.s, .string (bs lc.v), .int .i64 lc.x.k, .int .i64 lc.x.n, .string lc.x.s, .slice vA lp.length vC] rfl rr rfl (by kernel_rfl) rfl ?hK2zq11
                case ho2q11 => rfl
                case hx2q11 => first | rfl | simp [Act.eval, Act.put]
                case hy2q11 => first | rfl | simp [Act.eval, Act.put]
                intro V2 hR2 hF2 hs2
                have b2' : Below wr.heap.size wr V2 := b1'.trans ((hF2 _).below (Nat.le_refl _) fun k hk e => by omega)
                have hR1' := hR1.fr (hF2 _) hR1.lt (by omega)
                refine hK.out _ _ b2' (fun _ => ?_)
                clear hK K
                refine wpAnyH_done (by kernel_rfl) ?_ _
                try simp only [Act.put, List.setIfInBounds_toArray, List.set_cons_zero, List.set_cons_succ, List.getElem_toArray, List.getElem_cons_zero, List.getElem_cons_succ]
                go_wp2_with fail
                go_meet
                exact ⟨rfl, (wr.heap.size + 1), wr.heap.size, rfl, rfl, hR1', hR2, b2'⟩
            case rest =>
              obtain ⟨rfl, p2, q2, rfl, rfl, hRp2, hRq2, hbc2⟩ := hcut
              have hw2W := on h2W hbc2
              have HAT2 := Lib.hid (atoms_yes um vm _ (AmA.rd.on HUR.out.1 hw2W) (AmA.rd.on HVR.out.1 hw2W) hmm)
              have RP2 := Lib.hid hRp2; have RQ2 := Lib.hid hRq2; have HBC2 := Lib.hid hbc2; have HW2 := Lib.hid hw2W
              have m0 := hRp2.cell 0; have n0 := hRq2.cell 0
              have m1 := hRp2.cell 1; have n1 := hRq2.cell 1
              have m2 := hRp2.cell 2; have n2 := hRq2.cell 2
              have m3 := hRp2.cell 3; have n3 := hRq2.cell 3
              have m4 := hRp2.cell 4; have n4 := hRq2.cell 4
              have m5 := hRp2.cell 5; have n5 := hRq2.cell 5
              have m6 := hRp2.cell 6; have n6 := hRq2.cell 6
              have m7 := hRp2.cell 7; have n7 := hRq2.cell 7
              have m8 := hRp2.cell 8; have n8 := hRq2.cell 8
              have m9 := hRp2.cell 9; have n9 := hRq2.cell 9
              have m10 := hRp2.cell 10; have n10 := hRq2.cell 10
              have m11 := hRp2.cell 11; have n11 := hRq2.cell 11
              have m12 := hRp2.cell 12; have n12 := hRq2.cell 12
              have m13 := hRp2.cell 13; have n13 := hRq2.cell 13
              have m14 := hRp2.cell 14; have n14 := hRq2.cell 14
              have m15 := hRp2.cell 15; have n15 := hRq2.cell 15
              have m16 := hRp2.cell 16; have n16 := hRq2.cell 16
              simp only [List.getElem?_cons_zero, List.getElem?_cons_succ] at m0 n0 m1 n1 m2 n2 m3 n3 m4 n4 m5 n5 m6 n6 m7 n7 m8 n8 m9 n9 m10 n10 m11 n11 m12 n12 m13 n13 m14 n14 m15 n15 m16 n16
              clear hRp2 hRq2 hbc2 hw2W hmm b0 b1 h2W
              go_wp2_with (first
                | (go_at_call 16; refine HAT2.out.mono ?_; rintro e w6 ⟨rfl, hb6⟩; have m16' := (rowOn RP2.out hb6).cell 16; have n16' := (rowOn RQ2.out hb6).cell 16; simp only [List.getElem?_cons_zero, List.getElem?_cons_succ] at m16' n16'; have HB6 := Lib.hid hb6; clear hb6)
                | (go_at_call 26; refine (paths_yes uA vA uC vC lp _ (RdX.on (RdX.on HUR.out.2 HW2.out) HB6.out) (RdX.on (RdX.on HVR.out.2 HW2.out) HB6.out)).mono ?_; rintro e w7 ⟨rfl, hb7⟩; have HB7 := Lib.hid hb7; clear hb7))
              go_roundw
              case rel => exact ⟨j + 1, by go_num, by omega, on HB2.out (on HBC2.out (on HB6.out HB7.out))⟩
              case measure => simp [intOf]; omega
          · obtain rfl : j = x.b.length := by omega
            go_wp2
            go_roundw
            case rel => exact ⟨k + 1, by go_num, by omega, on HBO.out (on HBC.out HB2.out)⟩
            case measure => simp [intOf]; omega
    · obtain rfl : k = X.r.length := by omega
      go_wp2
      go_ret
      exact ⟨rfl, HBW.out⟩
end Go.Proofs.YtncafadjcelloaaDoor
namespace Go.Proofs.YtncafadjcelloaaDoor
open Go.RowKit FloM ValM Go.Shelf
set_option linter.unusedVariables false
set_option linter.unusedSimpArgs false
/-! ### Tokens but for their places -/
def kt (t : Tk) : Nat × List UInt8 := (t.k, t.t)
theorem kt_k {t u : Tk} (h : kt t = kt u) : t.k = u.k := congrArg Prod.fst h
theorem kt_t {t u : Tk} (h : kt t = kt u) : t.t = u.t := congrArg Prod.snd h
def Eqv (ts us : List Tk) : Prop := ts.map kt = us.map kt
theorem Eqv.refl (ts : List Tk) : Eqv ts ts := rfl
theorem Eqv.symm {a b : List Tk} (h : Eqv a b) : Eqv b a := Eq.symm h
theorem Eqv.app {a b c d : List Tk} (h : Eqv a b) (k : Eqv c d) : Eqv (a ++ c) (b ++ d) := by unfold Eqv at *; rw [List.map_append, List.map_append, h, k]
theorem Eqv.cut {u r ws : List Tk} (h : Eqv (u ++ r) ws) : ∃ u' r', ws = u' ++ r' ∧ Eqv u u' ∧ Eqv r r' := by
  unfold Eqv at h; rw [List.map_append] at h
  obtain ⟨a, b, e, h1, h2⟩ := List.map_eq_append_iff.1 h.symm
  exact ⟨a, b, e, h1.symm, h2.symm⟩
theorem Eqv.nil {us : List Tk} (h : Eqv [] us) : us = [] := by
  cases us with
  | nil => rfl
  | cons t r => simp [Eqv] at h
theorem Eqv.cons {t : Tk} {r us : List Tk} (h : Eqv (t :: r) us) : ∃ t' r', us = t' :: r' ∧ kt t = kt t' ∧ Eqv r r' := by
  cases us with
  | nil => simp [Eqv] at h
  | cons t' r' =>
    unfold Eqv at h
    rw [List.map_cons, List.map_cons] at h
    injection h with h1 h2
    exact ⟨t', r', rfl, h1, h2⟩
theorem Eqv.len {a b : List Tk} (h : Eqv a b) : a.length = b.length := by have := congrArg List.length h; simpa using this
def HdE (z : Nat) (r : List Tk) (z' : Nat) (r' : List Tk) : Prop := kt (hdT z r) = kt (hdT z' r')
theorem Eqv.hd {ts us : List Tk} (h : Eqv ts us) (z z' : Nat) : HdE z ts z' us := by
  cases ts with
  | nil => rw [h.nil]; rfl
  | cons t r => obtain ⟨t', r', rfl, h1, _⟩ := h.cons; exact h1
theorem hd_app {u w r r' : List Tk} {z z' : Nat} (h : Eqv u w) (hr : HdE z r z' r') : HdE z (u ++ r) z' (w ++ r') := by
  cases u with
  | nil => rw [h.nil]; exact hr
  | cons t q => obtain ⟨t', r'', rfl, h1, _⟩ := h.cons; exact h1
theorem hdT_pos (z : Nat) (ts : List Tk) : (hdT z ts).a = z ∨ ∃ t ∈ ts, (hdT z ts).a = t.a := by
  cases ts with
  | nil => exact .inl rfl
  | cons t r => exact .inr ⟨t, by simp, rfl⟩
def Okt (ts : List Tk) : Prop := GoodT ts ∧ ∀ t ∈ ts, t.t = [63, 45] → t.k = 4
theorem Okt.suf {r ts : List Tk} (h : Okt ts) (hs : r <:+ ts) : Okt r := ⟨h.1.suf hs, fun t ht => h.2 t (hs.subset ht)⟩
/-! ### Two methods that read alike -/
def RelP {α γ : Type} (N : Tk → Prop) (π : α → γ) (f f' : Ps α) : Prop := ∀ z ts, Okt ts →
  (∀ x r, f z ts = .ok x r → ∃ u, ts = u ++ r ∧ (∀ t ∈ u, N t) ∧ ∀ z' u' r', Eqv u u' → HdE z r z' r' → ∃ x', f' z' (u' ++ r') = .ok x' r' ∧ π x = π x') ∧
  (∀ a k, f z ts = .no a k → (a = z ∨ ∃ t ∈ ts, a = t.a) ∧ ∀ z' us, Eqv ts us → ∃ a', f' z' us = .no a' k)
section
variable {α β γ δ : Type} {N : Tk → Prop} {π : α → γ} {ρ : β → δ}
theorem RelP.bind {f f' : Ps α} {g g' : α → Ps β} (hf : RelP N π f f') (hg : ∀ a a', π a = π a' → RelP N ρ (g a) (g' a')) :
    RelP N ρ (fun z ts => (f z ts).bind fun a r => g a z r) (fun z ts => (f' z ts).bind fun a r => g' a z r) := fun z ts ho => by
  cases e : f z ts with
  | no a k =>
    refine ⟨fun x r h => ?_, fun a' k' h => ?_⟩
    · simp only [e, Ans.bind] at h; cases h
    · simp only [e, Ans.bind] at h; cases h
      obtain ⟨h1, h2⟩ := (hf z ts ho).2 a k e
      refine ⟨h1, fun z' us hu => ?_⟩
      obtain ⟨a', h3⟩ := h2 z' us hu
      exact ⟨a', by simp only [h3, Ans.bind]⟩
  | ok a r1 =>
    obtain ⟨u1, e1, n1, h1⟩ := (hf z ts ho).1 a r1 e
    have ho1 : Okt r1 := ho.suf ⟨u1, e1.symm⟩
    refine ⟨fun x r h => ?_, fun a' k' h => ?_⟩
    · simp only [e, Ans.bind] at h
      obtain ⟨u2, e2, n2, h2⟩ := (hg a a rfl z r1 ho1).1 x r h
      refine ⟨u1 ++ u2, by rw [e1, e2, List.append_assoc], fun t ht => (List.mem_append.1 ht).elim (n1 t) (n2 t), fun z' w r' hw hr => ?_⟩
      obtain ⟨w1, w2, rfl, q1, q2⟩ := hw.cut
      obtain ⟨a', h3, hp⟩ := h1 z' w1 (w2 ++ r') q1 (by rw [e2]; exact hd_app q2 hr)
      obtain ⟨u3, e3, n3, h4⟩ := (hg a a' hp z r1 ho1).1 x r h
      have h32 : u3 = u2 := List.append_cancel_right (e3.symm.trans e2)
      subst h32
      obtain ⟨x', h5, hx⟩ := h4 z' w2 r' q2 hr
      exact ⟨x', by simp only [List.append_assoc, h3, Ans.bind, h5], hx⟩
    · simp only [e, Ans.bind] at h
      obtain ⟨h2, _⟩ := (hg a a rfl z r1 ho1).2 a' k' h
      refine ⟨h2.imp id fun ⟨t, ht, e⟩ => ⟨t, by rw [e1]; exact List.mem_append_right _ ht, e⟩, fun z' us hu => ?_⟩
      rw [e1] at hu
      obtain ⟨w1, s1, rfl, q1, q2⟩ := hu.cut
      obtain ⟨b, h3, hp⟩ := h1 z' w1 s1 q1 (q2.hd z z')
      obtain ⟨b', h4⟩ := ((hg a b hp z r1 ho1).2 a' k' h).2 z' s1 q2
      exact ⟨b', by simp only [h3, Ans.bind, h4]⟩
theorem RelP.ok {x x' : α} (h : π x = π x') : RelP N π (fun _ ts => .ok x ts) (fun _ ts => .ok x' ts) := fun z ts _ =>
  ⟨fun y r e => by
    cases e
    exact ⟨[], rfl, fun t ht => (by cases ht), fun z' u' r' hu _ => ⟨x', by rw [hu.nil]; rfl, h⟩⟩, fun a k e => by cases e⟩
theorem RelP.fail (k : Nat) : RelP N π (failP k) (failP k) := fun z ts _ => ⟨fun y r e => (by cases e), fun a k' e => by cases e; exact ⟨hdT_pos z ts, fun z' us hu => ⟨_, rfl⟩⟩⟩
theorem RelP.ite {c : Tk → Prop} [DecidablePred c] {A A' B B' : Ps α} (hc : ∀ t u, kt t = kt u → (c t ↔ c u)) (hA : RelP N π A A') (hB : RelP N π B B') :
    RelP N π (fun z ts => if c (hdT z ts) then A z ts else B z ts) (fun z ts => if c (hdT z ts) then A' z ts else B' z ts) := fun z ts ho => by
  by_cases hh : c (hdT z ts)
  · refine ⟨fun x r h => ?_, fun a k h => ?_⟩
    · simp only [if_pos hh] at h
      obtain ⟨u, e, n, h1⟩ := (hA z ts ho).1 x r h
      refine ⟨u, e, n, fun z' u' r' hu hr => ?_⟩
      obtain ⟨x', h2, h3⟩ := h1 z' u' r' hu hr
      have h4 : c (hdT z' (u' ++ r')) := (hc _ _ (by rw [e]; exact hd_app hu hr)).1 hh
      exact ⟨x', by simp only [if_pos h4]; exact h2, h3⟩
    · simp only [if_pos hh] at h
      obtain ⟨h1, h2⟩ := (hA z ts ho).2 a k h
      refine ⟨h1, fun z' us hu => ?_⟩
      obtain ⟨a', h3⟩ := h2 z' us hu
      have h4 : c (hdT z' us) := (hc _ _ (hu.hd z z')).1 hh
      exact ⟨a', by simp only [if_pos h4]; exact h3⟩
  · refine ⟨fun x r h => ?_, fun a k h => ?_⟩
    · simp only [if_neg hh] at h
      obtain ⟨u, e, n, h1⟩ := (hB z ts ho).1 x r h
      refine ⟨u, e, n, fun z' u' r' hu hr => ?_⟩
      obtain ⟨x', h2, h3⟩ := h1 z' u' r' hu hr
      have h4 : ¬ c (hdT z' (u' ++ r')) := fun h => hh ((hc _ _ (by rw [e]; exact hd_app hu hr)).2 h)
      exact ⟨x', by simp only [if_neg h4]; exact h2, h3⟩
    · simp only [if_neg hh] at h
      obtain ⟨h1, h2⟩ := (hB z ts ho).2 a k h
      refine ⟨h1, fun z' us hu => ?_⟩
      obtain ⟨a', h3⟩ := h2 z' us hu
      have h4 : ¬ c (hdT z' us) := fun h => hh ((hc _ _ (hu.hd z z')).2 h)
      exact ⟨a', by simp only [if_neg h4]; exact h3⟩
theorem RelP.skip {m : List UInt8} {A A' B B' : Ps α} (hm : m ≠ []) (hN : ∀ t : Tk, t.t = m → N t) (hA : RelP N π A A') (hB : RelP N π B B') :
    RelP N π (fun z ts => if (hdT z ts).t = m then A z ts.tail else B z ts) (fun z ts => if (hdT z ts).t = m then A' z ts.tail else B' z ts) := fun z ts ho => by
  by_cases hh : (hdT z ts).t = m
  · have hd := hd_tail hh hm
    have ho1 : Okt ts.tail := ho.suf (tail_suf ts)
    obtain ⟨c, hc⟩ : ∃ c, c = hdT z ts := ⟨_, rfl⟩
    refine ⟨fun x r h => ?_, fun a k h => ?_⟩
    · simp only [if_pos hh] at h
      obtain ⟨u, e, n, h1⟩ := (hA z _ ho1).1 x r h
      rw [← hc] at hd hh
      refine ⟨c :: u, by rw [List.cons_append, ← e]; exact hd, fun t ht => ?_, fun z' w r' hw hr => ?_⟩
      · rcases List.mem_cons.1 ht with rfl | ht
        · exact hN _ hh
        · exact n t ht
      · obtain ⟨c', u', rfl, hk, hu⟩ := hw.cons
        obtain ⟨x', h2, h3⟩ := h1 z' u' r' hu hr
        have h4 : (hdT z' ((c' :: u') ++ r')).t = m := (kt_t hk).symm.trans hh
        exact ⟨x', by simp only [if_pos h4]; exact h2, h3⟩
    · simp only [if_pos hh] at h
      obtain ⟨h1, h2⟩ := (hA z _ ho1).2 a k h
      refine ⟨h1.imp id fun ⟨t, ht, e⟩ => ⟨t, (tail_suf ts).subset ht, e⟩, fun z' us hu => ?_⟩
      have h4 : (hdT z' us).t = m := (kt_t (hu.hd z z')).symm.trans hh
      rw [hd] at hu
      obtain ⟨c', u', rfl, hk, hu⟩ := hu.cons
      obtain ⟨a', h3⟩ := h2 z' u' hu
      exact ⟨a', by simp only [if_pos h4]; exact h3⟩
  · refine ⟨fun x r h => ?_, fun a k h => ?_⟩
    · simp only [if_neg hh] at h
      obtain ⟨u, e, n, h1⟩ := (hB z ts ho).1 x r h
      refine ⟨u, e, n, fun z' u' r' hu hr => ?_⟩
      obtain ⟨x', h2, h3⟩ := h1 z' u' r' hu hr
      have h4 : ¬ (hdT z' (u' ++ r')).t = m := fun h => hh ((kt_t (show kt (hdT z ts) = kt (hdT z' (u' ++ r')) by rw [e]; exact hd_app hu hr)).trans h)
      exact ⟨x', by simp only [if_neg h4]; exact h2, h3⟩
    · simp only [if_neg hh] at h
      obtain ⟨h1, h2⟩ := (hB z ts ho).2 a k h
      refine ⟨h1, fun z' us hu => ?_⟩
      obtain ⟨a', h3⟩ := h2 z' us hu
      have h4 : ¬ (hdT z' us).t = m := fun h => hh ((kt_t (hu.hd z z')).trans h)
      exact ⟨a', by simp only [if_neg h4]; exact h3⟩
/-- A choice by two tokens, where both ways take one at least. -/
theorem RelP.ite2 {c : Tk → Tk → Prop} [∀ a b, Decidable (c a b)] {A A' B B' : Ps α} (hc : ∀ t u t' u', kt t = kt t' → kt u = kt u' → (c t u ↔ c t' u')) (hA : RelP N π A A') (hB : RelP N π B B')
    (sA : ∀ z ts, GoodT ts → Sk ts (A z ts)) (sB : ∀ z ts, GoodT ts → Sk ts (B z ts)) :
    RelP N π (fun z ts => if c (hdT z ts) (hdT z ts.tail) then A z ts else B z ts) (fun z ts => if c (hdT z ts) (hdT z ts.tail) then A' z ts else B' z ts) := fun z ts ho => by
  have key : ∀ (u r : List Tk), ts = u ++ r → r.length < ts.length → ∀ z' u' r', Eqv u u' → HdE z r z' r' → (c (hdT z ts) (hdT z ts.tail) ↔ c (hdT z' (u' ++ r')) (hdT z' (u' ++ r').tail)) := by
    intro u r e hl z' u' r' hu hr
    cases u with
    | nil => rw [e] at hl; simp at hl
    | cons t q =>
      obtain ⟨t', q', rfl, hk, hq⟩ := hu.cons
      subst e
      exact hc _ _ _ _ hk (hd_app hq hr)
  have key2 : ∀ z' us, Eqv ts us → (c (hdT z ts) (hdT z ts.tail) ↔ c (hdT z' us) (hdT z' us.tail)) := by
    intro z' us hu
    cases ts with
    | nil => rw [hu.nil]; exact hc _ _ _ _ rfl rfl
    | cons t q =>
      obtain ⟨t', q', rfl, hk, hq⟩ := hu.cons
      exact hc _ _ _ _ hk (hq.hd z z')
  by_cases hh : c (hdT z ts) (hdT z ts.tail)
  · refine ⟨fun x r h => ?_, fun a k h => ?_⟩
    · simp only [if_pos hh] at h
      obtain ⟨u, e, n, h1⟩ := (hA z ts ho).1 x r h
      refine ⟨u, e, n, fun z' u' r' hu hr => ?_⟩
      obtain ⟨x', h2, h3⟩ := h1 z' u' r' hu hr
      have h4 := (key u r e (sA z ts ho.1 x r h).2 z' u' r' hu hr).1 hh
      exact ⟨x', by simp only [if_pos h4]; exact h2, h3⟩
    · simp only [if_pos hh] at h
      obtain ⟨h1, h2⟩ := (hA z ts ho).2 a k h
      refine ⟨h1, fun z' us hu => ?_⟩
      obtain ⟨a', h3⟩ := h2 z' us hu
      have h4 := (key2 z' us hu).1 hh
      exact ⟨a', by simp only [if_pos h4]; exact h3⟩
  · refine ⟨fun x r h => ?_, fun a k h => ?_⟩
    · simp only [if_neg hh] at h
      obtain ⟨u, e, n, h1⟩ := (hB z ts ho).1 x r h
      refine ⟨u, e, n, fun z' u' r' hu hr => ?_⟩
      obtain ⟨x', h2, h3⟩ := h1 z' u' r' hu hr
      have h4 := fun h => hh ((key u r e (sB z ts ho.1 x r ‹_›).2 z' u' r' hu hr).2 h)
      exact ⟨x', by simp only [if_neg h4]; exact h2, h3⟩
    · simp only [if_neg hh] at h
      obtain ⟨h1, h2⟩ := (hB z ts ho).2 a k h
      refine ⟨h1, fun z' us hu => ?_⟩
      obtain ⟨a', h3⟩ := h2 z' us hu
      have h4 := fun h => hh ((key2 z' us hu).2 h)
      exact ⟨a', by simp only [if_neg h4]; exact h3⟩
theorem RelP.need {p : Tk → Bool} (hp : ∀ t u, kt t = kt u → p t = p u) (hN : ∀ t, (t.t = [63, 45] → t.k = 4) → p t = true → N t) : RelP N kt (needP p) (needP p) := fun z ts ho => by
  cases ts with
  | nil => exact ⟨fun x r h => (by cases h), fun a k h => by cases h; exact ⟨.inl rfl, fun z' us hu => ⟨z', by rw [hu.nil]; rfl⟩⟩⟩
  | cons t q =>
    cases hpt : p t with
    | true =>
      have e : needP p z (t :: q) = .ok t q := by simp [needP, hpt]
      rw [e]
      refine ⟨fun x r h => ?_, fun a k h => by cases h⟩
      cases h
      refine ⟨[t], rfl, fun u hu => ?_, fun z' u' r' hu hr => ?_⟩
      · obtain rfl := List.mem_singleton.1 hu
        exact hN _ (ho.2 _ (by simp)) hpt
      · obtain ⟨t', q', rfl, hk, hq⟩ := hu.cons
        obtain rfl := hq.nil
        exact ⟨t', by simp [needP, ← hp _ _ hk, hpt], hk⟩
    | false =>
      have e : needP p z (t :: q) = .no t.a 2 := by simp [needP, hpt]
      rw [e]
      refine ⟨fun x r h => (by cases h), fun a k h => ?_⟩
      cases h
      refine ⟨.inr ⟨t, by simp, rfl⟩, fun z' us hu => ?_⟩
      obtain ⟨t', q', rfl, hk, hq⟩ := hu.cons
      exact ⟨t'.a, by simp [needP, ← hp _ _ hk, hpt]⟩
theorem RelP.want {m : List UInt8} (hN : ∀ t : Tk, t.t = m → N t) : RelP N kt (wantP m) (wantP m) :=
  RelP.need (fun t u h => by unfold isX; rw [kt_t h]) fun t _ h => hN t (by simpa [isX] using h)
theorem RelP.weak {M : Tk → Prop} {f f' : Ps α} (h : RelP N π f f') (hM : ∀ t, N t → M t) : RelP M π f f' := fun z ts ho =>
  ⟨fun x r e => let ⟨u, h1, h2, h3⟩ := (h z ts ho).1 x r e; ⟨u, h1, fun t ht => hM t (h2 t ht), h3⟩, (h z ts ho).2⟩
end
/-! ### Paths -/
def NoQ (t : Tk) : Prop := t.t ≠ [63, 45]
theorem nq_of {m : List UInt8} (h : m ≠ [63, 45]) : ∀ t : Tk, t.t = m → NoQ t := fun t e => by unfold NoQ; rw [e]; exact h
theorem nq_kind {t : Tk} (h : t.t = [63, 45] → t.k = 4) (hk : t.k ≠ 4) : NoQ t := fun e => hk (h e)
theorem rel_pred : RelP NoQ kt (needP predT) (needP predT) := RelP.need (fun t u h => by unfold predT; rw [kt_k h, kt_t h]) fun t h hp => nq_kind h (by simp [predT] at hp; omega)
theorem rel_var : RelP NoQ kt (needP varT) (needP varT) := RelP.need (fun t u h => by unfold varT; rw [kt_k h]) fun t h hp => nq_kind h (by simp [varT] at hp; omega)
theorem rel_termT : RelP NoQ kt (needP termT) (needP termT) := RelP.need (fun t u h => by unfold termT; rw [kt_k h]) fun t h hp => nq_kind h (by simp [termT] at hp; omega)
theorem rel_cmp : RelP NoQ kt (needP cmpT) (needP cmpT) := RelP.need (fun t u h => by unfold cmpT; rw [kt_t h]) fun t h hp e => by simp [cmpT, e] at hp
theorem rel_op : RelP NoQ kt (needP opT) (needP opT) := RelP.need (fun t u h => by unfold opT; rw [kt_t h]) fun t h hp e => by simp [opT, opL, e] at hp
theorem stars_stop {z : Nat} {r : List Tk} (h : starK (hdT z r).t = none) (s : List St) : starsL s r = (s, r) := by
  cases r with
  | nil => rfl
  | cons t q => unfold starsL; rw [show starK t.t = none from h]
theorem stars_cut : ∀ (ts : List Tk) (s : List St), (∀ z, starK (hdT z (starsL s ts).2).t = none) ∧ ∃ u, ts = u ++ (starsL s ts).2 ∧ (∀ t ∈ u, starK t.t ≠ none) ∧ ∀ z' u' r', Eqv u u' → starK (hdT z' r').t = none → starsL s (u' ++ r') = ((starsL s ts).1, r')
  | [], s => ⟨fun _ => rfl, [], rfl, fun t ht => (by cases ht), fun z' u' r' hu hr => by rw [hu.nil]; exact stars_stop hr s⟩
  | t :: q, s => by
    cases e : starK t.t with
    | none =>
      have h : starsL s (t :: q) = (s, t :: q) := by rw [starsL, e]
      rw [h]
      exact ⟨fun _ => e, [], rfl, fun t ht => (by cases ht), fun z' u' r' hu hr => by rw [hu.nil]; exact stars_stop hr s⟩
    | some k =>
      have h : starsL s (t :: q) = starsL (s ++ [⟨k, []⟩]) q := by rw [starsL, e]
      rw [h]
      obtain ⟨h1, u, e1, n1, h2⟩ := stars_cut q (s ++ [⟨k, []⟩])
      refine ⟨h1, t :: u, by rw [List.cons_append, ← e1], fun x hx => ?_, fun z' w r' hw hr => ?_⟩
      · rcases List.mem_cons.1 hx with rfl | hx
        · rw [e]; simp
        · exact n1 x hx
      · obtain ⟨t', u', rfl, hk, hu⟩ := hw.cons
        rw [List.cons_append, starsL, ← kt_t hk, e]
        exact h2 z' u' r' hu hr
theorem rel_stars (s : List St) : RelP NoQ id (fun _ ts => .ok (starsL s ts).1 (starsL s ts).2) (fun _ ts => .ok (starsL s ts).1 (starsL s ts).2) := fun z ts ho => by
  refine ⟨fun x r h => ?_, fun a k h => by cases h⟩
  cases h
  obtain ⟨h1, u, e1, n1, h2⟩ := stars_cut ts s
  refine ⟨u, e1, fun t ht e => n1 t ht (by rw [e]; rfl), fun z' u' r' hu hr => ?_⟩
  have := h2 z' u' r' hu (by rw [← kt_t hr]; exact h1 z)
  exact ⟨_, by show Ans.ok (starsL s (u' ++ r')).1 (starsL s (u' ++ r')).2 = _; rw [this], rfl⟩
theorem rel_part {op : Ps (List St)} (h : RelP NoQ id op op) : RelP NoQ id (partP op) (partP op) :=
  RelP.bind (g := fun s _ ts => .ok (starsL s ts).1 (starsL s ts).2) (g' := fun s _ ts => .ok (starsL s ts).1 (starsL s ts).2) h fun a a' e => by cases e; exact rel_stars a
theorem rel_seqL {m : List UInt8} {k : Nat} {op : Ps (List St)} (h : RelP NoQ id op op) (hm : m ≠ []) (hq : m ≠ [63, 45]) : ∀ (n : Nat) (acc : List St), RelP NoQ id (fun z ts => seqL m k op z n acc ts) (fun z ts => seqL m k op z n acc ts)
  | 0, acc => RelP.ok (x := acc) (x' := acc) rfl
  | n + 1, acc => by
    have h1 := RelP.skip (m := m) hm (nq_of hq) (RelP.bind (g := fun s z r => seqL m k op z n (acc ++ s ++ [⟨k, []⟩]) r) (g' := fun s z r => seqL m k op z n (acc ++ s ++ [⟨k, []⟩]) r) h fun a a' e => by cases e; exact rel_seqL h hm hq n _) (RelP.ok (N := NoQ) (x := acc) (x' := acc) (π := id) rfl)
    exact h1
theorem rel_sequ {m : List UInt8} {k : Nat} {op : Ps (List St)} (h : RelP NoQ id op op) (hm : m ≠ []) (hq : m ≠ [63, 45]) : RelP NoQ id (sequP m k op) (sequP m k op) :=
  RelP.bind (g := fun s z r => seqL m k op z many s r) (g' := fun s z r => seqL m k op z many s r) h fun a a' e => by cases e; exact rel_seqL h hm hq many a
theorem rel_oper {inner : Option (Ps (List St))} (h : ∀ f, inner = some f → RelP NoQ id f f) : RelP NoQ id (operP inner) (operP inner) := by
  have h2 : RelP NoQ id (fun z ts => (needP predT z ts).bind fun t r => (.ok [⟨2, t.t⟩] r : Ans (List St))) (fun z ts => (needP predT z ts).bind fun t r => .ok [⟨2, t.t⟩] r) :=
    RelP.bind (g := fun t _ r => (.ok [⟨2, t.t⟩] r : Ans (List St))) (g' := fun t _ r => (.ok [⟨2, t.t⟩] r : Ans (List St))) rel_pred fun a a' e => RelP.ok (by rw [kt_t e])
  have h3 : RelP NoQ id (fun z ts => (needP predT z ts).bind fun t r => (.ok [⟨1, t.t⟩] r : Ans (List St))) (fun z ts => (needP predT z ts).bind fun t r => .ok [⟨1, t.t⟩] r) :=
    RelP.bind (g := fun t _ r => (.ok [⟨1, t.t⟩] r : Ans (List St))) (g' := fun t _ r => (.ok [⟨1, t.t⟩] r : Ans (List St))) rel_pred fun a a' e => RelP.ok (by rw [kt_t e])
  have h4 := RelP.skip (m := [94]) (by simp) (nq_of (by decide)) h2 h3
  cases inner with
  | none =>
    have h5 := RelP.ite (c := fun t => t.t = [40]) (fun t u e => by rw [kt_t e]) (RelP.fail (N := NoQ) (π := (id : List St → List St)) 3) h4
    exact h5
  | some f =>
    have h6 : RelP NoQ id (fun z ts => (f z ts).bind fun s r => (wantP [41] z r).bind fun _ r => (.ok s r : Ans (List St))) (fun z ts => (f z ts).bind fun s r => (wantP [41] z r).bind fun _ r => .ok s r) :=
      RelP.bind (g := fun s z r => (wantP [41] z r).bind fun _ r => .ok s r) (g' := fun s z r => (wantP [41] z r).bind fun _ r => .ok s r) (h f rfl) fun a a' e => by
        cases e
        exact RelP.bind (g := fun _ _ r => .ok a r) (g' := fun _ _ r => .ok a r) (RelP.want (nq_of (by decide))) fun _ _ _ => RelP.ok rfl
    have h5 := RelP.skip (m := [40]) (by simp) (nq_of (by decide)) h6 h4
    exact h5
theorem rel_pathB {inner : Option (Ps (List St))} (h : ∀ f, inner = some f → RelP NoQ id f f) : RelP NoQ id (pathB inner) (pathB inner) := by
  have h1 := rel_sequ (m := [124]) (k := 4) (rel_sequ (m := [47]) (k := 3) (rel_part (rel_oper h)) (by simp) (by decide)) (by simp) (by decide)
  intro z ts ho
  have hz := h1 z ts ho
  show (∀ x r, ((sequP [124] 4 (altP inner) z ts).bind fun s r => if 100 < s.length then .no (hdT z ts).a 4 else .ok s r) = .ok x r → _) ∧ _
  change (∀ x r, sequP [124] 4 (altP inner) z ts = .ok x r → _) ∧ (∀ a k, sequP [124] 4 (altP inner) z ts = .no a k → _) at hz
  have un : ∀ z' us, pathB inner z' us = (sequP [124] 4 (altP inner) z' us).bind fun s r => if 100 < s.length then .no (hdT z' us).a 4 else .ok s r := fun _ _ => rfl
  cases e : sequP [124] 4 (altP inner) z ts with
  | no a k =>
    refine ⟨fun x r h => (by cases h), fun a' k' h => ?_⟩
    rw [un, e] at h; cases h
    obtain ⟨h2, h3⟩ := hz.2 a k e
    refine ⟨h2, fun z' us hu => ?_⟩
    obtain ⟨b, h4⟩ := h3 z' us hu
    exact ⟨b, by rw [un]; erw [h4]; rfl⟩
  | ok s r1 =>
    obtain ⟨u, e1, n1, h2⟩ := hz.1 s r1 e
    by_cases hl : 100 < s.length
    · refine ⟨fun x r h => (by simp only [Ans.bind, if_pos hl] at h; cases h), fun a' k' h => ?_⟩
      rw [un, e] at h; simp only [Ans.bind, if_pos hl] at h; cases h
      refine ⟨hdT_pos z ts, fun z' us hu => ?_⟩
      rw [e1] at hu
      obtain ⟨w, s1, rfl, q1, q2⟩ := hu.cut
      obtain ⟨x', h4, hx⟩ := h2 z' w s1 q1 (q2.hd z z')
      cases hx
      exact ⟨(hdT z' (w ++ s1)).a, by rw [un]; erw [h4]; simp only [Ans.bind, if_pos hl]⟩
    · refine ⟨fun x r h => ?_, fun a' k' h => (by rw [un, e] at h; simp only [Ans.bind, if_neg hl] at h; cases h)⟩
      simp only [Ans.bind, if_neg hl] at h; cases h
      refine ⟨u, e1, n1, fun z' u' r' hu hr => ?_⟩
      obtain ⟨x', h4, hx⟩ := h2 z' u' r' hu hr
      cases hx
      exact ⟨s, by rw [un]; erw [h4]; simp only [Ans.bind, if_neg hl], rfl⟩
theorem rel_path : ∀ k, RelP NoQ id (pathP k) (pathP k)
  | 0 => rel_pathB fun f e => by cases e
  | k + 1 => rel_pathB fun f e => by cases e; exact rel_path k
end Go.Proofs.YtncafadjcelloaaDoor
namespace Go.Proofs.YtncafadjcelloaaDoor
open Go.RowKit FloM ValM Go.Shelf
set_option linter.unusedVariables false
set_option linter.unusedSimpArgs false
theorem termOf_kt {t u : Tk} (h : kt t = kt u) : termOf t = termOf u := by unfold termOf; rw [kt_k h, kt_t h]
theorem rel_term : RelP NoQ id termP termP := RelP.bind (ρ := id) (g := fun t _ r => .ok (termOf t) r) (g' := fun t _ r => .ok (termOf t) r) rel_termT fun a a' e => RelP.ok (by rw [termOf_kt e])
def headR (t : Tk) : Ps (Tm × Nat) := fun z ts => (needP varT z ts).bind fun t' r => (wantP [41] z r).bind fun _ r => if (hdT z r).t = [41] then .ok (⟨t'.t, v0⟩, foldN t.t) r else failP 2 z r
def headG (t : Tk) : Ps (Tm × Nat) := fun z ts => if foldN t.t = 0 then .ok (termOf t, 0) ts else if (hdT z ts).t = [40] then headR t z ts.tail else .ok (termOf t, 0) ts
theorem headP_eq : headP = fun z ts => (needP termT z ts).bind fun t r => headG t z r := by
  funext z ts
  cases ts with
  | nil => rfl
  | cons c q =>
    unfold headP termP headG headR
    cases h : termT c with
    | false => simp only [needP, h, Ans.bind]; rfl
    | true =>
      have e : needP termT z (c :: q) = .ok c q := by simp [needP, h]
      simp only [e, Ans.bind]
      by_cases h1 : foldN c.t = 0
      · rw [if_pos (.inl h1), if_pos h1]
      · by_cases h2 : (hdT z q).t = [40]
        · rw [if_neg (fun h => h.elim h1 fun h => h h2), if_neg h1, if_pos h2]
          rfl
        · rw [if_pos (.inr h2), if_neg h1, if_neg h2]
theorem rel_headG {t u : Tk} (h : kt t = kt u) : RelP NoQ id (headG t) (headG u) := by
  have e1 : headG u = headG t := by unfold headG headR; rw [termOf_kt h, kt_t h]
  rw [e1]
  by_cases h1 : foldN t.t = 0
  · have e : headG t = fun _ ts => .ok (termOf t, 0) ts := by funext z ts; unfold headG; rw [if_pos h1]
    rw [e]; exact RelP.ok rfl
  · have e : headG t = fun z ts => if (hdT z ts).t = [40] then headR t z ts.tail else .ok (termOf t, 0) ts := by funext z ts; unfold headG; rw [if_neg h1]
    rw [e]
    have h2 : RelP NoQ id (headR t) (headR t) := by
      refine RelP.bind (ρ := id) (g := fun t' z r => (wantP [41] z r).bind fun _ r => if (hdT z r).t = [41] then (.ok (⟨t'.t, v0⟩, foldN t.t) r : Ans (Tm × Nat)) else failP 2 z r) (g' := fun t' z r => (wantP [41] z r).bind fun _ r => if (hdT z r).t = [41] then (.ok (⟨t'.t, v0⟩, foldN t.t) r : Ans (Tm × Nat)) else failP 2 z r) rel_var fun a a' e => ?_
      rw [kt_t e]
      refine RelP.bind (ρ := id) (g := fun _ z r => if (hdT z r).t = [41] then (.ok (⟨a'.t, v0⟩, foldN t.t) r : Ans (Tm × Nat)) else failP 2 z r) (g' := fun _ z r => if (hdT z r).t = [41] then (.ok (⟨a'.t, v0⟩, foldN t.t) r : Ans (Tm × Nat)) else failP 2 z r) (RelP.want (nq_of (by decide))) fun _ _ _ => ?_
      exact RelP.ite (c := fun t => t.t = [41]) (fun t u e => by rw [kt_t e]) (RelP.ok rfl) (RelP.fail 2)
    exact RelP.skip (m := [40]) (by simp) (nq_of (by decide)) h2 (RelP.ok rfl)
theorem rel_head : RelP NoQ id headP headP := by
  rw [headP_eq]
  exact RelP.bind (ρ := id) (g := fun t z r => headG t z r) (g' := fun t z r => headG t z r) rel_termT fun a a' e => rel_headG e
theorem rel_listL {α : Type} {most : Nat} {item : Ps α} (h : RelP NoQ id item item) : ∀ (n : Nat) (acc : List α), RelP NoQ id (fun z ts => listL most item z n acc ts) (fun z ts => listL most item z n acc ts)
  | 0, acc => RelP.ok (x := acc) (x' := acc) rfl
  | n + 1, acc => by
    have h1 : RelP NoQ id (fun z ts => (item z ts).bind fun x r => listL most item z n (acc ++ [x]) r) (fun z ts => (item z ts).bind fun x r => listL most item z n (acc ++ [x]) r) :=
      RelP.bind (ρ := id) (g := fun x z r => listL most item z n (acc ++ [x]) r) (g' := fun x z r => listL most item z n (acc ++ [x]) r) h fun a a' e => by cases e; exact rel_listL h n _
    have h2 := RelP.ite (c := fun t => acc.length = most ∧ termT t = true) (fun t u e => by unfold termT; rw [kt_k e]) (RelP.fail (N := NoQ) (π := (id : List α → List α)) 4) h1
    have h3 := RelP.skip (m := [44]) (by simp) (nq_of (by decide)) h2 (RelP.ok (N := NoQ) (x := acc) (x' := acc) (π := id) rfl)
    exact h3
theorem rel_list {α : Type} {most : Nat} {item : Ps α} (h : RelP NoQ id item item) : RelP NoQ id (listP most item) (listP most item) :=
  RelP.bind (ρ := id) (g := fun x z r => listL most item z many [x] r) (g' := fun x z r => listL most item z many [x] r) h fun a a' e => by cases e; exact rel_listL h many [a]
theorem rel_atomB {α : Type} {arg : Ps α} (h : RelP NoQ id arg arg) : RelP NoQ id (atomB arg) (atomB arg) := by
  refine RelP.bind (ρ := id) (g := fun t z r => if (hdT z r).t = [40] then (listP 8 arg z r.tail).bind fun l r => (wantP [41] z r).bind fun _ r => .ok (t.t, l) r else .ok (t.t, []) r) (g' := fun t z r => if (hdT z r).t = [40] then (listP 8 arg z r.tail).bind fun l r => (wantP [41] z r).bind fun _ r => .ok (t.t, l) r else .ok (t.t, []) r) rel_pred fun t u e => ?_
  rw [kt_t e]
  have h1 : RelP NoQ id (fun z ts => (listP 8 arg z ts).bind fun l r => (wantP [41] z r).bind fun _ r => (.ok (u.t, l) r : Ans (List UInt8 × List α))) (fun z ts => (listP 8 arg z ts).bind fun l r => (wantP [41] z r).bind fun _ r => .ok (u.t, l) r) :=
    RelP.bind (ρ := id) (g := fun l z r => (wantP [41] z r).bind fun _ r => .ok (u.t, l) r) (g' := fun l z r => (wantP [41] z r).bind fun _ r => .ok (u.t, l) r) (rel_list h) fun a a' e => by
      cases e
      exact RelP.bind (ρ := id) (g := fun _ _ r => .ok (u.t, a) r) (g' := fun _ _ r => .ok (u.t, a) r) (RelP.want (nq_of (by decide))) fun _ _ _ => RelP.ok rfl
  exact RelP.skip (m := [40]) (by simp) (nq_of (by decide)) h1 (RelP.ok rfl)
theorem rel_atom : RelP NoQ id atomP atomP := RelP.bind (ρ := id) (g := fun (x : List UInt8 × List Tm) _ r => (.ok ⟨x.1, x.2⟩ r : Ans Am)) (g' := fun (x : List UInt8 × List Tm) _ r => (.ok ⟨x.1, x.2⟩ r : Ans Am)) (rel_atomB rel_term) fun a a' e => by cases e; exact RelP.ok rfl
theorem rel_comp : RelP NoQ id compP compP :=
  RelP.bind (ρ := id) (g := fun a z r => (needP cmpT z r).bind fun o r => (termP z r).bind fun b r => (.ok ⟨3, am0, o.t, a, b, tm0, []⟩ r : Ans Lt)) (g' := fun a z r => (needP cmpT z r).bind fun o r => (termP z r).bind fun b r => (.ok ⟨3, am0, o.t, a, b, tm0, []⟩ r : Ans Lt)) rel_term fun a a' e => by
    cases e
    exact RelP.bind (ρ := id) (g := fun o z r => (termP z r).bind fun b r => (.ok ⟨3, am0, o.t, a, b, tm0, []⟩ r : Ans Lt)) (g' := fun o z r => (termP z r).bind fun b r => (.ok ⟨3, am0, o.t, a, b, tm0, []⟩ r : Ans Lt)) rel_cmp fun o o' e => by
      rw [kt_t e]
      exact RelP.bind (ρ := id) (g := fun b _ r => (.ok ⟨3, am0, o'.t, a, b, tm0, []⟩ r : Ans Lt)) (g' := fun b _ r => (.ok ⟨3, am0, o'.t, a, b, tm0, []⟩ r : Ans Lt)) rel_term fun b b' e => by cases e; exact RelP.ok rfl
theorem rel_let : RelP NoQ id letP letP :=
  RelP.bind (ρ := id) (g := fun a z r => (wantP [105, 115] z r).bind fun _ r => (termP z r).bind fun b r => (needP opT z r).bind fun o r => (termP z r).bind fun c r => (.ok ⟨4, am0, opL o.t, a, b, c, []⟩ r : Ans Lt)) (g' := fun a z r => (wantP [105, 115] z r).bind fun _ r => (termP z r).bind fun b r => (needP opT z r).bind fun o r => (termP z r).bind fun c r => (.ok ⟨4, am0, opL o.t, a, b, c, []⟩ r : Ans Lt)) rel_term fun a a' e => by
    cases e
    exact RelP.bind (ρ := id) (g := fun _ z r => (termP z r).bind fun b r => (needP opT z r).bind fun o r => (termP z r).bind fun c r => (.ok ⟨4, am0, opL o.t, a, b, c, []⟩ r : Ans Lt)) (g' := fun _ z r => (termP z r).bind fun b r => (needP opT z r).bind fun o r => (termP z r).bind fun c r => (.ok ⟨4, am0, opL o.t, a, b, c, []⟩ r : Ans Lt)) (RelP.want (nq_of (by decide))) fun _ _ _ =>
      RelP.bind (ρ := id) (g := fun b z r => (needP opT z r).bind fun o r => (termP z r).bind fun c r => (.ok ⟨4, am0, opL o.t, a, b, c, []⟩ r : Ans Lt)) (g' := fun b z r => (needP opT z r).bind fun o r => (termP z r).bind fun c r => (.ok ⟨4, am0, opL o.t, a, b, c, []⟩ r : Ans Lt)) rel_term fun b b' e => by
        cases e
        exact RelP.bind (ρ := id) (g := fun o z r => (termP z r).bind fun c r => (.ok ⟨4, am0, opL o.t, a, b, c, []⟩ r : Ans Lt)) (g' := fun o z r => (termP z r).bind fun c r => (.ok ⟨4, am0, opL o.t, a, b, c, []⟩ r : Ans Lt)) rel_op fun o o' e => by
          rw [kt_t e]
          exact RelP.bind (ρ := id) (g := fun c _ r => (.ok ⟨4, am0, opL o'.t, a, b, c, []⟩ r : Ans Lt)) (g' := fun c _ r => (.ok ⟨4, am0, opL o'.t, a, b, c, []⟩ r : Ans Lt)) rel_term fun c c' e => by cases e; exact RelP.ok rfl
theorem rel_wantK {β : Type} {m : List UInt8} (hm : m ≠ [63, 45]) {g : Ps β} (h : RelP NoQ id g g) : RelP NoQ id (fun z ts => (wantP m z ts).bind fun _ r => g z r) (fun z ts => (wantP m z ts).bind fun _ r => g z r) :=
  RelP.bind (ρ := id) (g := fun _ z r => g z r) (g' := fun _ z r => g z r) (RelP.want (nq_of hm)) fun _ _ _ => h
theorem rel_walk : RelP NoQ id walkP walkP := by
  refine rel_wantK (g := fun z r => (wantP [40] z r).bind fun _ r => (termP z r).bind fun a r => (wantP [44] z r).bind fun _ r => (pathP 32 z r).bind fun p r => (wantP [44] z r).bind fun _ r => (termP z r).bind fun b r => (wantP [41] z r).bind fun _ r => (.ok ⟨5, am0, [], a, b, tm0, p⟩ r : Ans Lt)) (by decide) ?_
  refine rel_wantK (g := fun z r => (termP z r).bind fun a r => (wantP [44] z r).bind fun _ r => (pathP 32 z r).bind fun p r => (wantP [44] z r).bind fun _ r => (termP z r).bind fun b r => (wantP [41] z r).bind fun _ r => (.ok ⟨5, am0, [], a, b, tm0, p⟩ r : Ans Lt)) (by decide) ?_
  refine RelP.bind (ρ := id) (g := fun a z r => (wantP [44] z r).bind fun _ r => (pathP 32 z r).bind fun p r => (wantP [44] z r).bind fun _ r => (termP z r).bind fun b r => (wantP [41] z r).bind fun _ r => (.ok ⟨5, am0, [], a, b, tm0, p⟩ r : Ans Lt)) (g' := fun a z r => (wantP [44] z r).bind fun _ r => (pathP 32 z r).bind fun p r => (wantP [44] z r).bind fun _ r => (termP z r).bind fun b r => (wantP [41] z r).bind fun _ r => (.ok ⟨5, am0, [], a, b, tm0, p⟩ r : Ans Lt)) rel_term fun a a' e => ?_
  cases e
  refine rel_wantK (g := fun z r => (pathP 32 z r).bind fun p r => (wantP [44] z r).bind fun _ r => (termP z r).bind fun b r => (wantP [41] z r).bind fun _ r => (.ok ⟨5, am0, [], a, b, tm0, p⟩ r : Ans Lt)) (by decide) ?_
  refine RelP.bind (ρ := id) (g := fun p z r => (wantP [44] z r).bind fun _ r => (termP z r).bind fun b r => (wantP [41] z r).bind fun _ r => (.ok ⟨5, am0, [], a, b, tm0, p⟩ r : Ans Lt)) (g' := fun p z r => (wantP [44] z r).bind fun _ r => (termP z r).bind fun b r => (wantP [41] z r).bind fun _ r => (.ok ⟨5, am0, [], a, b, tm0, p⟩ r : Ans Lt)) (rel_path 32) fun p p' e => ?_
  cases e
  refine rel_wantK (g := fun z r => (termP z r).bind fun b r => (wantP [41] z r).bind fun _ r => (.ok ⟨5, am0, [], a, b, tm0, p⟩ r : Ans Lt)) (by decide) ?_
  refine RelP.bind (ρ := id) (g := fun b z r => (wantP [41] z r).bind fun _ r => (.ok ⟨5, am0, [], a, b, tm0, p⟩ r : Ans Lt)) (g' := fun b z r => (wantP [41] z r).bind fun _ r => (.ok ⟨5, am0, [], a, b, tm0, p⟩ r : Ans Lt)) rel_term fun b b' e => ?_
  cases e
  exact rel_wantK (g := fun _ r => (.ok ⟨5, am0, [], a, b, tm0, p⟩ r : Ans Lt)) (by decide) (RelP.ok rfl)
/-- A literal that begins with no comparison behind its first token, and with no 'is'. -/
def litCc : Ps Lt := fun z ts =>
  if (hdT z ts).t = [110, 111, 116] then (wantP [110, 111, 116] z ts).bind fun _ r => (atomP z r).bind fun m r => .ok ⟨2, m, [], tm0, tm0, tm0, []⟩ r
  else if (hdT z ts).t = [119, 97, 108, 107] then walkP z ts
  else if predT (hdT z ts) = true then (atomP z ts).bind fun m r => .ok ⟨1, m, [], tm0, tm0, tm0, []⟩ r
  else compP z ts
def litB : Ps Lt := fun z ts => if varT (hdT z ts) = true ∧ (hdT z ts.tail).t = [105, 115] then letP z ts else litCc z ts
theorem litP_eq : litP = fun z ts => if cmpT (hdT z ts.tail) = true then compP z ts else litB z ts := rfl
theorem litCc_sk (z : Nat) (ts : List Tk) (hg : GoodT ts) : Sk ts (litCc z ts) := by
  unfold litCc
  split
  · exact (want_sk _ z ts).bind fun _ r0 h0 => (atom_sk (hg.suf h0)).wk.bind fun m r1 _ => Wk.ok _
  split
  · exact walk_sk hg
  split
  · exact (atom_sk hg).bind fun m r1 _ => Wk.ok _
  · exact comp_sk z ts
theorem litB_sk (z : Nat) (ts : List Tk) (hg : GoodT ts) : Sk ts (litB z ts) := by
  unfold litB
  split
  · exact let_sk z ts
  · exact litCc_sk z ts hg
theorem rel_litCc : RelP NoQ id litCc litCc := by
  have h1 : RelP NoQ id (fun z ts => (wantP [110, 111, 116] z ts).bind fun _ r => (atomP z r).bind fun m r => (.ok ⟨2, m, [], tm0, tm0, tm0, []⟩ r : Ans Lt)) (fun z ts => (wantP [110, 111, 116] z ts).bind fun _ r => (atomP z r).bind fun m r => (.ok ⟨2, m, [], tm0, tm0, tm0, []⟩ r : Ans Lt)) :=
    rel_wantK (g := fun z r => (atomP z r).bind fun m r => (.ok ⟨2, m, [], tm0, tm0, tm0, []⟩ r : Ans Lt)) (by decide) (RelP.bind (ρ := id) (g := fun m _ r => (.ok ⟨2, m, [], tm0, tm0, tm0, []⟩ r : Ans Lt)) (g' := fun m _ r => (.ok ⟨2, m, [], tm0, tm0, tm0, []⟩ r : Ans Lt)) rel_atom fun m m' e => by cases e; exact RelP.ok rfl)
  have h2 : RelP NoQ id (fun z ts => (atomP z ts).bind fun m r => (.ok ⟨1, m, [], tm0, tm0, tm0, []⟩ r : Ans Lt)) (fun z ts => (atomP z ts).bind fun m r => (.ok ⟨1, m, [], tm0, tm0, tm0, []⟩ r : Ans Lt)) :=
    RelP.bind (ρ := id) (g := fun m _ r => (.ok ⟨1, m, [], tm0, tm0, tm0, []⟩ r : Ans Lt)) (g' := fun m _ r => (.ok ⟨1, m, [], tm0, tm0, tm0, []⟩ r : Ans Lt)) rel_atom fun m m' e => by cases e; exact RelP.ok rfl
  have h3 := RelP.ite (c := fun t => predT t = true) (fun t u e => by unfold predT; rw [kt_k e, kt_t e]) h2 rel_comp
  have h4 := RelP.ite (c := fun t => t.t = [119, 97, 108, 107]) (fun t u e => by rw [kt_t e]) rel_walk h3
  have h5 := RelP.ite (c := fun t => t.t = [110, 111, 116]) (fun t u e => by rw [kt_t e]) h1 h4
  exact h5
theorem rel_litB : RelP NoQ id litB litB := by
  have h := RelP.ite2 (c := fun t u => varT t = true ∧ u.t = [105, 115]) (fun t u t' u' e1 e2 => by unfold varT; rw [kt_k e1, kt_t e2]) rel_let rel_litCc (fun z ts _ => let_sk z ts) litCc_sk
  exact h
theorem rel_lit : RelP NoQ id litP litP := by
  rw [litP_eq]
  have h := RelP.ite2 (c := fun t u => cmpT u = true) (fun t u t' u' e1 e2 => by unfold cmpT; rw [kt_t e2]) rel_comp rel_litB (fun z ts _ => comp_sk z ts) litB_sk
  exact h
/-- Behind the head of a rule. -/
def ruleB (h : List UInt8 × List (Tm × Nat)) : Ps Rl := fun z r =>
  if (hdT z r).t = [58, 45] then (listP 12 litP z r.tail).bind fun b r => (wantP [46] z r).bind fun _ r => .ok ⟨⟨h.1, h.2.map Prod.fst⟩, (h.2.getLast?.map Prod.snd).getD 0, b⟩ r
  else (wantP [46] z r).bind fun _ r => .ok ⟨⟨h.1, h.2.map Prod.fst⟩, (h.2.getLast?.map Prod.snd).getD 0, []⟩ r
theorem rel_ruleB (h : List UInt8 × List (Tm × Nat)) : RelP NoQ id (ruleB h) (ruleB h) := by
  have h1 : RelP NoQ id (fun z ts => (listP 12 litP z ts).bind fun b r => (wantP [46] z r).bind fun _ r => (.ok ⟨⟨h.1, h.2.map Prod.fst⟩, (h.2.getLast?.map Prod.snd).getD 0, b⟩ r : Ans Rl)) (fun z ts => (listP 12 litP z ts).bind fun b r => (wantP [46] z r).bind fun _ r => .ok ⟨⟨h.1, h.2.map Prod.fst⟩, (h.2.getLast?.map Prod.snd).getD 0, b⟩ r) :=
    RelP.bind (ρ := id) (g := fun b z r => (wantP [46] z r).bind fun _ r => (.ok ⟨⟨h.1, h.2.map Prod.fst⟩, (h.2.getLast?.map Prod.snd).getD 0, b⟩ r : Ans Rl)) (g' := fun b z r => (wantP [46] z r).bind fun _ r => (.ok ⟨⟨h.1, h.2.map Prod.fst⟩, (h.2.getLast?.map Prod.snd).getD 0, b⟩ r : Ans Rl)) (rel_list rel_lit) fun b b' e => by
      cases e
      exact rel_wantK (g := fun _ r => (.ok ⟨⟨h.1, h.2.map Prod.fst⟩, (h.2.getLast?.map Prod.snd).getD 0, b⟩ r : Ans Rl)) (by decide) (RelP.ok rfl)
  have h2 : RelP NoQ id (fun z ts => (wantP [46] z ts).bind fun _ r => (.ok ⟨⟨h.1, h.2.map Prod.fst⟩, (h.2.getLast?.map Prod.snd).getD 0, []⟩ r : Ans Rl)) (fun z ts => (wantP [46] z ts).bind fun _ r => .ok ⟨⟨h.1, h.2.map Prod.fst⟩, (h.2.getLast?.map Prod.snd).getD 0, []⟩ r) :=
    rel_wantK (g := fun _ r => (.ok ⟨⟨h.1, h.2.map Prod.fst⟩, (h.2.getLast?.map Prod.snd).getD 0, []⟩ r : Ans Rl)) (by decide) (RelP.ok rfl)
  exact RelP.skip (m := [58, 45]) (by simp) (nq_of (by decide)) h1 h2
theorem rel_rule : RelP NoQ id ruleP ruleP := RelP.bind (ρ := id) (g := fun h z r => ruleB h z r) (g' := fun h z r => ruleB h z r) (rel_atomB rel_head) fun a a' e => by cases e; exact rel_ruleB a
theorem rel_rulesL : ∀ (n : Nat) (acc : List Rl), RelP NoQ id (fun z ts => rulesL z n acc ts) (fun z ts => rulesL z n acc ts)
  | 0, acc => RelP.ok (x := acc) (x' := acc) rfl
  | n + 1, acc => by
    have h0 : RelP NoQ id (fun z ts => if acc.length = 200 then failP 4 z ts else (ruleP z ts).bind fun x r => rulesL z n (acc ++ [x]) r) (fun z ts => if acc.length = 200 then failP 4 z ts else (ruleP z ts).bind fun x r => rulesL z n (acc ++ [x]) r) := by
      by_cases hl : acc.length = 200
      · simp only [if_pos hl]; exact RelP.fail 4
      · simp only [if_neg hl]
        exact RelP.bind (ρ := id) (g := fun x z r => rulesL z n (acc ++ [x]) r) (g' := fun x z r => rulesL z n (acc ++ [x]) r) rel_rule fun a a' e => by cases e; exact rel_rulesL n _
    have h1 := RelP.ite (c := fun t => predT t = true) (fun t u e => by unfold predT; rw [kt_k e, kt_t e]) h0 (RelP.ok (N := NoQ) (x := acc) (x' := acc) (π := id) rfl)
    exact h1
theorem rel_prog : RelP (fun _ => True) id progP progP := by
  have h0 : RelP (fun _ => True) id (fun z ts => rulesL z many [] ts) (fun z ts => rulesL z many [] ts) := (rel_rulesL many []).weak fun _ _ => trivial
  refine RelP.bind (ρ := id) (g := fun l z r => (wantP [63, 45] z r).bind fun _ r => (atomP z r).bind fun q r => (wantP [46] z r).bind fun _ r => (.ok ⟨l, q⟩ r : Ans Pg)) (g' := fun l z r => (wantP [63, 45] z r).bind fun _ r => (atomP z r).bind fun q r => (wantP [46] z r).bind fun _ r => (.ok ⟨l, q⟩ r : Ans Pg)) h0 fun l l' e => ?_
  cases e
  refine RelP.bind (ρ := id) (g := fun _ z r => (atomP z r).bind fun q r => (wantP [46] z r).bind fun _ r => (.ok ⟨l, q⟩ r : Ans Pg)) (g' := fun _ z r => (atomP z r).bind fun q r => (wantP [46] z r).bind fun _ r => (.ok ⟨l, q⟩ r : Ans Pg)) (RelP.want fun _ _ => trivial) fun _ _ _ => ?_
  refine RelP.bind (ρ := id) (g := fun q z r => (wantP [46] z r).bind fun _ r => (.ok ⟨l, q⟩ r : Ans Pg)) (g' := fun q z r => (wantP [46] z r).bind fun _ r => (.ok ⟨l, q⟩ r : Ans Pg)) (rel_atom.weak fun _ _ => trivial) fun q q' e => ?_
  cases e
  exact RelP.bind (ρ := id) (g := fun _ _ r => (.ok ⟨l, q⟩ r : Ans Pg)) (g' := fun _ _ r => (.ok ⟨l, q⟩ r : Ans Pg)) (RelP.want fun _ _ => trivial) fun _ _ _ => RelP.ok rfl
/-- The whole of a text, of which the tokens stand elsewhere. -/
theorem whole_alike {z z' : Nat} {ts us : List Tk} (ho : Okt ts) (hu : Eqv ts us) :
    (∀ x r, wholeP progP z ts = .ok x r → wholeP progP z' us = .ok x []) ∧ (∀ a k, wholeP progP z ts = .no a k → (a = z ∨ ∃ t ∈ ts, a = t.a) ∧ ∃ a', wholeP progP z' us = .no a' k) := by
  have h := rel_prog z ts ho
  unfold wholeP
  cases e : progP z ts with
  | no a k =>
    refine ⟨fun x r h => (by cases h), fun a' k' h' => ?_⟩
    cases h'
    obtain ⟨h1, h2⟩ := h.2 a k e
    obtain ⟨b, h3⟩ := h2 z' us hu
    exact ⟨h1, b, by rw [h3]; rfl⟩
  | ok x r =>
    obtain ⟨u, e1, _, h1⟩ := h.1 x r e
    rw [e1] at hu
    obtain ⟨w, s, rfl, q1, q2⟩ := hu.cut
    obtain ⟨x', h2, h3⟩ := h1 z' w s q1 (q2.hd z z')
    cases h3
    rw [h2]
    simp only [Ans.bind]
    cases r with
    | nil => rw [q2.nil]; exact ⟨fun y q e => (by cases e; rfl), fun a k e => (by cases e)⟩
    | cons t r =>
      obtain ⟨t', s', rfl, hk, hs⟩ := q2.cons
      refine ⟨fun y q e => (by cases e), fun a k e => ?_⟩
      cases e
      exact ⟨.inr ⟨t, by rw [e1]; simp, rfl⟩, t'.a, rfl⟩
end Go.Proofs.YtncafadjcelloaaDoor
namespace Go.Proofs.YtncafadjcelloaaDoor
open Go.RowKit FloM ValM Go.Shelf
set_option linter.unusedVariables false
set_option linter.unusedSimpArgs false
/-- A method that looks at nothing behind what it takes. -/
def FinP {α : Type} (f : Ps α) : Prop := ∀ z ts, Okt ts → ∀ x r, f z ts = .ok x r → ∃ u, ts = u ++ r ∧ u ≠ [] ∧ (∀ t ∈ u, NoQ t) ∧ ∀ z' u' r', Eqv u u' → f z' (u' ++ r') = .ok x r'
theorem hd_ne {u w r r' : List Tk} {z z' : Nat} (h : Eqv u w) (hu : u ≠ []) : HdE z (u ++ r) z' (w ++ r') := by
  cases u with
  | nil => exact absurd rfl hu
  | cons t q => obtain ⟨t', r'', rfl, h1, _⟩ := h.cons; exact h1
theorem FinP.bind {α β : Type} {f : Ps α} {g : α → Ps β} (hf : RelP NoQ id f f) (hg : ∀ a, FinP (g a)) : FinP (fun z ts => (f z ts).bind fun a r => g a z r) := fun z ts ho x r h => by
  obtain ⟨a, r1, e1, e2⟩ := bind_ok h
  obtain ⟨u1, c1, n1, h1⟩ := (hf z ts ho).1 a r1 e1
  obtain ⟨u2, c2, n0, n2, h2⟩ := hg a z r1 (ho.suf ⟨u1, c1.symm⟩) x r e2
  refine ⟨u1 ++ u2, by rw [c1, c2, List.append_assoc], by simp [n0], fun t ht => (List.mem_append.1 ht).elim (n1 t) (n2 t), fun z' w r' hw => ?_⟩
  obtain ⟨w1, w2, rfl, q1, q2⟩ := hw.cut
  obtain ⟨a', h3, hp⟩ := h1 z' w1 (w2 ++ r') q1 (by rw [c2]; exact hd_ne q2 n0)
  cases hp
  simp only [List.append_assoc, h3, Ans.bind]
  exact h2 z' w2 r' q2
theorem FinP.want {β : Type} {m : List UInt8} (hm : m ≠ [63, 45]) (x : β) : FinP (fun z ts => (wantP m z ts).bind fun _ r => .ok x r) := fun z ts ho y r h => by
  obtain ⟨a, r1, e1, e2⟩ := bind_ok h
  cases e2
  have c := need_len e1
  refine ⟨[a], c.1, by simp, fun t ht => ?_, fun z' u' r' hu => ?_⟩
  · obtain rfl := List.mem_singleton.1 ht
    exact nq_of hm _ (by simpa [isX] using c.2)
  · obtain ⟨t', q', rfl, hk, hq⟩ := hu.cons
    obtain rfl := hq.nil
    have h2 : isX m t' = true := by have := c.2; unfold isX at *; rwa [← kt_t hk]
    simp [wantP, needP, h2, Ans.bind]
theorem fin_ruleB (h : List UInt8 × List (Tm × Nat)) : FinP (ruleB h) := by
  have f2 : FinP (fun z r => (listP 12 litP z r).bind fun b r => (wantP [46] z r).bind fun _ r => (.ok ⟨⟨h.1, h.2.map Prod.fst⟩, (h.2.getLast?.map Prod.snd).getD 0, b⟩ r : Ans Rl)) :=
    FinP.bind (g := fun b z r => (wantP [46] z r).bind fun _ r => (.ok ⟨⟨h.1, h.2.map Prod.fst⟩, (h.2.getLast?.map Prod.snd).getD 0, b⟩ r : Ans Rl)) (rel_list rel_lit) fun b => FinP.want (by decide) _
  have f3 : FinP (fun z r => (wantP [46] z r).bind fun _ r => (.ok ⟨⟨h.1, h.2.map Prod.fst⟩, (h.2.getLast?.map Prod.snd).getD 0, []⟩ r : Ans Rl)) := FinP.want (by decide) _
  intro z ts ho x r e
  by_cases hh : (hdT z ts).t = [58, 45]
  · have hd := hd_tail hh (by simp)
    unfold ruleB at e
    rw [if_pos hh] at e
    obtain ⟨u, c, n0, n1, h1⟩ := f2 z ts.tail (ho.suf (tail_suf ts)) x r e
    obtain ⟨d, hd0⟩ : ∃ d, d = hdT z ts := ⟨_, rfl⟩
    rw [← hd0] at hd hh
    refine ⟨d :: u, by rw [List.cons_append, ← c]; exact hd, by simp, fun t ht => ?_, fun z' w r' hw => ?_⟩
    · rcases List.mem_cons.1 ht with rfl | ht
      · exact nq_of (by decide) _ hh
      · exact n1 t ht
    · obtain ⟨d', u', rfl, hk, hu⟩ := hw.cons
      unfold ruleB
      rw [if_pos (show (hdT z' (d' :: u' ++ r')).t = [58, 45] from (kt_t hk).symm.trans hh)]
      exact h1 z' u' r' hu
  · unfold ruleB at e
    rw [if_neg hh] at e
    obtain ⟨u, c, n0, n1, h1⟩ := f3 z ts ho x r e
    refine ⟨u, c, n0, n1, fun z' w r' hw => ?_⟩
    unfold ruleB
    rw [if_neg (fun h => hh ((kt_t (show kt (hdT z ts) = kt (hdT z' (w ++ r')) by rw [c]; exact hd_ne hw n0)).trans h))]
    exact h1 z' w r' hw
theorem fin_rule : FinP ruleP := FinP.bind (g := fun h z r => ruleB h z r) (rel_atomB rel_head) fun h => fin_ruleB h
/-- Rules that were read are read alike ahead of whatever else. -/
theorem rules_app {z : Nat} : ∀ (n : Nat) (acc : List Rl) (ts : List Tk) (l : List Rl) (r : List Tk), Okt ts → rulesL z n acc ts = .ok l r →
    ∃ l2 u, l = acc ++ l2 ∧ ts = u ++ r ∧ (∀ t ∈ u, NoQ t) ∧ l2.length ≤ n ∧ l2.length ≤ u.length ∧ (n = l2.length ∨ predT (hdT z r) = false) ∧
      ∀ z' u' s m acc', Eqv u u' → acc'.length + l2.length ≤ 200 → rulesL z' (m + l2.length) acc' (u' ++ s) = rulesL z' m (acc' ++ l2) s
  | 0, acc, ts, l, r, ho, h => by
    cases h
    exact ⟨[], [], by simp, rfl, fun t ht => (by cases ht), Nat.le_refl _, Nat.le_refl _, .inl rfl, fun z' u' s m acc' hu hl => by rw [hu.nil]; simp⟩
  | n + 1, acc, ts, l, r, ho, h => by
    cases hp : predT (hdT z ts) with
    | false =>
      rw [rules_stop hp] at h
      cases h
      exact ⟨[], [], by simp, rfl, fun t ht => (by cases ht), Nat.zero_le _, Nat.le_refl _, .inr hp, fun z' u' s m acc' hu hl => by rw [hu.nil]; simp⟩
    | true =>
      by_cases hl : acc.length = 200
      · rw [rules_full hp hl] at h; cases h
      · rw [rules_step hp hl] at h
        obtain ⟨x, r1, e1, e2⟩ := bind_ok h
        obtain ⟨u1, c1, n0, n1, h1⟩ := fin_rule z ts ho x r1 e1
        obtain ⟨l2, u2, d1, d2, d3, d4, d4', d5, d6⟩ := rules_app n (acc ++ [x]) r1 l r (ho.suf ⟨u1, c1.symm⟩) e2
        refine ⟨x :: l2, u1 ++ u2, by rw [d1]; simp, by rw [c1, d2, List.append_assoc], fun t ht => (List.mem_append.1 ht).elim (n1 t) (d3 t), by simp; omega, ?_, ?_, fun z' w s m acc' hw hm => ?_⟩
        · have := List.length_pos_iff.2 n0
          simp only [List.length_cons, List.length_append]; omega
        · rcases d5 with d5 | d5
          · exact .inl (by simp; omega)
          · exact .inr d5
        · obtain ⟨w1, w2, rfl, q1, q2⟩ := hw.cut
          simp only [List.length_cons] at hm
          have hp' : predT (hdT z' (w1 ++ (w2 ++ s))) = true := by
            have hk : kt (hdT z ts) = kt (hdT z' (w1 ++ (w2 ++ s))) := by rw [c1]; exact hd_ne q1 n0
            unfold predT at *; rwa [← kt_k hk, ← kt_t hk]
          rw [List.length_cons, ← Nat.add_assoc, List.append_assoc, rules_step hp' (by omega), h1 z' w1 (w2 ++ s) q1]
          show rulesL z' (m + l2.length) (acc' ++ [x]) (w2 ++ s) = _
          rw [d6 z' w2 s m (acc' ++ [x]) q2 (by simp; omega)]
          simp
/-- A question behind rules. -/
theorem quest_cut {A Q r u : List Tk} {q : Tk} (e : A ++ q :: Q = u ++ r) (hq : q.t = [63, 45]) (hu : ∀ t ∈ u, NoQ t) (hr : ∀ c s, r = c :: s → c.t = [63, 45] ∧ ∀ t ∈ s, NoQ t) (hne : r ≠ []) : u = A ∧ r = q :: Q := by
  rcases List.append_eq_append_iff.1 e with ⟨w, h1, h2⟩ | ⟨w, h1, h2⟩
  · -- u = A ++ w, q :: Q = w ++ r
    cases w with
    | nil => simp at h1 h2; exact ⟨h1, h2.symm⟩
    | cons c w =>
      rw [List.cons_append] at h2
      injection h2 with h2 h3
      subst h2
      exact absurd hq (hu q (by rw [h1]; simp))
  · -- A = u ++ w, r = w ++ q :: Q
    cases w with
    | nil => simp at h1 h2; exact ⟨h1.symm, h2⟩
    | cons c w =>
      rw [List.cons_append] at h2
      exact absurd hq ((hr c _ h2).2 q (by simp))
/-- What is read of a text that ends with a question. -/
theorem prog_parts {z : Nat} {A Q : List Tk} {q : Tk} {x : Pg} (hq : q.t = [63, 45]) (ho : Okt (A ++ q :: Q)) (hlen : (A ++ q :: Q).length ≤ 20009) (h : progP z (A ++ q :: Q) = .ok x []) :
    (∀ t ∈ A, NoQ t) ∧ x.r.length ≤ 200 ∧ x.r.length ≤ A.length ∧ (∀ z' A' s m acc', Eqv A A' → acc'.length + x.r.length ≤ 200 → rulesL z' (m + x.r.length) acc' (A' ++ s) = rulesL z' m (acc' ++ x.r) s) ∧
      ((atomP z Q).bind fun y r => (wantP [46] z r).bind fun _ r => .ok y r) = .ok x.q [] := by
  obtain ⟨l, r, e1, e2⟩ := bind_ok h
  obtain ⟨c, r1, e3, e4⟩ := bind_ok e2
  obtain ⟨y, r2, e5, e6⟩ := bind_ok e4
  obtain ⟨d, r3, e7, e8⟩ := bind_ok e6
  cases e8
  obtain ⟨l2, u, d1, d2, d3, d4, d4', d5, d6⟩ := rules_app many [] _ l r ho e1
  simp at d1; subst d1
  have hc := need_len e3
  have ho1 : Okt r1 := ho.suf (List.IsSuffix.trans ⟨[c], by rw [hc.1]; rfl⟩ ⟨u, d2.symm⟩)
  obtain ⟨v, f1, f2, _⟩ := (rel_atom z r1 ho1).1 y r2 e5
  have hd := need_len e7
  have hcut := quest_cut d2 hq d3 (fun c' s hs => by
    rw [hc.1] at hs
    injection hs with h1 h2
    subst h1 h2
    refine ⟨by simpa [isX] using hc.2, fun t ht => ?_⟩
    rw [f1] at ht
    rcases List.mem_append.1 ht with ht | ht
    · exact f2 t ht
    · rw [hd.1] at ht
      obtain rfl := List.mem_singleton.1 ht
      exact nq_of (m := [46]) (by decide) _ (by simpa [isX] using hd.2)) (by rw [hc.1]; simp)
  obtain ⟨rfl, hr⟩ := hcut
  rw [hc.1] at hr
  injection hr with h1 h2
  subst h1 h2
  have hle : l.length ≤ 200 := by
    have : ∀ (n : Nat) (acc : List Rl) (ts : List Tk) (l : List Rl) (r : List Tk), acc.length ≤ 200 → rulesL z n acc ts = .ok l r → l.length ≤ 200 := by
      intro n
      induction n with
      | zero => intro acc ts l r h0 h; cases h; exact h0
      | succ n ih =>
        intro acc ts l r h0 h
        cases hp : predT (hdT z ts) with
        | false => rw [rules_stop hp] at h; cases h; exact h0
        | true =>
          by_cases hl : acc.length = 200
          · rw [rules_full hp hl] at h; cases h
          · rw [rules_step hp hl] at h
            obtain ⟨x, r1, e1, e2⟩ := bind_ok h
            exact ih _ r1 l r (by simp; omega) e2
    exact this many [] _ l r (by simp) e1
  refine ⟨d3, hle, d4', fun z' A' s m acc' hA hl => d6 z' A' s m acc' hA hl, ?_⟩
  rw [e5]
  show (wantP [46] z r2).bind _ = _
  rw [e7]; rfl
/-- The rules of two texts, one behind the other. -/
theorem prog_joins {z1 z2 z3 : Nat} {A B A' B' Q1 Q2 Q3 : List Tk} {q1 q2 q3 : Tk} {x y : Pg} (h1 : progP z1 (A ++ q1 :: Q1) = .ok x []) (h2 : progP z2 (B ++ q2 :: Q2) = .ok y [])
    (hq1 : q1.t = [63, 45]) (hq2 : q2.t = [63, 45]) (hq3 : kt q1 = kt q3) (hQ : Eqv Q1 Q3) (hA : Eqv A A') (hB : Eqv B B') (ho1 : Okt (A ++ q1 :: Q1)) (ho2 : Okt (B ++ q2 :: Q2)) (hl1 : (A ++ q1 :: Q1).length ≤ 10000) (hl2 : (B ++ q2 :: Q2).length ≤ 10000)
    (hn : x.r.length + y.r.length ≤ 200) : progP z3 (A' ++ (B' ++ q3 :: Q3)) = .ok ⟨x.r ++ y.r, x.q⟩ [] := by
  obtain ⟨_, _, a1, a2, a3⟩ := prog_parts hq1 ho1 (by omega) h1
  obtain ⟨_, _, b1, b2, b3⟩ := prog_parts hq2 ho2 (by omega) h2
  have hm : many = (20009 - x.r.length - y.r.length) + 1 + y.r.length + x.r.length := by unfold many; omega
  have hstop : predT (hdT z3 (q3 :: Q3)) = false := by
    have : q3.t = [63, 45] := (kt_t hq3).symm.trans hq1
    have hk := ho1.2 q1 (by simp) hq1
    have hk3 : q3.k = 4 := (kt_k hq3).symm.trans hk
    show predT q3 = false
    unfold predT; rw [hk3]; rfl
  have e1 : rulesL z3 many [] (A' ++ (B' ++ q3 :: Q3)) = .ok (x.r ++ y.r) (q3 :: Q3) := by
    rw [hm, a2 z3 A' _ _ [] hA (by simp; omega), b2 z3 B' _ _ _ hB (by simp; omega), rules_stop hstop]
    simp
  unfold progP
  rw [e1]
  have hw : isX [63, 45] q3 = true := by unfold isX; rw [← kt_t hq3, hq1]; rfl
  simp only [Ans.bind, wantP, needP, hw, if_true]
  have ho3 : Okt Q1 := ho1.suf (List.IsSuffix.trans (List.suffix_cons q1 Q1) (List.suffix_append _ _))
  obtain ⟨v, r2, e5, e6⟩ := bind_ok a3
  obtain ⟨d, r3, e7, e8⟩ := bind_ok e6
  cases e8
  obtain ⟨u, f1, _, f2⟩ := (rel_atom z1 Q1 ho3).1 _ r2 e5
  have hd := need_len e7
  rw [f1] at hQ
  obtain ⟨u', s, rfl, g1, g2⟩ := hQ.cut
  rw [hd.1] at g2
  obtain ⟨d', s', rfl, g3, g4⟩ := g2.cons
  obtain rfl := g4.nil
  obtain ⟨w, g5, g6⟩ := f2 z3 u' [d'] g1 (by rw [hd.1]; exact g3)
  cases g6
  have hw2 : isX [46] d' = true := by have := hd.2; unfold isX at *; rwa [← kt_t g3]
  rw [g5]
  simp [Ans.bind, needP, hw2]
end Go.Proofs.YtncafadjcelloaaDoor
namespace Go.Proofs.YtncafadjcelloaaDoor
open Go.RowKit FloM ValM Go.Shelf
set_option linter.unusedVariables false
set_option linter.unusedSimpArgs false
/-! ### A text that goes on with a point, or a comma -/
def DotHead (s : List UInt8) : Prop := ∃ c y, s = c :: y ∧ (c = 44 ∨ c = 46)
theorem span_dot {p : UInt8 → Bool} (hp : ∀ c, c = 44 ∨ c = 46 → p c = false) {a s : List UInt8} (hs : DotHead s) : spanL p (a ++ s) = spanL p a := by
  obtain ⟨d, y, rfl, hd⟩ := hs
  induction a with
  | nil => rw [List.nil_append, span_no (hp d hd), span_nil]
  | cons c a ih => cases hc : p c with
    | true => rw [List.cons_append, span_yes hc, span_yes hc, ih]
    | false => rw [List.cons_append, span_no hc, span_no hc]
theorem two_dot {a s : List UInt8} (ha : a ≠ []) (hs : DotHead s) : two (a ++ s) = two a := by
  obtain ⟨d, y, rfl, hd⟩ := hs
  match a with
  | [] => exact absurd rfl ha
  | [c] =>
    simp only [List.cons_append, List.nil_append, two, decide_eq_false_iff_not]
    rcases hd with rfl | rfl <;> simp
  | c :: e :: r => rfl
theorem mark_dot {a s : List UInt8} (ha : a ≠ []) (hs : DotHead s) : markL (a ++ s) = markL a := by
  unfold markL
  rw [two_dot ha hs]
  cases a with
  | nil => exact absurd rfl ha
  | cons c r =>
    cases hm : markC c with
    | true => rw [List.cons_append, span_yes hm, span_yes hm, Nat.min_eq_left (by omega), Nat.min_eq_left (by omega)]
    | false => rw [List.cons_append, span_no hm, span_no hm]
theorem meas_dot {a s : List UInt8} (ha : a ≠ []) (hs : DotHead s) : measL (a ++ s) = measL a := by
  have e1 : spanL lowC (a ++ s) = spanL lowC a := span_dot (fun c h => by rcases h with rfl | rfl <;> rfl) hs
  have e2 : spanL wordC (a ++ s) = spanL wordC a := span_dot (fun c h => by rcases h with rfl | rfl <;> rfl) hs
  have e3 : spanL uppC (a ++ s) = spanL uppC a := span_dot (fun c h => by rcases h with rfl | rfl <;> rfl) hs
  have e4 : spanL nameC (a ++ s) = spanL nameC a := span_dot (fun c h => by rcases h with rfl | rfl <;> rfl) hs
  have e6 : (a ++ s).drop (signL a) = a.drop (signL a) ++ s := List.drop_append_of_le_length (by
    have := sign_le a; have := List.length_pos_iff.2 ha; omega)
  unfold measL
  rw [e1, e2, e3, e4]
  cases a with
  | nil => exact absurd rfl ha
  | cons c r =>
    have e7 : spanL nameC (r ++ s) = spanL nameC r := span_dot (fun c h => by rcases h with rfl | rfl <;> rfl) hs
    have e8 : spanL digC ((c :: r).drop (signL (c :: r)) ++ s) = spanL digC ((c :: r).drop (signL (c :: r))) := span_dot (fun c h => by rcases h with rfl | rfl <;> rfl) hs
    have e9 : spanL nameC ((c :: r).drop (signL (c :: r)) ++ s) = spanL nameC ((c :: r).drop (signL (c :: r))) := span_dot (fun c h => by rcases h with rfl | rfl <;> rfl) hs
    have e10 : markL ((c :: r) ++ s) = markL (c :: r) := mark_dot (by simp) hs
    simp only [List.cons_append] at e6 e10 ⊢
    have e11 : signL (c :: (r ++ s)) = signL (c :: r) := rfl
    rw [e11, e6, e7, e8, e9, e10]
theorem first_dot {a s : List UInt8} (ha : a ≠ []) (hs : DotHead s) : firstL (a ++ s) = firstL a := by
  unfold firstL
  rw [meas_dot ha hs, List.take_append_of_le_length (meas_le ha)]
theorem first_mark {c : UInt8} (hc : c = 44 ∨ c = 46) (r : List UInt8) : firstL (c :: r) = some (4, 1) := by
  rcases hc with rfl | rfl <;> exact one_mark (by decide) (by decide) (by decide) (by decide) (by decide) (by decide) (by cases r <;> simp [two])
theorem toks_dot (c : UInt8) (hc : c = 44 ∨ c = 46) (y : List UInt8) : ∀ (m a : Nat) (x : List UInt8), x.length ≤ m → toksL a (x ++ c :: y) = (toksL a x).then ((toksL (a + x.length + 1) y).pre ⟨4, [c], a + x.length⟩) := by
  have hcs : sepC c = false := by rcases hc with rfl | rfl <;> rfl
  intro m
  induction m with
  | zero =>
    intro a x hx
    have : x = [] := List.eq_nil_of_length_eq_zero (by omega)
    subst this
    rw [toks_end (l := []) rfl, List.nil_append, toks_mark hcs (first_mark hc y)]
    simp only [Rs.then, lay_nil, List.length_nil, Nat.add_zero]
  | succ m ih =>
    intro a x hx
    by_cases he : x.drop (spanL sepC x) = []
    · have hall : spanL sepC x = x.length := by
        have h1 := span_le sepC x
        have h2 := congrArg List.length he
        rw [List.length_drop, List.length_nil] at h2; omega
      have hsp : spanL sepC (x ++ c :: y) = x.length := by rw [span_app (span_full.1 hall), span_no hcs, Nat.add_zero]
      rw [toks_end he, toks_skip a, hsp, List.drop_left, toks_mark hcs (first_mark hc y)]
      simp only [Rs.then, lay_nil]
    · have hlt : spanL sepC x < x.length := by
        have h1 := span_le sepC x
        rcases Nat.lt_or_ge (spanL sepC x) x.length with h | h
        · exact h
        · exact absurd (List.drop_of_length_le h) he
      have hsp : spanL sepC (x ++ c :: y) = spanL sepC x := span_cut hlt
      have hdr : (x ++ c :: y).drop (spanL sepC (x ++ c :: y)) = x.drop (spanL sepC x) ++ c :: y := by
        rw [hsp, List.drop_append_of_le_length (by omega)]
      have hfs : firstL (x.drop (spanL sepC x) ++ c :: y) = firstL (x.drop (spanL sepC x)) := first_dot he ⟨c, y, rfl, hc⟩
      cases hf : firstL (x.drop (spanL sepC x)) with
      | none =>
        rw [toks_bad he hf, toks_bad (by rw [hdr]; simp) (by rw [hdr, hfs, hf]), hsp]; rfl
      | some o =>
        obtain ⟨k, n⟩ := o
        have hp := first_pos hf
        have hp2 := hp.2.1
        rw [List.length_drop] at hp2
        rw [toks_more hf, toks_more (k := k) (n := n) (by rw [hdr, hfs, hf]), pre_then]
        rw [hdr, hsp, List.take_append_of_le_length hp.2.1, List.drop_append_of_le_length (by omega), ih _ _ (by rw [List.length_drop]; omega)]
        rw [show a + spanL sepC x + n + (List.drop (spanL sepC x + n) x).length = a + x.length by rw [List.length_drop]; omega]
theorem okt_of {a : Nat} {l : List UInt8} {ts : List Tk} (h : toksL a l = .good ts) (hl : l.length ≤ 20000) : Okt ts := ⟨toks_good h hl, fun t ht e => by
  have h1 := toks_each _ a l (Nat.le_refl _) ts h t ht
  rw [e] at h1
  have h2 : firstL [63, 45] = some (4, 2) := by decide
  rw [h2] at h1
  injection h1 with h1; injection h1 with h1 _; exact h1.symm⟩
theorem cmp_kind {a : Nat} {l : List UInt8} {ts : List Tk} (h : toksL a l = .good ts) : ∀ t ∈ ts, cmpT t = true → t.k = 4 := fun t ht e => by
  have h1 := toks_each _ a l (Nat.le_refl _) ts h t ht
  have h2 : ∀ m : List UInt8, t.t = m → (firstL m).map Prod.fst = some 4 → t.k = 4 := fun m e1 e2 => by
    rw [e1] at h1; rw [h1] at e2; simpa using e2
  unfold cmpT at e
  simp only [Bool.or_eq_true, beq_iff_eq] at e
  rcases e with e | e | e | e
  · exact h2 _ e (by decide)
  · exact h2 _ e (by decide)
  · exact h2 _ e (by decide)
  · exact h2 _ e (by decide)
theorem eqv_on (d : Nat) (ts : List Tk) : Eqv ts (ts.map (Tk.on d)) := by unfold Eqv; rw [List.map_map]; rfl
/-! ### Terms of an atom, as those of a head -/
theorem head_term {z : Nat} {ts r : List Tk} {x : Tm} (h : termP z ts = .ok x r) (hr : (hdT z r).t ≠ [40]) : headP z ts = .ok (x, 0) r := by
  unfold headP; rw [h]; simp only [Ans.bind]; rw [if_pos (.inr hr)]
def z0 (t : Tm) : Tm × Nat := (t, 0)
theorem listL_next {α : Type} {most z : Nat} {item : Ps α} : ∀ (n : Nat) (acc : List α) (ts : List Tk) (l : List α) (r : List Tk), listL most item z n acc ts = .ok l r → (hdT z r).t = [41] → (hdT z ts).t ≠ [40]
  | 0, acc, ts, l, r, h, hr => by cases h; rw [hr]; decide
  | n + 1, acc, ts, l, r, h, hr => by
    unfold listL at h
    by_cases hc : (hdT z ts).t = [44]
    · rw [hc]; decide
    · rw [if_neg hc] at h; cases h; rw [hr]; decide
theorem listL_head {z : Nat} : ∀ (n : Nat) (acc : List Tm) (ts : List Tk) (l : List Tm) (r : List Tk), listL 8 termP z n acc ts = .ok l r → (hdT z r).t = [41] → listL 8 headP z n (acc.map z0) ts = .ok (l.map z0) r
  | 0, acc, ts, l, r, h, hr => by cases h; rfl
  | n + 1, acc, ts, l, r, h, hr => by
    unfold listL at h ⊢
    by_cases hc : (hdT z ts).t = [44]
    · rw [if_pos hc] at h ⊢
      by_cases h8 : acc.length = 8 ∧ termT (hdT z ts.tail) = true
      · rw [if_pos h8] at h; cases h
      · rw [if_neg h8] at h
        rw [if_neg (by rw [List.length_map]; exact h8)]
        obtain ⟨x, r1, e1, e2⟩ := bind_ok h
        rw [head_term e1 (listL_next n _ r1 l r e2 hr)]
        have := listL_head n _ r1 l r e2 hr
        simp only [List.map_append, List.map_cons, List.map_nil] at this
        exact this
    · rw [if_neg hc] at h ⊢; cases h; rfl
theorem listP_head {z : Nat} {ts r : List Tk} {l : List Tm} (h : listP 8 termP z ts = .ok l r) (hr : (hdT z r).t = [41]) : listP 8 headP z ts = .ok (l.map z0) r := by
  obtain ⟨x, r1, e1, e2⟩ := bind_ok h
  unfold listP
  rw [head_term e1 (listL_next many _ r1 l r e2 hr)]
  have h3 : ([x] : List Tm).map z0 = [(x, 0)] := rfl
  have h4 := listL_head many [x] r1 l r e2 hr
  rw [h3] at h4
  simp only [Ans.bind]
  exact h4
/-- An atom's own tokens. -/
theorem atom_alone {z : Nat} {T : List Tk} {d : Tk} {q : Am} (ho : Okt (T ++ [d])) (hd : d.t ≠ [40]) (h : atomP z (T ++ [d]) = .ok q [d]) :
    ∃ c T1, T = c :: T1 ∧ predT c = true ∧ (T1 = [] ∨ ∃ e T2, T1 = e :: T2 ∧ e.t = [40]) ∧ ∀ z' T' s, Eqv T T' → (hdT z' s).t ≠ [40] → atomP z' (T' ++ s) = .ok q s ∧ atomB headP z' (T' ++ s) = .ok (q.p, q.a.map z0) s := by
  obtain ⟨x, r0, e1, e2⟩ := bind_ok h
  cases e2
  obtain ⟨c, r1, e3, e4⟩ := bind_ok e1
  have hc := need_len e3
  cases T with
  | nil =>
    rw [List.nil_append] at hc
    have h1 := hc.1; injection h1 with h1 h2; subst h1 h2
    try simp only at e4
    have : (hdT z ([] : List Tk)).t ≠ [40] := by simp [hdT]
    rw [if_neg this] at e4; cases e4
  | cons c' T1 =>
    rw [List.cons_append] at hc
    have h1 := hc.1; injection h1 with h1 h2; subst h1 h2
    try simp only at e4
    refine ⟨c', T1, rfl, hc.2, ?_⟩
    by_cases hh : (hdT z (T1 ++ [d])).t = [40]
    · rw [if_pos hh] at e4
      cases T1 with
      | nil => exact absurd hh hd
      | cons e T2 =>
        refine ⟨.inr ⟨e, T2, rfl, hh⟩, fun z' T' s hT hs => ?_⟩
        rw [List.cons_append, List.tail_cons] at e4
        have f1 : FinP (fun z ts => (listP 8 termP z ts).bind fun l r => (wantP [41] z r).bind fun _ r => (.ok (c'.t, l) r : Ans (List UInt8 × List Tm))) :=
          FinP.bind (g := fun l z r => (wantP [41] z r).bind fun _ r => .ok (c'.t, l) r) (rel_list rel_term) fun l => FinP.want (by decide) _
        obtain ⟨u, g1, g2, _, g3⟩ := f1 z (T2 ++ [d]) (ho.suf ((List.suffix_cons e _).trans (List.suffix_cons c' _))) _ _ e4
        have hu : u = T2 := (List.append_cancel_right g1).symm
        subst hu
        obtain ⟨c2, T3, rfl, hk, hT3⟩ := hT.cons
        obtain ⟨e2, T4, rfl, hk2, hT4⟩ := hT3.cons
        have g4 := g3 z' T4 s hT4
        have hp2 : predT c2 = true := by have := hc.2; unfold predT at *; rwa [← kt_k hk, ← kt_t hk]
        have hh2 : (hdT z' (e2 :: (T4 ++ s))).t = [40] := (kt_t hk2).symm.trans hh
        have en : needP predT z' (c2 :: e2 :: (T4 ++ s)) = .ok c2 (e2 :: (T4 ++ s)) := by simp [needP, hp2]
        obtain ⟨l, r2, k1, k2⟩ := bind_ok g4
        obtain ⟨w, r3, k3, k4⟩ := bind_ok k2
        have k5 := need_len k3
        have hr2 : (hdT z' r2).t = [41] := by rw [k5.1]; show w.t = _; simpa [isX] using k5.2
        cases k4
        constructor
        · show (atomB termP z' (c2 :: e2 :: (T4 ++ s))).bind _ = _
          unfold atomB
          rw [en]
          simp only [Ans.bind]
          rw [if_pos hh2, List.tail_cons, k1]
          simp only [Ans.bind]
          rw [k3]
          simp only [← kt_t hk]
        · show atomB headP z' (c2 :: e2 :: (T4 ++ s)) = _
          unfold atomB
          rw [en]
          simp only [Ans.bind]
          rw [if_pos hh2, List.tail_cons, listP_head k1 hr2]
          simp only [Ans.bind]
          rw [k3]
          simp only [← kt_t hk]
    · rw [if_neg hh] at e4
      injection e4 with e5 e6
      cases T1 with
      | cons e T2 => have := congrArg List.length e6; simp at this
      | nil =>
        refine ⟨.inl rfl, fun z' T' s hT hs => ?_⟩
        obtain ⟨c2, T3, rfl, hk, hT3⟩ := hT.cons
        obtain rfl := hT3.nil
        have hp2 : predT c2 = true := by have := hc.2; unfold predT at *; rwa [← kt_k hk, ← kt_t hk]
        have en : needP predT z' (c2 :: s) = .ok c2 s := by simp [needP, hp2]
        subst e5
        constructor
        · show (atomB termP z' (c2 :: s)).bind _ = _
          unfold atomB
          rw [en]
          simp only [Ans.bind]
          rw [if_neg hs]
          simp only [← kt_t hk]
        · show atomB headP z' (c2 :: s) = _
          unfold atomB
          rw [en]
          simp only [Ans.bind]
          rw [if_neg hs]
          simp only [← kt_t hk]; rfl
end Go.Proofs.YtncafadjcelloaaDoor
namespace Go.Proofs.YtncafadjcelloaaDoor
open Go.RowKit FloM ValM Go.Shelf
set_option linter.unusedVariables false
set_option linter.unusedSimpArgs false
theorem z0_fst (l : List Tm) : (l.map z0).map Prod.fst = l := by rw [List.map_map]; exact List.map_id _
theorem z0_last (l : List Tm) : ((l.map z0).getLast?.map Prod.snd).getD 0 = 0 := by
  rw [List.getLast?_map]
  cases l.getLast? <;> rfl
theorem pred_not {c : Tk} (h : predT c = true) : varT c = false ∧ c.t ≠ [110, 111, 116] ∧ c.t ≠ [119, 97, 108, 107] := by
  unfold predT at h
  simp only [Bool.and_eq_true, beq_iff_eq, Bool.not_eq_true'] at h
  refine ⟨by unfold varT; rw [h.1]; rfl, fun e => ?_, fun e => ?_⟩
  · rw [e] at h; exact absurd h.2 (by decide)
  · rw [e] at h; exact absurd h.2 (by decide)
/-- A rule that is a fact; a rule with one atom twice, and not ahead of it once. -/
theorem facts_rules {z1 z2 : Nat} {T1 T2 T3 T4 R : List Tk} {q0 d1 d2 x2 i2 c2 n2 d3 : Tk} {x y : Pg} {r : List Tk} (h1 : progP z1 (q0 :: (T1 ++ [d1])) = .ok x []) (h2 : progP z2 (T2 ++ d2 :: x2 :: i2 :: (T3 ++ c2 :: n2 :: (T4 ++ d3 :: R))) = .ok y r)
    (hx : x.r = []) (hq0 : kt q0 = (4, [63, 45])) (hd1 : kt d1 = (4, [46])) (hd2 : kt d2 = (4, [46])) (hx2 : kt x2 = (1, [120])) (hi2 : kt i2 = (4, [58, 45])) (hc2 : kt c2 = (4, [44])) (hn2 : kt n2 = (1, [110, 111, 116])) (hd3 : kt d3 = (4, [46]))
    (e2 : Eqv T1 T2) (e3 : Eqv T1 T3) (e4 : Eqv T1 T4) (ho : Okt (q0 :: (T1 ++ [d1]))) (hl : (q0 :: (T1 ++ [d1])).length ≤ 20009) (hcm : ∀ t ∈ T1, cmpT t = true → t.k = 4) (hR : predT (hdT z2 R) = false) :
    y.r = [⟨x.q, 0, []⟩, ⟨⟨[120], []⟩, 0, [⟨1, x.q, [], tm0, tm0, tm0, []⟩, ⟨2, x.q, [], tm0, tm0, tm0, []⟩]⟩] := by
  have hp := prog_parts (A := []) (Q := T1 ++ [d1]) (q := q0) (kt_t (u := ⟨4, [63, 45], 0⟩) hq0) ho hl h1
  have hat := hp.2.2.2.2
  obtain ⟨v, r2, e5, e6⟩ := bind_ok hat
  obtain ⟨w, r3, e7, e8⟩ := bind_ok e6
  cases e8
  have hw := need_len e7
  have ho1 : Okt (T1 ++ [d1]) := ho.suf (List.suffix_cons _ _)
  obtain ⟨u, f1, _, _⟩ := (rel_atom z1 _ ho1).1 _ r2 e5
  have hr2 : r2 = [d1] := by
    rw [hw.1] at f1 ⊢
    have := List.append_inj_right' f1 rfl
    exact this.symm
  rw [hr2] at e5
  have kd1 := congrArg Prod.snd hd1
  obtain ⟨c, T0, rfl, hc, hT0, hal⟩ := atom_alone ho1 (by rw [show d1.t = [46] from kd1]; decide) e5
  have hcc : cmpT c = false := by
    cases h : cmpT c with
    | false => rfl
    | true =>
      have h4 := hcm c (by simp) h
      unfold predT at hc; rw [h4] at hc; simp at hc
  have hlit : ∀ T' s, Eqv (c :: T0) T' → (hdT z2 s).t ≠ [40] → cmpT (hdT z2 s) = false → (hdT z2 s).t ≠ [105, 115] → litP z2 (T' ++ s) = .ok ⟨1, x.q, [], tm0, tm0, tm0, []⟩ s := by
    intro T' s hT hs hsc _
    have ha := (hal z2 T' s hT hs).1
    obtain ⟨c', T5, rfl, hk, hT5⟩ := hT.cons
    have hp' : predT c' = true := by unfold predT at *; rwa [← kt_k hk, ← kt_t hk]
    have hcm2 : cmpT (hdT z2 (T5 ++ s)) = false := by
      rcases hT0 with rfl | ⟨e, T6, rfl, he⟩
      · obtain rfl := hT5.nil; exact hsc
      · obtain ⟨e', T7, rfl, hk2, _⟩ := hT5.cons
        show cmpT e' = false
        unfold cmpT; rw [← kt_t hk2, he]; rfl
    obtain ⟨n1, n2, n3⟩ := pred_not hp'
    rw [litP]
    rw [if_neg (by show ¬ cmpT (hdT z2 (T5 ++ s)) = true; rw [hcm2]; simp), if_neg (by show ¬ (varT c' = true ∧ _); rw [n1]; simp), if_neg (show ¬ (hdT z2 (c' :: T5 ++ s)).t = [110, 111, 116] from n2), if_neg (show ¬ (hdT z2 (c' :: T5 ++ s)).t = [119, 97, 108, 107] from n3), if_pos (show predT (hdT z2 (c' :: T5 ++ s)) = true from hp'), ha]
    rfl
  have hnot : ∀ (n : Tk) T' s, kt n = (1, [110, 111, 116]) → Eqv (c :: T0) T' → (hdT z2 s).t ≠ [40] → litP z2 (n :: (T' ++ s)) = .ok ⟨2, x.q, [], tm0, tm0, tm0, []⟩ s := by
    intro n T' s hn hT hs
    have ha := (hal z2 T' s hT hs).1
    obtain ⟨c', T5, rfl, hk, hT5⟩ := hT.cons
    have kn : n.t = [110, 111, 116] := congrArg Prod.snd hn
    have kk : n.k = 1 := congrArg Prod.fst hn
    have hcm2 : cmpT c' = false := by unfold cmpT at *; rwa [← kt_t hk]
    rw [litP]
    rw [if_neg (by show ¬ cmpT c' = true; rw [hcm2]; simp), if_neg (by show ¬ (varT n = true ∧ _); unfold varT; rw [kk]; simp), if_pos (show (hdT z2 (n :: (c' :: T5 ++ s))).t = [110, 111, 116] from kn)]
    have hw : isX [110, 111, 116] n = true := by unfold isX; rw [kn]; rfl
    simp only [wantP, needP, hw, if_true, Ans.bind, ha]
  have dot : ∀ d : Tk, kt d = (4, [46]) → isX [46] d = true := fun d h => by unfold isX; rw [show d.t = [46] from congrArg Prod.snd h]; rfl
  have r1 : ∀ S, ruleP z2 (T2 ++ d2 :: S) = .ok ⟨x.q, 0, []⟩ S := by
    intro S
    have kd : d2.t = [46] := congrArg Prod.snd hd2
    unfold ruleP
    rw [(hal z2 T2 (d2 :: S) e2 (by show d2.t ≠ _; rw [kd]; decide)).2]
    simp only [Ans.bind]
    rw [if_neg (by show ¬ d2.t = _; rw [kd]; decide)]
    simp only [wantP, needP, dot d2 hd2, if_true, z0_fst, z0_last]
  have l1 : listP 12 litP z2 (T3 ++ c2 :: n2 :: (T4 ++ d3 :: R)) = .ok [⟨1, x.q, [], tm0, tm0, tm0, []⟩, ⟨2, x.q, [], tm0, tm0, tm0, []⟩] (d3 :: R) := by
    have kc : c2.t = [44] := congrArg Prod.snd hc2
    have kd : d3.t = [46] := congrArg Prod.snd hd3
    unfold listP
    rw [hlit T3 _ e3 (by show c2.t ≠ _; rw [kc]; decide) (by show cmpT c2 = false; unfold cmpT; rw [kc]; rfl) (by show c2.t ≠ _; rw [kc]; decide)]
    simp only [Ans.bind]
    rw [show many = 20008 + 1 + 1 from rfl, listL, if_pos (show (hdT z2 (c2 :: n2 :: (T4 ++ d3 :: R))).t = [44] from kc), if_neg (by simp), List.tail_cons, hnot n2 T4 (d3 :: R) hn2 e4 (by show d3.t ≠ _; rw [kd]; decide)]
    simp only [Ans.bind]
    rw [listL, if_neg (by show ¬ d3.t = _; rw [kd]; decide)]
    rfl
  have r2' : ruleP z2 (x2 :: i2 :: (T3 ++ c2 :: n2 :: (T4 ++ d3 :: R))) = .ok ⟨⟨[120], []⟩, 0, [⟨1, x.q, [], tm0, tm0, tm0, []⟩, ⟨2, x.q, [], tm0, tm0, tm0, []⟩]⟩ R := by
    have kx : x2.t = [120] := congrArg Prod.snd hx2
    have kk : x2.k = 1 := congrArg Prod.fst hx2
    have ki : i2.t = [58, 45] := congrArg Prod.snd hi2
    have hpx : predT x2 = true := by unfold predT; rw [kx, kk]; decide
    have ha : atomB headP z2 (x2 :: i2 :: (T3 ++ c2 :: n2 :: (T4 ++ d3 :: R))) = .ok ([120], []) (i2 :: (T3 ++ c2 :: n2 :: (T4 ++ d3 :: R))) := by
      unfold atomB
      simp only [needP, hpx, if_true, Ans.bind]
      rw [if_neg (by show ¬ i2.t = _; rw [ki]; decide), kx]
    unfold ruleP
    rw [ha]
    simp only [Ans.bind]
    rw [if_pos (show (hdT z2 (i2 :: (T3 ++ c2 :: n2 :: (T4 ++ d3 :: R)))).t = [58, 45] from ki), List.tail_cons, l1]
    simp only [wantP, needP, dot d3 hd3, if_true, Ans.bind]
    rfl
  obtain ⟨l, s, g1, g2⟩ := bind_ok h2
  have hl2 : l = [⟨x.q, 0, []⟩, ⟨⟨[120], []⟩, 0, [⟨1, x.q, [], tm0, tm0, tm0, []⟩, ⟨2, x.q, [], tm0, tm0, tm0, []⟩]⟩] := by
    obtain ⟨c', T5, rfl, hk, hT5⟩ := e2.cons
    have hp' : predT c' = true := by unfold predT at *; rwa [← kt_k hk, ← kt_t hk]
    have hpx : predT x2 = true := by unfold predT; rw [show x2.t = [120] from congrArg Prod.snd hx2, show x2.k = 1 from congrArg Prod.fst hx2]; decide
    rw [show many = 20007 + 1 + 1 + 1 from rfl, rules_step (by exact hp') (by simp), r1] at g1
    simp only [Ans.bind] at g1
    rw [rules_step (by exact hpx) (by simp), r2'] at g1
    simp only [Ans.bind] at g1
    rw [rules_stop hR] at g1
    cases g1; rfl
  obtain ⟨_, _, _, g3⟩ := bind_ok g2
  obtain ⟨_, _, _, g4⟩ := bind_ok g3
  obtain ⟨_, _, _, g5⟩ := bind_ok g4
  cases g5
  exact hl2
/-! ### Texts -/
theorem toks_seps (y : List UInt8) : ∀ (s : List UInt8) (a : Nat), s.all sepC = true → toksL a (s ++ y) = toksL (a + s.length) y
  | [], a, _ => by simp
  | c :: s, a, h => by
    simp only [List.all_cons, Bool.and_eq_true] at h
    have := toks_parts c h.1 (s ++ y) 0 a [] (Nat.le_refl _)
    rw [List.nil_append, toks_end (l := []) rfl] at this
    rw [List.cons_append, this]
    simp only [Rs.then, lay_nil, List.length_nil, Nat.add_zero]
    rw [toks_seps y s _ h.2, List.length_cons]
    congr 1; omega
/-- Tokens, each with separators behind it. -/
def laidL (sep : List UInt8) (ts : List Tk) : List UInt8 := ts.flatMap fun t => t.t ++ sep
theorem laid_toks {sep : List UInt8} (hs : sep.all sepC = true) (hne : sep ≠ []) : ∀ (ts : List Tk) (a : Nat), (∀ t ∈ ts, firstL t.t = some (t.k, t.t.length)) → ∃ us, toksL a (laidL sep ts) = .good us ∧ Eqv ts us
  | [], a, h => ⟨[], toks_end rfl, rfl⟩
  | t :: ts, a, h => by
    cases sep with
    | nil => exact absurd rfl hne
    | cons c s =>
      have hs' := hs
      simp only [List.all_cons, Bool.and_eq_true] at hs'
      obtain ⟨us, h1, h2⟩ := laid_toks hs hne ts (a + t.t.length + 1 + s.length) fun u hu => h u (List.mem_cons_of_mem _ hu)
      refine ⟨⟨t.k, t.t, a⟩ :: us, ?_, ?_⟩
      · have e : laidL (c :: s) (t :: ts) = t.t ++ c :: (s ++ laidL (c :: s) ts) := by unfold laidL; rw [List.flatMap_cons]; simp
        rw [e, toks_parts c hs'.1 _ _ _ _ (Nat.le_refl _), toks_one (h t (by simp)), toks_seps _ _ _ hs'.2, h1]
        rfl
      · unfold Eqv at *; rw [List.map_cons, List.map_cons, h2]; rfl
/-- A question x behind a text, on a line of its own. -/
def questL : List UInt8 := [10, 63, 45, 32, 120, 46]
theorem toks_quest (l : List UInt8) (a : Nat) : (∀ n, toksL 0 l = .bad n → ∃ m, toksL a (l ++ questL) = .bad m) ∧ (∀ T, toksL 0 l = .good T → ∃ T' q x d, toksL a (l ++ questL) = .good (T' ++ q :: [x, d]) ∧ Eqv T T' ∧ kt q = (4, [63, 45]) ∧ kt x = (1, [120]) ∧ kt d = (4, [46])) := by
  have e : toksL a (l ++ questL) = (toksL a l).then (toksL (a + l.length + 1) [63, 45, 32, 120, 46]) := toks_parts 10 (by decide) _ _ _ _ (Nat.le_refl _)
  have e2 : toksL 0 [63, 45, 32, 120, 46] = .good [⟨4, [63, 45], 0⟩, ⟨1, [120], 3⟩, ⟨4, [46], 4⟩] := by
    rw [toks_more (k := 4) (n := 2) (by decide), toks_more (k := 1) (n := 1) (by decide), toks_more (k := 4) (n := 1) (by decide), toks_end (by decide)]
    rfl
  rw [e, toks_at (a + l.length + 1), e2, toks_at a l]
  refine ⟨fun n h => ⟨_, by rw [h]; rfl⟩, fun T h => ⟨T.map (Tk.on a), _, _, _, by rw [h]; rfl, eqv_on a T, rfl, rfl, rfl⟩⟩
/-- Two texts, the first one a line ahead. -/
theorem toks_two {l m : List UInt8} {T U : List Tk} (h1 : toksL 0 l = .good T) (h2 : toksL 0 m = .good U) : ∃ T' U' q x d, toksL 0 (l ++ 10 :: (m ++ questL)) = .good (T' ++ (U' ++ q :: [x, d])) ∧ Eqv T T' ∧ Eqv U U' ∧ kt q = (4, [63, 45]) ∧ kt x = (1, [120]) ∧ kt d = (4, [46]) := by
  obtain ⟨U', q, x, d, e1, e2, e3⟩ := (toks_quest m (0 + l.length + 1)).2 U h2
  refine ⟨T, U', q, x, d, ?_, Eqv.refl T, e2, e3⟩
  rw [toks_parts 10 (by decide) _ _ _ _ (Nat.le_refl _), h1, e1]
  rfl
/-- ParseFacts' two texts. -/
def factL (l : List UInt8) : List UInt8 := [63, 45, 32] ++ l ++ [46]
def ruleL2 (l : List UInt8) : List UInt8 := l ++ [46, 32, 120, 32, 58, 45, 32] ++ l ++ [44, 32, 110, 111, 116, 32] ++ l ++ [46, 32, 63, 45, 32, 120, 46]
theorem toks_fact (l : List UInt8) : (∀ n, toksL 0 l = .bad n → ∃ m, toksL 0 (factL l) = .bad m) ∧ (∀ T, toksL 0 l = .good T → ∃ q T' d, toksL 0 (factL l) = .good (q :: (T' ++ [d])) ∧ Eqv T T' ∧ kt q = (4, [63, 45]) ∧ kt d = (4, [46])) := by
  have e : factL l = [63, 45] ++ 32 :: (l ++ 46 :: []) := by simp [factL]
  have e1 : toksL 0 [63, 45] = .good [⟨4, [63, 45], 0⟩] := toks_one (by decide) 0
  have e2 : toksL (0 + ([63, 45] : List UInt8).length + 1) (l ++ 46 :: []) = (toksL 3 l).then (.good [⟨4, [46], 3 + l.length⟩]) := by
    rw [toks_dot 46 (.inr rfl) [] _ _ _ (Nat.le_refl _), toks_end (l := []) rfl]; rfl
  rw [e, toks_parts 32 (by decide) _ _ _ _ (Nat.le_refl _), e1, e2, toks_at 3 l]
  refine ⟨fun n h => ⟨_, by rw [h]; rfl⟩, fun T h => ⟨_, T.map (Tk.on 3), _, by rw [h]; rfl, eqv_on 3 T, rfl, rfl⟩⟩
theorem toks_rule2 {l : List UInt8} {T : List Tk} (h : toksL 0 l = .good T) : ∃ T2 T3 T4 d2 x2 i2 c2 n2 d3 R, toksL 0 (ruleL2 l) = .good (T2 ++ d2 :: x2 :: i2 :: (T3 ++ c2 :: n2 :: (T4 ++ d3 :: R))) ∧ Eqv T T2 ∧ Eqv T T3 ∧ Eqv T T4 ∧ kt d2 = (4, [46]) ∧ kt x2 = (1, [120]) ∧ kt i2 = (4, [58, 45]) ∧ kt c2 = (4, [44]) ∧ kt n2 = (1, [110, 111, 116]) ∧ kt d3 = (4, [46]) ∧ ∀ z, predT (hdT z R) = false := by
  have e : ruleL2 l = l ++ 46 :: ([32, 120, 32, 58, 45] ++ 32 :: (l ++ 44 :: ([32, 110, 111, 116] ++ 32 :: (l ++ 46 :: [32, 63, 45, 32, 120, 46])))) := by simp [ruleL2]
  have q1 : toksL 0 [32, 120, 32, 58, 45] = .good [⟨1, [120], 1⟩, ⟨4, [58, 45], 3⟩] := by
    rw [toks_more (k := 1) (n := 1) (by decide), toks_more (k := 4) (n := 2) (by decide), toks_end (by decide)]; rfl
  have q2 : toksL 0 [32, 110, 111, 116] = .good [⟨1, [110, 111, 116], 1⟩] := by
    rw [toks_more (k := 1) (n := 3) (by decide), toks_end (by decide)]; rfl
  have q3 : toksL 0 [32, 63, 45, 32, 120, 46] = .good [⟨4, [63, 45], 1⟩, ⟨1, [120], 4⟩, ⟨4, [46], 5⟩] := by
    rw [toks_more (k := 4) (n := 2) (by decide), toks_more (k := 1) (n := 1) (by decide), toks_more (k := 4) (n := 1) (by decide), toks_end (by decide)]; rfl
  have on : ∀ (a : Nat), toksL a l = .good (T.map (Tk.on a)) := fun a => by rw [toks_at, h]; rfl
  rw [e, toks_dot 46 (.inr rfl) _ _ _ _ (Nat.le_refl _), toks_parts 32 (by decide) _ _ _ _ (Nat.le_refl _), toks_dot 44 (.inl rfl) _ _ _ _ (Nat.le_refl _), toks_parts 32 (by decide) _ _ _ _ (Nat.le_refl _), toks_dot 46 (.inr rfl) _ _ _ _ (Nat.le_refl _)]
  rw [on, on, on]
  rw [toks_at _ [32, 120, 32, 58, 45], q1, toks_at _ [32, 110, 111, 116], q2, toks_at _ [32, 63, 45, 32, 120, 46], q3]
  exact ⟨T.map (Tk.on 0), T.map (Tk.on _), T.map (Tk.on _), _, _, _, _, _, _, _, rfl, eqv_on _ T, eqv_on _ T, eqv_on _ T, rfl, rfl, rfl, rfl, rfl, rfl, fun z => rfl⟩
end Go.Proofs.YtncafadjcelloaaDoor
namespace Go.Proofs.YtncafadjcelloaaDoor
open FloM ValM
set_option linter.unusedVariables false
set_option linter.unusedSimpArgs false
def Nz {α : Type} (R : Ans α) : Prop := ∀ a k, R = .no a k → k ≠ 0
section
variable {α β : Type}
theorem Nz.ok (x : α) (r : List Tk) : Nz (.ok x r) := fun a k h => by cases h
theorem Nz.no {a k : Nat} (h : k ≠ 0) : Nz (.no a k : Ans α) := fun a' k' e => by cases e; exact h
theorem Nz.bind {x : Ans α} {g : α → List Tk → Ans β} (h : Nz x) (hg : ∀ y r, Nz (g y r)) : Nz (x.bind g) := fun a k e => by
  cases x with
  | ok y r => exact hg y r a k e
  | no a' k' => cases e; exact h _ _ rfl
theorem Nz.ite {c : Prop} [Decidable c] {x y : Ans α} (hx : Nz x) (hy : Nz y) : Nz (if c then x else y) := by split <;> assumption
theorem need_nz (p : Tk → Bool) (z : Nat) (ts : List Tk) : Nz (needP p z ts) := by
  cases ts with
  | nil => exact Nz.no (by decide)
  | cons t r => unfold needP; exact Nz.ite (Nz.ok _ _) (Nz.no (by decide))
theorem want_nz (m : List UInt8) (z : Nat) (ts : List Tk) : Nz (wantP m z ts) := need_nz _ z ts
def NzP (f : Ps α) : Prop := ∀ z ts, Nz (f z ts)
theorem part_nz {op : Ps (List St)} (h : NzP op) : NzP (partP op) := fun z ts => (h z ts).bind fun s r => Nz.ok _ _
theorem seqL_nz {m : List UInt8} {k : Nat} {op : Ps (List St)} (h : NzP op) {z : Nat} : ∀ (n : Nat) (acc : List St) (ts : List Tk), Nz (seqL m k op z n acc ts)
  | 0, acc, ts => Nz.ok _ _
  | n + 1, acc, ts => by unfold seqL; exact Nz.ite ((h z _).bind fun s r => seqL_nz h n _ r) (Nz.ok _ _)
theorem sequ_nz {m : List UInt8} {k : Nat} {op : Ps (List St)} (h : NzP op) : NzP (sequP m k op) := fun z ts => (h z ts).bind fun s r => seqL_nz h _ _ _
theorem oper_nz {inner : Option (Ps (List St))} (h : ∀ f, inner = some f → NzP f) : NzP (operP inner) := fun z ts => by
  unfold operP
  refine Nz.ite ?_ (Nz.ite ((need_nz _ z _).bind fun t r => Nz.ok _ _) ((need_nz _ z _).bind fun t r => Nz.ok _ _))
  cases inner with
  | none => exact Nz.no (by decide)
  | some f => exact (h f rfl z _).bind fun s r => (want_nz _ z r).bind fun _ r => Nz.ok _ _
theorem pathB_nz {inner : Option (Ps (List St))} (h : ∀ f, inner = some f → NzP f) : NzP (pathB inner) := fun z ts =>
  (sequ_nz (sequ_nz (part_nz (oper_nz h))) z ts).bind fun s r => Nz.ite (Nz.no (by decide)) (Nz.ok _ _)
theorem path_nz : ∀ k, NzP (pathP k)
  | 0 => pathB_nz fun f e => by cases e
  | k + 1 => pathB_nz fun f e => by cases e; exact path_nz k
theorem whole_nz {f : Ps α} (h : NzP f) : NzP (wholeP f) := fun z ts => (h z ts).bind fun x r => by
  cases r with
  | nil => exact Nz.ok _ _
  | cons t r => exact Nz.no (by decide)
theorem pathS_nz (z : Nat) (R : Rs) : Nz (pathS z R) := by
  cases R with
  | bad n => exact Nz.no (by decide)
  | good ts => exact whole_nz (path_nz 32) z ts
theorem term_nz : NzP termP := fun z ts => (need_nz _ z ts).bind fun t r => Nz.ok _ _
theorem head_nz : NzP headP := fun z ts => (term_nz z ts).bind fun t r => Nz.ite (Nz.ok _ _) ((need_nz _ z _).bind fun t' r => (want_nz _ z r).bind fun _ r => Nz.ite (Nz.ok _ _) (Nz.no (by decide)))
theorem listL_nz {most z : Nat} {item : Ps α} (h : NzP item) : ∀ (n : Nat) (acc : List α) (ts : List Tk), Nz (listL most item z n acc ts)
  | 0, acc, ts => Nz.ok _ _
  | n + 1, acc, ts => by unfold listL; exact Nz.ite (Nz.ite (Nz.no (by decide)) ((h z _).bind fun x r => listL_nz h n _ r)) (Nz.ok _ _)
theorem list_nz {most : Nat} {item : Ps α} (h : NzP item) : NzP (listP most item) := fun z ts => (h z ts).bind fun x r => listL_nz h _ _ _
theorem atomB_nz {arg : Ps α} (h : NzP arg) : NzP (atomB arg) := fun z ts => (need_nz _ z ts).bind fun t r => Nz.ite ((list_nz h z _).bind fun l r => (want_nz _ z r).bind fun _ r => Nz.ok _ _) (Nz.ok _ _)
theorem atom_nz : NzP atomP := fun z ts => (atomB_nz term_nz z ts).bind fun x r => Nz.ok _ _
theorem comp_nz : NzP compP := fun z ts => (term_nz z ts).bind fun a r => (need_nz _ z r).bind fun o r => (term_nz z r).bind fun b r => Nz.ok _ _
theorem let_nz : NzP letP := fun z ts => (term_nz z ts).bind fun a r => (want_nz _ z r).bind fun _ r => (term_nz z r).bind fun b r => (need_nz _ z r).bind fun o r => (term_nz z r).bind fun c r => Nz.ok _ _
theorem walk_nz : NzP walkP := fun z ts => (want_nz _ z ts).bind fun _ r => (want_nz _ z r).bind fun _ r => (term_nz z r).bind fun a r => (want_nz _ z r).bind fun _ r => (path_nz 32 z r).bind fun p r => (want_nz _ z r).bind fun _ r => (term_nz z r).bind fun b r => (want_nz _ z r).bind fun _ r => Nz.ok _ _
theorem lit_nz : NzP litP := fun z ts => Nz.ite (comp_nz z ts) (Nz.ite (let_nz z ts) (Nz.ite ((want_nz _ z ts).bind fun _ r => (atom_nz z r).bind fun m r => Nz.ok _ _) (Nz.ite (walk_nz z ts) (Nz.ite ((atom_nz z ts).bind fun m r => Nz.ok _ _) (comp_nz z ts)))))
theorem rule_nz : NzP ruleP := fun z ts => (atomB_nz head_nz z ts).bind fun h r => Nz.ite ((list_nz lit_nz z _).bind fun b r => (want_nz _ z r).bind fun _ r => Nz.ok _ _) ((want_nz _ z r).bind fun _ r => Nz.ok _ _)
theorem rulesL_nz {z : Nat} : ∀ (n : Nat) (acc : List Rl) (ts : List Tk), Nz (rulesL z n acc ts)
  | 0, acc, ts => Nz.ok _ _
  | n + 1, acc, ts => by unfold rulesL; exact Nz.ite (Nz.ite (Nz.no (by decide)) ((rule_nz z _).bind fun x r => rulesL_nz n _ r)) (Nz.ok _ _)
theorem prog_nz : NzP progP := fun z ts => (rulesL_nz many [] ts).bind fun l r => (want_nz _ z r).bind fun _ r => (atom_nz z r).bind fun q r => (want_nz _ z r).bind fun _ r => Nz.ok _ _
end
end Go.Proofs.YtncafadjcelloaaDoor
namespace Go.Proofs.YtncafadjcelloaaDoor
open Go.RowKit FloM ValM Go.Shelf
set_option linter.unusedVariables false
set_option linter.unusedSimpArgs false
def rP : Ans Pg → Pg
  | .ok x _ => x
  | .no _ _ => ⟨[], am0⟩
def rA : Ans Pg → Nat
  | .ok _ _ => 0
  | .no a _ => a
def rK : Ans Pg → Nat
  | .ok _ _ => 0
  | .no _ k => k
/-- What Parse tells of a text. -/
abbrev TellsP (s : ByteArray) (p : Pg) (a k : Nat) : Prop := ∀ W : World, Calls Tryd.prog 11 #[.string s] W fun e w' => ∃ X : PgA, X.pg = p ∧ e = .returned (.tuple #[.agg #[.slice X.A X.r.length X.c, .string (bs X.q.p), .slice X.q.A X.q.a.length X.q.c], .int .i64 (a : Int), .int .i64 (k : Int)]) ∧ X.ok w' W.heap.size ∧ Below W.heap.size W w'
theorem parse_all (s : ByteArray) (hs : s.size ≤ 20000) : TellsP s (rP (progS s.size (toksL 0 (ls s)))) (rA (progS s.size (toksL 0 (ls s)))) (rK (progS s.size (toksL 0 (ls s)))) := fun W => by
  refine (parse_full s W hs).mono ?_
  intro e w' h
  cases hR : progS s.size (toksL 0 (ls s)) with
  | ok x r =>
    rw [hR] at h
    obtain ⟨X, h1, h2, h3, h4⟩ := h
    exact ⟨X, h1, h2, h3, h4⟩
  | no a k =>
    rw [hR] at h
    obtain ⟨h2, h4⟩ := h
    exact ⟨⟨none, 0, [], ⟨[], none, 0, []⟩⟩, rfl, h2, ⟨own_nil _ _ _ _, fun y hy => (by cases hy), own_nil _ _ _ _⟩, h4⟩
theorem progS_nz (z : Nat) (R : Rs) (h : rK (progS z R) = 0) : ∃ x, progS z R = .ok x [] ∧ ∃ ts, R = .good ts ∧ progP z ts = .ok x [] := by
  cases R with
  | bad n => exact absurd h (by show ¬ (2 : Nat) = 0; omega)
  | good ts =>
    cases e : progS z (.good ts) with
    | no a k => rw [e] at h; exact absurd h (whole_nz prog_nz z ts a k e)
    | ok x r =>
      have e' : wholeP progP z ts = .ok x r := e
      have h1 := whole_ok e'
      refine ⟨x, ?_, ts, rfl, h1⟩
      obtain ⟨y, q, e1, e2⟩ := bind_ok e'
      cases q with
      | nil => cases e2; rfl
      | cons t q => cases e2
/-- A program in a block of its own, behind Parse. -/
theorem PgA.ok.onB {W W' : World} {X : PgA} {base : Nat} (h : X.ok W base) (hb : Below W.heap.size W W') : X.ok W' base := h.frx (X := fun _ => False) (fun k hk => hk.elim) (Fr.of hb)
theorem pg_c0 {w : World} {g : Nat} {X : PgA} (h : Row 28 w g (pgC X)) : w.cell? ⟨g, 0, none⟩ = some (.slice X.A X.r.length X.c) := h.cell 0
theorem pg_c1 {w : World} {g : Nat} {X : PgA} (h : Row 28 w g (pgC X)) : w.cell? ⟨g, 1, none⟩ = some (.string (bs X.q.p)) := h.cell 1
theorem pg_c2 {w : World} {g : Nat} {X : PgA} (h : Row 28 w g (pgC X)) : w.cell? ⟨g, 2, none⟩ = some (.slice X.q.A X.q.a.length X.q.c) := h.cell 2
end Go.Proofs.YtncafadjcelloaaDoor
namespace Go.Proofs.YtncafadjcelloaaDoor
open Go.RowKit FloM ValM Go.Shelf
set_option linter.unusedVariables false
set_option linter.unusedSimpArgs false
theorem cells_back {β : Type} {cl : β → List Value} {sz : Nat} (hs : ∀ x, (cl x).length = sz) : ∀ (l : List β) (j : Nat) (u : Value), (cellsOf cl l)[j]? = some u → ∃ i x r, l[i]? = some x ∧ (cl x)[r]? = some u ∧ j = i * sz + r
  | [], j, u, h => by simp [cellsOf] at h
  | y :: l, j, u, h => by
    change (cl y ++ cellsOf cl l)[j]? = some u at h
    by_cases hj : j < (cl y).length
    · rw [List.getElem?_append_left hj] at h
      exact ⟨0, y, j, rfl, h, by omega⟩
    · rw [List.getElem?_append_right (by omega)] at h
      obtain ⟨i, x, r, h1, h2, h3⟩ := cells_back hs l _ u h
      refine ⟨i + 1, x, r, by simpa using h1, h2, ?_⟩
      have := hs y
      rw [Nat.add_mul, Nat.one_mul]; omega
theorem add_none (b o j : Nat) : (⟨b, o, none⟩ : Addr).add j = ⟨b, o + j, none⟩ := by unfold Addr.add; split <;> simp_all
section
variable {P : Program} {β : Type} {cl : β → List Value} {sz : Nat}
theorem run_appX (hcl : ∀ x, (cl x).length = sz) (h1c : ∀ x, ∀ u ∈ cl x, u.oneCell' = true) (hsz : 0 < sz) (w : World) (base : Nat) (t ty E : TypeId) (i0 : TypeInfo) (z : Value) (bytes : Nat) (ht : P.underlying t = some (.slice E)) (hi : P.info? E = some i0) (hz : i0.zero = some z) (hs : i0.size = sz) (hb : i0.bytes = bytes) (hzs : z.cells.size = sz) (hby : bytes ≤ 1000)
    (v : Value) (n : Nat) (xs : List Value) (hown : w.ownsRow base E sz v n xs) (A : Option Addr) (c : Nat) (l : List β) (hr : RdX sz cl w A l) (hn : n + l.length ≤ 1000000) (hbase : base ≤ w.heap.size) :
    ∃ v' w', (Builtin.append_ #[t, t] ty #[v, .slice A l.length c]).run P w = .ok v' w' ∧ w'.ownsRow base E sz v' (n + l.length) (xs ++ cellsOf cl l) ∧ w.grownBy w' v.ownBlock := by
  have main : ∀ (ad : Addr), (∀ j u, (cellsOf cl l)[j]? = some u → w.cell? (ad.add j) = some u) → ∃ v' w', (Builtin.append_ #[t, t] ty #[v, .slice (some ad) l.length c]).run P w = .ok v' w' ∧ w'.ownsRow base E sz v' (n + l.length) (xs ++ cellsOf cl l) ∧ w.grownBy w' v.ownBlock := by
    intro ad hnews
    obtain ⟨v', w', g1, g2, g3, _, g5⟩ := run_append_own_at (P := P) w base t ty E i0 z sz bytes ht hi hz hs hb hzs hsz v n xs hown ad l.length c (cellsOf cl l) (cellsOf_len hcl l) hnews (fun u hu => by
      obtain ⟨x, _, hx⟩ := List.mem_flatMap.1 hu
      exact h1c x u hx) (by unfold maxLen; omega) (Nat.le_trans (Nat.mul_le_mul hn hby) (by omega)) hbase
    exact ⟨v', w', g1, g2, g3⟩
  cases l with
  | nil =>
    cases A with
    | some ad => exact main ad (fun j u hu => by simp [cellsOf] at hu)
    | none =>
      refine ⟨v, w, ?_, by simpa [cellsOf] using hown, ⟨rfl, rfl, rfl, Nat.le_refl _, fun _ _ _ => rfl⟩⟩
      rcases hown.2 with ⟨rfl, rfl⟩ | ⟨g, cap, cur, rfl, _, _, hnc, _⟩
      · simp [Builtin.append_, run_underlying ht, sizeOf, typeInfo, hi, Builtin.lenOf, Builtin.firstCells]
      · simp [Builtin.append_, run_underlying ht, sizeOf, typeInfo, hi, Builtin.lenOf, Builtin.firstCells, hnc, storeCells]
  | cons x r =>
    obtain ⟨b, o, rfl, _⟩ := hr.2 0 x rfl
    refine main ⟨b, o, none⟩ fun j u hu => ?_
    obtain ⟨i, y, k, h1, h2, rfl⟩ := cells_back hcl _ j u hu
    obtain ⟨b', o', e, _, hc⟩ := hr.2 i y h1
    injection e with e; injection e with e1 e2 _; subst e1 e2
    rw [add_none, ← Nat.add_assoc]
    exact hc k u h2
theorem step_appX (hcl : ∀ x, (cl x).length = sz) (h1c : ∀ x, ∀ u ∈ cl x, u.oneCell' = true) (hsz : 0 < sz) {w : World} {o : Oper} {a : Act} {K : Act → World → Prop} {Q : Exit → Act → World → Prop} (s x : Operand) (t : TypeId)
    (ho : o.op = .call { callee := .builtin .append, args := #[s, x], argTypes := #[t, t] })
    (base : Nat) (E : TypeId) (i0 : TypeInfo) (z : Value) (bytes : Nat) (ht : P.underlying t = some (.slice E)) (hi : P.info? E = some i0) (hz : i0.zero = some z) (hs : i0.size = sz) (hb : i0.bytes = bytes) (hzs : z.cells.size = sz) (hby : bytes ≤ 1000)
    (A' : Option Addr) (n c' : Nat) (xs : List Value) (hsv : a.eval s = .slice A' n c') (hown : w.ownsRow base E sz (.slice A' n c') n xs) (A : Option Addr) (c : Nat) (l : List β) (hx : a.eval x = .slice A l.length c) (hr : RdX sz cl w A l) (hn : n + l.length ≤ 1000000) (hbase : base ≤ w.heap.size)
    (h : ∀ A2 c2 w', w'.ownsRow base E sz (.slice A2 (n + l.length) c2) (n + l.length) (xs ++ cellsOf cl l) → w.grownBy w' (Value.slice A' n c').ownBlock → K (a.put o.dst (.slice A2 (n + l.length) c2)) w') : Oper.wp P o a w K Q := by
  obtain ⟨v', w', hrun, h2, h3⟩ := run_appX (P := P) hcl h1c hsz w base t o.type E i0 z bytes ht hi hz hs hb hzs hby _ n xs hown A c l hr hn hbase
  obtain ⟨A2, c2, rfl⟩ := own_form h2
  unfold Oper.wp execOp
  simp only [ho, resolve, invoke, builtin, Sem.run_bind, Sem.run_pure, Result.andThen_ok, List.map_toArray, List.map_cons, List.map_nil, hsv, hx, hrun]
  exact h A2 c2 w' h2 h3
end
abbrev pz : List Value := [.slice none 0 0, .string ⟨#[]⟩, .slice none 0 0]
structure JA (wr : World) (n : Nat) (xs : List Value) (A : Option Addr) (c : Nat) (U : World) : Prop where
  b : Below wr.heap.size wr U
  o : U.ownsRow wr.heap.size 51 4 (.slice A n c) n xs
structure JP (wr : World) (g : Nat) (U : World) : Prop where
  ge : wr.heap.size ≤ g
  r : Row 28 U g pz
section
variable {wr U U' : World} {n g c : Nat} {xs : List Value} {A : Option Addr}
theorem JA.al (h : JA wr n xs A c U) (o : Obj) : JA wr n xs A c (U.alloc o) := ⟨h.b.alloc h.b.size o, own_on h.o ((Below.refl _ _).alloc (Nat.le_refl _) _)⟩
theorem JP.al (h : JP wr g U) (o : Obj) : JP wr g (U.alloc o) := ⟨h.ge, rowOn h.r ((Below.refl _ _).alloc (Nat.le_refl _) _)⟩
theorem JA.made (hb : Below wr.heap.size wr U) : JA wr 0 [] (some ⟨U.heap.size, 0, none⟩) 0 (U.alloc (.cells #[] 51)) := ⟨hb.alloc hb.size _, own_less (World.ownsRow_made U #[] 0 (Nat.le_refl _) (Nat.zero_le _) rfl) hb.size⟩
theorem JP.made (hb : Below wr.heap.size wr U) : JP wr U.heap.size (U.alloc (.cells pz.toArray 28)) := ⟨hb.size, row_new U pz⟩
theorem JA.grow {m c2 : Nat} {ys : List Value} {A2 : Option Addr} (h : JA wr n xs A c U) (ho : U'.ownsRow wr.heap.size 51 4 (.slice A2 m c2) m ys) (hg : U.grownBy U' (Value.slice A n c).ownBlock) : JA wr m ys A2 c2 U' := ⟨h.b.grown hg h.b.size (own_base h.o), ho⟩
theorem JP.grow (h : JP wr g U) (hj : JA wr n xs A c U) (hg : U.grownBy U' (Value.slice A n c).ownBlock) : JP wr g U' := ⟨h.ge, h.r.fr (fr_of_grown hg) h.r.lt fun e => by
  obtain ⟨_, cs, z, h1⟩ := own_typ hj.o g e
  have h2 := h.r
  unfold Row at h2
  rw [h1] at h2
  injection h2 with h2; injection h2 with _ h2 _
  exact absurd h2 (by decide)⟩
end
theorem rl_one : ∀ x : RlA, ∀ u ∈ rlC x, u.oneCell' = true := fun x u hu => by
  simp only [rlC, List.mem_cons, List.not_mem_nil, or_false] at hu
  rcases hu with rfl | rfl | rfl | rfl <;> rfl
end Go.Proofs.YtncafadjcelloaaDoor
namespace Go.Proofs.YtncafadjcelloaaDoor
open FloM ValM
set_option linter.unusedVariables false
set_option linter.unusedSimpArgs false
def Nq {α : Type} (R : Ans α) : Prop := ∀ a k, R = .no a k → (k = 2 ∨ k = 3 ∨ k = 4)
section
variable {α β : Type}
theorem Nq.ok (x : α) (r : List Tk) : Nq (.ok x r) := fun a k h => by cases h
theorem Nq.no {a k : Nat} (h : (k = 2 ∨ k = 3 ∨ k = 4)) : Nq (.no a k : Ans α) := fun a' k' e => by cases e; exact h
theorem Nq.bind {x : Ans α} {g : α → List Tk → Ans β} (h : Nq x) (hg : ∀ y r, Nq (g y r)) : Nq (x.bind g) := fun a k e => by
  cases x with
  | ok y r => exact hg y r a k e
  | no a' k' => cases e; exact h _ _ rfl
theorem Nq.ite {c : Prop} [Decidable c] {x y : Ans α} (hx : Nq x) (hy : Nq y) : Nq (if c then x else y) := by split <;> assumption
theorem need_nq (p : Tk → Bool) (z : Nat) (ts : List Tk) : Nq (needP p z ts) := by
  cases ts with
  | nil => exact Nq.no (by decide)
  | cons t r => unfold needP; exact Nq.ite (Nq.ok _ _) (Nq.no (by decide))
theorem want_nq (m : List UInt8) (z : Nat) (ts : List Tk) : Nq (wantP m z ts) := need_nq _ z ts
def NqP (f : Ps α) : Prop := ∀ z ts, Nq (f z ts)
theorem part_nq {op : Ps (List St)} (h : NqP op) : NqP (partP op) := fun z ts => (h z ts).bind fun s r => Nq.ok _ _
theorem seqL_nq {m : List UInt8} {k : Nat} {op : Ps (List St)} (h : NqP op) {z : Nat} : ∀ (n : Nat) (acc : List St) (ts : List Tk), Nq (seqL m k op z n acc ts)
  | 0, acc, ts => Nq.ok _ _
  | n + 1, acc, ts => by unfold seqL; exact Nq.ite ((h z _).bind fun s r => seqL_nq h n _ r) (Nq.ok _ _)
theorem sequ_nq {m : List UInt8} {k : Nat} {op : Ps (List St)} (h : NqP op) : NqP (sequP m k op) := fun z ts => (h z ts).bind fun s r => seqL_nq h _ _ _
theorem oper_nq {inner : Option (Ps (List St))} (h : ∀ f, inner = some f → NqP f) : NqP (operP inner) := fun z ts => by
  unfold operP
  refine Nq.ite ?_ (Nq.ite ((need_nq _ z _).bind fun t r => Nq.ok _ _) ((need_nq _ z _).bind fun t r => Nq.ok _ _))
  cases inner with
  | none => exact Nq.no (by decide)
  | some f => exact (h f rfl z _).bind fun s r => (want_nq _ z r).bind fun _ r => Nq.ok _ _
theorem pathB_nq {inner : Option (Ps (List St))} (h : ∀ f, inner = some f → NqP f) : NqP (pathB inner) := fun z ts =>
  (sequ_nq (sequ_nq (part_nq (oper_nq h))) z ts).bind fun s r => Nq.ite (Nq.no (by decide)) (Nq.ok _ _)
theorem path_nq : ∀ k, NqP (pathP k)
  | 0 => pathB_nq fun f e => by cases e
  | k + 1 => pathB_nq fun f e => by cases e; exact path_nq k
theorem whole_nq {f : Ps α} (h : NqP f) : NqP (wholeP f) := fun z ts => (h z ts).bind fun x r => by
  cases r with
  | nil => exact Nq.ok _ _
  | cons t r => exact Nq.no (by decide)
theorem pathS_nq (z : Nat) (R : Rs) : Nq (pathS z R) := by
  cases R with
  | bad n => exact Nq.no (by decide)
  | good ts => exact whole_nq (path_nq 32) z ts
theorem term_nq : NqP termP := fun z ts => (need_nq _ z ts).bind fun t r => Nq.ok _ _
theorem head_nq : NqP headP := fun z ts => (term_nq z ts).bind fun t r => Nq.ite (Nq.ok _ _) ((need_nq _ z _).bind fun t' r => (want_nq _ z r).bind fun _ r => Nq.ite (Nq.ok _ _) (Nq.no (by decide)))
theorem listL_nq {most z : Nat} {item : Ps α} (h : NqP item) : ∀ (n : Nat) (acc : List α) (ts : List Tk), Nq (listL most item z n acc ts)
  | 0, acc, ts => Nq.ok _ _
  | n + 1, acc, ts => by unfold listL; exact Nq.ite (Nq.ite (Nq.no (by decide)) ((h z _).bind fun x r => listL_nq h n _ r)) (Nq.ok _ _)
theorem list_nq {most : Nat} {item : Ps α} (h : NqP item) : NqP (listP most item) := fun z ts => (h z ts).bind fun x r => listL_nq h _ _ _
theorem atomB_nq {arg : Ps α} (h : NqP arg) : NqP (atomB arg) := fun z ts => (need_nq _ z ts).bind fun t r => Nq.ite ((list_nq h z _).bind fun l r => (want_nq _ z r).bind fun _ r => Nq.ok _ _) (Nq.ok _ _)
theorem atom_nq : NqP atomP := fun z ts => (atomB_nq term_nq z ts).bind fun x r => Nq.ok _ _
theorem comp_nq : NqP compP := fun z ts => (term_nq z ts).bind fun a r => (need_nq _ z r).bind fun o r => (term_nq z r).bind fun b r => Nq.ok _ _
theorem let_nq : NqP letP := fun z ts => (term_nq z ts).bind fun a r => (want_nq _ z r).bind fun _ r => (term_nq z r).bind fun b r => (need_nq _ z r).bind fun o r => (term_nq z r).bind fun c r => Nq.ok _ _
theorem walk_nq : NqP walkP := fun z ts => (want_nq _ z ts).bind fun _ r => (want_nq _ z r).bind fun _ r => (term_nq z r).bind fun a r => (want_nq _ z r).bind fun _ r => (path_nq 32 z r).bind fun p r => (want_nq _ z r).bind fun _ r => (term_nq z r).bind fun b r => (want_nq _ z r).bind fun _ r => Nq.ok _ _
theorem lit_nq : NqP litP := fun z ts => Nq.ite (comp_nq z ts) (Nq.ite (let_nq z ts) (Nq.ite ((want_nq _ z ts).bind fun _ r => (atom_nq z r).bind fun m r => Nq.ok _ _) (Nq.ite (walk_nq z ts) (Nq.ite ((atom_nq z ts).bind fun m r => Nq.ok _ _) (comp_nq z ts)))))
theorem rule_nq : NqP ruleP := fun z ts => (atomB_nq head_nq z ts).bind fun h r => Nq.ite ((list_nq lit_nq z _).bind fun b r => (want_nq _ z r).bind fun _ r => Nq.ok _ _) ((want_nq _ z r).bind fun _ r => Nq.ok _ _)
theorem rulesL_nq {z : Nat} : ∀ (n : Nat) (acc : List Rl) (ts : List Tk), Nq (rulesL z n acc ts)
  | 0, acc, ts => Nq.ok _ _
  | n + 1, acc, ts => by unfold rulesL; exact Nq.ite (Nq.ite (Nq.no (by decide)) ((rule_nq z _).bind fun x r => rulesL_nq n _ r)) (Nq.ok _ _)
theorem prog_nq : NqP progP := fun z ts => (rulesL_nq many [] ts).bind fun l r => (want_nq _ z r).bind fun _ r => (atom_nq z r).bind fun q r => (want_nq _ z r).bind fun _ r => Nq.ok _ _
end
end Go.Proofs.YtncafadjcelloaaDoor

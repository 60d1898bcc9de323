/-
  Package safe: Binds, Vars, and the state of Order.
-/
import Derived.Test.YtahljmddnfldlaaSafR
import Derived.Laws.MakeOwn
import Derived.Deep.OwnRows
namespace Go.Proofs.Ytahljmddnfldlaa
open Go.RowKit FloM ValM Go.Shelf Go.Maps
set_option linter.unusedVariables false
set_option linter.unusedSimpArgs false
set_option maxRecDepth 20000 in
set_option maxHeartbeats 8000000 in
theorem binds_any (x : LtI) (A : Option Addr) (c : Nat) (l : List Nm) (W : World) (hx : x.rd W) (hok : x.ok) (hl : x.m.a.length ≤ 1000) (hr : RdN W A l) (hn : NmOk l) (hln : l.length ≤ 100000) :
    Calls Try.prog 16 #[.agg (ltIC x).toArray, .slice A l.length c] W (SaysN (namesL (l ++ vsL x)) W) := by
  have hB0 : Below W.heap.size W (W.alloc (.cells (ltIC x).toArray 43)) := (Below.refl _ _).alloc (Nat.le_refl _) _
  have HB0 := Lib.hid hB0; have HX := Lib.hid hx; have HOK := Lib.hid hok
  have HRG : Hid (∀ V, Below (W.alloc (.cells (ltIC x).toArray 43)).heap.size (W.alloc (.cells (ltIC x).toArray 43)) V → V.rangeAt W.heap.size 0 (ltIC x)) := Lib.hid fun V hV j v hj => by rw [Nat.zero_add]; exact ((rowOn (lit_row x W) hV).cell j).trans hj
  have HS : Hid (Calls Try.prog 27 #[.slice A l.length c] (W.alloc (.cells (ltIC x).toArray 43)) fun e w' => e = .returned (.map (some (W.heap.size + 1))) ∧ SetAt w' (W.heap.size + 1) l.length l ∧ Below (W.alloc (.cells (ltIC x).toArray 43)).heap.size (W.alloc (.cells (ltIC x).toArray 43)) w') := Lib.hid (by
    have h := setOf_any A c l _ (RdX.on hr hB0) hn (show l.length ≤ 1000000 by omega)
    rw [World.size_alloc] at h ⊢
    exact h)
  clear hx hok hr hn hB0
  go_enter Try.func16, Try.ntmps16
  go_upto_region 2 with (go_at_call 27; refine HS.out.mono ?_; rintro e w1 ⟨rfl, hS1, hB1⟩; have HS1 := Lib.hid hS1; have HB1 := Lib.hid hB1; clear hS1 hB1)
  have HRG1 := Lib.hid (HRG.out w1 HB1.out)
  go_wp2_with (first
    | (refine wpList_load_mid rfl 43 (.tmp 2) rfl W.heap.size 0 rfl (ltIC x) _ HRG1.out Try.underlying43 rfl (by kernel_rfl) ?_)
    | (go_at_call 29; refine (bind_any (W.heap.size + 1) l.length l x _ HS1.out (by omega) (HX.out.on (on HB0.out HB1.out)) HOK.out hl).mono ?_; rintro e w2 ⟨rfl, hS2, hF2⟩; have HS2 := Lib.hid hS2; have HF2 := Lib.hid hF2; clear hS2 hF2)
    | (go_at_call 30; refine (list_any (W.heap.size + 1) _ _ _ HS2.out (by omega)).mono ?_; rintro e w3 ⟨A3, c3, rfl, hO, hB3⟩; have HO := Lib.hid hO; have HB3 := Lib.hid hB3; clear hO hB3))
  go_ret
  have e1 := HB0.out.size; have e2 := HB1.out.size; have e3 := HF2.out.size
  have hB2 : Below W.heap.size W w2 := (on HB0.out HB1.out).trans (HF2.out.below (Nat.le_trans e1 e2) (fun k hk e => by omega))
  exact ⟨A3, c3, rfl, own_less HO.out hB2.size, on hB2 HB3.out⟩
set_option maxRecDepth 20000 in
set_option maxHeartbeats 8000000 in
theorem vars_any (x : LtI) (W : World) (hx : x.rd W) (hok : x.ok) (hl : x.m.a.length ≤ 1000) :
    Calls Try.prog 14 #[.agg (ltIC x).toArray] W (SaysN (namesL (vsL x)) W) := by
  have hB0 : Below W.heap.size W (W.alloc (.cells (ltIC x).toArray 43)) := (Below.refl _ _).alloc (Nat.le_refl _) _
  have HB0 := Lib.hid hB0
  have HRG := Lib.hid (lit_at x W)
  have HB : Hid (Calls Try.prog 16 #[.agg (ltIC x).toArray, .slice none 0 0] (W.alloc (.cells (ltIC x).toArray 43)) (SaysN (namesL (vsL x)) (W.alloc (.cells (ltIC x).toArray 43)))) := Lib.hid (by
    have h := binds_any x none 0 [] _ (hx.on hB0) hok hl ⟨Nat.zero_le _, fun i y hy => by simp at hy⟩ (fun s hs => by cases hs) (Nat.zero_le _)
    exact h)
  clear hx hok hB0
  go_enter Try.func14, Try.ntmps14
  go_wp2_with (first
    | (refine wpList_load_mid rfl 43 (.tmp 1) rfl W.heap.size 0 rfl (ltIC x) _ HRG.out Try.underlying43 rfl (by kernel_rfl) ?_)
    | (go_at_call 16; refine HB.out.mono ?_; rintro e w2 ⟨A3, c3, rfl, hO, hB2⟩; have HO := Lib.hid hO; have HB2 := Lib.hid hB2; clear hO hB2))
  go_ret
  exact ⟨A3, c3, rfl, own_less HO.out HB0.out.size, on HB0.out HB2.out⟩
/-! ### Order -/
/-- A struct that is loaded in an operation with a guard that wants it. -/
theorem wpList_load_want {P : Program} {ops : Array Oper} {rest : List Oper} {op : Oper} {a : Act} {w : World} {Q : Exit → Act → World → Prop} (hw : Region.wanted op (yielded ops a.tmps) = true) (ty : TypeId) (x : Operand) (ho : op.op = .load ty x)
    (b o : Nat) (hx : a.eval x = .pointer (some ⟨b, o, none⟩)) (cs : List Value) (d : TypeDesc) (hc : w.rangeAt b o cs)
    (hu : P.underlying ty = some d) (hd : d.isRow = true) (hi : (P.info? ty).map (·.size) = some cs.length)
    (h : wpList P ops Q rest (a.put op.dst (.agg cs.toArray)) w) : wpList P ops Q (op :: rest) a w := by
  unfold wpList
  rw [if_pos hw]
  exact .inl (wp_load_mid ty x ho b o hx cs d hc hu hd hi h)
def niC (n : Nat) : List Value := [.int .i64 (n : Int)]
theorem ni_one : ∀ x : Nat, ∀ u ∈ niC x, u.oneCell' = true := fun x u hu => by
  simp only [niC, List.mem_cons, List.not_mem_nil, or_false] at hu
  subst hu; rfl
theorem rowIs_fr {X : Nat → Prop} {B g n : Nat} {t : TypeId} {f : Nat → Value} {w w' : World} (h : w.rowIs g t n f) (hF : Fr X B w w') (hg : g < B) (hx : ¬ X g) : w'.rowIs g t n f := by
  obtain ⟨c, h1, h2⟩ := h
  exact ⟨c, (hF.block g hg hx).trans h1, h2⟩
theorem rowIs_lt {g n : Nat} {t : TypeId} {f : Nat → Value} {w : World} (h : w.rowIs g t n f) : g < w.heap.size := by
  obtain ⟨c, h1, h2⟩ := h
  exact (Array.getElem?_eq_some_iff.1 h1).1
def selF (t : List Nat) (i : Nat) : Value := .bool (decide (i ∈ t))
/-- What Order holds: the set, the row of what is selected, and the row of the order. -/
structure OrdS (m n0 b g base : Nat) (t : List Nat) (S : List Nm) (A : Option Addr) (c : Nat) (W wr : World) : Prop where
  be : Below W.heap.size W wr
  set : SetAt wr b (n0 + 1003 * t.length) S
  sel : wr.rowIs g 4 m (selF t)
  own : OwnX 3 1 niC wr base A c t
  lb : b < base
  lg : g < base
  lw : base ≤ wr.heap.size
  ne : b ≠ g
  gb : W.heap.size ≤ b
  gg : W.heap.size ≤ g
section
variable {m n0 b g base c : Nat} {t : List Nat} {S : List Nm} {A : Option Addr} {W wr w' : World}
theorem OrdS.on (h : OrdS m n0 b g base t S A c W wr) (hb : Below wr.heap.size wr w') : OrdS m n0 b g base t S A c W w' where
  be := Go.Proofs.Ytahljmddnfldlaa.on h.be hb
  set := h.set.on hb
  sel := rowIs_fr h.sel (X := fun _ => False) (Fr.of hb) (rowIs_lt h.sel) (fun h => h)
  own := own_on h.own hb
  lb := h.lb
  lg := h.lg
  lw := Nat.le_trans h.lw hb.size
  ne := h.ne
  gb := h.gb
  gg := h.gg
theorem OrdS.mid {i : Nat} {w2 : World} (h : OrdS m n0 b g base t S A c W wr) (hg : wr.grownBy w2 (Value.slice A t.length c).ownBlock) :
    Below W.heap.size W (w2.setCell ⟨g, i, none⟩ (.bool true)) ∧ SetAt (w2.setCell ⟨g, i, none⟩ (.bool true)) b (n0 + 1003 * t.length) S := by
  have g1 := h.gg; have g2 := h.gb; have g3 := h.lb; have g4 := h.lg; have g5 := h.lw; have g6 := h.ne
  have hW := h.be.size
  have own1 := own_base h.own
  have f12 : Fr (fun k => base ≤ k) wr.heap.size wr w2 := Fr.imp (fr_of_grown hg) fun k e => own1 k e
  have f23 := fr_set w2 g i (.bool true) w2.heap.size
  have z12 := f12.size
  exact ⟨(h.be.trans (f12.below (B' := W.heap.size) (by omega) (fun k hk e => by omega))).trans (f23.below (by omega) (fun k hk e => by omega)), (h.set.fr f12 (by omega) (by omega)).fr f23 (by omega) (fun e => g6 e)⟩
theorem OrdS.step {S' : List Nm} {A2 : Option Addr} {c2 i : Nat} {w1 w2 w3 w4 : World} (h : OrdS m n0 b g base t S A c W wr) (hi : i < m)
    (h1 : Below wr.heap.size wr w1) (ho : w2.ownsRow base 3 1 (.slice A2 (t.length + 1) c2) (t.length + 1) (cellsOf niC t ++ [.int .i64 (i : Int)])) (hg : w1.grownBy w2 (Value.slice A t.length c).ownBlock)
    (h3 : w3 = w2.setCell ⟨g, i, none⟩ (.bool true)) (hs : SetAt w4 b (n0 + 1003 * (t.length + 1)) S') (hF : Fr (· = b) w3.heap.size w3 w4) : OrdS m n0 b g base (t ++ [i]) S' A2 c2 W w4 := by
  have hh := h.on h1
  have g1 := hh.gg; have g2 := hh.gb; have g3 := hh.lb; have g4 := hh.lg; have g5 := hh.lw
  have hW := hh.be.size
  have own1 := own_base hh.own
  have f12 : Fr (fun k => base ≤ k) w1.heap.size w1 w2 := Fr.imp (fr_of_grown hg) fun k e => own1 k e
  have f23 : Fr (· = g) w2.heap.size w2 w3 := by rw [h3]; exact fr_set _ _ _ _ _
  have z12 := f12.size; have z23 := f23.size; have z34 := hF.size
  have sel2 : w2.rowIs g 4 m (selF t) := rowIs_fr hh.sel f12 (by omega) (by omega)
  have sel3 : w3.rowIs g 4 m (selF (t ++ [i])) := by
    rw [h3]
    refine (sel2.set i (.bool true)).congr fun j _ => ?_
    unfold selF
    by_cases e : j = i
    · subst e; simp
    · simp [e]
  have own4 : OwnX 3 1 niC w4 base A2 c2 (t ++ [i]) := by
    have o2 : OwnX 3 1 niC w2 base A2 c2 (t ++ [i]) := OwnX.app (b := i) ho
    unfold OwnX at o2 ⊢
    have o3 := own_frx (X := (· = g)) o2 (fun k e => by omega) f23
    exact own_frx (X := (· = b)) o3 (fun k e => by omega) hF
  refine ⟨?_, by rw [List.length_append]; exact hs, rowIs_fr sel3 hF (by omega) (fun e => hh.ne e.symm), own4, g3, g4, by omega, hh.ne, g2, g1⟩
  refine hh.be.trans ?_
  refine ((f12.below (B' := W.heap.size) (by omega) (fun k hk e => by omega)).trans (f23.below (by omega) (fun k hk e => by omega))).trans (hF.below (by omega) (fun k hk e => by omega))
end
end Go.Proofs.Ytahljmddnfldlaa

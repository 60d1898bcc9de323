/-
  Package parse: literals. (The three theorems on compare, let and walk are printed by tools/mklit.py.)
-/
import Derived.Test.YtdolhlbkhhnpmaaDoorPrsX
namespace Go.Proofs.YtdolhlbkhhnpmaaDoor
open Go.RowKit FloM ValM Go.Shelf
set_option linter.unusedVariables false
set_option linter.unusedSimpArgs false
structure LtA where
  k : Nat
  m : AmA
  o : List UInt8
  a : Tm
  b : Tm
  c : Tm
  pA : Option Addr
  pc : Nat
  p : List St
def LtA.lt (x : LtA) : Lt := ⟨x.k, x.m.am, x.o, x.a, x.b, x.c, x.p⟩
def litC (x : LtA) : List Value := [.int .i64 (x.k : Int), .string (bs x.m.p), .slice x.m.A x.m.a.length x.m.c, .string (bs x.o), .string (bs x.a.v), .int .i64 x.a.x.k, .int .i64 x.a.x.n, .string x.a.x.s, .string (bs x.b.v), .int .i64 x.b.x.k, .int .i64 x.b.x.n, .string x.b.x.s, .string (bs x.c.v), .int .i64 x.c.x.k, .int .i64 x.c.x.n, .string x.c.x.s, .slice x.pA x.p.length x.pc]
def LtA.ok (W : World) (base : Nat) (x : LtA) : Prop := x.m.ok W base ∧ OwnS W base x.pA x.pc x.p
def am0A : AmA := ⟨[], none, 0, []⟩
def LitQ (R : Ans Lt) (rb tb z o : Nat) (W : World) (e : Ending) (w' : World) : Prop := match R with
  | .ok x r => ∃ X : LtA, X.lt = x ∧ e = .returned (.agg (litC X).toArray) ∧ X.ok w' W.heap.size ∧ RdrAt w' rb tb z r o ∧ Fr (· = rb) W.heap.size W w'
  | .no a k => e = .panicked [{ v := faultP a k, recovered := false }] ∧ Fr (· = rb) W.heap.size W w'
section
variable {W W' : World} {rb tb z o : Nat} {ts : List Tk}
theorem want_new2 (m n : ByteArray) (W : World) (h : RdrAt W rb tb z ts o) (hm : ls m ≠ []) (hn : ls n ≠ []) :
    Calls Tryd.prog 76 #[.pointer (some ⟨rb, 0, none⟩), .slice (some ⟨W.heap.size, 0, none⟩) 2 2] (W.alloc (.cells #[.string m, .string n] 9)) fun e w' => match (wantP (ls m) z ts).bind fun _ r => wantP (ls n) z r with
      | .ok _ r => e = .returned (.tuple #[]) ∧ RdrAt w' rb tb z r o ∧ Fr (· = rb) W.heap.size W w'
      | .no a k => e = .panicked [{ v := faultP a k, recovered := false }] ∧ Fr (· = rb) W.heap.size W w' := by
  have hbx : Below W.heap.size W (W.alloc (.cells #[.string m, .string n] 9)) := (Below.refl _ _).alloc (Nat.le_refl _) _
  have hrl := h.lt
  have hw := want_any (some ⟨W.heap.size, 0, none⟩) 2 [m, n] _ (h.on hbx) (fun i x hi => by
    match i with
    | 0 => simp only [List.getElem?_cons_zero, Option.some.injEq] at hi; subst hi; exact ⟨W.heap.size, 0, rfl, by simp, by omega, by simp⟩
    | 1 => simp only [List.getElem?_cons_succ, List.getElem?_cons_zero, Option.some.injEq] at hi; subst hi; exact ⟨W.heap.size, 0, rfl, by simp, by omega, by simp⟩
    | i + 2 => simp at hi) (fun x hx => (List.mem_cons.1 hx).elim (fun e => e ▸ hm) fun hx => List.mem_singleton.1 hx ▸ hn) (by simp)
  refine Calls.mono hw ?_
  intro e w' hq
  have he : wantsP [m, n] z ts = (wantP (ls m) z ts).bind fun _ r => (wantP (ls n) z r).bind fun _ r => .ok () r := rfl
  rw [he] at hq
  cases h1 : wantP (ls m) z ts with
  | no a k => rw [h1] at hq; exact ⟨hq.1, (Fr.of hbx).trans (hq.2.mono hbx.size)⟩
  | ok t r =>
    rw [h1] at hq
    simp only [Ans.bind] at hq ⊢
    cases h2 : wantP (ls n) z r with
    | no a k => rw [h2] at hq; exact ⟨hq.1, (Fr.of hbx).trans (hq.2.mono hbx.size)⟩
    | ok t2 r2 => rw [h2] at hq; exact ⟨hq.1, hq.2.1, (Fr.of hbx).trans (hq.2.2.mono hbx.size)⟩
theorem want_newN (m n : ByteArray) (W : World) (k : Nat) (hk : W.heap.size = k) (h : RdrAt W rb tb z ts o) (hm : ls m ≠ []) (hn : ls n ≠ []) :
    Calls Tryd.prog 76 #[.pointer (some ⟨rb, 0, none⟩), .slice (some ⟨k, 0, none⟩) 2 2] (W.alloc (.cells #[.string m, .string n] 9)) fun e w' => match (wantP (ls m) z ts).bind fun _ r => wantP (ls n) z r with
      | .ok _ r => e = .returned (.tuple #[]) ∧ RdrAt w' rb tb z r o ∧ Fr (· = rb) W.heap.size W w'
      | .no a k => e = .panicked [{ v := faultP a k, recovered := false }] ∧ Fr (· = rb) W.heap.size W w' := by
  subst hk
  exact want_new2 m n W h hm hn
end
end Go.Proofs.YtdolhlbkhhnpmaaDoor

/-
  A block of the call's own, kept over new blocks, stores elsewhere, and calls that leave old memory as it was.
-/
import Derived.Test.YtahljmddnfldlaaGreatDoorValNum
namespace Go.Proofs.YtahljmddnfldlaaGreatDoor
open Go.RowKit FloM ValM

theorem Row.lt {t : TypeId} {w : World} {g : Nat} {cs : List Value} (h : Row t w g cs) : g < w.heap.size := by
  rcases Nat.lt_or_ge g w.heap.size with h' | h'
  · exact h'
  · unfold Row at h; rw [Array.getElem?_eq_none h'] at h; cases h
theorem row_new {t : TypeId} (w : World) (cs : List Value) : Row t (w.alloc (.cells cs.toArray t)) w.heap.size cs := heap_alloc_new w _
theorem Row.alloc {t : TypeId} {w : World} {g : Nat} {cs : List Value} (h : Row t w g cs) (o : Obj) : Row t (w.alloc o) g cs := (Below.heap_alloc w o g h.lt).trans h
theorem Row.far {t : TypeId} {w : World} {g : Nat} {cs : List Value} (h : Row t w g cs) {p : Addr} (hp : g ≠ p.block) (v : Value) : Row t (w.setCell p v) g cs := (Below.heap_setCell w p v g hp).trans h
theorem rowOn {t : TypeId} {u w' : World} {g : Nat} {cs : List Value} (h : Row t u g cs) (h' : Below u.heap.size u w') : Row t w' g cs := (h'.block g h.lt).trans h

/-- Three values in three blocks from w's end on, in a world that has left w as it was. -/
structure Held3 (w u : World) (a b c : V) : Prop where
  bel : Below w.heap.size w u
  lt : w.heap.size + 2 < u.heap.size
  a0 : u.cell? ⟨w.heap.size, 0, none⟩ = some (.int .i64 a.k)
  a1 : u.cell? ⟨w.heap.size, 1, none⟩ = some (.int .i64 a.n)
  a2 : u.cell? ⟨w.heap.size, 2, none⟩ = some (.string a.s)
  b0 : u.cell? ⟨w.heap.size + 1, 0, none⟩ = some (.int .i64 b.k)
  b1 : u.cell? ⟨w.heap.size + 1, 1, none⟩ = some (.int .i64 b.n)
  b2 : u.cell? ⟨w.heap.size + 1, 2, none⟩ = some (.string b.s)
  c0 : u.cell? ⟨w.heap.size + 2, 0, none⟩ = some (.int .i64 c.k)
  c1 : u.cell? ⟨w.heap.size + 2, 1, none⟩ = some (.int .i64 c.n)
  c2 : u.cell? ⟨w.heap.size + 2, 2, none⟩ = some (.string c.s)
theorem Held3.on {w u u' : World} {a b c : V} (h : Held3 w u a b c) (h' : Below u.heap.size u u') : Held3 w u' a b c :=
  have k := keep h'
  have l := h.lt
  ⟨Go.Proofs.YtahljmddnfldlaaGreatDoor.on h.bel h', Nat.lt_of_lt_of_le h.lt h'.size, (k _ _ (by omega)).trans h.a0, (k _ _ (by omega)).trans h.a1, (k _ _ (by omega)).trans h.a2, (k _ _ (by omega)).trans h.b0, (k _ _ (by omega)).trans h.b1, (k _ _ (by omega)).trans h.b2, (k _ _ (by omega)).trans h.c0, (k _ _ (by omega)).trans h.c1, (k _ _ (by omega)).trans h.c2⟩
theorem Held3.new (w : World) (a b c : V) : Held3 w (((w.alloc (.cells #[.int .i64 a.k, .int .i64 a.n, .string a.s] 46)).alloc (.cells #[.int .i64 b.k, .int .i64 b.n, .string b.s] 46)).alloc (.cells #[.int .i64 c.k, .int .i64 c.n, .string c.s] 46)) a b c := by
  have ra := ((row_new (t := 46) w [.int .i64 a.k, .int .i64 a.n, .string a.s]).alloc (.cells #[.int .i64 b.k, .int .i64 b.n, .string b.s] 46)).alloc (.cells #[.int .i64 c.k, .int .i64 c.n, .string c.s] 46)
  have rb := (row_new (t := 46) (w.alloc (.cells #[.int .i64 a.k, .int .i64 a.n, .string a.s] 46)) [.int .i64 b.k, .int .i64 b.n, .string b.s]).alloc (.cells #[.int .i64 c.k, .int .i64 c.n, .string c.s] 46)
  have rc := row_new (t := 46) ((w.alloc (.cells #[.int .i64 a.k, .int .i64 a.n, .string a.s] 46)).alloc (.cells #[.int .i64 b.k, .int .i64 b.n, .string b.s] 46)) [.int .i64 c.k, .int .i64 c.n, .string c.s]
  have e1 : (w.alloc (.cells #[.int .i64 a.k, .int .i64 a.n, .string a.s] 46)).heap.size = w.heap.size + 1 := by simp
  have e2 : ((w.alloc (.cells #[.int .i64 a.k, .int .i64 a.n, .string a.s] 46)).alloc (.cells #[.int .i64 b.k, .int .i64 b.n, .string b.s] 46)).heap.size = w.heap.size + 2 := by simp
  rw [e1] at rb
  rw [e2] at rc
  refine ⟨(((Below.refl _ _).alloc (Nat.le_refl _) _).alloc (by simp) _).alloc (by simp <;> omega) _, by simp, ra.cell 0, ra.cell 1, ra.cell 2, rb.cell 0, rb.cell 1, rb.cell 2, rc.cell 0, rc.cell 1, rc.cell 2⟩
end Go.Proofs.YtahljmddnfldlaaGreatDoor

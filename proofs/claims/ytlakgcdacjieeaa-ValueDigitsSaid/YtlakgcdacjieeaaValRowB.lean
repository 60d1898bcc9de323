/-
  Two values in two blocks from w's end on, kept over calls that leave old memory as it was; the contracts of both ways' calls in these words.
-/
import Derived.Test.YtlakgcdacjieeaaValRow
import Derived.Test.YtlakgcdacjieeaaValRefR
namespace Go.Proofs.Ytlakgcdacjieeaa
open Go.RowKit FloM ValM

structure Held2 (w u : World) (a b : V) : Prop where
  bel : Below w.heap.size w u
  lt : w.heap.size + 1 < u.heap.size
  a0 : u.cell? ⟨w.heap.size, 0, none⟩ = some (.int .i64 a.k)
  a1 : u.cell? ⟨w.heap.size, 1, none⟩ = some (.int .i64 a.n)
  a2 : u.cell? ⟨w.heap.size, 2, none⟩ = some (.string a.s)
  b0 : u.cell? ⟨w.heap.size + 1, 0, none⟩ = some (.int .i64 b.k)
  b1 : u.cell? ⟨w.heap.size + 1, 1, none⟩ = some (.int .i64 b.n)
  b2 : u.cell? ⟨w.heap.size + 1, 2, none⟩ = some (.string b.s)
theorem Held2.on {w u u' : World} {a b : V} (h : Held2 w u a b) (h' : Below u.heap.size u u') : Held2 w u' a b :=
  have k := keep h'
  have l := h.lt
  ⟨Go.Proofs.Ytlakgcdacjieeaa.on h.bel h', Nat.lt_of_lt_of_le h.lt h'.size, (k _ _ (by omega)).trans h.a0, (k _ _ (by omega)).trans h.a1, (k _ _ (by omega)).trans h.a2, (k _ _ (by omega)).trans h.b0, (k _ _ (by omega)).trans h.b1, (k _ _ (by omega)).trans h.b2⟩
theorem Held2.drew {w u : World} {a b : V} (h : Held2 w u a b) : Held2 w u.drew a b := ⟨h.bel.drew, h.lt, h.a0, h.a1, h.a2, h.b0, h.b1, h.b2⟩
theorem Held2.new (w : World) (a b : V) : Held2 w ((w.alloc (.cells #[.int .i64 a.k, .int .i64 a.n, .string a.s] 23)).alloc (.cells #[.int .i64 b.k, .int .i64 b.n, .string b.s] 23)) a b := by
  have ra := (row_new (t := 23) w [.int .i64 a.k, .int .i64 a.n, .string a.s]).alloc (.cells #[.int .i64 b.k, .int .i64 b.n, .string b.s] 23)
  have rb := row_new (t := 23) (w.alloc (.cells #[.int .i64 a.k, .int .i64 a.n, .string a.s] 23)) [.int .i64 b.k, .int .i64 b.n, .string b.s]
  have e1 : (w.alloc (.cells #[.int .i64 a.k, .int .i64 a.n, .string a.s] 23)).heap.size = w.heap.size + 1 := by simp
  rw [e1] at rb
  exact ⟨((Below.refl _ _).alloc (Nat.le_refl _) _).alloc (by simp) _, by simp, ra.cell 0, ra.cell 1, ra.cell 2, rb.cell 0, rb.cell 1, rb.cell 2⟩
section
variable {w u : World} {a b : V}
theorem h2_awake (h : Held2 w u a b) : Calls Try.prog 10 #[] u fun e u' => e = .returned (.bool true) ∧ Held2 w u' a b := (awake_any u).mono fun _ _ ⟨he, hb⟩ => ⟨he, h.on hb⟩
theorem h2_refName (h : Held2 w u a b) (s : ByteArray) : Calls Try.prog 12 #[.string s] u fun e u' => e = .returned (.bool (name s)) ∧ Held2 w u' a b := (refName_any s u).mono fun _ _ ⟨he, hb⟩ => ⟨he, h.on hb⟩
theorem h2_right (h : Held2 w u a b) (k n : Int) (s : ByteArray) (hs : s.size ≤ maxLen) : Calls Try.prog 13 #[.agg #[.int .i64 k, .int .i64 n, .string s]] u fun e u' => e = .returned (.bool (rightV ⟨k, n, s⟩)) ∧ Held2 w u' a b := (right_go k n s u hs).mono fun _ _ ⟨he, hb⟩ => ⟨he, h.on hb⟩
theorem h2_refRight (h : Held2 w u a b) (k n : Int) (s : ByteArray) : Calls Try.prog 14 #[.agg #[.int .i64 k, .int .i64 n, .string s]] u fun e u' => e = .returned (.bool (rightV ⟨k, n, s⟩)) ∧ Held2 w u' a b := (refRight_go k n s u).mono fun _ _ ⟨he, hb⟩ => ⟨he, h.on hb⟩
theorem h2_cmp (h : Held2 w u a b) (k n l m : Int) (s t : ByteArray) : Calls Try.prog 15 #[.agg #[.int .i64 k, .int .i64 n, .string s], .agg #[.int .i64 l, .int .i64 m, .string t]] u fun e u' => e = .returned (.int .i64 (cmpV ⟨k, n, s⟩ ⟨l, m, t⟩)) ∧ Held2 w u' a b := (compare_go k n l m s t u).mono fun _ _ ⟨he, hb⟩ => ⟨he, h.on hb⟩
theorem h2_refCmp (h : Held2 w u a b) (k n l m : Int) (s t : ByteArray) : Calls Try.prog 16 #[.agg #[.int .i64 k, .int .i64 n, .string s], .agg #[.int .i64 l, .int .i64 m, .string t]] u fun e u' => e = .returned (.int .i64 (cmpV ⟨k, n, s⟩ ⟨l, m, t⟩)) ∧ Held2 w u' a b := (refCompare_go k n l m s t u).mono fun _ _ ⟨he, hb⟩ => ⟨he, h.on hb⟩
theorem h2_text (h : Held2 w u a b) (k n : Int) (s : ByteArray) (hs : s.size ≤ maxLen) (hn : Fits n) : Calls Try.prog 17 #[.agg #[.int .i64 k, .int .i64 n, .string s]] u fun e u' => e = .returned (.string (bs (textV ⟨k, n, s⟩))) ∧ Held2 w u' a b := (text_go k n s u hs hn.1 hn.2).mono fun _ _ ⟨he, hb⟩ => ⟨he, h.on hb⟩
theorem h2_refText (h : Held2 w u a b) (k n : Int) (s : ByteArray) (hn : Fits n) : Calls Try.prog 18 #[.agg #[.int .i64 k, .int .i64 n, .string s]] u fun e u' => e = .returned (.string (bs (textV ⟨k, n, s⟩))) ∧ Held2 w u' a b := (refText_go k n s u hn.1 hn.2).mono fun _ _ ⟨he, hb⟩ => ⟨he, h.on hb⟩
end
end Go.Proofs.Ytlakgcdacjieeaa

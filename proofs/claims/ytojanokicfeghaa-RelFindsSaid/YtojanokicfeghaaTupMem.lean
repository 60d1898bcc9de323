/-
  Slices of values and of numbers that read as lists; how they are kept.
-/
import Derived.Test.YtojanokicfeghaaTupMath
import Derived.Test.YtojanokicfeghaaValRow
namespace Go.Proofs.Ytojanokicfeghaa
open Go.RowKit FloM ValM

/-- The cells from ⟨b, o⟩ on hold the fields of v. -/
def CellsV (w : World) (b o : Nat) (v : V) : Prop := w.cell? ⟨b, o, none⟩ = some (.int .i64 v.k) ∧ w.cell? ⟨b, o + 1, none⟩ = some (.int .i64 v.n) ∧ w.cell? ⟨b, o + 2, none⟩ = some (.string v.s)
/-- A slice at A reads as the values l. -/
def RdV (w : World) (A : Option Addr) (l : List V) : Prop := ∀ i v, l[i]? = some v → ∃ b o, A = some ⟨b, o, none⟩ ∧ b < w.heap.size ∧ CellsV w b (o + i * 3) v
/-- A slice at A reads as the numbers l. -/
def RdI (w : World) (A : Option Addr) (l : List Int) : Prop := ∀ i x, l[i]? = some x → ∃ b o, A = some ⟨b, o, none⟩ ∧ b < w.heap.size ∧ w.cell? ⟨b, o + i, none⟩ = some (.int .i64 x)
/-- A slice at A reads as the texts l. -/
def RdS (w : World) (A : Option Addr) (l : List ByteArray) : Prop := ∀ i x, l[i]? = some x → ∃ b o, A = some ⟨b, o, none⟩ ∧ b < w.heap.size ∧ w.cell? ⟨b, o + i, none⟩ = some (.string x)
section
variable {w w' : World} {A : Option Addr}
theorem RdV.on {l : List V} (h : RdV w A l) (hb : Below w.heap.size w w') : RdV w' A l := fun i v hv => by
  obtain ⟨b, o, e, hl, c0, c1, c2⟩ := h i v hv
  have k := keep hb
  exact ⟨b, o, e, Nat.lt_of_lt_of_le hl hb.size, (k _ _ hl).trans c0, (k _ _ hl).trans c1, (k _ _ hl).trans c2⟩
theorem RdI.on {l : List Int} (h : RdI w A l) (hb : Below w.heap.size w w') : RdI w' A l := fun i v hv => by
  obtain ⟨b, o, e, hl, c0⟩ := h i v hv
  exact ⟨b, o, e, Nat.lt_of_lt_of_le hl hb.size, (keep hb _ _ hl).trans c0⟩
theorem RdS.on {l : List ByteArray} (h : RdS w A l) (hb : Below w.heap.size w w') : RdS w' A l := fun i v hv => by
  obtain ⟨b, o, e, hl, c0⟩ := h i v hv
  exact ⟨b, o, e, Nat.lt_of_lt_of_le hl hb.size, (keep hb _ _ hl).trans c0⟩
theorem RdV.nil : RdV w A [] := fun i v hv => by simp at hv
theorem RdI.nil : RdI w A [] := fun i v hv => by simp at hv
theorem RdS.nil : RdS w A [] := fun i v hv => by simp at hv
end
/-- What can be told of each value. -/
def OkL (l : List V) : Prop := ∀ v ∈ l, Fits v.n ∧ v.s.size ≤ maxLen
theorem OkL.at_ {l : List V} (h : OkL l) {i : Nat} {v : V} (hv : l[i]? = some v) : Fits v.n ∧ v.s.size ≤ maxLen := h v (List.mem_of_getElem? hv)
end Go.Proofs.Ytojanokicfeghaa

/-
  Small facts that many texts of layer 2 and above want: strings that are not empty, what an int64 holds, and how worlds follow each other.
-/
import Derived.Test.YtncafadjcelloaaDoorValName
namespace Go.Proofs.YtncafadjcelloaaDoor
open Go.RowKit FloM ValM

theorem ne_list {u : ByteArray} (h : 0 < u.size) : ¬ u.toList = [] := by
  rw [toList_ls]; intro e; have := ls_len u; rw [e] at this; simp at this; omega
theorem ne_list' {u : ByteArray} (h : 0 < u.size) : u.toList.isEmpty = false := by
  have := ne_list h; cases e : u.toList with
  | nil => exact absurd e this
  | cons _ _ => rfl
theorem on {W w w' : World} (h : Below W.heap.size W w) (k : Below w.heap.size w w') : Below W.heap.size W w' := h.trans (k.mono h.size)
def Fits (n : Int) : Prop := -9223372036854775808 ≤ n ∧ n < 9223372036854775808

theorem short {n : Nat} (h : n ≤ 40) : n ≤ maxLen := by unfold maxLen; omega
theorem fits_of {n : Int} (h : (Lit.int .i64 n).wf = true) : Fits n := by
  unfold Fits; simp [Lit.wf, IntKind.min, IntKind.max, IntKind.bits, IntKind.signed] at h; omega
theorem nxt {w u u1 w' : World} (hB : Below w.heap.size w u) (g : Below u.heap.size u u1) (h' : Below u1.heap.size u1 w') : Below w.heap.size w w' := on (on hB g) h'
end Go.Proofs.YtncafadjcelloaaDoor

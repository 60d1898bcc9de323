/-
  Small facts for the laws of layer 2: how long a text is, what an int64 holds, and how worlds follow each other.
-/
import Derived.Test.YtncafadjcelloaaDoorValLaws
namespace Go.Proofs.YtncafadjcelloaaDoor
open Go.RowKit FloM ValM

theorem read_empty : readV ByteArray.empty = none := by
  have h1 : name ByteArray.empty = false := rfl
  unfold readV; rw [h1, if_neg Bool.false_ne_true]; rfl
theorem read_size {t : ByteArray} {v : V} (h : readV t = some v) : v.s = t ∨ v.s = ByteArray.empty := by
  unfold readV at h
  split at h
  · injection h with h; subst h; exact .inl rfl
  · split at h
    · injection h with h; subst h; exact .inr rfl
    · split at h
      · injection h with h; subst h; exact .inr rfl
      · cases h
theorem read_le {t : ByteArray} {v : V} (h : readV t = some v) (ht : t.size ≤ maxLen) : v.s.size ≤ maxLen := by
  rcases read_size h with e | e <;> rw [e]
  · exact ht
  · exact short (by decide)
end Go.Proofs.YtncafadjcelloaaDoor

/-
  Small facts for the laws of layer 2: how long a text is, what an int64 holds, and how worlds follow each other.
-/
import Derived.Test.YtlakgcdacjieeaaValLaws
namespace Go.Proofs.Ytlakgcdacjieeaa
open Go.RowKit FloM ValM

theorem textV_len (v : V) (h : Fits v.n) : (bs (textV v)).size ≤ 40 := by
  rw [bs_size]
  unfold textV
  split
  · rename_i hr
    split
    · unfold intTextL Fits at *
      have := digs_len 10 v.n.natAbs 20 (by omega) (by omega)
      split
      · rw [List.length_cons, padTo_len]; omega
      · rw [padTo_len]; omega
    · split
      · obtain ⟨N, hw, hN⟩ := u64_nat v.n
        have := digs_len 16 N 16 (by omega) (by omega)
        rw [hw, Int.toNat_natCast, List.length_cons, padTo_len]; omega
      · rename_i h1 h2
        have h3 : name v.s = true := by
          unfold rightV at hr; rw [if_neg h1, if_neg h2] at hr
          split at hr
          · rw [Bool.and_eq_true] at hr; exact hr.2
          · cases hr
        exact ((nameL_iff _).1 h3).2.1
  · simp
theorem short {n : Nat} (h : n ≤ 40) : n ≤ maxLen := by unfold maxLen; omega
theorem fits_of {n : Int} (h : (Lit.int .i64 n).wf = true) : Fits n := by
  unfold Fits; simp [Lit.wf, IntKind.min, IntKind.max, IntKind.bits, IntKind.signed] at h; omega
theorem nxt {w u u1 w' : World} (hB : Below w.heap.size w u) (g : Below u.heap.size u u1) (h' : Below u1.heap.size u1 w') : Below w.heap.size w w' := on (on hB g) h'
theorem read_empty : readV ByteArray.empty = none := by
  have h1 : name ByteArray.empty = false := rfl
  unfold readV; rw [h1, if_neg Bool.false_ne_true]; rfl
theorem text_empty {v : V} (h : rightV v = false) : bs (textV v) = ByteArray.empty := by
  unfold textV; rw [h]; rfl
theorem read_size {t : ByteArray} {v : V} (h : readV t = some v) : v.s = t ∨ v.s = ByteArray.empty := by
  unfold readV at h
  split at h
  · injection h with h; subst h; exact .inl rfl
  · split at h
    · injection h with h; subst h; exact .inr rfl
    · split at h
      · injection h with h; subst h; exact .inr rfl
      · cases h
theorem read_le {t : ByteArray} {v : V} (h : readV t = some v) (ht : t.size ≤ maxLen) : v.s.size ≤ maxLen := by
  rcases read_size h with e | e <;> rw [e]
  · exact ht
  · exact short (by decide)
end Go.Proofs.Ytlakgcdacjieeaa

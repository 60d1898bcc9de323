/-
  Contract of value.Read, and of the statements' own awake.
-/
import Derived.Test.YtncafadjcelloaaDoorValVal
import Derived.Test.YtncafadjcelloaaDoorValRead
namespace Go.Proofs.YtncafadjcelloaaDoor
open Go.RowKit FloM ValM

def readV (t : ByteArray) : Option V :=
  if name t then some ⟨3, 0, t⟩ else match readIntL (ls t) with
    | some n => some ⟨1, n, ByteArray.empty⟩
    | none => match readFloL (ls t) with
      | some n => some ⟨2, n, ByteArray.empty⟩
      | none => none
def ReadV (t : ByteArray) (w : World) (e : Ending) (w' : World) : Prop :=
  (∃ v, readV t = some v ∧ e = .returned (.tuple #[.agg #[.int .i64 v.k, .int .i64 v.n, .string v.s], .int .i64 0]) ∧ Below w.heap.size w w') ∨
  (readV t = none ∧ e = .returned (.tuple #[.agg #[.int .i64 0, .int .i64 0, .string ByteArray.empty], .int .i64 2]) ∧ Below w.heap.size w w')
theorem tells_some {o : Option Int} {n : Int} (h : o = some n) {w w' : World} {e : Ending} (ht : TellsInt o w e w') : e = .returned (.tuple #[.int .i64 n, .bool true]) ∧ w = w' := by
  obtain ⟨m, rfl, hm, rfl⟩ := ht; subst h; exact ⟨by rw [hm n rfl]; rfl, rfl⟩
theorem tells_none {o : Option Int} (h : o = none) {w w' : World} {e : Ending} (ht : TellsInt o w e w') : ∃ m, e = .returned (.tuple #[.int .i64 m, .bool false]) ∧ w = w' := by
  obtain ⟨m, rfl, hm, rfl⟩ := ht; subst h; exact ⟨m, rfl, rfl⟩

set_option maxRecDepth 20000 in
set_option maxHeartbeats 1000000 in
theorem read_name (t : ByteArray) (w : World) (hs : t.size ≤ maxLen) (h : name t = true) : Calls Tryd.prog 78 #[.string t] w (ReadV t w) := by
  have HR := Lib.hid (show readV t = some ⟨3, 0, t⟩ by unfold readV; rw [if_pos h])
  go_enter Tryd.func78, Tryd.ntmps78
  go_wp2_with (go_at_call 96; refine (name_any _ _ hs).mono ?_; rintro e w' ⟨rfl, rfl⟩)
  refine bodyPost_ret (v := .tuple #[.agg #[.int .i64 3, .int .i64 0, .string t], .int .i64 0]) (by simp [results, Tryd.results78, go_sem]) rfl (.inl ⟨⟨3, 0, t⟩, HR.out, rfl, ?_⟩)
  repeat (first | exact (Below.refl _ _).alloc (Nat.le_refl _) _ | refine Below.setCell ?_ (Nat.le_refl _) _)
set_option maxRecDepth 20000 in
set_option maxHeartbeats 1000000 in
theorem read_int (t : ByteArray) (n : Int) (w : World) (hs : t.size ≤ maxLen) (h : name t = false) (hi : readIntL (ls t) = some n) : Calls Tryd.prog 78 #[.string t] w (ReadV t w) := by
  have HR := Lib.hid (show readV t = some ⟨1, n, ByteArray.empty⟩ by unfold readV; rw [h, if_neg Bool.false_ne_true, hi])
  have HI := Lib.hid hi; clear hi
  go_enter Tryd.func78, Tryd.ntmps78
  go_wp2_with (first | (go_at_call 96; refine (name_any _ _ hs).mono ?_; rintro e w' ⟨rfl, rfl⟩) | (go_at_call 104; refine (readInt_any _ _ hs).mono ?_; intro e w' ht; obtain ⟨rfl, rfl⟩ := tells_some HI.out ht; clear ht))
  refine bodyPost_ret (v := .tuple #[.agg #[.int .i64 1, .int .i64 n, .string ByteArray.empty], .int .i64 0]) (by simp [results, Tryd.results78, go_sem]; rfl) rfl (.inl ⟨⟨1, n, ByteArray.empty⟩, HR.out, rfl, ?_⟩)
  repeat (first | exact (Below.refl _ _).alloc (Nat.le_refl _) _ | refine Below.setCell ?_ (Nat.le_refl _) _)
set_option maxRecDepth 20000 in
set_option maxHeartbeats 1000000 in
theorem read_flo (t : ByteArray) (n : Int) (w : World) (hs : t.size ≤ maxLen) (h : name t = false) (hi : readIntL (ls t) = none) (hf : readFloL (ls t) = some n) : Calls Tryd.prog 78 #[.string t] w (ReadV t w) := by
  have HR := Lib.hid (show readV t = some ⟨2, n, ByteArray.empty⟩ by unfold readV; rw [h, if_neg Bool.false_ne_true, hi, hf])
  have HI := Lib.hid hi; clear hi
  have HF := Lib.hid hf; clear hf
  go_enter Tryd.func78, Tryd.ntmps78
  go_wp2_with (first | (go_at_call 96; refine (name_any _ _ hs).mono ?_; rintro e w' ⟨rfl, rfl⟩) | (go_at_call 104; refine (readInt_any _ _ hs).mono ?_; intro e w' ht; obtain ⟨m, rfl, rfl⟩ := tells_none HI.out ht; clear ht) | (go_at_call 105; refine (readFlo_any _ _ hs).mono ?_; intro e w' ht; obtain ⟨rfl, rfl⟩ := tells_some HF.out ht; clear ht))
  refine bodyPost_ret (v := .tuple #[.agg #[.int .i64 2, .int .i64 n, .string ByteArray.empty], .int .i64 0]) (by simp [results, Tryd.results78, go_sem]; rfl) rfl (.inl ⟨⟨2, n, ByteArray.empty⟩, HR.out, rfl, ?_⟩)
  repeat (first | exact (Below.refl _ _).alloc (Nat.le_refl _) _ | refine Below.setCell ?_ (Nat.le_refl _) _)
set_option maxRecDepth 20000 in
set_option maxHeartbeats 1000000 in
theorem read_none (t : ByteArray) (w : World) (hs : t.size ≤ maxLen) (h : name t = false) (hi : readIntL (ls t) = none) (hf : readFloL (ls t) = none) : Calls Tryd.prog 78 #[.string t] w (ReadV t w) := by
  have HR := Lib.hid (show readV t = none by unfold readV; rw [h, if_neg Bool.false_ne_true, hi, hf])
  have HI := Lib.hid hi; clear hi
  have HF := Lib.hid hf; clear hf
  go_enter Tryd.func78, Tryd.ntmps78
  go_wp2_with (first | (go_at_call 96; refine (name_any _ _ hs).mono ?_; rintro e w' ⟨rfl, rfl⟩) | (go_at_call 104; refine (readInt_any _ _ hs).mono ?_; intro e w' ht; obtain ⟨m, rfl, rfl⟩ := tells_none HI.out ht; clear ht) | (go_at_call 105; refine (readFlo_any _ _ hs).mono ?_; intro e w' ht; obtain ⟨m, rfl, rfl⟩ := tells_none HF.out ht; clear ht))
  refine bodyPost_ret (v := .tuple #[.agg #[.int .i64 0, .int .i64 0, .string ByteArray.empty], .int .i64 2]) (by simp [results, Tryd.results78, go_sem]; rfl) rfl (.inr ⟨HR.out, rfl, ?_⟩)
  repeat (first | exact (Below.refl _ _).alloc (Nat.le_refl _) _ | refine Below.setCell ?_ (Nat.le_refl _) _)
theorem read_go (t : ByteArray) (w : World) (hs : t.size ≤ maxLen) : Calls Tryd.prog 78 #[.string t] w (ReadV t w) := by
  cases h : name t with
  | true => exact read_name t w hs h
  | false =>
    cases hi : readIntL (ls t) with
    | some n => exact read_int t n w hs h hi
    | none =>
      cases hf : readFloL (ls t) with
      | some n => exact read_flo t n w hs h hi hf
      | none => exact read_none t w hs h hi hf

/-! ### awake -/
theorem digs17 : digs 10 17 = [49, 55] := by
  rw [digs_pos 10 17 (by omega) (by omega), digs_pos 10 (17 / 10) (by omega) (by omega), show 17 / 10 / 10 = 0 from rfl, digs_zero]; rfl
theorem aw_read : readV ⟨#[45, 49, 55]⟩ = some ⟨1, -17, ByteArray.empty⟩ := by
  have h1 : name ⟨#[45, 49, 55]⟩ = false := by decide
  have h2 : readIntL (ls ⟨#[45, 49, 55]⟩) = some (-17) := by decide
  unfold readV; rw [h1, if_neg Bool.false_ne_true, h2]
theorem aw_right : rightV ⟨1, -17, ByteArray.empty⟩ = true := by decide
theorem aw_text : textV ⟨1, -17, ByteArray.empty⟩ = [45, 49, 55] := by
  unfold textV; rw [aw_right, if_pos rfl, if_pos rfl]
  show intTextL (-17) = _
  unfold intTextL
  rw [if_pos (by decide), show (-17 : Int).natAbs = 17 from rfl, digs17]; rfl
theorem aw_cmp : cmpV ⟨1, -17, ByteArray.empty⟩ ⟨3, 0, ⟨#[97]⟩⟩ = -1 := by decide
theorem aw_name : name ⟨#[97, 95, 49]⟩ = true := by decide
theorem read_some {t : ByteArray} {v : V} (h : readV t = some v) {w w' : World} {e : Ending} (hr : ReadV t w e w') : e = .returned (.tuple #[.agg #[.int .i64 v.k, .int .i64 v.n, .string v.s], .int .i64 0]) ∧ Below w.heap.size w w' := by
  rcases hr with ⟨u, hu, he, hb⟩ | ⟨hn, _⟩
  · rw [h] at hu; injection hu with hu; subst hu; exact ⟨he, hb⟩
  · rw [h] at hn; cases hn
theorem read_no {t : ByteArray} (h : readV t = none) {w w' : World} {e : Ending} (hr : ReadV t w e w') : e = .returned (.tuple #[.agg #[.int .i64 0, .int .i64 0, .string ByteArray.empty], .int .i64 2]) ∧ Below w.heap.size w w' := by
  rcases hr with ⟨u, hu, _⟩ | ⟨_, he, hb⟩
  · rw [h] at hu; cases hu
  · exact ⟨he, hb⟩
end Go.Proofs.YtncafadjcelloaaDoor

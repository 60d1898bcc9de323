/-
  Lists of tuples that came in or were told; contract of the document's own Same.
-/
import Derived.Test.YtpmkhpbhimmeiaaGreatBtUse
import Derived.Test.YtpmkhpbhimmeiaaGreatTupRef
namespace Go.Proofs.YtpmkhpbhimmeiaaGreat
open Go.RowKit FloM ValM Go.Shelf
set_option linter.unusedVariables false
set_option linter.unusedSimpArgs false

/-- A slice at A reads as the tuples xs. -/
structure RdL (w : World) (A : Option Addr) (xs : List Sl) : Prop where
  rd : RdC w A (xs.map Sl.val)
  each : ∀ x ∈ xs, RdV w x.A x.l ∧ x.l.length ≤ maxLen
section
variable {X : Nat → Prop} {w w' : World} {A : Option Addr} {xs : List Sl} {x : Sl}
theorem RdL.on (h : RdL w A xs) (hb : Below w.heap.size w w') : RdL w' A xs := ⟨h.rd.on hb, fun x hx => ⟨(h.each x hx).1.on hb, (h.each x hx).2⟩⟩
theorem RdL.at_ (h : RdL w A xs) {j : Nat} (hx : xs[j]? = some x) : ∃ b o, A = some ⟨b, o, none⟩ ∧ b < w.heap.size ∧ w.cell? ⟨b, o + j, none⟩ = some (.slice x.A x.l.length x.c) := h.rd j _ (by simp [hx, Sl.val])
theorem RdT.rdL (h : RdT X w A xs) (hl : ∀ x ∈ xs, x.l.length ≤ maxLen) : RdL w A xs := ⟨h.rd, fun x hx => ⟨(h.each x hx).rd, hl x hx⟩⟩
theorem RdL.nil : RdL w A [] := ⟨RdC.nil, fun _ h => by cases h⟩
end
def lsOf (xs : List Sl) : List (List V) := xs.map Sl.l

/-! ### Same -/
def SameRel (w : World) (n : Nat) (i : Value) (wr : World) : Prop := ∃ k : Nat, i = .int .i64 (k : Nat) ∧ k ≤ n ∧ Below w.heap.size w wr
set_option maxRecDepth 20000 in
set_option maxHeartbeats 4000000 in
theorem same_yes (A B : Option Addr) (ca cb : Nat) (xs ys : List Sl) (w : World) (hx : RdL w A xs) (hy : RdL w B ys) (hl : xs.length ≤ maxLen) (he : lsOf xs = lsOf ys) :
    Calls Tryz.prog 16 #[.slice A xs.length ca, .slice B ys.length cb] w fun e w' => e = .returned (.bool true) ∧ Below w.heap.size w w' := by
  unfold maxLen at hl
  have hlen : xs.length = ys.length := by have := congrArg List.length he; simpa [lsOf] using this
  rw [← hlen]
  have HLE := Lib.hid hlen; have HE := Lib.hid he; have HX := Lib.hid hx; have HY := Lib.hid hy
  clear hlen he hx hy
  go_enter Tryz.func16, Tryz.ntmps16
  go_wp2
  go_loopw [13] (fun i wr => SameRel w xs.length i wr) (fun i _ => xs.length - (intOf i).toNat)
  case atStart => exact ⟨0, rfl, Nat.zero_le _, Below.refl _ _⟩
  case round =>
    obtain ⟨k, rfl, hk, hB⟩ := hrel
    by_cases hlt : k < xs.length
    · have h1 := List.getElem?_eq_getElem hlt
      have h2 := List.getElem?_eq_getElem (show k < ys.length by have := HLE.out; omega)
      generalize xs[k] = x at h1
      generalize ys[k] = y at h2
      have hxy : x.l = y.l := by
        have := congrArg (fun l : List (List V) => l[k]?) HE.out
        simpa [lsOf, h1, h2] using this
      obtain ⟨xb, xo, rfl, hxb, a0⟩ := (HX.out.on hB).at_ h1
      obtain ⟨yb, yo, rfl, hyb, b0⟩ := (HY.out.on hB).at_ h2
      have hx1 := (HX.out.on hB).each x (List.mem_of_getElem? h1)
      have hy1 := (HY.out.on hB).each y (List.mem_of_getElem? h2)
      have HZ := Lib.hid (show ordV x.l y.l = 0 by rw [hxy]; exact ord_self _)
      have HX1 := Lib.hid hx1; have HY1 := Lib.hid hy1
      clear hx1 hy1 hxy h1 h2
      go_wp2_with fail
      go_region_held3 (fun u => Below wr.heap.size wr u ∧ u.cell? ⟨xb, xo + k, none⟩ = some (.slice x.A x.l.length x.c) ∧ u.cell? ⟨yb, yo + k, none⟩ = some (.slice y.A y.l.length y.c))
        (first | exact ⟨Below.refl _ _, a0, b0⟩ | exact ⟨(Below.refl _ _).drew, a0, b0⟩ | exact ⟨h4, (k4 _ _ hxb).trans a0, (k4 _ _ hyb).trans b0⟩)
        ((go_at_call 42; refine (refOrder_any x.A y.A x.c y.c x.l y.l _ (HX1.out.1.on (Below.refl _ _).drew) (HY1.out.1.on (Below.refl _ _).drew) HX1.out.2 HY1.out.2).mono ?_; rintro e w4 ⟨rfl, h4⟩; rw [HZ.out]; replace h4 : Below wr.heap.size wr w4 := (Below.refl wr.heap.size wr).drew.trans h4; have k4 := keep h4))
      all_goals
        go_wp2
        go_roundw
        case rel => exact ⟨k + 1, by go_num, by omega, on hB h4⟩
        case measure => simp [intOf]; omega
    · go_wp2
      go_ret
      exact ⟨rfl, hB⟩

end Go.Proofs.YtpmkhpbhimmeiaaGreat

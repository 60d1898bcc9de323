/-
  The document's own measure of programs (antecedentref09.Few), at any two bounds: the walk ends with an answer, and where that is yes the program is small.
-/
import Derived.Test.YtahljmddnfldlaaSafG
import Derived.Deep.CutRange
namespace Go.Proofs.Ytahljmddnfldlaa
open Go.RowKit FloM ValM Go.Shelf
set_option linter.unusedVariables false
set_option linter.unusedSimpArgs false
def FewL (z : LtI) : Prop := z.p.length ≤ 30 ∧ z.m.a.length ≤ 10
def FewR (m : Nat) (y : RlI) : Prop := y.b.length ≤ m ∧ y.h.a.length ≤ 10 ∧ ∀ z ∈ y.b, FewL z
def FewOk (x : PgI) (n m : Nat) : Prop := x.r.length ≤ n ∧ x.q.a.length ≤ 10 ∧ ∀ y ∈ x.r, FewR m y
def FewTo {α : Type} (p : α → Prop) (l : List α) (k : Nat) : Prop := ∀ i y, i < k → l[i]? = some y → p y
theorem FewTo.zero {α : Type} {p : α → Prop} {l : List α} : FewTo p l 0 := fun i y h => absurd h (Nat.not_lt_zero _)
theorem FewTo.step {α : Type} {p : α → Prop} {l : List α} {k : Nat} {x : α} (h : FewTo p l k) (hx : l[k]? = some x) (hp : p x) : FewTo p l (k + 1) := fun i y hi hy => by
  rcases Nat.lt_or_ge i k with h1 | h1
  · exact h i y h1 hy
  · have : i = k := by omega
    subst this
    rw [hx] at hy; injection hy with hy; exact hy ▸ hp
theorem FewTo.all {α : Type} {p : α → Prop} {l : List α} (h : FewTo p l l.length) : ∀ y ∈ l, p y := fun y hy => by
  obtain ⟨i, hi, e⟩ := List.mem_iff_getElem.1 hy
  exact h i y hi (by rw [List.getElem?_eq_getElem hi, e])
def FewQ (x : PgI) (n m : Nat) (W : World) (e : Ending) (w' : World) : Prop := ∃ b : Bool, (b = true → FewOk x n m) ∧ e = .returned (.bool b) ∧ Below W.heap.size W w'
set_option maxRecDepth 20000 in
set_option maxHeartbeats 8000000 in
theorem few11_any (x : PgI) (n m : Nat) (hn : n ≤ 20) (hm : m ≤ 20) (W : World) (hx : x.rd W) :
    Calls Try.prog 18 #[.agg #[.slice x.A x.r.length x.c, .string (bs x.q.p), .slice x.q.A x.q.a.length x.q.c], .int .i64 (n : Int), .int .i64 (m : Int)] W (FewQ x n m W) := by
  have hl1 : x.r.length ≤ 9223372036854775807 := Nat.le_trans hx.1.1 (by decide)
  have hl2 : x.q.a.length ≤ 9223372036854775807 := Nat.le_trans hx.2.2.1 (by decide)
  have hb1 : Below W.heap.size W (W.alloc (.cells #[.slice x.A x.r.length x.c, .string (bs x.q.p), .slice x.q.A x.q.a.length x.q.c] 47)) := (Below.refl _ _).alloc (Nat.le_refl _) _
  have HB1 := Lib.hid hb1
  have HX := Lib.hid hx
  have HRow := Lib.hid (row_new (t := 47) W [.slice x.A x.r.length x.c, .string (bs x.q.p), .slice x.q.A x.q.a.length x.q.c])
  clear hx hb1
  obtain ⟨A, c, rs, ⟨p, Aq, cq, a⟩⟩ := x
  simp only at *
  by_cases h12 : (n : Int) < (rs.length : Int)
  · go_enter Try.func18, Try.ntmps18
    go_wp2
    go_ret
    exact ⟨false, (fun h => by cases h), rfl, HB1.out⟩
  by_cases h10 : (10 : Int) < (a.length : Int)
  · go_enter Try.func18, Try.ntmps18
    go_wp2
    go_ret
    exact ⟨false, (fun h => by cases h), rfl, HB1.out⟩
  have hr12 : rs.length ≤ n := by omega
  have ha10 : a.length ≤ 10 := by omega
  go_enter Try.func18, Try.ntmps18
  go_wp2
  go_loopw [7, 26] (fun sv vi wr => ∃ k s : Nat, vi = .int .i64 (k : Nat) ∧ k ≤ rs.length ∧ sv = .int .i64 (s : Nat) ∧ s ≤ 60 ∧ FewTo (FewR m) rs k ∧ Below (W.alloc (.cells #[.slice A rs.length c, .string (bs p), .slice Aq a.length cq] 47)).heap.size (W.alloc (.cells #[.slice A rs.length c, .string (bs p), .slice Aq a.length cq] 47)) wr) (fun _ v _ => rs.length - (intOf v).toNat)
  case atStart => exact ⟨0, 0, rfl, Nat.zero_le _, rfl, Nat.zero_le _, FewTo.zero, Below.refl _ _⟩
  case round =>
    obtain ⟨k, s, rfl, hk, rfl, hs60, hft, hb⟩ := hrel
    have HFT := Lib.hid hft; clear hft
    have HB := Lib.hid hb
    have hbW : Below W.heap.size W wr := on HB1.out hb
    have HBW := Lib.hid hbW
    have p0 := (rowOn HRow.out hb).cell 0
    simp only [List.getElem?_cons_zero] at p0
    by_cases hlt : k < rs.length
    · obtain ⟨y, hy⟩ : ∃ y, rs[k]? = some y := ⟨_, List.getElem?_eq_getElem hlt⟩
      obtain ⟨b, o, rfl, hbl, hc⟩ := (HX.out.1.on hbW).2 k y hy
      have x0 := hc 0 _ rfl; have x1 := hc 1 _ rfl; have x2 := hc 2 _ rfl; have x3 := hc 3 _ rfl
      rw [Nat.add_zero] at x0
      have hyr : y.rd W := HX.out.2.1 y (List.mem_of_getElem? hy)
      have HY := Lib.hid hyr
      have hn1 : y.b.length ≤ 9223372036854775807 := Nat.le_trans hyr.2.1.1 (by decide)
      have hn2 : y.h.a.length ≤ 9223372036854775807 := Nat.le_trans hyr.1.1 (by decide)
      have HYY := Lib.hid hy
      clear hc hy hb hbW hyr
      obtain ⟨⟨yp, yA, yc, ya⟩, yf, bA, bc, bl⟩ := y
      simp only at *
      have HR2 := Lib.hid (row_new (t := 55) wr [.string (bs yp), .slice yA ya.length yc, .int .i64 yf, .slice bA bl.length bc])
      have HB2 : Hid (Below W.heap.size W (wr.alloc (.cells #[.string (bs yp), .slice yA ya.length yc, .int .i64 yf, .slice bA bl.length bc] 55))) := Lib.hid (HBW.out.alloc HBW.out.size _)
      have HB3 : Hid (Below (W.alloc (.cells #[.slice (some ⟨b, o, none⟩) rs.length c, .string (bs p), .slice Aq a.length cq] 47)).heap.size (W.alloc (.cells #[.slice (some ⟨b, o, none⟩) rs.length c, .string (bs p), .slice Aq a.length cq] 47)) (wr.alloc (.cells #[.string (bs yp), .slice yA ya.length yc, .int .i64 yf, .slice bA bl.length bc] 55))) := Lib.hid (HB.out.alloc HB.out.size _)
      by_cases h14 : (m : Int) < (bl.length : Int)
      · go_wp2
        go_ret
        exact ⟨false, (fun h => by cases h), rfl, HB2.out⟩
      by_cases hh10 : (10 : Int) < (ya.length : Int)
      · go_wp2
        go_ret
        exact ⟨false, (fun h => by cases h), rfl, HB2.out⟩
      go_wp2
      go_loopw [7, 49] (fun sv vi wq => ∃ j s : Nat, vi = .int .i64 (j : Nat) ∧ j ≤ bl.length ∧ sv = .int .i64 (s : Nat) ∧ s ≤ 60 ∧ FewTo FewL bl j ∧ Below (wr.alloc (.cells #[.string (bs yp), .slice yA ya.length yc, .int .i64 yf, .slice bA bl.length bc] 55)).heap.size (wr.alloc (.cells #[.string (bs yp), .slice yA ya.length yc, .int .i64 yf, .slice bA bl.length bc] 55)) wq) (fun _ v _ => bl.length - (intOf v).toNat)
      case atStart => exact ⟨0, s, rfl, Nat.zero_le _, rfl, hs60, FewTo.zero, Below.refl _ _⟩
      case round =>
        obtain ⟨j, t, rfl, hj, rfl, ht60, hfl, hq⟩ := hrel
        have HFL := Lib.hid hfl; clear hfl
        have HQ := Lib.hid hq
        have q3 := (rowOn HR2.out hq).cell 3
        simp only [List.getElem?_cons_zero, List.getElem?_cons_succ] at q3
        by_cases hjl : j < bl.length
        · obtain ⟨z, hz⟩ : ∃ z, bl[j]? = some z := ⟨_, List.getElem?_eq_getElem hjl⟩
          obtain ⟨b2, o2, rfl, hbl2, hc2⟩ := (HY.out.2.1.on (on HB2.out hq)).2 j z hz
          have z2 := hc2 2 _ rfl
          have z16 := hc2 16 _ rfl
          have hzr : z.rd W := HY.out.2.2 z (List.mem_of_getElem? hz)
          have hn3 : z.p.length ≤ 9223372036854775807 := Nat.le_trans hzr.2.1 (by decide)
          have hn4 : z.m.a.length ≤ 9223372036854775807 := Nat.le_trans hzr.1.1 (by decide)
          have HZZ : Hid (z.p.length ≤ 30 → z.m.a.length ≤ 10 → FewTo FewL bl (j + 1)) := Lib.hid fun h1 h2 => FewTo.step HFL.out hz ⟨h1, h2⟩
          generalize z.p.length = L at *
          generalize z.m.a.length = M at *
          clear hc2 hz hq hzr
          by_cases hp30 : (30 : Int) < (L : Int)
          · go_wp2
            go_ret
            exact ⟨false, (fun h => by cases h), rfl, on HB2.out HQ.out⟩
          by_cases ha10 : (10 : Int) < (M : Int)
          · go_wp2
            go_ret
            exact ⟨false, (fun h => by cases h), rfl, on HB2.out HQ.out⟩
          have hw : IntKind.i64.wrap ((t : Int) + (L : Int)) = (t : Int) + (L : Int) := by rw [IntKind.wrap_i64]; omega
          by_cases hs : (60 : Int) < (t : Int) + (L : Int)
          · go_wp2
            go_ret
            exact ⟨false, (fun h => by cases h), rfl, on HB2.out HQ.out⟩
          · go_wp2
            all_goals
              go_roundw
              case rel => exact ⟨j + 1, t + L, by go_num, by omega, by go_num, by omega, HZZ.out (by omega) (by omega), HQ.out⟩
              case measure => simp [intOf]; omega
        · obtain rfl : j = bl.length := by omega
          go_wp2
          all_goals
            go_roundw
            case rel => exact ⟨k + 1, t, by go_num, by omega, rfl, ht60, FewTo.step HFT.out HYY.out ⟨by show bl.length ≤ m; omega, by show ya.length ≤ 10; omega, FewTo.all HFL.out⟩, on HB3.out HQ.out⟩
            case measure => simp [intOf]; omega
    · obtain rfl : k = rs.length := by omega
      go_wp2
      go_ret
      exact ⟨true, fun _ => ⟨hr12, ha10, (FewTo.all HFT.out)⟩, rfl, HBW.out⟩
end Go.Proofs.Ytahljmddnfldlaa

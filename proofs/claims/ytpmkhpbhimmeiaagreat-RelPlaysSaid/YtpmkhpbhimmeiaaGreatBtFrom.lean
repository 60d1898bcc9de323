/-
  Contract of a tree's From.
-/
import Derived.Test.YtpmkhpbhimmeiaaGreatBtSince
import Derived.Test.YtpmkhpbhimmeiaaGreatBtTold
import Derived.Test.YtpmkhpbhimmeiaaGreatBtExchB
import Derived.Deep.CutRange
import Derived.RegionTactic
import Derived.Deep.RegionHeld3
import Derived.BigRegion
import Derived.Laws.MakeOwn
namespace Go.Proofs.YtpmkhpbhimmeiaaGreat
open Go.RowKit FloM ValM Go.Shelf
set_option linter.unusedVariables false
set_option linter.unusedSimpArgs false

/-- The tree at g, by p, with the tuples L in order, below the root o. -/
structure TreeAt (X : Nat → Prop) (w : World) (g : Nat) (p : List Int) (L : List Sl) (o : Option (Nat × Nd)) (P : Option Addr) (cp : Nat) (q : Option Addr) : Prop where
  mem : X g
  blk : w.heap[g]? = some (.cells #[.slice P p.length cp, .pointer q, .int .i64 (L.length : Int)] 107 (0, 0))
  rp : RdI w P p
  offP : Off X P
  inP : ∀ a, P = some a → a.block < w.heap.size
  capP : p.length ≤ cp
  capP' : cp ≤ maxLen
  perm : permB p = true
  few : p.length ≤ 8
  root : RootAt X w o q
  all : flatO o = L
  sorted : Sorted p L
  lens : ∀ x ∈ L, x.l.length = p.length
  low : ∀ k t, o = some (k, t) → 1 ≤ t.ts.length ∧ t.ts.length ≤ 6 ∧ 2 * 4 ^ k - 1 ≤ L.length ∧ L.length < 2 * 4 ^ (k + 1) - 1
  none : o = none → L = []
  small : L.length ≤ 100000
theorem TreeAt.cells {X : Nat → Prop} {w : World} {g : Nat} {p : List Int} {L : List Sl} {o : Option (Nat × Nd)} {P : Option Addr} {cp : Nat} {q : Option Addr} (h : TreeAt X w g p L o P cp q) :
    w.cell? ⟨g, 0, .none⟩ = some (.slice P p.length cp) ∧ w.cell? ⟨g, 1, .none⟩ = some (.pointer q) ∧ w.cell? ⟨g, 2, .none⟩ = some (.int .i64 (L.length : Int)) ∧ g < w.heap.size := by
  refine ⟨?_, ?_, ?_, (Array.getElem?_eq_some_iff.1 h.blk).1⟩ <;> simp [World.cell?, h.blk]
theorem RootAt.on {X : Nat → Prop} {w w' : World} {o : Option (Nat × Nd)} {q : Option Addr} (h : RootAt X w o q) (hb : Below w.heap.size w w') : RootAt X w' o q := by
  rcases o with _ | ⟨k, t⟩
  · exact h
  · exact ⟨(RootAt.some h).1, (RootAt.some h).2.on hb⟩
theorem RootAt.onF {X : Nat → Prop} {w w' : World} {o : Option (Nat × Nd)} {q : Option Addr} (h : RootAt X w o q) (hb : Fr X w.heap.size w w') : RootAt X w' o q := by
  rcases o with _ | ⟨k, t⟩
  · exact h
  · exact ⟨(RootAt.some h).1, (RootAt.some h).2.onF hb⟩
theorem TreeAt.on {X : Nat → Prop} {w w' : World} {g : Nat} {p : List Int} {L : List Sl} {o : Option (Nat × Nd)} {P : Option Addr} {cp : Nat} {q : Option Addr} (h : TreeAt X w g p L o P cp q) (hb : Below w.heap.size w w') : TreeAt X w' g p L o P cp q :=
  ⟨h.mem, (hb.block _ h.cells.2.2.2).trans h.blk, h.rp.on hb, h.offP, (fun a ha => Nat.lt_of_lt_of_le (h.inP a ha) hb.size), h.capP, h.capP', h.perm, h.few, h.root.on hb, h.all, h.sorted, h.lens, h.low, h.none, h.small⟩
/-- Another tree was written. -/
theorem TreeAt.onF {X : Nat → Prop} {w w' : World} {g : Nat} {p : List Int} {L : List Sl} {o : Option (Nat × Nd)} {P : Option Addr} {cp : Nat} {q : Option Addr} (h : TreeAt X w g p L o P cp q) (hb : Fr X w.heap.size w w') (hg : w'.heap[g]? = w.heap[g]?) : TreeAt X w' g p L o P cp q :=
  ⟨h.mem, hg.trans h.blk, h.rp.onF h.offP hb, h.offP, (fun a ha => Nat.lt_of_lt_of_le (h.inP a ha) hb.size), h.capP, h.capP', h.perm, h.few, h.root.onF hb, h.all, h.sorted, h.lens, h.low, h.none, h.small⟩

theorem make_vals' (n : Nat) (hn : n ≤ 1000) (w : World) : (Instr.makeSlice 25 (.int .i64 (n : Int)) (.int .i64 (n : Int))).run Tryz.prog w = .ok (.slice (some ⟨w.heap.size, 0, none⟩) n n) (w.alloc (.cells (madeCells #[.int .i64 0, .int .i64 0, .string ByteArray.empty] (n * 3)) 69)) := by
  obtain ⟨i, hi, hz, hs, hb⟩ := info_parts info_val
  have := run_make (P := Tryz.prog) w 25 69 i _ Tryz.underlying25 hi hz .i64 .i64 n n (by omega) (by omega) (by rw [hb]; omega) (by omega)
  rw [hs] at this
  exact this
structure CutF (w1 : World) (P : Option Addr) (m cp n : Nat) (v5 v6 : Value) (wx : World) : Prop where
  ex : ∃ B5 B6 D, v5 = .pointer (some ⟨B5, 0, none⟩) ∧ v6 = .pointer (some ⟨B6, 0, none⟩) ∧ Below w1.heap.size w1 wx ∧ w1.heap.size ≤ B5 ∧ w1.heap.size ≤ B6 ∧ w1.heap.size ≤ D ∧ B5 ≠ B6 ∧ B5 ≠ D ∧ B6 ≠ D ∧
    wx.heap[B5]? = some (.cells #[.slice P m cp] 24 (0, 0)) ∧ wx.heap[B6]? = some (.cells #[.slice (some ⟨D, 0, none⟩) n n] 25 (0, 0)) ∧ wx.heap[D]? = some (.cells (madeCells #[.int .i64 0, .int .i64 0, .string ByteArray.empty] (n * 3)) 69 (0, 0))
theorem cutF_mk {w1 wx : World} {P : Option Addr} {m cp n B5 B6 D : Nat} (h6 : wx.heap[B6]? = some (.cells #[.slice (some ⟨D, 0, none⟩) n n] 25 (0, 0))) (h5 : wx.heap[B5]? = some (.cells #[.slice P m cp] 24 (0, 0))) (hD : wx.heap[D]? = some (.cells (madeCells #[.int .i64 0, .int .i64 0, .string ByteArray.empty] (n * 3)) 69 (0, 0)))
    (hb : Below w1.heap.size w1 wx) (g5 : w1.heap.size ≤ B5) (g6 : w1.heap.size ≤ B6) (gD : w1.heap.size ≤ D) (n1 : B5 ≠ B6) (n2 : B5 ≠ D) (n3 : B6 ≠ D) : CutF w1 P m cp n (.pointer (some ⟨B5, 0, none⟩)) (.pointer (some ⟨B6, 0, none⟩)) wx :=
  ⟨B5, B6, D, rfl, rfl, hb, g5, g6, gD, n1, n2, n3, h5, h6, hD⟩
theorem made_vals (n : Nat) : madeCells #[.int .i64 0, .int .i64 0, .string ByteArray.empty] (n * 3) = (vcells (List.replicate n ⟨0, 0, ByteArray.empty⟩)).toArray := by
  apply Array.ext'
  simp only [madeCells, Array.toList_map, Array.toList_range]
  induction n with
  | zero => rfl
  | succ n ih =>
    rw [List.replicate_succ', vcells_app, ← ih, Nat.succ_mul, List.range_add, List.map_append]
    congr 1
    simp [vcells, List.range_succ, Nat.mul_mod_left, Nat.add_mod, Nat.mul_mod]
def FromRel (w1 : World) (p : List Int) (hd : List V) (B5 B6 D : Nat) (P : Option Addr) (cp : Nat) (v : Value) (wr : World) : Prop :=
  ∃ (i : Nat) (xl : List V), v = .int .i64 (i : Nat) ∧ i ≤ hd.length ∧ Below w1.heap.size w1 wr ∧ wr.heap[B5]? = some (.cells #[.slice P hd.length cp] 24 (0, 0)) ∧ wr.heap[B6]? = some (.cells #[.slice (some ⟨D, 0, none⟩) p.length p.length] 25 (0, 0)) ∧
    wr.heap[D]? = some (.cells (vcells xl).toArray 69 (0, 0)) ∧ xl.length = p.length ∧ ∀ j c, j < i → p[j]? = some c → xl[c.toNat]? = hd[j]?
theorem set3 : ∀ (xl : List V) (m : Nat) (v : V), (((vcells xl).set (m * 3) (.int .i64 v.k)).set (m * 3 + 1) (.int .i64 v.n)).set (m * 3 + 2) (.string v.s) = vcells (xl.set m v)
  | [], m, v => by simp [vcells]
  | x :: xl, 0, v => by simp [vcells]
  | x :: xl, m + 1, v => by
    have ih := set3 xl m v
    have e : ∀ y l, vcells (y :: l) = .int .i64 y.k :: .int .i64 y.n :: .string y.s :: vcells l := fun _ _ => rfl
    rw [List.set_cons_succ, e, e, ← ih, show (m + 1) * 3 = m * 3 + 1 + 1 + 1 by omega]
    simp only [List.set_cons_succ]
theorem heap_set {w : World} {D o : Nat} {cs : List Value} {t : TypeId} {z : Nat × Nat} (v : Value) (h : w.heap[D]? = some (.cells cs.toArray t z)) : (w.setCell ⟨D, o, none⟩ v).heap[D]? = some (.cells (cs.set o v).toArray t z) := by
  simp [World.setCell, Array.getElem?_modify, h]
theorem heap_far {w : World} {D o b : Nat} (v : Value) (h : b ≠ D) : (w.setCell ⟨D, o, none⟩ v).heap[b]? = w.heap[b]? := Below.heap_setCell _ _ _ _ (by simpa using h)
/-- What From hands back: the boxes of the tree, of x and of the columns. -/
structure FromC (g : Nat) (P : Option Addr) (cp : Nat) (p : List Int) (hd : List V) (w w' : World) (B1 B2 B3 D : Nat) (xl : List V) : Prop where
  b : Below w.heap.size w w'
  h1 : w'.heap[B1]? = some (.cells #[.pointer (some ⟨g, 0, none⟩)] 70 (0, 0))
  h2 : w'.heap[B2]? = some (.cells #[.slice (some ⟨D, 0, none⟩) p.length p.length] 25 (0, 0))
  h3 : w'.heap[B3]? = some (.cells #[.slice P hd.length cp] 24 (0, 0))
  hx : w'.heap[D]? = some (.cells (vcells xl).toArray 69 (0, 0))
  g1 : w.heap.size ≤ B1
  g2 : w.heap.size ≤ B2
  g3 : w.heap.size ≤ B3
  gD : w.heap.size ≤ D
  len : xl.length = p.length
  pick : pickL xl (p.take hd.length) = hd
def FromP (g : Nat) (P : Option Addr) (cp : Nat) (p : List Int) (hd : List V) (w : World) (e : Ending) (w' : World) : Prop :=
  ∃ B1 B2 B3 D xl, e = .returned (.func (.func 87) #[] #[.pointer (some ⟨B1, 0, none⟩), .pointer (some ⟨B2, 0, none⟩), .pointer (some ⟨B3, 0, none⟩)]) ∧ FromC g P cp p hd w w' B1 B2 B3 D xl
theorem pick_of {xl hd : List V} {p : List Int} (hp : permB p = true) (hl : xl.length = p.length) (hle : hd.length ≤ p.length) (h : ∀ j c, j < hd.length → p[j]? = some c → xl[c.toNat]? = hd[j]?) : pickL xl (p.take hd.length) = hd := by
  have hin : ∀ x ∈ p.take hd.length, inR xl.length x = true := fun x hx => by rw [hl]; exact (perm_iff.1 hp).1 x (List.mem_of_mem_take hx)
  apply List.ext_getElem?
  intro i
  rw [pick_at hin, List.getElem?_take]
  by_cases hi : i < hd.length
  · rw [if_pos hi]
    have hx := List.getElem?_eq_getElem (show i < p.length by omega)
    rw [hx]
    exact h i _ hi hx
  · rw [if_neg hi, List.getElem?_eq_none (by omega)]; rfl
set_option maxRecDepth 20000 in
set_option maxHeartbeats 8000000 in
theorem from_any {X : Nat → Prop} {g : Nat} {p : List Int} {L : List Sl} {o : Option (Nat × Nd)} {P : Option Addr} {cp : Nat} {q : Option Addr} (A : Option Addr) (ca : Nat) (hd : List V) (w : World) (h : TreeAt X w g p L o P cp q) (hr : RdV w A hd) (hle : hd.length ≤ p.length) :
    Calls Tryz.prog 70 #[.pointer (some ⟨g, 0, none⟩), .slice A hd.length ca] w (FromP g P cp p hd w) := by
  obtain ⟨c0, c1, c2, hgl⟩ := h.cells
  have hfew := h.few
  have hcp := h.capP; have hcp' := h.capP'
  unfold maxLen at hcp'
  have hmk := make_vals' p.length (by omega)
  have hnl : ¬ (p.length < hd.length) := by omega
  have hnd : decide (p.length < hd.length) = false := decide_eq_false hnl
  have H := Lib.hid h; have HR := Lib.hid hr; clear h hr
  have hmf : ∀ (fn : Fn) (first cap : Array Value) (w : World), (Instr.makeFunc fn first cap).run Tryz.prog w = .ok (.func fn first cap) w := fun _ _ _ _ => rfl
  go_enter Tryz.func70, Tryz.ntmps70
  go_wp2
  have hi1 : (0 : Int) ≤ (hd.length : Int) := by omega
  have hi2 : (hd.length : Int) ≤ (cp : Int) := by omega
  have hi3 : hd.length ≤ cp := by omega
  obtain ⟨w1, hw1⟩ : ∃ w1, w.alloc (.cells #[.pointer (some ⟨g, 0, none⟩)] 70) = w1 := ⟨_, rfl⟩
  have hb1 : Below w.heap.size w w1 := by rw [← hw1]; exact (Below.refl _ _).alloc (Nat.le_refl _) _
  have hsz : w1.heap.size = w.heap.size + 1 := by rw [← hw1]; simp
  have hbt : w1.cell? ⟨w.heap.size, 0, none⟩ = some (.pointer (some ⟨g, 0, none⟩)) := by rw [← hw1]; simp [World.cell?, heap_al, Array.getElem?_push]
  have d0 := (keep hb1 g 0 hgl).trans c0
  have hg1 : g < w1.heap.size := by omega
  have hb0 : w.heap.size < w1.heap.size := by omega
  rw [hw1]
  have HW := Lib.hid hw1; clear hw1
  try rw [hnd]
  go_cut [5, 6] from 21 to 33 (fun v5 v6 wx => CutF w1 P hd.length cp p.length v5 v6 wx)
  case first =>
    go_region_held3 (fun u => Below w1.heap.size w1 u ∧ u.cell? ⟨w.heap.size, 0, none⟩ = some (.pointer (some ⟨g, 0, none⟩)) ∧ u.cell? ⟨g, 0, none⟩ = some (.slice P p.length cp))
      ((refine (fun hh => ⟨hh, held_cell hb0 hbt hh, held_cell hg1 d0 hh⟩) ?_; repeat (first | exact Below.refl _ _ | apply Below.drew | (refine bel_alloc ?_ ?_; (first | omega | (focus (simp; done)) | (focus (simp; omega)))) | (refine Below.setCell ?_ ?_ _; rotate_left; (first | exact Nat.le_refl _ | omega | (focus (simp; done)) | (focus (simp; omega)))))))
      (fail)
    all_goals
      go_wp2_with fail
      go_meet
      apply cutF_mk
      case h6 => (simp only [heap_al, heap_dr, Array.getElem?_push, Array.size_push]; repeat (first | rw [if_pos trivial] | rw [if_pos (by omega)] | rw [if_neg (by omega)]))
      case h5 => (simp only [heap_al, heap_dr, Array.getElem?_push, Array.size_push]; repeat (first | rw [if_pos trivial] | rw [if_pos (by omega)] | rw [if_neg (by omega)]))
      case hD => (simp only [heap_al, heap_dr, Array.getElem?_push, Array.size_push]; repeat (first | rw [if_pos trivial] | rw [if_pos (by omega)] | rw [if_neg (by omega)]))
      case hb => (repeat (first | exact Below.refl _ _ | apply Below.drew | (refine bel_alloc ?_ ?_; (first | omega | (focus (simp; done)) | (focus (simp; omega))))))
      all_goals omega
  case rest =>
    obtain ⟨B5, B6, D, rfl, rfl, hB, g5, g6, gD, n1, n2, n3, h5, h6, hD⟩ := hcut.ex
    have m5 : wc.cell? ⟨B5, 0, none⟩ = some (.slice P hd.length cp) := by simp [World.cell?, h5]
    have H5 := Lib.hid h5; have H6 := Lib.hid h6; have HD := Lib.hid hD; clear hcut h5 h6 hD
    go_wp2
    go_loopw [36] (fun v wr => FromRel w1 p hd B5 B6 D P cp v wr) (fun v _ => hd.length - (intOf v).toNat)
    case atStart => exact ⟨0, List.replicate p.length ⟨0, 0, ByteArray.empty⟩, rfl, Nat.zero_le _, hB, H5.out, H6.out, by rw [HD.out, made_vals], by simp, fun j c hj => absurd hj (by omega)⟩
    case round =>
      obtain ⟨i, xl, rfl, hi, hB2, e5, e6, eD, hxl, hx⟩ := hrel
      have E5 := Lib.hid e5; have E6 := Lib.hid e6; have ED := Lib.hid eD; have HXX := Lib.hid hx; clear e5 e6 eD hx H5 H6 HD m5
      have m6 : wr.cell? ⟨B6, 0, none⟩ = some (.slice (some ⟨D, 0, none⟩) p.length p.length) := by simp [World.cell?, E6.out]
      by_cases hlt : i < hd.length
      · have hpi : i < p.length := by omega
        have hc := List.getElem?_eq_getElem hpi
        generalize p[i] = c at hc
        obtain ⟨pb, po, rfl, hpb, hpc⟩ := (H.out.rp.on (on hb1 hB2)) i c hc
        have hcin := inR_iff.1 ((perm_iff.1 H.out.perm).1 c (List.mem_of_getElem? hc))
        obtain ⟨m, rfl⟩ := Int.eq_ofNat_of_zero_le hcin.1
        have hm : m < p.length := by omega
        have hv := List.getElem?_eq_getElem hlt
        generalize hd[i] = v at hv
        obtain ⟨ab, ao, rfl, hab, a0, a1, a2⟩ := (HR.out.on (on hb1 hB2)) i v hv
        obtain ⟨vk, vn, vs⟩ := v
        simp only at a0 a1 a2
        have HC := Lib.hid hc; have HV := Lib.hid hv; have HIN := Lib.hid hcin; clear hc hv hcin
        have hxm : m < xl.length := by omega
        have x0 := vcells_at (List.getElem?_eq_getElem hxm)
        have y0 : wr.cell? ⟨D, m * 3, none⟩ = some (.int .i64 xl[m].k) := by simp [World.cell?, ED.out, x0.1]
        have y1 : wr.cell? ⟨D, m * 3 + 1, none⟩ = some (.int .i64 xl[m].n) := by simp [World.cell?, ED.out, x0.2.1]
        have y2 : wr.cell? ⟨D, m * 3 + 2, none⟩ = some (.string xl[m].s) := by simp [World.cell?, ED.out, x0.2.2]
        have z0 : ∀ k, wr.frozen? ⟨D, k, none⟩ = false := fun k => by simp [World.frozen?, ED.out]
        clear x0
        go_wp2
        go_region
        go_wp2
        go_roundw
        case rel =>
          have s1 := heap_set (o := m * 3) (.int .i64 vk) ED.out
          have s2 := heap_set (o := m * 3 + 1) (.int .i64 vn) s1
          have s3 := heap_set (o := m * 3 + 2) (.string vs) s2
          rw [set3 xl m ⟨vk, vn, vs⟩] at s3
          refine ⟨i + 1, xl.set m ⟨vk, vn, vs⟩, by go_num, by omega, (((hB2.setCell gD _).setCell gD _).setCell gD _).drew, ?_, ?_, s3, by simpa using hxl, fun j c hj hc => ?_⟩
          · rw [heap_dr, heap_far _ n2, heap_far _ n2, heap_far _ n2]; exact E5.out
          · rw [heap_dr, heap_far _ n3, heap_far _ n3, heap_far _ n3]; exact E6.out
          · have hci := inR_iff.1 ((perm_iff.1 H.out.perm).1 c (List.mem_of_getElem? hc))
            by_cases hji : j = i
            · subst hji
              rw [HC.out] at hc; cases hc
              rw [Int.toNat_natCast, List.getElem?_set_self hxm, HV.out]
            · have hne : m ≠ c.toNat := fun e => hji (by
                have e1 := idxOf_at (perm_iff.1 H.out.perm).2 hc
                have e2 := idxOf_at (perm_iff.1 H.out.perm).2 HC.out
                rw [show c = ((m : Nat) : Int) by omega] at e1
                omega)
              rw [List.getElem?_set_ne hne]
              exact HXX.out j c (by omega) hc
        case measure => simp [intOf]; omega
      · have hie : i = hd.length := by omega
        subst hie
        have hpk := Lib.hid (pick_of H.out.perm hxl hle HXX.out)
        have hbt2 : wr.heap[w.heap.size]? = some (.cells #[.pointer (some ⟨g, 0, none⟩)] 70 (0, 0)) := by
          rw [hB2.block _ hb0, ← HW.out]; exact heap_alloc_new _ _
        have HBT := Lib.hid hbt2; clear hbt2
        go_wp2
        go_ret
        exact ⟨_, B6, B5, D, xl, rfl, on hb1 hB2, HBT.out, E6.out, E5.out, ED.out, Nat.le_refl _, by omega, by omega, by omega, hxl, hpk.out⟩
end Go.Proofs.YtpmkhpbhimmeiaaGreat

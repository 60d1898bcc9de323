/-
  Package rel: how many of a permutation's first numbers are among the columns (leading); which index is used (Uses).
-/
import Derived.Test.YtojanokicfeghaaBtMerL
import Derived.Test.YtojanokicfeghaaTupUpto
import Derived.Deep.RegionHeld3
import Derived.Deep.AppendLies
import Derived.Deep.RegionLaw
import Derived.Test.YtojanokicfeghaaTupCmp
import Derived.Test.YtojanokicfeghaaSortLay
import Derived.Test.YtojanokicfeghaaTupPickP
import Derived.Shelf.RegionOpen
namespace Go.Proofs.Ytojanokicfeghaa
open Go.RowKit FloM ValM Go.Shelf
set_option linter.unusedVariables false
set_option linter.unusedSimpArgs false
theorem upto_perm (n : Nat) : permB (upto n) = true := perm_iff.2 ⟨fun x hx => by rw [upto_len]; exact upto_mem.1 hx, upto_nodup n⟩
theorem upto_snoc (k : Nat) : upto (k + 1) = upto k ++ [(k : Int)] := by simp [upto, List.range_succ]

theorem RdI.row {w : World} {A : Option Addr} {xs : List Int} (h : RdI w A xs) (hne : 0 < xs.length) : ∃ b o, A = some ⟨b, o, none⟩ ∧ b < w.heap.size ∧ ∀ (j : Nat) (x : Int), xs[j]? = some x → w.cell? ⟨b, o + j, none⟩ = some (.int .i64 x) := by
  obtain ⟨b, o, rfl, hb, _⟩ := h 0 _ (List.getElem?_eq_getElem hne)
  refine ⟨b, o, rfl, hb, fun j x hx => ?_⟩
  obtain ⟨b', o', e, _, hc⟩ := h j x hx
  injection e with e; injection e with e1 e2 _; subst e1 e2; exact hc

/-! ### slices.Index, slices.Contains -/
set_option maxHeartbeats 1000000 in
theorem index_any (A : Option Addr) (c : Nat) (l : List Int) (x : Int) (w : World) (h : RdI w A l) (hl : l.length ≤ maxLen) :
    Calls Try.prog 109 #[.slice A l.length c, .int .i64 x] w fun e w' => (∃ r : Int, e = .returned (.int .i64 r) ∧ (0 ≤ r ↔ x ∈ l)) ∧ w = w' := by
  unfold maxLen at hl
  have H := Lib.hid h; clear h
  go_enter Try.func109, Try.ntmps109
  go_wp2
  go_loop [8] (fun v => ∃ k : Nat, v = .int .i64 (k : Nat) ∧ k ≤ l.length ∧ x ∉ l.take k) (fun v => l.length - (intOf v).toNat)
  case atStart => exact ⟨0, rfl, Nat.zero_le _, by simp⟩
  case round =>
    obtain ⟨k, rfl, hk, hn⟩ := hrel
    have HN := Lib.hid hn; clear hn
    by_cases hlt : k < l.length
    · obtain ⟨b, o, rfl, hb, hrow⟩ := H.out.row (by omega)
      have hy := List.getElem?_eq_getElem hlt
      generalize l[k] = y at hy
      have cy := hrow k y hy
      have HY := Lib.hid hy; clear hrow hy
      by_cases hxy : x = y
      · subst hxy
        go_wp2
        go_ret
        exact ⟨⟨k, rfl, fun _ => List.mem_of_getElem? HY.out, fun _ => by omega⟩, rfl⟩
      · have hxy' : (x == y) = false := by simpa using hxy
        go_wp2
        refine ⟨⟨k + 1, by go_num, by omega, ?_⟩, by simp [intOf]; omega⟩
        rw [take_snoc' HY.out, List.mem_append, List.mem_singleton]
        exact fun h => h.elim HN.out hxy
    · obtain rfl : k = l.length := by omega
      go_wp2
      go_ret
      refine ⟨⟨-1, rfl, fun h => by omega, fun h => ?_⟩, rfl⟩
      have := HN.out
      rw [List.take_of_length_le (Nat.le_refl _)] at this
      exact absurd h this
set_option maxHeartbeats 1000000 in
theorem contains_any (A : Option Addr) (c : Nat) (l : List Int) (x : Int) (w : World) (h : RdI w A l) (hl : l.length ≤ maxLen) :
    Calls Try.prog 88 #[.slice A l.length c, .int .i64 x] w fun e w' => e = .returned (.bool (decide (x ∈ l))) ∧ w = w' := by
  have hi := Lib.hid (index_any A c l x w h hl)
  clear h
  go_enter Try.func88, Try.ntmps88
  go_wp2_with (go_at_call 109; refine hi.out.mono ?_; rintro e w' ⟨⟨r, rfl, hr⟩, rfl⟩; have HR := Lib.hid hr; clear hr)
  go_ret
  exact ⟨congrArg (fun b => Ending.returned (.bool b)) (decide_eq_decide.2 HR.out), rfl⟩

/-! ### leading -/
/-- How many of the first numbers of p are in cols. -/
def leadL (cols : List Int) : List Int → Nat
  | [] => 0
  | x :: p => if x ∈ cols then leadL cols p + 1 else 0
theorem lead_le (cols : List Int) : ∀ p : List Int, leadL cols p ≤ p.length
  | [] => Nat.le_refl _
  | x :: p => by unfold leadL; split <;> simp [lead_le cols p]
theorem lead_stop {cols p : List Int} {k : Nat} (h : ∀ x ∈ p.take k, x ∈ cols) (hk : k ≤ p.length) (hs : ∀ x, p[k]? = some x → x ∉ cols) : leadL cols p = k := by
  induction p generalizing k with
  | nil => simp at hk; subst hk; rfl
  | cons y p ih =>
    cases k with
    | zero => unfold leadL; rw [if_neg (hs y rfl)]
    | succ k =>
      unfold leadL
      rw [if_pos (h y (by simp)), ih (k := k) (fun x hx => h x (by rw [List.take_succ_cons]; exact List.mem_cons_of_mem _ hx)) (by simpa using hk) (fun x hx => hs x (by simpa using hx))]
theorem lead_all (cols : List Int) : ∀ (p : List Int) (k : Nat), k ≤ leadL cols p → ∀ x ∈ p.take k, x ∈ cols
  | [], k, _, x, hx => by simp at hx
  | y :: p, 0, _, x, hx => by simp at hx
  | y :: p, k + 1, h, x, hx => by
    unfold leadL at h
    split at h
    · rename_i hy
      rw [List.take_succ_cons, List.mem_cons] at hx
      rcases hx with rfl | hx
      · exact hy
      · exact lead_all cols p k (by omega) x hx
    · omega
def LeadRel (p cols : List Int) (v : Value) : Prop := ∃ k : Nat, v = .int .i64 (k : Nat) ∧ k ≤ p.length ∧ ∀ x ∈ p.take k, x ∈ cols
set_option maxHeartbeats 2000000 in
theorem leading_any (tv : Value) (P C : Option Addr) (cp cc : Nat) (p cols : List Int) (w : World) (hp : RdI w P p) (hc : RdI w C cols) (lp : p.length ≤ 1000) (lc : cols.length ≤ 1000) (ht : ∃ a, tv = .pointer a) :
    Calls Try.prog 69 #[.agg #[tv, .slice P p.length cp], .slice C cols.length cc] w fun e w' => e = .returned (.int .i64 (leadL cols p : Nat)) ∧ Below w.heap.size w w' := by
  obtain ⟨ta, rfl⟩ := ht
  have hb0 : Below w.heap.size w (w.alloc (.cells #[.pointer ta, .slice P p.length cp] 89)) := (Below.refl _ _).alloc (Nat.le_refl _) _
  have HP := Lib.hid (hp.on hb0); have HC := Lib.hid (hc.on hb0); clear hp hc
  have hbx : (w.alloc (.cells #[.pointer ta, .slice P p.length cp] 89)).cell? ⟨w.heap.size, 1, none⟩ = some (.slice P p.length cp) := by
    have := heap_alloc_new w (.cells #[.pointer ta, .slice P p.length cp] 89)
    unfold World.cell?; simp only; rw [this]; rfl
  go_enter Try.func69, Try.ntmps69
  go_wp2
  go_loop [5] (fun v => LeadRel p cols v) (fun v => p.length - (intOf v).toNat)
  case atStart => exact ⟨0, rfl, Nat.zero_le _, by simp⟩
  case round =>
    obtain ⟨k, rfl, hk, hn⟩ := hrel
    have HN := Lib.hid hn; clear hn
    by_cases hlt : k < p.length
    · obtain ⟨b, o, rfl, hb, hrow⟩ := HP.out.row (by omega)
      have hy := List.getElem?_eq_getElem hlt
      generalize p[k] = y at hy
      have cy := hrow k y hy
      have HY := Lib.hid hy; clear hrow hy
      obtain ⟨q, hq⟩ : ∃ q, decide (y ∈ cols) = q := ⟨_, rfl⟩
      have HQ := Lib.hid hq; clear hq
      cases q with
      | true =>
        go_wp2_with (go_at_call 88; refine (contains_any C cc cols y _ HC.out (by unfold maxLen; omega)).mono ?_; rw [HQ.out]; rintro e w' ⟨rfl, rfl⟩)
        refine ⟨⟨k + 1, by go_num, by omega, ?_⟩, by simp [intOf]; omega⟩
        rw [take_snoc' HY.out]
        intro x hx
        rw [List.mem_append, List.mem_singleton] at hx
        rcases hx with hx | rfl
        · exact HN.out x hx
        · exact of_decide_eq_true HQ.out
      | false =>
        go_wp2_with (go_at_call 88; refine (contains_any C cc cols y _ HC.out (by unfold maxLen; omega)).mono ?_; rw [HQ.out]; rintro e w' ⟨rfl, rfl⟩)
        go_ret
        refine ⟨ret_int ?_, hb0⟩
        rw [lead_stop HN.out (by omega) (fun x hx => by rw [HY.out] at hx; cases hx; exact of_decide_eq_false HQ.out)]
    · obtain rfl : k = p.length := by omega
      go_wp2
      go_ret
      refine ⟨ret_int ?_, hb0⟩
      rw [lead_stop HN.out (Nat.le_refl _) (fun x hx => by rw [List.getElem?_eq_none (Nat.le_refl _)] at hx; cases hx)]
end Go.Proofs.Ytojanokicfeghaa
/-
  Package rel: a relation by the list of what was put: its plain index and the others.
-/
namespace Go.Proofs.Ytojanokicfeghaa
open Go.RowKit FloM ValM Go.Shelf
set_option linter.unusedVariables false
set_option linter.unusedSimpArgs false
section
variable {X Y : Nat → Prop} {w w' : World}
/-- What an index holds: a tree, and the permutation that it was made with. -/
structure IdxAt (X : Nat → Prop) (w : World) (g : Nat) (P : Option Addr) (cp : Nat) (p : List Int) (M : List (List V)) : Prop where
  t : TreeS X w g p M
  rp : RdI w P p
  offP : Off X P
  inP : ∀ a, P = some a → a.block < w.heap.size
  cap : p.length ≤ cp
  capm : cp ≤ maxLen
variable {g : Nat} {P : Option Addr} {cp : Nat} {p : List Int} {M M' : List (List V)}
theorem IdxAt.on (h : IdxAt X w g P cp p M) (hb : Below w.heap.size w w') : IdxAt X w' g P cp p M :=
  ⟨h.t.on hb, h.rp.on hb, h.offP, fun a ha => Nat.lt_of_lt_of_le (h.inP a ha) hb.size, h.cap, h.capm⟩
/-- Another tree was written. -/
theorem IdxAt.other {g' : Nat} (h : IdxAt X w g P cp p M) (hg' : X g') (hne : g ≠ g') (hb : Fr (· = g') w.heap.size w w') : IdxAt X w' g P cp p M :=
  have hx : Fr X w.heap.size w w' := hb.sub fun k _ hk => by subst hk; exact hg'
  ⟨h.t.other hg' hne hb, RdI.onF h.rp h.offP hx, h.offP, fun a ha => Nat.lt_of_lt_of_le (h.inP a ha) hb.size, h.cap, h.capm⟩
theorem IdxAt.put (h : IdxAt X w g P cp p M) (ht : TreeS X w' g p M') (hb : Fr (· = g) w.heap.size w w') : IdxAt X w' g P cp p M' :=
  have hx : Fr X w.heap.size w w' := hb.sub fun k _ hk => by subst hk; exact h.t.mem
  ⟨ht, RdI.onF h.rp h.offP hx, h.offP, fun a ha => Nat.lt_of_lt_of_le (h.inP a ha) hb.size, h.cap, h.capm⟩
theorem IdxAt.more (hX : ∀ k, X k → Y k) (hY : ∀ k, Y k → X k ∨ w.heap.size ≤ k) (h : IdxAt X w g P cp p M) : IdxAt Y w g P cp p M :=
  ⟨h.t.more hX hY, h.rp, off_more hY h.offP h.inP, h.inP, h.cap, h.capm⟩
theorem IdxAt.calm {n : Nat} (h : IdxAt X w g P cp p M) (hc : Calm n w w') : IdxAt X w' g P cp p M :=
  ⟨h.t.calm hc, hc.rdI h.rp, h.offP, fun a ha => Nat.lt_of_lt_of_le (h.inP a ha) hc.size, h.cap, h.capm⟩
end
/-- One of the other indexes: its two cells, and what it holds. -/
structure SlotAt (X : Nat → Prop) (w : World) (I : Option Addr) (j g : Nat) (P : Option Addr) (cp : Nat) (p : List Int) (M : List (List V)) : Prop where
  row : ∃ b o, I = some ⟨b, o, none⟩ ∧ b < w.heap.size ∧ ¬ X b ∧ w.cell? ⟨b, o + j * 2, none⟩ = some (.pointer (some ⟨g, 0, none⟩)) ∧ w.cell? ⟨b, o + j * 2 + 1, none⟩ = some (.slice P p.length cp)
  idx : IdxAt X w g P cp p M
/-- A relation at block r, of n columns: gs are the blocks of its indexes' trees, ps their permutations; the plain index holds M0, index j holds Ms j. -/
structure RelG (X : Nat → Prop) (w : World) (r n : Nat) (g0 : Nat) (gs : List Nat) (ps : List (List Int)) (M0 : List (List V)) (Ms : Nat → List (List V)) : Prop where
  few : n ≤ 8
  many : ps.length ≤ 1000
  offr : ¬ X r
  cells : ∃ P0 c0 I ci, w.heap[r]? = some (.cells #[.pointer (some ⟨g0, 0, none⟩), .slice P0 n c0, .slice I ps.length ci] 94 (0, 0)) ∧ IdxAt X w g0 P0 c0 (upto n) M0 ∧
    (∀ j p, ps[j]? = some p → ∃ g P cp, gs[j]? = some g ∧ SlotAt X w I j g P cp p (Ms j))
  len : gs.length = ps.length
  nodup : (g0 :: gs).Nodup
  lens : ∀ p ∈ ps, p.length = n
section
variable {X Y : Nat → Prop} {w w' : World} {r n g0 : Nat} {gs : List Nat} {ps : List (List Int)} {M0 M' : List (List V)} {Ms : Nat → List (List V)}
theorem SlotAt.on {I : Option Addr} {j g : Nat} {P : Option Addr} {cp : Nat} {p : List Int} {M : List (List V)} (h : SlotAt X w I j g P cp p M) (hb : Below w.heap.size w w') : SlotAt X w' I j g P cp p M := by
  obtain ⟨b, o, e, hl, hx, h1, h2⟩ := h.row
  exact ⟨⟨b, o, e, Nat.lt_of_lt_of_le hl hb.size, hx, (keep hb _ _ hl).trans h1, (keep hb _ _ hl).trans h2⟩, h.idx.on hb⟩
theorem SlotAt.rowF {I : Option Addr} {j g : Nat} {P : Option Addr} {cp : Nat} {p : List Int} {M M' : List (List V)} (h : SlotAt X w I j g P cp p M) (hb : Fr X w.heap.size w w') (hi : IdxAt X w' g P cp p M') : SlotAt X w' I j g P cp p M' := by
  obtain ⟨b, o, e, hl, hx, h1, h2⟩ := h.row
  exact ⟨⟨b, o, e, Nat.lt_of_lt_of_le hl hb.size, hx, (hb.cell hl hx).trans h1, (hb.cell hl hx).trans h2⟩, hi⟩
theorem RelG.on (h : RelG X w r n g0 gs ps M0 Ms) (hb : Below w.heap.size w w') : RelG X w' r n g0 gs ps M0 Ms := by
  obtain ⟨P0, c0, I, ci, h1, h2, h3⟩ := h.cells
  exact ⟨h.few, h.many, h.offr, ⟨P0, c0, I, ci, (hb.block _ (Array.getElem?_eq_some_iff.1 h1).1).trans h1, h2.on hb, fun j p hp => by
    obtain ⟨g, P, cp, hg, hs⟩ := h3 j p hp
    exact ⟨g, P, cp, hg, hs.on hb⟩⟩, h.len, h.nodup, h.lens⟩
theorem RelG.lt (h : RelG X w r n g0 gs ps M0 Ms) : r < w.heap.size := by
  obtain ⟨P0, c0, I, ci, h1, h2, h3⟩ := h.cells
  exact (Array.getElem?_eq_some_iff.1 h1).1
theorem RelG.gs_x (h : RelG X w r n g0 gs ps M0 Ms) {j g : Nat} (hg : gs[j]? = some g) : X g ∧ g < w.heap.size ∧ g ≠ g0 := by
  obtain ⟨P0, c0, I, ci, h1, h2, h3⟩ := h.cells
  have hl := (List.getElem?_eq_some_iff.1 hg).1
  obtain ⟨g', P, cp, hg', hs⟩ := h3 j _ (List.getElem?_eq_getElem (by have := h.len; omega))
  rw [hg] at hg'; cases hg'
  exact ⟨hs.idx.t.mem, hs.idx.t.lt, fun e => by
    have := (List.nodup_cons.1 h.nodup).1
    exact this (e ▸ List.mem_of_getElem? hg)⟩
/-- The plain tree was written. -/
theorem RelG.put0 (h : RelG X w r n g0 gs ps M0 Ms) (ht : TreeS X w' g0 (upto n) M') (hF : Fr (· = g0) w.heap.size w w') : RelG X w' r n g0 gs ps M' Ms := by
  obtain ⟨P0, c0, I, ci, h1, h2, h3⟩ := h.cells
  have hx : Fr X w.heap.size w w' := hF.sub fun k _ hk => by subst hk; exact h2.t.mem
  refine ⟨h.few, h.many, h.offr, ⟨P0, c0, I, ci, (hx.block _ (Array.getElem?_eq_some_iff.1 h1).1 h.offr).trans h1, h2.put ht hF, fun j p hp => ?_⟩, h.len, h.nodup, h.lens⟩
  obtain ⟨g, P, cp, hg, hs⟩ := h3 j p hp
  exact ⟨g, P, cp, hg, hs.rowF hx (hs.idx.other h2.t.mem (h.gs_x hg).2.2 hF)⟩
/-- The tree of index i was written. -/
theorem RelG.putI (h : RelG X w r n g0 gs ps M0 Ms) {i g : Nat} {p : List Int} (hg : gs[i]? = some g) (hp : ps[i]? = some p) (ht : TreeS X w' g p M') (hF : Fr (· = g) w.heap.size w w') : RelG X w' r n g0 gs ps M0 (fun j => if j = i then M' else Ms j) := by
  obtain ⟨P0, c0, I, ci, h1, h2, h3⟩ := h.cells
  obtain ⟨hgX, hgl, hg0⟩ := h.gs_x hg
  have hx : Fr X w.heap.size w w' := hF.sub fun k _ hk => by subst hk; exact hgX
  refine ⟨h.few, h.many, h.offr, ⟨P0, c0, I, ci, (hx.block _ (Array.getElem?_eq_some_iff.1 h1).1 h.offr).trans h1, h2.other hgX (fun e => hg0 e.symm) hF, fun j q hq => ?_⟩, h.len, h.nodup, h.lens⟩
  obtain ⟨g', P, cp, hg', hs⟩ := h3 j q hq
  refine ⟨g', P, cp, hg', ?_⟩
  by_cases e : j = i
  · subst e
    rw [hg] at hg'; cases hg'
    rw [hp] at hq; cases hq
    show SlotAt X w' I j g P cp p (if j = j then M' else Ms j)
    rw [if_pos rfl]
    exact hs.rowF hx (hs.idx.put ht hF)
  · show SlotAt X w' I j g' P cp q (if j = i then M' else Ms j)
    rw [if_neg e]
    refine hs.rowF hx (hs.idx.other hgX (fun e2 => e ?_) hF)
    subst e2
    obtain ⟨l1, e1⟩ := List.getElem?_eq_some_iff.1 hg
    obtain ⟨l2, e2⟩ := List.getElem?_eq_some_iff.1 hg'
    have hnd := List.pairwise_iff_getElem.1 (List.nodup_cons.1 h.nodup).2
    rcases Nat.lt_trichotomy j i with hlt | rfl | hlt
    · exact absurd (e2.trans e1.symm) (hnd j i l2 l1 hlt)
    · rfl
    · exact absurd (e1.trans e2.symm) (hnd i j l1 l2 hlt)
/-- What each index holds hangs on the lists alone. -/
theorem RelG.same {Ms' : Nat → List (List V)} (h : RelG X w r n g0 gs ps M0 Ms) (he : ∀ j, j < ps.length → Ms j = Ms' j) : RelG X w r n g0 gs ps M0 Ms' := by
  obtain ⟨P0, c0, I, ci, h1, h2, h3⟩ := h.cells
  refine ⟨h.few, h.many, h.offr, ⟨P0, c0, I, ci, h1, h2, fun j p hp => ?_⟩, h.len, h.nodup, h.lens⟩
  obtain ⟨g, P, cp, hg, hs⟩ := h3 j p hp
  exact ⟨g, P, cp, hg, he j (List.getElem?_eq_some_iff.1 hp).1 ▸ hs⟩
end
/-- A relation to which the tuples of H were put, one after the other. -/
def RelS (X : Nat → Prop) (w : World) (r n g0 : Nat) (gs : List Nat) (ps : List (List Int)) (H : List (List V)) : Prop := RelG X w r n g0 gs ps (puts (upto n) H) (fun j => puts (ps.getD j []) H)
end Go.Proofs.Ytojanokicfeghaa
/-
  Package rel: contracts of Len, Arity, Has, All, Put.
-/
namespace Go.Proofs.Ytojanokicfeghaa
open Go.RowKit FloM ValM Go.Shelf
set_option linter.unusedVariables false
set_option linter.unusedSimpArgs false
section
variable {X : Nat → Prop} {w w' : World} {r n g0 : Nat} {gs : List Nat} {ps : List (List Int)} {M0 M' : List (List V)} {Ms : Nat → List (List V)}
theorem cell3 {w : World} {r : Nat} {a b c : Value} {t : TypeId} {z : Nat × Nat} (h : w.heap[r]? = some (.cells #[a, b, c] t z)) : w.cell? ⟨r, 0, none⟩ = some a ∧ w.cell? ⟨r, 1, none⟩ = some b ∧ w.cell? ⟨r, 2, none⟩ = some c := by
  refine ⟨?_, ?_, ?_⟩ <;> (unfold World.cell?; simp only; rw [h]; rfl)
theorem relLen_any (w : World) (h : RelG X w r n g0 gs ps M0 Ms) : Calls Try.prog 33 #[.pointer (some ⟨r, 0, none⟩)] w fun e w' => e = .returned (.int .i64 (M0.length : Nat)) ∧ w = w' := by
  obtain ⟨P0, c0, I, ci, h1, h2, h3⟩ := h.cells
  obtain ⟨a0, a1, a2⟩ := cell3 h1
  have HT := Lib.hid h2.t; clear h h1 h2 h3
  go_enter Try.func33, Try.ntmps33
  go_wp2_with (go_at_call 19; refine (lenS_any _ HT.out).mono ?_; rintro e w' ⟨rfl, rfl⟩)
  go_ret
  exact ⟨rfl, rfl⟩
theorem relArity_any (w : World) (h : RelG X w r n g0 gs ps M0 Ms) : Calls Try.prog 35 #[.pointer (some ⟨r, 0, none⟩)] w fun e w' => e = .returned (.int .i64 (n : Nat)) ∧ w = w' := by
  obtain ⟨P0, c0, I, ci, h1, h2, h3⟩ := h.cells
  obtain ⟨a0, a1, a2⟩ := cell3 h1
  clear h h1 h2 h3
  go_enter Try.func35, Try.ntmps35
  go_wp2
  go_ret
  exact ⟨rfl, rfl⟩
theorem relHas_any (A : Option Addr) (ca : Nat) (a : List V) (w : World) (h : RelG X w r n g0 gs ps M0 Ms) (hr : RdV w A a) : Calls Try.prog 36 #[.pointer (some ⟨r, 0, none⟩), .slice A a.length ca] w fun e w' => e = .returned (.bool (hasB (upto n) a M0)) ∧ Below w.heap.size w w' := by
  obtain ⟨P0, c0, I, ci, h1, h2, h3⟩ := h.cells
  obtain ⟨a0, a1, a2⟩ := cell3 h1
  have HT := Lib.hid h2.t; have HR := Lib.hid hr; clear h h1 h2 h3 hr
  go_enter Try.func36, Try.ntmps36
  go_wp2_with (go_at_call 18; refine (hasS_any A ca a _ HT.out HR.out).mono ?_; rintro e w' ⟨rfl, hb⟩; have HB := Lib.hid hb; clear hb)
  go_ret
  exact ⟨rfl, HB.out⟩
theorem relAll_any (w : World) (h : RelG X w r n g0 gs ps M0 Ms) (hX : ∀ k, X k → k < w.heap.size) (hM : M0.length ≤ 100000) : Calls Try.prog 30 #[.pointer (some ⟨r, 0, none⟩)] w fun e w' => ∃ A c xs, SaysT X M0 w e w' A c xs := by
  obtain ⟨P0, c0, I, ci, h1, h2, h3⟩ := h.cells
  obtain ⟨a0, a1, a2⟩ := cell3 h1
  have HT := Lib.hid h2.t; have HX := Lib.hid hX; clear h h1 h2 h3 hX
  go_enter Try.func30, Try.ntmps30
  go_wp2_with (first
    | (go_at_call 16; refine (allS_any _ HT.out HX.out).mono ?_; rintro e w5 ⟨gf, lb, rfl, hen, hq, hb⟩; have HQ := Lib.hid hq; have HEN := Lib.hid hen; have HB := Lib.hid hb; clear hb hq hen)
    | (go_at_call 66; refine (collect_any w5 w5 HEN.out HQ.out (Below.refl _ _) (Nat.le_refl _) (by omega) (fun k hk => Nat.lt_of_lt_of_le (HX.out k hk) HB.out.size)).mono ?_; rintro e w6 ⟨A, c, xs, hs⟩; have he := hs.val; subst he; have HS := Lib.hid hs; clear hs))
  go_ret
  exact ⟨A, c, xs, HS.out.vals, rfl, HS.out.rd, fun a ha => Nat.le_trans HB.out.size (HS.out.own a ha), HS.out.cap, HS.out.capm, HB.out.trans (HS.out.b.mono HB.out.size)⟩
theorem RelG.at_ (h : RelG X w r n g0 gs ps M0 Ms) {I : Option Addr} {m ci j : Nat} {p : List Int} (hc : w.cell? ⟨r, 2, none⟩ = some (.slice I m ci)) (hp : ps[j]? = some p) : ∃ g P cp, gs[j]? = some g ∧ SlotAt X w I j g P cp p (Ms j) := by
  obtain ⟨P0, c0, I', ci', h1, h2, h3⟩ := h.cells
  rw [(cell3 h1).2.2] at hc
  cases hc
  exact h3 j p hp
/-! ### Put -/
theorem RdV.onF0 {X : Nat → Prop} {w w' : World} {A : Option Addr} {l : List V} (h : RdV w A l) (hx : l ≠ [] → Off X A) (hb : Fr X w.heap.size w w') : RdV w' A l := by
  cases l with
  | nil => intro i v hv; simp at hv
  | cons a t => exact h.onF (hx (by simp)) hb
def putMs (ps : List (List Int)) (a : List V) (Ms : Nat → List (List V)) (k : Nat) : Nat → List (List V) := fun j => if j < k then putM (ps.getD j []) a (Ms j) else Ms j
set_option maxHeartbeats 4000000 in
theorem relPut_any (A : Option Addr) (ca : Nat) (a : List V) (w : World) (h : RelG X w r n g0 gs ps M0 Ms) (hr : RdV w A a) (ho : a ≠ [] → Off X A) (hX : ∀ k, X k → k < w.heap.size) (hM : M0.length < 100000) (hMs : ∀ j, j < ps.length → (Ms j).length < 100000) :
    Calls Try.prog 26 #[.pointer (some ⟨r, 0, none⟩), .slice A a.length ca] w fun e w' => e = .returned (.tuple #[.bool (putB (upto n) a M0), .int .i64 (putE (upto n) a)]) ∧
      RelG X w' r n g0 gs ps (putM (upto n) a M0) (if putB (upto n) a M0 then putMs ps a Ms ps.length else Ms) ∧ Fr X w.heap.size w w' := by
  have hmany := h.many; have hrl := h.lt
  have HG := Lib.hid h
  obtain ⟨P0, c0, I, ci, h1, h2, h3⟩ := h.cells
  obtain ⟨a0, a1, a2⟩ := cell3 h1
  have HT := Lib.hid h2.t; have HR := Lib.hid hr; have HX := Lib.hid hX; have HO := Lib.hid ho; have HMS := Lib.hid hMs
  clear h h2 h3 hr hX ho hMs
  obtain ⟨b, hb⟩ : ∃ b, putB (upto n) a M0 = b := ⟨_, rfl⟩
  obtain ⟨pe, hpe⟩ : ∃ pe, putE (upto n) a = pe := ⟨_, rfl⟩
  have hP := putS_any A ca a w HT.out HR.out hM HX.out
  rw [hb, hpe] at hP ⊢
  have HP := Lib.hid hP; have HB := Lib.hid hb; have HPE := Lib.hid hpe
  clear hP hb hpe
  cases b with
  | false =>
    go_enter Try.func26, Try.ntmps26
    go_wp2_with (go_at_call 14; refine HP.out.mono ?_; rintro e w5 ⟨rfl, ht, hF⟩; have HT5 := Lib.hid ht; have HF5 := Lib.hid hF; clear ht hF)
    go_ret2
    exact ⟨rfl, HG.out.put0 HT5.out HF5.out, HF5.out.sub fun k _ hk => by subst hk; exact HT.out.mem⟩
  | true =>
    go_enter Try.func26, Try.ntmps26
    go_wp2_with (go_at_call 14; refine HP.out.mono ?_; rintro e w5 ⟨rfl, ht, hF⟩; have HT5 := Lib.hid (HG.out.put0 ht hF); have HF5 := Lib.hid (show Fr X w.heap.size w w5 from hF.sub fun k _ hk => by subst hk; exact HT.out.mem); have a2' := (HF5.out.cell hrl HG.out.offr (o := 2)).trans a2; clear ht hF)
    clear a0 a1 a2
    go_loopw [30] (fun v wr => ∃ k : Nat, v = .int .i64 (k : Nat) ∧ k ≤ ps.length ∧ RelG X wr r n g0 gs ps (putM (upto n) a M0) (putMs ps a Ms k) ∧ Fr X w.heap.size w wr ∧ wr.cell? ⟨r, 2, none⟩ = some (.slice I ps.length ci)) (fun v _ => ps.length - (intOf v).toNat)
    case atStart => exact ⟨0, rfl, Nat.zero_le _, HT5.out, HF5.out, a2'⟩
    case round =>
      clear a2' HT5 HF5
      obtain ⟨k, rfl, hk, hG, hF, hc2⟩ := hrel
      by_cases hlt : k < ps.length
      · have hp := List.getElem?_eq_getElem hlt
        have hd : ps.getD k [] = ps[k] := by simp [List.getD, hp]
        have hMk := HMS.out k hlt
        generalize ps[k] = p at hp hd
        obtain ⟨g, P, cp, hg, hs⟩ := hG.at_ hc2 hp
        obtain ⟨b, o, rfl, hbl, hxb, c0, c1⟩ := hs.row
        have hwx : ∀ i, X i → i < (wr.alloc (.cells #[.pointer (some ⟨g, 0, none⟩), .slice P p.length cp] 89)).heap.size := fun i hi => by have := HX.out i hi; have := hF.size; simp; omega
        have hal : Below wr.heap.size wr (wr.alloc (.cells #[.pointer (some ⟨g, 0, none⟩), .slice P p.length cp] 89)) := (Below.refl _ _).alloc (Nat.le_refl _) _
        have hmk : putMs ps a Ms k k = Ms k := by unfold putMs; rw [if_neg (by omega)]
        have hti := hs.idx.t.on hal
        rw [hmk] at hti
        have HPK := Lib.hid (putS_any A ca a _ hti (HR.out.onF0 HO.out (hF.trans (Fr.of (hal.mono hF.size)))) hMk hwx)
        have HGK := Lib.hid (hG.on hal)
        have HGG := Lib.hid hg; have HPP := Lib.hid hp; have HFK := Lib.hid (hF.trans (Fr.of (hal.mono hF.size))); have HC2 := Lib.hid hc2; have HHD := Lib.hid hd; have HGX := Lib.hid (hG.gs_x hg).1
        have HCA := Lib.hid ((keep hal r 2 (by have := hF.size; omega)).trans hc2)
        obtain ⟨bq, hbq⟩ : ∃ bq, putB p a (Ms k) = bq := ⟨_, rfl⟩
        obtain ⟨pq, hpq⟩ : ∃ pq, putE p a = pq := ⟨_, rfl⟩
        rw [hbq, hpq] at HPK
        clear hti hG hF hs hg hp hal hmk hc2 hwx hd hbq hpq
        go_wp2_with (go_at_call 14; refine HPK.out.mono ?_; rintro e w6 ⟨rfl, ht, hF6⟩; have HT6 := Lib.hid ht; have HF6 := Lib.hid hF6; clear ht hF6)
        go_roundw
        case rel =>
          have hx6 : Fr X _ _ w6 := HF6.out.sub fun i _ hi => by subst hi; exact HGX.out
          refine ⟨k + 1, by go_num, by omega, (HGK.out.putI HGG.out HPP.out HT6.out HF6.out).same fun j hj => ?_, HFK.out.trans (hx6.mono HFK.out.size), (hx6.cell (by have := HFK.out.size; omega) HGK.out.offr).trans HCA.out⟩
          unfold putMs
          by_cases e : j = k
          · subst e; rw [if_pos rfl, if_pos (by omega), HHD.out]
          · rw [if_neg e]
            by_cases e2 : j < k
            · rw [if_pos e2, if_pos (by omega)]
            · rw [if_neg e2, if_neg (by omega)]
        case measure => simp [intOf]; omega
      · obtain rfl : k = ps.length := by omega
        have HGK := Lib.hid hG; have HFK := Lib.hid hF
        have HLN : Hid (a.length = n) := Lib.hid (by
          have := HB.out
          unfold putB at this
          simp at this
          rw [this.1, upto_len])
        clear hG hF hc2
        go_wp2
        go_ret2
        refine ⟨?_, HGK.out, HFK.out⟩
        rw [← HPE.out]
        unfold putE
        rw [if_pos (by rw [HLN.out, upto_len])]
        rfl
end
end Go.Proofs.Ytojanokicfeghaa
/-
  Package rel: contracts of Uses, and of Put over what was put.
-/
namespace Go.Proofs.Ytojanokicfeghaa
open Go.RowKit FloM ValM Go.Shelf
set_option linter.unusedVariables false
set_option linter.unusedSimpArgs false
theorem cell2 {w : World} {r : Nat} {a b : Value} {t : TypeId} {z : Nat × Nat} (h : w.heap[r]? = some (.cells #[a, b] t z)) : w.cell? ⟨r, 0, none⟩ = some a ∧ w.cell? ⟨r, 1, none⟩ = some b := by
  refine ⟨?_, ?_⟩ <;> (unfold World.cell?; simp only; rw [h]; rfl)
set_option maxHeartbeats 2000000 in
theorem uses1_any (ta : Option Addr) (P C : Option Addr) (cp cc cb : Nat) (p cols : List Int) (w : World) (hp : RdI w P p) (hc : RdI w C cols) (lp : p.length ≤ 1000) (lc : cols.length ≤ 1000) (hcb : w.cell? ⟨cb, 0, none⟩ = some (.slice C cols.length cc)) (hl : cb < w.heap.size) :
    Calls Try.prog 68 #[.agg #[.pointer ta, .slice P p.length cp], .pointer (some ⟨cb, 0, none⟩)] w fun e w' => e = .returned (.bool (decide (leadL cols p = cols.length))) ∧ Below w.heap.size w w' := by
  have hb0 : Below w.heap.size w (w.alloc (.cells #[.pointer ta, .slice P p.length cp] 89)) := (Below.refl _ _).alloc (Nat.le_refl _) _
  obtain ⟨x0, x1⟩ := cell2 (heap_alloc_new w (.cells #[.pointer ta, .slice P p.length cp] 89))
  have x2 := (keep hb0 cb 0 hl).trans hcb
  have HP := Lib.hid (hp.on hb0); have HC := Lib.hid (hc.on hb0); clear hp hc hcb
  obtain ⟨k, hk⟩ : ∃ k, leadL cols p = k := ⟨_, rfl⟩
  have HK := Lib.hid hk
  have hs1 : (w.alloc (.cells #[.pointer ta, .slice P p.length cp] 89)).heap.size = w.heap.size + 1 := by simp
  rw [hk]
  clear hk
  go_enter Try.func68, Try.ntmps68
  go_wp2_with fail
  generalize hW : w.alloc (.cells #[.pointer ta, .slice P p.length cp] 89) = W at *
  have hl1 : w.heap.size < W.heap.size := by omega
  have hl2 : cb < W.heap.size := by omega
  have HB0 := Lib.hid hb0
  clear hb0 hs1 hW
  have h4 : Below W.heap.size W W.drew := (Below.refl _ _).drew
  go_region_held3 (fun u => u.cell? ⟨w.heap.size, 0, none⟩ = some (.pointer ta) ∧ u.cell? ⟨w.heap.size, 1, none⟩ = some (.slice P p.length cp) ∧ u.cell? ⟨cb, 0, none⟩ = some (.slice C cols.length cc))
    (first | exact ⟨x0, x1, x2⟩ | exact ⟨(keep h4 _ _ hl1).trans x0, (keep h4 _ _ hl1).trans x1, (keep h4 _ _ hl2).trans x2⟩)
    ((go_at_call 69; refine (leading_any (.pointer ta) P C cp cc p cols _ (HP.out.on h4) (HC.out.on h4) lp lc ⟨_, rfl⟩).mono ?_; rw [HK.out]; rintro e w9 ⟨rfl, hb⟩; replace h4 := on h4 hb; clear hb))
  all_goals
    go_wp2
    go_ret
    refine ⟨?_, HB0.out.trans (h4.mono HB0.out.size)⟩
    exact congrArg (fun b => Ending.returned (.bool b)) (decide_eq_decide.2 (by omega))
/-- r is the number of the first permutation that begins with the columns, or -1. -/
def UsesR (cols : List Int) (ps : List (List Int)) (r : Int) : Prop := (r = -1 ∧ ∀ p ∈ ps, leadL cols p ≠ cols.length) ∨ ∃ k : Nat, r = (k : Int) ∧ k < ps.length ∧ (∃ p, ps[k]? = some p ∧ leadL cols p = cols.length) ∧ ∀ q ∈ ps.take k, leadL cols q ≠ cols.length
section
variable {X : Nat → Prop} {r n g0 : Nat} {gs : List Nat} {ps : List (List Int)} {M0 M' : List (List V)} {Ms : Nat → List (List V)}
set_option maxHeartbeats 4000000 in
theorem indexFunc_any (I : Option Addr) (ci cb cc : Nat) (C : Option Addr) (cols : List Int) (w : World) (h : RelG X w r n g0 gs ps M0 Ms) (hr : w.cell? ⟨r, 2, none⟩ = some (.slice I ps.length ci)) (hc : RdI w C cols) (lc : cols.length ≤ 1000) (hcb : w.cell? ⟨cb, 0, none⟩ = some (.slice C cols.length cc)) (hl : cb < w.heap.size) :
    Calls Try.prog 67 #[.slice I ps.length ci, .func (.func 68) #[] #[.pointer (some ⟨cb, 0, none⟩)]] w fun e w' => (∃ k, e = .returned (.int .i64 k) ∧ UsesR cols ps k) ∧ Below w.heap.size w w' := by
  have hmany := h.many; have hfew := h.few; have hrl := h.lt
  have HG := Lib.hid h; have HR := Lib.hid hr; have HC := Lib.hid hc; have HCB := Lib.hid hcb
  have hen : ∀ args w, (callFunc 68 args).run Try.prog w = .ok (.enter 68 args) w := enters_of Try.func68 (by kernel_rfl) rfl
  clear h hr hc hcb
  go_enter Try.func67, Try.ntmps67
  go_wp2
  go_loopw [8] (fun v wr => ∃ k : Nat, v = .int .i64 (k : Nat) ∧ k ≤ ps.length ∧ (∀ q ∈ ps.take k, leadL cols q ≠ cols.length) ∧ Below w.heap.size w wr) (fun v _ => ps.length - (intOf v).toNat)
  case atStart => exact ⟨0, rfl, Nat.zero_le _, by simp, Below.refl _ _⟩
  case round =>
    obtain ⟨k, rfl, hk, hn, hB⟩ := hrel
    have HN := Lib.hid hn; clear hn
    by_cases hlt : k < ps.length
    · have hp := List.getElem?_eq_getElem hlt
      generalize ps[k] = p at hp
      obtain ⟨g, P, cp, hg, hs⟩ := HG.out.at_ HR.out hp
      have hpl : p.length ≤ 1000 := by have := HG.out.lens p (List.mem_of_getElem? hp); omega
      obtain ⟨b, o, rfl, hbl, hxb, c0', c1'⟩ := hs.row
      have c0 := (keep hB _ _ hbl).trans c0'
      have c1 := (keep hB _ _ hbl).trans c1'
      have HU := Lib.hid (uses1_any (some ⟨g, 0, none⟩) P C cp cc cb p cols wr (hs.idx.rp.on hB) (HC.out.on hB) hpl lc ((keep hB _ _ hl).trans HCB.out) (Nat.lt_of_lt_of_le hl hB.size))
      have HPP := Lib.hid hp
      obtain ⟨q, hq⟩ : ∃ q, decide (leadL cols p = cols.length) = q := ⟨_, rfl⟩
      rw [hq] at HU
      have HQ := Lib.hid hq
      clear hs hp c0' c1' hq
      cases q with
      | true =>
        go_wp2_with (go_at_call 68; refine HU.out.mono ?_; rintro e w5 ⟨rfl, hb⟩; have HB := Lib.hid hb; clear hb)
        go_ret
        exact ⟨⟨_, rfl, .inr ⟨k, rfl, hlt, ⟨p, HPP.out, of_decide_eq_true HQ.out⟩, HN.out⟩⟩, on hB HB.out⟩
      | false =>
        go_wp2_with (go_at_call 68; refine HU.out.mono ?_; rintro e w5 ⟨rfl, hb⟩; have HB := Lib.hid hb; clear hb)
        refine ⟨⟨k + 1, by go_num, by omega, ?_, on hB HB.out⟩, by simp [intOf]; omega⟩
        intro q hq
        rw [take_snoc' HPP.out, List.mem_append, List.mem_singleton] at hq
        rcases hq with hq | rfl
        · exact HN.out q hq
        · exact of_decide_eq_false HQ.out
    · obtain rfl : k = ps.length := by omega
      go_wp2
      go_ret
      refine ⟨⟨_, rfl, .inl ⟨rfl, fun q hq => ?_⟩⟩, hB⟩
      have := HN.out
      rw [List.take_of_length_le (Nat.le_refl _)] at this
      exact this q hq
set_option maxHeartbeats 2000000 in
theorem relUses_any (C : Option Addr) (cc : Nat) (cols : List Int) (w : World) (h : RelG X w r n g0 gs ps M0 Ms) (hc : RdI w C cols) (lc : cols.length ≤ 1000) :
    Calls Try.prog 31 #[.pointer (some ⟨r, 0, none⟩), .slice C cols.length cc] w fun e w' => (∃ k, e = .returned (.int .i64 k) ∧ UsesR cols ps k) ∧ Below w.heap.size w w' := by
  have hb0 : Below w.heap.size w (w.alloc (.cells #[.slice C cols.length cc] 28)) := (Below.refl _ _).alloc (Nat.le_refl _) _
  have hrl := h.lt
  obtain ⟨P0, c0, I, ci, h1, h2, h3⟩ := h.cells
  have a2 := (keep hb0 r 2 hrl).trans (cell3 h1).2.2
  have HI := Lib.hid (indexFunc_any I ci w.heap.size cc C cols (w.alloc (.cells #[.slice C cols.length cc] 28)) (h.on hb0) a2 (hc.on hb0) lc (cell_box' (heap_alloc_new _ _)) (by simp))
  have hmf : ∀ (fn : Fn) (first cap : Array Value) (w : World), (Instr.makeFunc fn first cap).run Try.prog w = .ok (.func fn first cap) w := fun _ _ _ _ => rfl
  clear h h1 h2 h3 hc
  go_enter Try.func31, Try.ntmps31
  go_wp2_with (go_at_call 67; refine HI.out.mono ?_; rintro e w5 ⟨⟨k, rfl, hu⟩, hb⟩; have HB := Lib.hid hb; have HU := Lib.hid hu; clear hb hu)
  go_ret
  exact ⟨⟨k, rfl, HU.out⟩, on hb0 HB.out⟩
theorem relUses_nil (C : Option Addr) (m cc : Nat) (w : World) : Calls Try.prog 31 #[.pointer none, .slice C m cc] w fun e w' => e = .returned (.int .i64 (-1)) ∧ Below w.heap.size w w' := by
  go_enter Try.func31, Try.ntmps31
  go_wp2
  go_ret
  exact ⟨rfl, (Below.refl _ _).alloc (Nat.le_refl _) _⟩
/-! ### Put over what was put -/
theorem putM_len_le (p : List Int) (a : List V) (M : List (List V)) : (putM p a M).length ≤ M.length + 1 := by
  unfold putM; split
  · exact ins_len p a M
  · omega
theorem RelS.put {w w' : World} {H : List (List V)} {a : List V} (h : RelS X w r n g0 gs ps H) (hg : RelG X w' r n g0 gs ps (putM (upto n) a (puts (upto n) H)) (if putB (upto n) a (puts (upto n) H) then putMs ps a (fun j => puts (ps.getD j []) H) ps.length else fun j => puts (ps.getD j []) H)) : RelS X w' r n g0 gs ps (H ++ [a]) := by
  unfold RelS
  have hlens := h.lens
  have hperm : ∀ j, j < ps.length → permB (ps.getD j []) = true ∧ (ps.getD j []).length = n := fun j hj => by
    obtain ⟨P0, c0, I, ci, h1, h2, h3⟩ := h.cells
    have hp := List.getElem?_eq_getElem hj
    obtain ⟨g, P, cp, hgg, hs⟩ := h3 j _ hp
    have hd : ps.getD j [] = ps[j] := by simp [List.getD, hp]
    rw [hd]
    exact ⟨hs.idx.t.perm, hlens _ (List.mem_of_getElem? hp)⟩
  rw [puts_snoc]
  refine RelG.same hg fun j hj => ?_
  obtain ⟨h1, h2⟩ := hperm j hj
  rw [puts_snoc]
  cases hb : putB (upto n) a (puts (upto n) H) with
  | true =>
    show putMs ps a (fun j => puts (ps.getD j []) H) ps.length j = _
    unfold putMs; rw [if_pos hj]
  | false =>
    show puts (ps.getD j []) H = _
    refine (putM_same h1 (puts_fit _ _) fun hl => ?_).symm
    refine (puts_mem h1 H).2 ⟨?_, hl⟩
    have hin : inS (upto n) a (puts (upto n) H) = true := by
      unfold putB at hb
      rw [decide_eq_true (by rw [upto_len, hl, h2])] at hb
      simpa using hb
    exact ((puts_mem (upto_perm n) H).1 ((inS_mem (upto_perm n) (by rw [upto_len, hl, h2]) (puts_fit _ _).lens).1 hin)).1
theorem relPutS_any (A : Option Addr) (ca : Nat) (a : List V) (w : World) {H : List (List V)} (h : RelS X w r n g0 gs ps H) (hr : RdV w A a) (ho : a ≠ [] → Off X A) (hX : ∀ k, X k → k < w.heap.size) (hH : H.length < 100000) :
    Calls Try.prog 26 #[.pointer (some ⟨r, 0, none⟩), .slice A a.length ca] w fun e w' => e = .returned (.tuple #[.bool (putB (upto n) a (puts (upto n) H)), .int .i64 (putE (upto n) a)]) ∧ RelS X w' r n g0 gs ps (H ++ [a]) ∧ Fr X w.heap.size w w' := by
  refine (relPut_any A ca a w h hr ho hX (Nat.lt_of_le_of_lt (puts_len _ _) hH) (fun j _ => Nat.lt_of_le_of_lt (puts_len _ _) hH)).mono ?_
  rintro e w' ⟨rfl, hg, hF⟩
  exact ⟨rfl, h.put hg, hF⟩
end
end Go.Proofs.Ytojanokicfeghaa
/-
  Package rel: contracts of plainOrder, newIndex, distinct.
-/
namespace Go.Proofs.Ytojanokicfeghaa
open Go.RowKit FloM ValM Go.Shelf
set_option linter.unusedVariables false
set_option linter.unusedSimpArgs false
theorem rdI_rowIs {w : World} {g n : Nat} {f : Nat → Value} {l : List Int} (h : w.rowIs g 3 n f) (hl : ∀ i x, l[i]? = some x → i < n ∧ f i = .int .i64 x) : RdI w (some ⟨g, 0, none⟩) l := fun i x hx => by
  obtain ⟨hi, e⟩ := hl i x hx
  have h0 := h
  obtain ⟨c, hg, _⟩ := h
  exact ⟨g, 0, rfl, (Array.getElem?_eq_some_iff.1 hg).1, by rw [Nat.zero_add]; exact (World.rowIs.cell h0 hi).trans (congrArg some e)⟩
def plainF (k : Nat) (i : Nat) : Value := .int .i64 (if i < k then (i : Int) else 0)
set_option maxHeartbeats 1000000 in
theorem plainOrder_any (n : Nat) (w : World) (hn : n ≤ 1000) : Calls Try.prog 61 #[.int .i64 (n : Int)] w fun e w' => ∃ A c, e = .returned (.slice A n c) ∧ RdI w' A (upto n) ∧ Below w.heap.size w w' := by
  have hmk := fun W => run_make_row' (P := Try.prog) 28 3 (.int .i64 0) 8 Try.underlying28 info_int rfl .i64 .i64 n (by omega) (by omega) W
  go_enter Try.func61, Try.ntmps61
  go_wp2
  go_loopw [9] (fun i wr => ∃ k : Nat, i = .int .i64 (k : Nat) ∧ k ≤ n ∧ Below w.heap.size w wr ∧ wr.rowIs w.heap.size 3 n (plainF k)) (fun i _ => n - (intOf i).toNat)
  case atStart =>
    refine ⟨0, rfl, Nat.zero_le _, (Below.refl _ _).alloc (Nat.le_refl _) _, ?_⟩
    exact (World.rowIs_made w (.int .i64 0) n 3).congr fun i _ => by simp [plainF]
  case round =>
    obtain ⟨k, rfl, hk, hB, hrow⟩ := hrel
    have HRow := Lib.hid hrow; clear hrow hmk
    by_cases hlt : k < n
    · have hcell := HRow.out.cell hlt
      have hfro := HRow.out.frozen k
      have hv : plainF k k = .int .i64 0 := by unfold plainF; rw [if_neg (by omega)]
      rw [hv] at hcell
      clear hv
      go_wp2
      go_roundw
      case rel =>
        refine ⟨k + 1, by go_num, by omega, hB.setCell (Nat.le_refl _) _, ?_⟩
        have := HRow.out.set k (.int .i64 k)
        exact this.congr fun i _ => by
          unfold plainF
          by_cases e : i = k
          · subst e; simp
          · by_cases e2 : i < k
            · simp [e, e2]; omega
            · simp [e, e2]; omega
      case measure => simp [intOf]; omega
    · obtain rfl : k = n := by omega
      go_wp2
      go_ret
      refine ⟨_, _, rfl, rdI_rowIs HRow.out fun i x hx => ?_, hB⟩
      rw [upto_at] at hx
      split at hx
      · rename_i hi; cases hx; exact ⟨hi, by unfold plainF; rw [if_pos hi]⟩
      · cases hx
/-! ### newIndex -/
theorem results_cellI {fn : Func} {p u : Tmp} (h : fn.results = #[.cell p 89, .tmp u]) (tmps : Array Value) (w : World) (g : Nat) (a b : Value) (t : TypeId) (z : Nat × Nat) (hp : tmps.getD p undef = .pointer (some ⟨g, 0, none⟩)) (hg : w.heap[g]? = some (.cells #[a, b] t z)) : (results fn tmps).run Try.prog w = .ok (.tuple #[.agg #[a, b], tmps.getD u undef]) w := by
  rw [results_cell_tmp h, hp]
  have := run_loadVar_row (P := Try.prog) w g t 89 #[a, b] z _ hg Try.underlying89 rfl (by kernel_rfl)
  simp [asAddr, this, Result.andThen]
theorem store2 {w : World} {D : Nat} {a b : Value} {t : TypeId} {z : Nat × Nat} (h : w.heap[D]? = some (.cells #[a, b] t z)) (x y : Value) : ((w.setCell ⟨D, 0, none⟩ x).setCell ⟨D, 1, none⟩ y).heap[D]? = some (.cells #[x, y] t z) := by
  have h1 := heap_set' (w := w) (D := D) (o := 0) (cs := [a, b]) (t := t) (z := z) x h
  have h2 := heap_set' (w := w.setCell ⟨D, 0, none⟩ x) (D := D) (o := 1) (cs := [x, b]) (t := t) (z := z) y h1
  exact h2
/-- What newIndex hands back: the tree's block and the permutation's row are new. -/
structure IdxC (p : List Int) (w w' : World) (g : Nat) (P : Option Addr) (cp : Nat) : Prop where
  t : ∀ Y : Nat → Prop, Y g → (∀ k, Y k → k < w.heap.size ∨ k = g ∨ w'.heap.size ≤ k) → TreeS Y w' g p []
  fresh : w.heap.size ≤ g
  rp : RdI w' P p
  row : ∀ a, P = some a → g < a.block ∧ a.block < w'.heap.size
  cap : p.length ≤ cp
  capm : cp ≤ maxLen
  b : Below w.heap.size w w'
set_option maxHeartbeats 2000000 in
theorem newIndex_far (ar : Int) (A : Option Addr) (c m : Nat) (w : World) (h : ar ≠ (m : Int)) (hm : m ≤ maxLen) : Calls Try.prog 60 #[.int .i64 ar, .slice A m c] w fun e w' => e = .returned (.tuple #[.agg #[.pointer none, .slice none 0 0], .int .i64 1]) ∧ Below w.heap.size w w' := by
  have h' : ((m : Int) == ar) = false := by simpa using fun e => h e.symm
  go_enter Try.func60, Try.ntmps60
  go_wp2
  refine bodyPost_ret (results_cellI rfl _ _ w.heap.size _ _ _ _ rfl (heap_alloc_new _ _)) rfl ?_
  exact ⟨rfl, (Below.refl _ _).alloc (Nat.le_refl _) _⟩
set_option maxHeartbeats 2000000 in
theorem newIndex_bad (A : Option Addr) (c : Nat) (p : List Int) (w : World) (hp : RdI w A p) (hl : p.length ≤ 8) (hb : permB p = false) : Calls Try.prog 60 #[.int .i64 (p.length : Int), .slice A p.length c] w fun e w' => e = .returned (.tuple #[.agg #[.pointer none, .slice none 0 0], .int .i64 1]) ∧ Below w.heap.size w w' := by
  have h0 : Below w.heap.size w (w.alloc (.cells #[.pointer none, .slice none 0 0] 89)) := (Below.refl _ _).alloc (Nat.le_refl _) _
  have HN := Lib.hid (new_bad A c p _ hl (hp.on h0) hb)
  have hbx := heap_alloc_new w (.cells #[.pointer none, .slice none 0 0] 89)
  have hHN : w.heap.size < (w.alloc (.cells #[.pointer none, .slice none 0 0] 89)).heap.size := by simp
  have HBX := Lib.hid hbx
  clear hp hb hbx
  go_enter Try.func60, Try.ntmps60
  go_wp2_with (go_at_call 13; refine HN.out.mono ?_; rintro e w1 ⟨rfl, h1⟩; have hq := (h1.block _ hHN).trans HBX.out; obtain ⟨q0, q1⟩ := cell2 hq; have f0 : w1.frozen? ⟨w.heap.size, 0, none⟩ = false := (by simp [World.frozen?, hq]); have f1 : w1.frozen? ⟨w.heap.size, 1, none⟩ = false := (by simp [World.frozen?, hq]); have HQ := Lib.hid hq; have HB1 := Lib.hid h1; clear hq h1)
  refine bodyPost_ret (results_cellI rfl _ _ w.heap.size _ _ _ _ rfl (store2 HQ.out _ _)) rfl ?_
  exact ⟨rfl, ((h0.trans (HB1.out.mono (by simp))).setCell (Nat.le_refl _) _).setCell (Nat.le_refl _) _⟩
set_option maxHeartbeats 2000000 in
theorem newIndex_any (A : Option Addr) (c : Nat) (p : List Int) (w : World) (hp : RdI w A p) (hl : p.length ≤ 8) (hb : permB p = true) : Calls Try.prog 60 #[.int .i64 (p.length : Int), .slice A p.length c] w fun e w' => ∃ g P cp, e = .returned (.tuple #[.agg #[.pointer (some ⟨g, 0, none⟩), .slice P p.length cp], .int .i64 0]) ∧ IdxC p w w' g P cp := by
  have h0 : Below w.heap.size w (w.alloc (.cells #[.pointer none, .slice none 0 0] 89)) := (Below.refl _ _).alloc (Nat.le_refl _) _
  have HN := Lib.hid (new_any A c p _ hl (hp.on h0) hb)
  have hbx := heap_alloc_new w (.cells #[.pointer none, .slice none 0 0] 89)
  have hHN : w.heap.size < (w.alloc (.cells #[.pointer none, .slice none 0 0] 89)).heap.size := by simp
  have HBX := Lib.hid hbx
  have HP := Lib.hid (hp.on h0)
  clear hp hbx
  go_enter Try.func60, Try.ntmps60
  go_wp2_with (first
    | (go_at_call 13; refine HN.out.mono ?_; rintro e w1 ⟨g, P1, cp1, rfl, N⟩; have HNC := Lib.hid N; clear N)
    | (go_at_call 48; refine (cloneI_in A c p _ (HP.out.on HNC.out.b) (by omega)).mono ?_; rintro e w2 ⟨P', c', rfl, hr, ho, hc1, hc2, h2⟩; have hq := (h2.block _ (Nat.lt_of_lt_of_le hHN HNC.out.b.size)).trans ((HNC.out.b.block _ hHN).trans HBX.out); obtain ⟨q0, q1⟩ := cell2 hq; have f0 : w2.frozen? ⟨w.heap.size, 0, none⟩ = false := (by simp [World.frozen?, hq]); have f1 : w2.frozen? ⟨w.heap.size, 1, none⟩ = false := (by simp [World.frozen?, hq]); have HQ := Lib.hid hq; have HB2 := Lib.hid h2; have HO := Lib.hid ho; have HRR := Lib.hid hr; clear hq h2 ho hr))
  refine bodyPost_ret (results_cellI rfl _ _ w.heap.size _ _ _ _ rfl (store2 HQ.out _ _)) rfl ?_
  have hgf := HNC.out.fresh
  rw [World.size_alloc] at hgf
  have hgl := HNC.out.lt
  have hg2 : g < w2.heap.size := Nat.lt_of_lt_of_le hgl HB2.out.size
  have hF : Fr (· = w.heap.size) w2.heap.size w2 ((w2.setCell ⟨w.heap.size, 0, none⟩ (.pointer (some ⟨g, 0, none⟩))).setCell ⟨w.heap.size, 1, none⟩ (.slice P' p.length c')) := (fr_set w2 _ 0 _ _).trans (fr_set _ _ 1 _ _)
  have hbl : Below w.heap.size w w2 := (h0.trans (HNC.out.b.mono (by simp))).trans (HB2.out.mono (by have := HNC.out.b.size; simp at this; omega))
  have hne : ∀ a, P' = some a → a.block ≠ w.heap.size := fun a ha e => by have := (HO.out a ha).1; omega
  have ht2 : ∀ Y : Nat → Prop, Y g → (∀ k, Y k → k < w.heap.size ∨ k = g ∨ ((w2.setCell ⟨w.heap.size, 0, none⟩ (.pointer (some ⟨g, 0, none⟩))).setCell ⟨w.heap.size, 1, none⟩ (.slice P' p.length c')).heap.size ≤ k) → TreeS Y ((w2.setCell ⟨w.heap.size, 0, none⟩ (.pointer (some ⟨g, 0, none⟩))).setCell ⟨w.heap.size, 1, none⟩ (.slice P' p.length c')) g p [] := fun Y hY hYk => by
    have ht : TreeS (fun k => Y k ∨ k = w.heap.size) w2 g p [] := TreeS.start HNC.out HB2.out (.inl hY) (fun a ha e => by
      have h1 := HNC.out.row a ha
      have h2 := HNC.out.row' a ha
      rw [World.size_alloc] at h1
      have h3 := hF.size
      rcases e with e | e
      · have := hYk _ e; omega
      · omega) hb hl
    exact (ht.onF (hF.sub fun k _ hk => .inr hk) (hF.block _ hg2 (by omega))).sub (X := Y) (fun k hk => .inl hk) hY
  refine ⟨g, P', c', rfl, ht2, by omega, HRR.out.onF (fun a ha e => hne a ha e) hF, fun a ha => ⟨by have := (HO.out a ha).1; omega, Nat.lt_of_lt_of_le (HO.out a ha).2 hF.size⟩, hc1, hc2, hbl.trans (hF.below hbl.size fun k hk e => by omega)⟩
end Go.Proofs.Ytojanokicfeghaa
/-
  Package rel: contract of distinct.
-/
namespace Go.Proofs.Ytojanokicfeghaa
open Go.RowKit FloM ValM Go.Shelf
set_option linter.unusedVariables false
set_option linter.unusedSimpArgs false
def distB (n : Nat) (cols : List Int) : Bool := cols.all (inR n) && decide cols.Nodup
theorem distB_iff {n : Nat} {cols : List Int} : distB n cols = true ↔ (∀ x ∈ cols, inR n x = true) ∧ cols.Nodup := by
  unfold distB; rw [Bool.and_eq_true, List.all_eq_true, decide_eq_true_eq]
def sawF (l : List Int) (i : Nat) : Value := .bool (decide ((i : Int) ∈ l))
section
variable {X : Nat → Prop} {r n g0 : Nat} {gs : List Nat} {ps : List (List Int)} {M0 M' : List (List V)} {Ms : Nat → List (List V)}
set_option maxHeartbeats 4000000 in
theorem distinct_any (C : Option Addr) (cc : Nat) (cols : List Int) (w : World) (h : RelG X w r n g0 gs ps M0 Ms) (hc : RdI w C cols) (lc : cols.length ≤ 1000) :
    Calls Try.prog 62 #[.pointer (some ⟨r, 0, none⟩), .slice C cols.length cc] w fun e w' => e = .returned (.bool (distB n cols)) ∧ Below w.heap.size w w' := by
  have hfew := h.few
  have HG := Lib.hid h; have HC := Lib.hid hc; clear h hc
  go_enter Try.func62, Try.ntmps62
  go_wp2
  go_loopw [10] (fun i wr => ∃ k : Nat, i = .int .i64 (k : Nat) ∧ k ≤ cols.length ∧ Below w.heap.size w wr ∧ wr.rowIs w.heap.size 118 8 (sawF (cols.take k)) ∧ (∀ x ∈ cols.take k, inR n x = true) ∧ (cols.take k).Nodup) (fun i _ => cols.length - (intOf i).toNat)
  case atStart =>
    refine ⟨0, rfl, Nat.zero_le _, (Below.refl _ _).alloc (Nat.le_refl _) _, ?_, by simp, by simp⟩
    refine World.rowIs_alloc w _ _ _ fun i hi => ?_
    have : i < 8 := hi
    rcases i with _ | _ | _ | _ | _ | _ | _ | _ | i <;> first | rfl | omega
  case round =>
    obtain ⟨k, rfl, hk, hB, hrow, hin, hnd⟩ := hrel
    have HRow := Lib.hid hrow; have HIN := Lib.hid hin; have HND := Lib.hid hnd; clear hrow hin hnd
    by_cases hlt : k < cols.length
    · obtain ⟨b, o, rfl, hb, hcs⟩ := HC.out.row (by omega)
      have hx := List.getElem?_eq_getElem hlt
      generalize cols[k] = x at hx
      have cx := (keep hB _ _ hb).trans (hcs k x hx)
      have HX := Lib.hid hx; clear hcs hx
      have HGR := Lib.hid (HG.out.on hB)
      have hmem : x ∈ cols := List.mem_of_getElem? HX.out
      have HM := Lib.hid hmem; clear hmem
      by_cases h0 : x < 0
      · have HF : Hid (distB n cols = false) := Lib.hid (Bool.eq_false_iff.2 fun h => by
          have := (distB_iff.1 h).1 x HM.out
          have := (inR_iff.1 this).1; omega)
        go_wp2_with (go_at_call 35; refine (relArity_any _ HGR.out).mono ?_; rintro e w' ⟨rfl, rfl⟩)
        go_ret
        exact ⟨by rw [HF.out]; rfl, hB⟩
      · by_cases h1 : (n : Int) ≤ x
        · have HF : Hid (distB n cols = false) := Lib.hid (Bool.eq_false_iff.2 fun h => by
            have := (distB_iff.1 h).1 x HM.out
            have := (inR_iff.1 this).2; omega)
          go_wp2_with (go_at_call 35; refine (relArity_any _ HGR.out).mono ?_; rintro e w' ⟨rfl, rfl⟩)
          go_ret
          exact ⟨by rw [HF.out]; rfl, hB⟩
        · obtain ⟨m, rfl⟩ := Int.eq_ofNat_of_zero_le (show 0 ≤ x by omega)
          have hmn : m < n := by omega
          have hm8 : (m : Int) < 8 := by omega
          have hm0 : (0 : Int) ≤ (m : Int) := by omega
          have hcell := HRow.out.cell (i := m) (by omega)
          have hfro := HRow.out.frozen m
          by_cases hs : (m : Int) ∈ cols.take k
          · have hv : sawF (cols.take k) m = .bool true := by unfold sawF; rw [decide_eq_true hs]
            rw [hv] at hcell
            have HF : Hid (distB n cols = false) := Lib.hid (Bool.eq_false_iff.2 fun h => by
              have hn := (distB_iff.1 h).2
              rw [split_take HX.out, List.nodup_append] at hn
              exact hn.2.2 _ hs _ (List.mem_cons_self ..) rfl)
            clear hv hs
            go_wp2_with (go_at_call 35; refine (relArity_any _ HGR.out).mono ?_; rintro e w' ⟨rfl, rfl⟩)
            go_ret
            exact ⟨by rw [HF.out]; rfl, hB⟩
          · have hv : sawF (cols.take k) m = .bool false := by unfold sawF; rw [decide_eq_false hs]
            rw [hv] at hcell
            have HS := Lib.hid hs
            clear hv hs
            go_wp2_with (go_at_call 35; refine (relArity_any _ HGR.out).mono ?_; rintro e w' ⟨rfl, rfl⟩)
            refine ⟨⟨k + 1, by go_num, by omega, hB.setCell (Nat.le_refl _) _, ?_, ?_, ?_⟩, by simp [intOf]; omega⟩
            · refine (HRow.out.set m (.bool true)).congr fun i _ => ?_
              unfold sawF
              rw [take_snoc' HX.out]
              by_cases e : i = m
              · subst e; simp
              · simp [e]; omega
            · rw [take_snoc' HX.out]
              intro y hy
              rw [List.mem_append, List.mem_singleton] at hy
              rcases hy with hy | rfl
              · exact HIN.out y hy
              · exact inR_iff.2 ⟨by omega, by omega⟩
            · rw [take_snoc' HX.out, List.nodup_append]
              exact ⟨HND.out, by simp, fun a ha b hb e => by rw [List.mem_singleton] at hb; subst hb; subst e; exact HS.out ha⟩
    · obtain rfl : k = cols.length := by omega
      have HT : Hid (distB n cols = true) := Lib.hid (by
        have h1 := HIN.out; have h2 := HND.out
        rw [List.take_of_length_le (Nat.le_refl _)] at h1 h2
        exact distB_iff.2 ⟨h1, h2⟩)
      go_wp2
      go_ret
      exact ⟨by rw [HT.out]; rfl, hB⟩
end
end Go.Proofs.Ytojanokicfeghaa
/-
  Package rel: a relation while New makes it, one index after the other.
-/
namespace Go.Proofs.Ytojanokicfeghaa
open Go.RowKit FloM ValM Go.Shelf
set_option linter.unusedVariables false
set_option linter.unusedSimpArgs false
/-- An index's record. -/
structure Ix where
  g : Nat
  P : Option Addr
  c : Nat
  p : List Int
def Ix.cells (e : Ix) : List Value := [.pointer (some ⟨e.g, 0, none⟩), .slice e.P e.p.length e.c]
def ixCells (es : List Ix) : List Value := es.flatMap Ix.cells
theorem ixCells_snoc (es : List Ix) (e : Ix) : ixCells (es ++ [e]) = ixCells es ++ e.cells := by simp [ixCells]
theorem ixCells_len : ∀ es : List Ix, (ixCells es).length = es.length * 2
  | [] => rfl
  | e :: es => by have := ixCells_len es; simp only [ixCells, List.flatMap_cons, List.length_append, List.length_cons] at *; simp only [Ix.cells, List.length_cons, List.length_nil]; omega
theorem ixCells_at : ∀ {es : List Ix} {j : Nat} {e : Ix}, es[j]? = some e → (ixCells es)[j * 2]? = some (.pointer (some ⟨e.g, 0, none⟩)) ∧ (ixCells es)[j * 2 + 1]? = some (.slice e.P e.p.length e.c)
  | x :: es, 0, e, h => by cases h; exact ⟨rfl, rfl⟩
  | x :: es, j + 1, e, h => by
    obtain ⟨h1, h2⟩ := ixCells_at (es := es) (j := j) (e := e) h
    have e1 : ixCells (x :: es) = x.cells ++ ixCells es := by simp [ixCells]
    have hl : x.cells.length = 2 := rfl
    rw [e1, List.getElem?_append_right (by omega), List.getElem?_append_right (by omega), hl]
    exact ⟨by rw [show (j + 1) * 2 - 2 = j * 2 by omega]; exact h1, by rw [show (j + 1) * 2 + 1 - 2 = j * 2 + 1 by omega]; exact h2⟩
theorem IdxAt.onF {X : Nat → Prop} {w w' : World} {g : Nat} {P : Option Addr} {cp : Nat} {p : List Int} {M : List (List V)} (h : IdxAt X w g P cp p M) (hF : Fr X w.heap.size w w') (hg : w'.heap[g]? = w.heap[g]?) : IdxAt X w' g P cp p M :=
  ⟨h.t.onF hF hg, h.rp.onF h.offP hF, h.offP, fun a ha => Nat.lt_of_lt_of_le (h.inP a ha) hF.size, h.cap, h.capm⟩
theorem IdxAt.sub {X Y : Nat → Prop} {w : World} {g : Nat} {P : Option Addr} {cp : Nat} {p : List Int} {M : List (List V)} (hXY : ∀ b, X b → Y b) (hg : X g) (h : IdxAt Y w g P cp p M) : IdxAt X w g P cp p M :=
  ⟨h.t.sub hXY hg, h.rp, fun a ha hx => h.offP a ha (hXY _ hx), h.inP, h.cap, h.capm⟩
structure NewI (w : World) (r n g0 : Nat) (es : List Ix) (W : World) (I : Option Addr) (ci : Nat) : Prop where
  rcd : ∃ P0 c0, W.heap[r]? = some (.cells #[.pointer (some ⟨g0, 0, none⟩), .slice P0 n c0, .slice I es.length ci] 94 (0, 0)) ∧
    ∃ Y : Nat → Prop, Y g0 ∧ Y r ∧ (∀ e ∈ es, Y e.g) ∧ (∀ b, I = some b → Y b.block) ∧ (∀ k, Y k → k < W.heap.size) ∧ IdxAt Y W g0 P0 c0 (upto n) [] ∧ ∀ e ∈ es, IdxAt Y W e.g e.P e.c e.p []
  own : W.ownsRow (r + 1) 89 2 (.slice I es.length ci) es.length (ixCells es)
  b : Below w.heap.size w W
  gw : w.heap.size ≤ g0
  rn : w.heap.size ≤ r
  ge : ∀ e ∈ es, w.heap.size ≤ e.g
  nodup : (g0 :: es.map Ix.g).Nodup
  lens : ∀ e ∈ es, e.p.length = n
theorem own_obj {w : World} {base n size : Nat} {e : TypeId} {b : Addr} {c : Nat} {xs : List Value} (h : w.ownsRow base e size (.slice (some b) n c) n xs) : ∃ cs, w.heap[b.block]? = some (.cells cs e (0, 0)) := by
  rcases h.2 with ⟨e, _⟩ | ⟨g, cap, cur, e, _, hgg, _⟩
  · cases e
  · injection e with e _ _; injection e with e; subst e; exact ⟨_, hgg⟩
theorem NewI.next {w W W5 W8 : World} {r n g0 : Nat} {es : List Ix} {I : Option Addr} {ci g cp g3 c3 : Nat} {P : Option Addr} {p : List Int} {o1 o2 : Obj} (h : NewI w r n g0 es W I ci) (hc : IdxC p W W5 g P cp) (hp : p.length = n)
    (ho : W8.ownsRow (r + 1) 89 2 (.slice (some ⟨g3, 0, none⟩) (es.length + 1) c3) (es.length + 1) (ixCells es ++ (Ix.mk g P cp p).cells)) (hg : ((W5.alloc o1).alloc o2).grownBy W8 (Value.slice I es.length ci).ownBlock)
    (hor : (Value.slice I es.length ci).ownBlock = some g3 ∨ g3 = ((W5.alloc o1).alloc o2).heap.size) (hlt : g3 < W8.heap.size) :
    (W8.cell? ⟨r, 2, none⟩ = some (.slice I es.length ci) ∧ W8.frozen? ⟨r, 2, none⟩ = false) ∧ NewI w r n g0 (es ++ [Ix.mk g P cp p]) (W8.setCell ⟨r, 2, none⟩ (.slice (some ⟨g3, 0, none⟩) (es.length + 1) c3)) (some ⟨g3, 0, none⟩) c3 := by
  obtain ⟨P0, c0, hrec, Y, y1, y2, y3, y4, y5, y6, y7⟩ := h.rcd
  have hrl := (Array.getElem?_eq_some_iff.1 hrec).1
  have hob : ∀ k, (Value.slice I es.length ci).ownBlock = some k → ∃ b, I = some b ∧ b.block = k := fun k hk => by
    cases I with
    | none => cases hk
    | some b => exact ⟨b, rfl, by simpa [Value.ownBlock] using hk⟩
  have hobx : ∀ k, (Value.slice I es.length ci).ownBlock = some k → ∃ cs, W.heap[k]? = some (.cells cs 89 (0, 0)) := fun k hk => by
    obtain ⟨b, rfl, rfl⟩ := hob k hk
    exact own_obj h.own
  have h56 : Below W5.heap.size W5 ((W5.alloc o1).alloc o2) := ((Below.refl _ _).alloc (Nat.le_refl _) _).alloc (by simp) _
  have hW6 : Below W.heap.size W ((W5.alloc o1).alloc o2) := hc.b.trans (h56.mono hc.b.size)
  have hf := hc.fresh
  have hgl : g < W5.heap.size := by
    have := (hc.t (· = g) rfl (fun k hk => .inr (.inl hk))).lt
    exact this
  have hs6 : ((W5.alloc o1).alloc o2).heap.size = W5.heap.size + 2 := by simp
  obtain ⟨Y', hY'⟩ : ∃ Y' : Nat → Prop, Y' = fun k => Y k ∨ k = g ∨ k = g3 := ⟨_, rfl⟩
  have hg3 : Y g3 ∨ W5.heap.size ≤ g3 := by
    rcases hor with e | e
    · obtain ⟨b, e1, e2⟩ := hob g3 e; exact .inl (e2 ▸ y4 b e1)
    · exact .inr (by omega)
  have hmo : ∀ k, Y' k → Y k ∨ W.heap.size ≤ k := fun k hk => by
    subst hY'
    rcases hk with hk | rfl | rfl
    · exact .inl hk
    · exact .inr hf
    · rcases hg3 with e | e
      · exact .inl e
      · exact .inr (Nat.le_trans hc.b.size e)
  have hYY : ∀ k, Y k → Y' k := fun k hk => by subst hY'; exact .inl hk
  -- from the world ahead of append to the end
  have hF8 : Fr Y' ((W5.alloc o1).alloc o2).heap.size ((W5.alloc o1).alloc o2) W8 := ⟨hg.os, hg.tape, hg.output, hg.size, fun k hk hx => hg.block k hk (fun e => hx (by
    obtain ⟨b, e1, e2⟩ := hob k e.symm
    exact hYY _ (e2 ▸ y4 b e1)))⟩
  have hF9 : Fr (· = r) W8.heap.size W8 (W8.setCell ⟨r, 2, none⟩ (.slice (some ⟨g3, 0, none⟩) (es.length + 1) c3)) := fr_set W8 r 2 _ _
  have hFr : Fr Y' ((W5.alloc o1).alloc o2).heap.size ((W5.alloc o1).alloc o2) (W8.setCell ⟨r, 2, none⟩ (.slice (some ⟨g3, 0, none⟩) (es.length + 1) c3)) :=
    hF8.trans ((hF9.sub fun k _ hk => by subst hk; exact hYY _ y2).mono hF8.size)
  have hkeep : ∀ (k : Nat) (cs : Array Value), ((W5.alloc o1).alloc o2).heap[k]? = some (.cells cs 78 (0, 0)) → (W8.setCell ⟨r, 2, none⟩ (.slice (some ⟨g3, 0, none⟩) (es.length + 1) c3)).heap[k]? = ((W5.alloc o1).alloc o2).heap[k]? := fun k cs hk => by
    have hkl := (Array.getElem?_eq_some_iff.1 hk).1
    have hkr : k ≠ r := fun e => by
      subst e
      rw [hW6.block k hrl, hrec] at hk; cases hk
    refine (hF9.block k (Nat.lt_of_lt_of_le hkl hF8.size) hkr).trans (hg.block k hkl fun e => ?_)
    obtain ⟨cs2, hcs⟩ := hobx k e.symm
    have hkW := (Array.getElem?_eq_some_iff.1 hcs).1
    rw [hW6.block k hkW, hcs] at hk; cases hk
  have hmove : ∀ {g' : Nat} {P' : Option Addr} {c' : Nat} {p' : List Int}, IdxAt Y' ((W5.alloc o1).alloc o2) g' P' c' p' [] → IdxAt Y' (W8.setCell ⟨r, 2, none⟩ (.slice (some ⟨g3, 0, none⟩) (es.length + 1) c3)) g' P' c' p' [] := fun hi => by
    obtain ⟨cs, hcs⟩ := hi.t.obj
    exact hi.onF hFr (hkeep _ cs hcs)
  have hold : ∀ {g' : Nat} {P' : Option Addr} {c' : Nat} {p' : List Int}, IdxAt Y W g' P' c' p' [] → IdxAt Y' (W8.setCell ⟨r, 2, none⟩ (.slice (some ⟨g3, 0, none⟩) (es.length + 1) c3)) g' P' c' p' [] := fun hi => hmove ((hi.more hYY hmo).on hW6)
  have hnew : IdxAt Y' (W8.setCell ⟨r, 2, none⟩ (.slice (some ⟨g3, 0, none⟩) (es.length + 1) c3)) g P cp p [] := by
    refine hmove (IdxAt.on (w := W5) ⟨hc.t Y' (by subst hY'; exact .inr (.inl rfl)) (fun k hk => ?_), hc.rp, fun a ha hx => ?_, fun a ha => (hc.row a ha).2, hc.cap, hc.capm⟩ h56)
    · subst hY'
      rcases hk with hk | rfl | rfl
      · exact .inl (y5 k hk)
      · exact .inr (.inl rfl)
      · rcases hg3 with e | e
        · exact .inl (y5 _ e)
        · exact .inr (.inr e)
    · obtain ⟨q1, q2⟩ := hc.row a ha
      subst hY'
      rcases hx with hx | hx | hx
      · have := y5 _ hx; omega
      · omega
      · rcases hg3 with e | e
        · have := y5 _ e; omega
        · omega
  have hrec6 := (hW6.block r hrl).trans hrec
  have hrec8 : W8.heap[r]? = some (.cells #[.pointer (some ⟨g0, 0, none⟩), .slice P0 n c0, .slice I es.length ci] 94 (0, 0)) := by
    refine (hg.block r (by have := hW6.size; omega) fun e => ?_).trans hrec6
    obtain ⟨cs2, hcs⟩ := hobx r e.symm
    rw [hrec] at hcs; cases hcs
  have hrl8 := (Array.getElem?_eq_some_iff.1 hrec8).1
  have hrg3 : g3 ≠ r := fun e => by
    obtain ⟨cs, hcs⟩ := own_obj ho
    subst e
    rw [hrec8] at hcs; cases hcs
  refine ⟨⟨(cell3 hrec8).2.2, by simp [World.frozen?, hrec8]⟩, ⟨⟨P0, c0, ?_, Y', hYY _ y1, hYY _ y2, ?_, ?_, ?_, hold y6, ?_⟩, ?_, ?_, h.gw, h.rn, ?_, ?_, ?_⟩⟩
  · have := heap_set' (w := W8) (D := r) (o := 2) (cs := [.pointer (some ⟨g0, 0, none⟩), .slice P0 n c0, .slice I es.length ci]) (t := 94) (z := (0, 0)) (.slice (some ⟨g3, 0, none⟩) (es.length + 1) c3) hrec8
    simp only [List.set_cons_succ, List.set_cons_zero] at this
    rw [List.length_append, List.length_singleton]
    exact this
  · intro e he
    rw [List.mem_append, List.mem_singleton] at he
    rcases he with he | rfl
    · exact hYY _ (y3 e he)
    · subst hY'; exact .inr (.inl rfl)
  · intro b hb
    cases hb
    subst hY'
    exact .inr (.inr rfl)
  · intro k hk
    have h1 := hFr.size
    rcases hmo k hk with h2 | h2
    · have := y5 k h2; have := hW6.size; omega
    · subst hY'
      rcases hk with hk | rfl | rfl
      · have := y5 k hk; omega
      · omega
      · have : (W8.setCell ⟨r, 2, none⟩ (.slice (some ⟨k, 0, none⟩) (es.length + 1) c3)).heap.size = W8.heap.size := by simp [World.setCell]
        omega
  · intro e he
    rw [List.mem_append, List.mem_singleton] at he
    rcases he with he | rfl
    · exact hold (y7 e he)
    · exact hnew
  · rw [List.length_append, List.length_singleton, ixCells_snoc]
    refine ⟨ho.1, ?_⟩
    rcases ho.2 with ⟨e, _⟩ | ⟨g', cap, cur, hv, hbg, hgg, rest⟩
    · cases e
    · injection hv with hv1 hv2 hv3
      injection hv1 with hv1
      injection hv1 with hv1 hv4 hv5
      subst hv1
      exact .inr ⟨g3, cap, cur, by rw [hv3], hbg, (hF9.block g3 hlt hrg3).trans hgg, rest⟩
  · have hb8 : Below w.heap.size w W8 := by
      refine (h.b.trans (hW6.mono h.b.size)).trans ⟨hg.os, hg.tape, hg.output, hg.size, fun k hk => hg.block k (by have := h.b.size; have := hW6.size; omega) fun e => ?_⟩
      obtain ⟨b, e1, e2⟩ := hob k e.symm
      have := own_base h.own k e.symm
      have := h.rn
      omega
    exact hb8.setCell h.rn _
  · intro e he
    rw [List.mem_append, List.mem_singleton] at he
    rcases he with he | rfl
    · exact h.ge e he
    · have := h.b.size; show w.heap.size ≤ g; omega
  · rw [List.map_append, ← List.cons_append, List.nodup_append]
    refine ⟨h.nodup, by simp, fun a ha b hb e => ?_⟩
    simp only [List.map_cons, List.map_nil, List.mem_singleton] at hb
    subst hb; subst e
    rw [List.mem_cons, List.mem_map] at ha
    rcases ha with rfl | ⟨x, hx, rfl⟩
    · have := y5 _ y1; omega
    · have := y5 _ (y3 x hx); omega
  · intro e he
    rw [List.mem_append, List.mem_singleton] at he
    rcases he with he | rfl
    · exact h.lens e he
    · exact hp
end Go.Proofs.Ytojanokicfeghaa
/-
  Package rel: contract of New.
-/
namespace Go.Proofs.Ytojanokicfeghaa
open Go.RowKit FloM ValM Go.Shelf
set_option linter.unusedVariables false
set_option linter.unusedSimpArgs false
/-- A list of numbers that came in: its slice. -/
structure IS where
  A : Option Addr
  c : Nat
  l : List Int
def IS.val (x : IS) : Value := .slice x.A x.l.length x.c
structure RdP (w : World) (A : Option Addr) (xs : List IS) : Prop where
  rd : RdC w A (xs.map IS.val)
  each : ∀ x ∈ xs, RdI w x.A x.l ∧ x.l.length ≤ maxLen
theorem RdP.on {w w' : World} {A : Option Addr} {xs : List IS} (h : RdP w A xs) (hb : Below w.heap.size w w') : RdP w' A xs := ⟨h.rd.on hb, fun x hx => ⟨(h.each x hx).1.on hb, (h.each x hx).2⟩⟩
theorem RdP.row {w : World} {A : Option Addr} {xs : List IS} (h : RdP w A xs) (hne : 0 < xs.length) : ∃ b o, A = some ⟨b, o, none⟩ ∧ b < w.heap.size ∧ ∀ j x, xs[j]? = some x → w.cell? ⟨b, o + j, none⟩ = some (.slice x.A x.l.length x.c) := by
  obtain ⟨b, o, rfl, hb, _⟩ := h.rd 0 _ (show (xs.map IS.val)[0]? = some _ by rw [List.getElem?_map, List.getElem?_eq_getElem hne]; rfl)
  refine ⟨b, o, rfl, hb, fun j x hx => ?_⟩
  obtain ⟨b', o', e, _, hc⟩ := h.rd j (.slice x.A x.l.length x.c) (by rw [List.getElem?_map, hx]; rfl)
  injection e with e; injection e with e1 e2 _; subst e1 e2; exact hc
def goodP (n : Nat) (p : List Int) : Bool := decide (p.length = n) && permB p
theorem goodP_iff {n : Nat} {p : List Int} : goodP n p = true ↔ p.length = n ∧ permB p = true := by unfold goodP; rw [Bool.and_eq_true, decide_eq_true_eq]
theorem grown_undrew {w w' : World} {o : Option Nat} (h : w.drew.grownBy w' o) : w.grownBy w' o := ⟨h.os, h.tape, h.output, h.size, h.block⟩
theorem info_ix : (Try.prog.info? 89).map (fun i => (i.zero, i.size, i.bytes)) = some (some (.agg #[.pointer none, .slice none 0 0]), 2, 32) := by kernel_rfl
theorem NewI.start {w w1 w2 : World} {n g cp : Nat} {P : Option Addr} (hb : Below w.heap.size w w1) (hc : IdxC (upto n) w1 w2 g P cp) (o1 : Obj) : NewI w (w2.heap.size + 1) n g [] ((w2.alloc o1).alloc (.cells #[.pointer (some ⟨g, 0, none⟩), .slice P n cp, .slice none 0 0] 94)) none 0 := by
  have h2 : Below w2.heap.size w2 ((w2.alloc o1).alloc (.cells #[.pointer (some ⟨g, 0, none⟩), .slice P n cp, .slice none 0 0] 94)) := ((Below.refl _ _).alloc (Nat.le_refl _) _).alloc (by simp) _
  have hbw : Below w.heap.size w w2 := hb.trans (hc.b.mono hb.size)
  have hf := hc.fresh
  have hgl := (hc.t (· = g) rfl (fun k hk => .inr (.inl hk))).lt
  refine ⟨⟨P, cp, ?_, fun k => k = g ∨ k = w2.heap.size + 1, .inl rfl, .inr rfl, (fun e he => by cases he), (fun b hb => by cases hb), (fun k hk => ?_), ?_, (fun e he => by cases he)⟩, own_nil _ _ _ _, hbw.trans (h2.mono hbw.size), Nat.le_trans hb.size hf, (by have := hbw.size; omega), (fun e he => by cases he), by simp, (fun e he => by cases he)⟩
  · have := World.alloc_heap_new (w2.alloc o1) (.cells #[.pointer (some ⟨g, 0, none⟩), .slice P n cp, .slice none 0 0] 94)
    rw [World.size_alloc] at this; exact this
  · simp; rcases hk with rfl | rfl <;> omega
  · refine IdxAt.on (w := w2) ⟨hc.t _ (.inl rfl) (fun k hk => hk.elim (fun e => .inr (.inl e)) (fun e => .inr (.inr (by omega)))), hc.rp, fun a ha hx => ?_, fun a ha => (hc.row a ha).2, hc.cap, hc.capm⟩ h2
    have := hc.row a ha
    rcases hx with hx | hx <;> omega
theorem NewI.done {w W : World} {r n g0 ci : Nat} {es : List Ix} {I : Option Addr} (h : NewI w r n g0 es W I ci) (hn : n ≤ 8) (hm : es.length ≤ 1000) : RelS (fun k => k = g0 ∨ k ∈ es.map Ix.g) W r n g0 (es.map Ix.g) (es.map Ix.p) [] := by
  obtain ⟨P0, c0, hrec, Y, y1, y2, y3, y4, y5, y6, y7⟩ := h.rcd
  have hXY : ∀ k, (k = g0 ∨ k ∈ es.map Ix.g) → Y k := fun k hk => by
    rcases hk with rfl | hk
    · exact y1
    · obtain ⟨e, he, rfl⟩ := List.mem_map.1 hk; exact y3 e he
  have hobj : ∀ k, (k = g0 ∨ k ∈ es.map Ix.g) → ∃ cs, W.heap[k]? = some (.cells cs 78 (0, 0)) := fun k hk => by
    rcases hk with rfl | hk
    · exact y6.t.obj
    · obtain ⟨e, he, rfl⟩ := List.mem_map.1 hk; exact (y7 e he).t.obj
  refine ⟨hn, by simpa using hm, fun hr => ?_, ⟨P0, c0, I, ci, by rw [List.length_map]; exact hrec, y6.sub hXY (.inl rfl), fun j p hp => ?_⟩, by simp, h.nodup, fun p hp => ?_⟩
  · obtain ⟨cs, hcs⟩ := hobj r hr
    rw [hrec] at hcs; cases hcs
  · rw [List.getElem?_map, Option.map_eq_some_iff] at hp
    obtain ⟨e, he, rfl⟩ := hp
    obtain ⟨q1, q2⟩ := ixCells_at he
    obtain ⟨b, cap, hv, hb1, hb2, hb3⟩ := own_cell h.own q1
    obtain ⟨b', cap', hv', hb1', hb2', hb3'⟩ := own_cell h.own q2
    injection hv with hv1 _ hv2
    subst hv1
    injection hv' with hv1 _ _
    injection hv1 with hv1
    injection hv1 with hv1 _ _
    subst hv1
    refine ⟨e.g, e.P, e.c, by rw [List.getElem?_map, he]; rfl, ⟨⟨b, 0, rfl, hb2, fun hx => ?_, by rw [Nat.zero_add]; exact hb3, by rw [Nat.zero_add]; exact hb3'⟩, ?_⟩⟩
    · obtain ⟨cs, hcs⟩ := hobj b hx
      obtain ⟨cs2, hcs2⟩ := own_obj h.own
      rw [hcs] at hcs2; cases hcs2
    · exact (y7 e (List.mem_of_getElem? he)).sub hXY (.inr (List.mem_map_of_mem (List.mem_of_getElem? he)))
  · obtain ⟨e, he, rfl⟩ := List.mem_map.1 hp
    exact h.lens e he
theorem relNew_out (n : Int) (v : Value) (w : World) (h : n < 0 ∨ 8 < n) : Calls Try.prog 25 #[.int .i64 n, v] w fun e w' => e = .returned (.tuple #[.pointer none, .int .i64 1]) ∧ w = w' := by
  rcases h with h | h
  · go_enter Try.func25, Try.ntmps25
    go_wp2
    go_ret2
    exact ⟨rfl, rfl⟩
  · go_enter Try.func25, Try.ntmps25
    go_wp2
    go_ret2
    exact ⟨rfl, rfl⟩
/-- What New hands back. -/
structure NewS (w : World) (n : Nat) (ps : List (List Int)) (r g0 : Nat) (gs : List Nat) (w' : World) : Prop where
  s : RelS (fun k => k = g0 ∨ k ∈ gs) w' r n g0 gs ps []
  b : Below w.heap.size w w'
  r0 : w.heap.size ≤ r
  x0 : ∀ k, (k = g0 ∨ k ∈ gs) → w.heap.size ≤ k
set_option maxRecDepth 20000 in
set_option maxHeartbeats 8000000 in
theorem relNew_any (A : Option Addr) (c n : Nat) (xs : List IS) (w : World) (hn : n ≤ 8) (h : RdP w A xs) (hm : xs.length ≤ 1000) :
    Calls Try.prog 25 #[.int .i64 (n : Int), .slice A xs.length c] w fun e w' =>
      ((∀ x ∈ xs, goodP n x.l = true) ∧ ∃ r g0 gs, e = .returned (.tuple #[.pointer (some ⟨r, 0, none⟩), .int .i64 0]) ∧ NewS w n (xs.map IS.l) r g0 gs w') ∨
      ((∃ x ∈ xs, goodP n x.l = false) ∧ e = .returned (.tuple #[.pointer none, .int .i64 1]) ∧ Below w.heap.size w w') := by
  have H := Lib.hid h; clear h
  have HPO := Lib.hid (plainOrder_any n w (by omega))
  have HNI : Hid (∀ (A1 : Option Addr) (c1 : Nat) (W : World), RdI W A1 (upto n) → Calls Try.prog 60 #[.int .i64 (n : Int), .slice A1 n c1] W fun e w' => ∃ g P cp, e = .returned (.tuple #[.agg #[.pointer (some ⟨g, 0, none⟩), .slice P n cp], .int .i64 0]) ∧ IdxC (upto n) W w' g P cp) := Lib.hid fun A1 c1 W hr => by
    have := newIndex_any A1 c1 (upto n) W hr (by rw [upto_len]; exact hn) (upto_perm n)
    rw [upto_len] at this; exact this
  obtain ⟨i0, hi0, hz0, hz1, hz2⟩ := info_parts info_ix
  have HI0 := Lib.hid (And.intro hi0 (And.intro hz0 (And.intro hz1 hz2)))
  clear hi0 hz0 hz1 hz2
  have hn0 : ¬ (n : Int) < 0 := by omega
  have hn8 : ¬ 8 < (n : Int) := by omega
  go_enter Try.func25, Try.ntmps25
  go_wp2_with (first
    | (go_at_call 61; refine HPO.out.mono ?_; rintro e w1 ⟨A1, c1, rfl, r1, b1⟩; have HR1 := Lib.hid r1; have HB1 := Lib.hid b1; clear r1 b1)
    | (go_at_call 60; refine (HNI.out A1 c1 _ HR1.out).mono ?_; rintro e w2 ⟨g, P, cp, rfl, hc⟩; have HC := Lib.hid hc; clear hc))
  have hst := Lib.hid (NewI.start HB1.out HC.out (.cells #[.pointer (some ⟨g, 0, none⟩), .slice P n cp] 89))
  have hs2 : w2.heap.size + 1 = w2.heap.size + 1 := rfl
  clear HPO HNI hs2
  generalize w2.heap.size + 1 = r at hst ⊢
  go_loopw [34] (fun v wr => ∃ (k : Nat) (es : List Ix) (I : Option Addr) (ci : Nat), v = .int .i64 (k : Nat) ∧ k ≤ xs.length ∧ es.map Ix.p = (xs.take k).map IS.l ∧ NewI w r n g es wr I ci ∧ ∀ x ∈ xs.take k, goodP n x.l = true) (fun v _ => xs.length - (intOf v).toNat)
  case atStart => exact ⟨0, [], none, 0, rfl, Nat.zero_le _, by simp, hst.out, by simp⟩
  case round =>
    clear hst
    obtain ⟨k, es, I, ci, rfl, hk, hps, hI, hgood⟩ := hrel
    have HI := Lib.hid hI; have HPS := Lib.hid hps; have HGD := Lib.hid hgood
    have hel : es.length = k := by have := congrArg List.length hps; simpa [Nat.min_eq_left hk] using this
    have HEL := Lib.hid hel
    have hel1 : es.length ≤ 1000 := by omega
    clear hI hgood hps hel
    by_cases hlt : k < xs.length
    · obtain ⟨b, o, rfl, hb, hrow⟩ := H.out.row (by omega)
      have hx := List.getElem?_eq_getElem hlt
      generalize xs[k] = x at hx
      have cx := (keep HI.out.b _ _ hb).trans (hrow k x hx)
      have HX := Lib.hid hx
      have RX := Lib.hid ((H.out.each x (List.mem_of_getElem? hx)).1.on HI.out.b)
      have hxm := (H.out.each x (List.mem_of_getElem? hx)).2
      clear hrow hx
      by_cases hln : x.l.length = n
      · have hxl8 : x.l.length ≤ 8 := by omega
        cases hpb : permB x.l with
        | false =>
          have hNB := newIndex_bad x.A x.c x.l wr RX.out hxl8 hpb
          rw [show (x.l.length : Int) = (n : Int) by omega] at hNB
          have HNB := Lib.hid hNB
          have HBD : Hid (goodP n x.l = false) := Lib.hid (by unfold goodP; rw [hpb, Bool.and_false])
          clear hNB hpb hln
          go_wp2_with (go_at_call 60; refine HNB.out.mono ?_; rintro e w5 ⟨rfl, hb5⟩; have HB5 := Lib.hid hb5; clear hb5)
          go_ret2
          exact .inr ⟨⟨x, List.mem_of_getElem? HX.out, HBD.out⟩, rfl, (on HI.out.b HB5.out).alloc (on HI.out.b HB5.out).size _⟩
        | true =>
          have hNB := newIndex_any x.A x.c x.l wr RX.out hxl8 hpb
          rw [show (x.l.length : Int) = (n : Int) by omega] at hNB
          have HNB := Lib.hid hNB
          have HBD : Hid (goodP n x.l = true) := Lib.hid (goodP_iff.2 ⟨hln, hpb⟩)
          have HLN := Lib.hid hln
          obtain ⟨P0, c0, hrec, _⟩ := HI.out.rcd
          have hrl := (Array.getElem?_eq_some_iff.1 hrec).1
          have HC2 := Lib.hid (cell3 hrec).2.2
          clear hNB hpb hln hrec
          go_wp2_with (go_at_call 60; refine HNB.out.mono ?_; rintro e w5 ⟨g5, P5, cp5, rfl, hc5⟩; have HC5 := Lib.hid hc5; clear hc5)
          obtain ⟨yi0, yz0, yz1, yz2⟩ := HI0.out
          have d1 : ∀ o1 : Obj, (w5.alloc o1).cell? ⟨r, 2, none⟩ = some (.slice I es.length ci) := fun o1 => (keep (HC5.out.b.trans (((Below.refl _ _).alloc (Nat.le_refl _) o1).mono HC5.out.b.size)) r 2 hrl).trans HC2.out
          have d2 : ∀ o1 o2 : Obj, ((w5.alloc o1).alloc o2).cell? ⟨r, 2, none⟩ = some (.slice I es.length ci) := fun o1 o2 => (keep (HC5.out.b.trans ((((Below.refl _ _).alloc (Nat.le_refl _) o1).alloc (by simp) o2).mono HC5.out.b.size)) r 2 hrl).trans HC2.out
          go_region_law (refine step_append_lies _ rfl (.tmp 51) (.tmp 53) 92 rfl (r + 1) 89 i0 _ 2 32 Try.underlying92 yi0 yz0 yz1 yz2 rfl (by decide) (.slice I es.length ci) es.length (ixCells es) (by simp [Act.eval, Act.put]) ?_ ⟨w5.heap.size + 1, 0, none⟩ 1 1 (Ix.mk g5 P5 cp5 x.l).cells (by simp [Act.eval, Act.put]) rfl ?_ ?_ (by decide) ?_ ?_ ?_ (w5.heap.size + 2) (by simp) ?_; (exact own_on HI.out.own (HC5.out.b.trans ((((Below.refl _ _).alloc (Nat.le_refl _) _).alloc (by simp) _).mono HC5.out.b.size)).drew); (exact news_two w5 _ #[.pointer (some ⟨g5, 0, none⟩), .slice P5 x.l.length cp5] _); (intro u hu; simp only [Ix.cells, List.mem_cons, List.not_mem_nil, or_false] at hu; rcases hu with rfl | rfl <;> rfl); (unfold maxLen; omega); omega; (have := HC5.out.b.size; simp; omega); intro g3 c3 w8 ho3 hg3 hor3 hlt3; have hq := NewI.next HI.out HC5.out HLN.out ho3 (grown_undrew hg3) (by simpa using hor3) hlt3; have e3 := hq.1.1; have f3 := hq.1.2; have HQ := Lib.hid hq.2; clear hq ho3 hg3 hor3 hlt3)
          all_goals
            go_wp2
            go_roundw
            case rel =>
              refine ⟨k + 1, es ++ [Ix.mk g5 P5 cp5 x.l], some ⟨g3, 0, none⟩, c3, by go_num, by omega, ?_, HQ.out, ?_⟩
              · rw [take_snoc' HX.out, List.map_append, List.map_append, HPS.out]; rfl
              · rw [take_snoc' HX.out]
                intro y hy
                rw [List.mem_append, List.mem_singleton] at hy
                rcases hy with hy | rfl
                · exact HGD.out y hy
                · exact HBD.out
            case measure => simp [intOf]; omega
      · have hNB := newIndex_far (n : Int) x.A x.c x.l.length wr (by omega) hxm
        have HNB := Lib.hid hNB
        have HBD : Hid (goodP n x.l = false) := Lib.hid (by unfold goodP; rw [decide_eq_false hln, Bool.false_and])
        clear hNB hln
        go_wp2_with (go_at_call 60; refine HNB.out.mono ?_; rintro e w5 ⟨rfl, hb5⟩; have HB5 := Lib.hid hb5; clear hb5)
        go_ret2
        exact .inr ⟨⟨x, List.mem_of_getElem? HX.out, HBD.out⟩, rfl, (on HI.out.b HB5.out).alloc (on HI.out.b HB5.out).size _⟩
    · obtain rfl : k = xs.length := by omega
      go_wp2
      go_ret2
      have h1 := HPS.out; have h2 := HGD.out
      rw [List.take_of_length_le (Nat.le_refl _)] at h1 h2
      refine .inl ⟨h2, r, g, es.map Ix.g, rfl, ?_, HI.out.b, HI.out.rn, fun k hk => ?_⟩
      · rw [← h1]; exact HI.out.done hn hel1
      · rcases hk with rfl | hk
        · exact HI.out.gw
        · obtain ⟨e, he, rfl⟩ := List.mem_map.1 hk; exact HI.out.ge e he
end Go.Proofs.Ytojanokicfeghaa
/-
  Package rel: how a sort's own function compares: Compare of tuples lays blocks and draws, and does nothing else; the order of a relation's tuples.
-/
namespace Go.Proofs.Ytojanokicfeghaa
open Go.RowKit FloM ValM Go.Shelf
set_option linter.unusedVariables false
set_option linter.unusedSimpArgs false
/-- Blocks were laid, and orders drawn, and nothing else was done. -/
structure Grown (w w' : World) : Prop where
  b : Below w.heap.size w w'
  d : w.drawn ≤ w'.drawn
theorem Grown.refl (w : World) : Grown w w := ⟨Below.refl _ _, Nat.le_refl _⟩
theorem Grown.trans {a b c : World} (h : Grown a b) (k : Grown b c) : Grown a c := ⟨on h.b k.b, Nat.le_trans h.d k.d⟩
theorem Grown.drew {w w' : World} (h : Grown w w') : Grown w w'.drew := ⟨h.b.drew, Nat.le_trans h.d (Nat.le_succ _)⟩
theorem Grown.same {w w' : World} (h : Grown w w') : ∃ q os, w' = Sort.grow (w.drewN q) os := by
  refine ⟨w'.drawn - w.drawn, w'.heap.extract w.heap.size w'.heap.size, ?_⟩
  have hs := h.b.size
  have hh : w'.heap = w.heap ++ w'.heap.extract w.heap.size w'.heap.size := by
    apply Array.ext_getElem?
    intro i
    by_cases hi : i < w.heap.size
    · rw [Array.getElem?_append_left hi]; exact h.b.block i hi
    · rw [Array.getElem?_append_right (by omega), Array.getElem?_extract]
      by_cases h2 : i < w'.heap.size
      · rw [if_pos (by omega)]; congr 1; omega
      · rw [if_neg (by omega)]; exact Array.getElem?_eq_none (by omega)
  obtain ⟨wh, wt, wd, wo, wp⟩ := w
  obtain ⟨wh', wt', wd', wo', wp'⟩ := w'
  have e1 := h.b.os; have e2 := h.b.tape; have e3 := h.b.output; have e4 := h.d
  simp only at e1 e2 e3 e4 hh
  subst e1 e2 e3
  unfold Sort.grow World.drewN
  simp only
  rw [← hh, show wd + (wd' - wd) = wd' by omega]
def SaysG (r : Int) (w : World) (e : Ending) (w' : World) : Prop := e = .returned (.int .i64 r) ∧ Grown w w'
set_option maxHeartbeats 1000000 in
theorem compareV_grown (k n l m : Int) (s t : ByteArray) (w : World) : Calls Try.prog 82 #[.agg #[.int .i64 k, .int .i64 n, .string s], .agg #[.int .i64 l, .int .i64 m, .string t]] w (SaysG (cmpV ⟨k, n, s⟩ ⟨l, m, t⟩) w) := by
  go_enter Try.func82, Try.ntmps82
  go_wp2_with (first | (go_at_call 94; refine (cmp_int _ _ _).mono ?_; rintro e w' ⟨rfl, rfl⟩) | (go_at_call 95; refine (cmp_i64 _ _ _).mono ?_; rintro e w' ⟨rfl, rfl⟩) | (go_at_call 96; refine (strcmp_any _ _ _).mono ?_; rintro e w' ⟨rfl, rfl⟩))
  all_goals
    go_ret
    refine ⟨ret_int ?_, ((Below.refl _ _).alloc (Nat.le_refl _) _).alloc (by simp) _, Nat.le_refl _⟩
    simp only [bne_iff_ne, bne_eq_false_iff_eq] at *
    simp [cmpV, *]
def CmpRelG (w : World) (a b : List V) (p : List Int) (i k : Value) (wr : World) : Prop := ∃ x y : Nat, i = .int .i64 (x : Nat) ∧ k = .int .i64 (y : Nat) ∧ x ≤ p.length ∧ y ≤ p.length ∧ Grown w wr ∧
  ordV (pickL a p) (pickL b p) = ordV (pickL a (p.drop x)) (pickL b (p.drop y)) ∧ (x < p.length → ∃ c, p[x]? = some c ∧ inR a.length c = true) ∧ (y < p.length → ∃ c, p[y]? = some c ∧ inR b.length c = true)
set_option maxHeartbeats 4000000 in
theorem compareT_grown (A B P : Option Addr) (ca cb cp : Nat) (a b : List V) (p : List Int) (w : World) (ha : RdV w A a) (hb : RdV w B b) (hp : RdI w P p) (la : a.length ≤ maxLen) (lb : b.length ≤ maxLen) (lp : p.length ≤ maxLen) :
    Calls Try.prog 58 #[.slice A a.length ca, .slice B b.length cb, .slice P p.length cp] w (SaysG (ordV (pickL a p) (pickL b p)) w) := by
  have lp' := lp
  unfold maxLen at la lb lp'
  have HA := Lib.hid ha; clear ha
  have HB := Lib.hid hb; clear hb
  have HP := Lib.hid hp; clear hp
  go_enter Try.func58, Try.ntmps58
  go_wp2_with (go_at_call 81; refine (next_any _ _ _ _ 0 _ HP.out lp (Nat.zero_le _)).mono ?_; rintro e w' ⟨rfl, rfl⟩)
  go_loopw [7, 8] (fun i k wr => CmpRelG w a b p i k wr) (fun i k _ => p.length - (intOf i).toNat)
  case atStart =>
    have n1 := nextL_le (size := a.length) (p := p) (i := 0) (Nat.zero_le _)
    have n2 := nextL_le (size := b.length) (p := p) (i := 0) (Nat.zero_le _)
    exact ⟨_, _, rfl, rfl, n1.2, n2.2, Grown.refl _, by rw [pick_next a p _ 0 rfl (Nat.zero_le _), pick_next b p _ 0 rfl (Nat.zero_le _)]; rfl, next_in _ p _ 0 rfl, next_in _ p _ 0 rfl⟩
  case round =>
    obtain ⟨x, y, rfl, rfl, hx, hy, hB, he, hxi, hyi⟩ := hrel
    have HE := Lib.hid he; clear he
    have HXI := Lib.hid hxi; clear hxi
    have HYI := Lib.hid hyi; clear hyi
    by_cases h1 : x < p.length
    · by_cases h2 : y < p.length
      · obtain ⟨cx, ecx, hcx⟩ := HXI.out h1
        obtain ⟨cy, ecy, hcy⟩ := HYI.out h2
        obtain ⟨⟨ka, na, sa⟩, eva, ela⟩ := col_some hcx
        obtain ⟨⟨kb, nb, sb⟩, evb, elb⟩ := col_some hcy
        obtain ⟨mx, rfl⟩ := Int.eq_ofNat_of_zero_le (inR_iff.1 hcx).1
        obtain ⟨my, rfl⟩ := Int.eq_ofNat_of_zero_le (inR_iff.1 hcy).1
        have hmx : mx < a.length := by have := (inR_iff.1 hcx).2; omega
        have hmy : my < b.length := by have := (inR_iff.1 hcy).2; omega
        rw [Int.toNat_natCast] at eva evb
        obtain ⟨ab, ao, rfl, hal, a0, a1, a2⟩ := (HA.out.on hB.b) mx _ eva
        obtain ⟨bb, bo, rfl, hbl, b0, b1, b2⟩ := (HB.out.on hB.b) my _ evb
        obtain ⟨pb, po, rfl, hpl, hpx⟩ := (HP.out.on hB.b) x _ ecx
        obtain ⟨pb', po', e, _, hpy⟩ := (HP.out.on hB.b) y _ ecy
        injection e with e; injection e with e1 e2; subst e1 e2
        have HS := Lib.hid (show ordV (pickL a (p.drop x)) (pickL b (p.drop y)) = ordV (⟨ka, na, sa⟩ :: pickL a (p.drop (x + 1))) (⟨kb, nb, sb⟩ :: pickL b (p.drop (y + 1))) by rw [drop_at ecx, drop_at ecy, pickL_take ela, pickL_take elb])
        clear eva evb ela elb ecx ecy hcx hcy HXI HYI
        simp only at a0 a1 a2 b0 b1 b2
        by_cases hz : cmpV ⟨ka, na, sa⟩ ⟨kb, nb, sb⟩ = 0
        · have HZ := Lib.hid hz; clear hz
          go_wp2_with fail
          go_region_held3 (fun u => Grown wr u ∧ u.cell? ⟨pb, po + x, none⟩ = some (.int .i64 (mx : Int)) ∧ u.cell? ⟨pb, po + y, none⟩ = some (.int .i64 (my : Int)) ∧ u.cell? ⟨ab, ao + mx * 3, none⟩ = some (.int .i64 ka) ∧ u.cell? ⟨ab, ao + mx * 3 + 1, none⟩ = some (.int .i64 na) ∧ u.cell? ⟨ab, ao + mx * 3 + 2, none⟩ = some (.string sa) ∧ u.cell? ⟨bb, bo + my * 3, none⟩ = some (.int .i64 kb) ∧ u.cell? ⟨bb, bo + my * 3 + 1, none⟩ = some (.int .i64 nb) ∧ u.cell? ⟨bb, bo + my * 3 + 2, none⟩ = some (.string sb))
            (first | exact ⟨Grown.refl _, hpx, hpy, a0, a1, a2, b0, b1, b2⟩ | exact ⟨(Grown.refl _).drew, hpx, hpy, a0, a1, a2, b0, b1, b2⟩ | exact ⟨h4, (k4 _ _ hpl).trans hpx, (k4 _ _ hpl).trans hpy, (k4 _ _ hal).trans a0, (k4 _ _ hal).trans a1, (k4 _ _ hal).trans a2, (k4 _ _ hbl).trans b0, (k4 _ _ hbl).trans b1, (k4 _ _ hbl).trans b2⟩)
            ((go_at_call 82; refine (compareV_grown _ _ _ _ _ _ _).mono ?_; rintro e w4 ⟨rfl, h4⟩; rw [HZ.out]; replace h4 : Grown wr w4 := (Grown.refl wr).drew.trans h4; have k4 := keep h4.b))
          all_goals
            go_wp2_with (go_at_call 81; refine (next_succ _ _ _ _ _ _ (HP.out.on (on hB.1 h4.b)) lp (by assumption)).mono ?_; rintro e w' ⟨rfl, rfl⟩)
            go_roundw
            case rel =>
              have n1 := nextL_le (size := a.length) (p := p) (i := x + 1) h1
              have n2 := nextL_le (size := b.length) (p := p) (i := y + 1) h2
              exact ⟨_, _, rfl, rfl, n1.2, n2.2, hB.trans h4, by rw [HE.out, HS.out, ordV_same HZ.out, pick_next a p _ (x + 1) rfl h1, pick_next b p _ (y + 1) rfl h2], next_in _ p _ (x + 1) rfl, next_in _ p _ (y + 1) rfl⟩
            case measure =>
              have n1 := nextL_le (size := a.length) (p := p) (i := x + 1) h1
              simp [intOf]; omega
        · obtain ⟨r, hr⟩ : ∃ r, cmpV ⟨ka, na, sa⟩ ⟨kb, nb, sb⟩ = r := ⟨_, rfl⟩
          have HZ := Lib.hid hz; clear hz
          have hr0 : (r != 0) = true := by rw [← hr]; simpa using HZ.out
          have HR := Lib.hid hr; clear hr
          go_wp2_with fail
          go_region_held3 (fun u => Grown wr u ∧ u.cell? ⟨pb, po + x, none⟩ = some (.int .i64 (mx : Int)) ∧ u.cell? ⟨pb, po + y, none⟩ = some (.int .i64 (my : Int)) ∧ u.cell? ⟨ab, ao + mx * 3, none⟩ = some (.int .i64 ka) ∧ u.cell? ⟨ab, ao + mx * 3 + 1, none⟩ = some (.int .i64 na) ∧ u.cell? ⟨ab, ao + mx * 3 + 2, none⟩ = some (.string sa) ∧ u.cell? ⟨bb, bo + my * 3, none⟩ = some (.int .i64 kb) ∧ u.cell? ⟨bb, bo + my * 3 + 1, none⟩ = some (.int .i64 nb) ∧ u.cell? ⟨bb, bo + my * 3 + 2, none⟩ = some (.string sb))
            (first | exact ⟨Grown.refl _, hpx, hpy, a0, a1, a2, b0, b1, b2⟩ | exact ⟨(Grown.refl _).drew, hpx, hpy, a0, a1, a2, b0, b1, b2⟩ | exact ⟨h4, (k4 _ _ hpl).trans hpx, (k4 _ _ hpl).trans hpy, (k4 _ _ hal).trans a0, (k4 _ _ hal).trans a1, (k4 _ _ hal).trans a2, (k4 _ _ hbl).trans b0, (k4 _ _ hbl).trans b1, (k4 _ _ hbl).trans b2⟩)
            ((go_at_call 82; refine (compareV_grown _ _ _ _ _ _ _).mono ?_; rintro e w4 ⟨rfl, h4⟩; rw [HR.out]; replace h4 : Grown wr w4 := (Grown.refl wr).drew.trans h4; have k4 := keep h4.b))
          all_goals
            go_wp2
            go_ret
            exact ⟨ret_int (by rw [HE.out, HS.out, ordV_other HZ.out, HR.out]), hB.trans h4⟩
      · have hy' : y = p.length := by omega
        obtain ⟨cx, ecx, hcx⟩ := HXI.out h1
        obtain ⟨va, eva, ela⟩ := col_some hcx
        have HS := Lib.hid (show ordV (pickL a (p.drop x)) (pickL b (p.drop y)) = 1 by rw [show p.drop y = [] from List.drop_of_length_le (by omega), drop_at ecx, pickL_take ela, pickL_nil, ordV])
        clear eva ela ecx hcx HXI HYI hy'
        go_wp2
        go_ret
        exact ⟨ret_int (by rw [HE.out, HS.out]), hB⟩
    · by_cases h2 : y < p.length
      · obtain ⟨cy, ecy, hcy⟩ := HYI.out h2
        obtain ⟨vb, evb, elb⟩ := col_some hcy
        have HS := Lib.hid (show ordV (pickL a (p.drop x)) (pickL b (p.drop y)) = -1 by rw [show p.drop x = [] from List.drop_of_length_le (by omega), drop_at ecy, pickL_take elb, pickL_nil, ordV])
        clear evb elb ecy hcy HXI HYI
        go_wp2
        go_ret
        exact ⟨ret_int (by rw [HE.out, HS.out]), hB⟩
      · have HS := Lib.hid (show ordV (pickL a (p.drop x)) (pickL b (p.drop y)) = 0 by rw [List.drop_of_length_le (by omega), List.drop_of_length_le (by omega), pickL_nil, pickL_nil, ordV])
        clear HXI HYI
        go_wp2
        go_ret
        exact ⟨ret_int (by rw [HE.out, HS.out]), hB⟩
end Go.Proofs.Ytojanokicfeghaa
/-
  Package rel: what slices.SortFunc does to a row of tuples in Find.
-/
namespace Go.Proofs.Ytojanokicfeghaa
open Go.RowKit FloM ValM Go.Shelf
set_option linter.unusedVariables false
set_option linter.unusedSimpArgs false
set_option maxHeartbeats 1000000 in
theorem find1_grown (A B P : Option Addr) (ca cb cp r rb n : Nat) (a b : List V) (w : World) (hbx : w.cell? ⟨rb, 0, none⟩ = some (.pointer (some ⟨r, 0, none⟩))) (hr1 : w.cell? ⟨r, 1, none⟩ = some (.slice P n cp)) (hp : RdI w P (upto n)) (hn : n ≤ 8) (ha : RdV w A a) (hb : RdV w B b) (la : a.length ≤ 1000) (lb : b.length ≤ 1000) :
    Calls Try.prog 65 #[.slice A a.length ca, .slice B b.length cb, .pointer (some ⟨rb, 0, none⟩)] w (SaysG (cmpC (upto n) a b) w) := by
  have hc := compareT_grown A B P ca cb cp a b (upto n) w ha hb hp (by unfold maxLen; omega) (by unfold maxLen; omega) (by rw [upto_len]; unfold maxLen; omega)
  rw [upto_len] at hc
  have HC := Lib.hid hc
  clear hc hp ha hb
  go_enter Try.func65, Try.ntmps65
  go_wp2_with (go_at_call 58; refine HC.out.mono ?_; rintro e w' ⟨rfl, h'⟩)
  go_ret
  exact ⟨rfl, h'⟩
/-- A tuple of n values that lies outside of the block blk. -/
def Tu (w : World) (n blk : Nat) : Type := { x : Sl // RdV w x.A x.l ∧ x.l.length = n ∧ ∀ a, x.A = some a → a.block ≠ blk }
section
variable {w : World} {n blk : Nat}
def Tu.enc (x : Tu w n blk) : Value := x.1.val
def Tu.cf (x y : Tu w n blk) : Int := cmpC (upto n) x.1.l y.1.l
theorem Tu.lt (x y : Tu w n blk) : ltOf Tu.cf x y = decide (cmpC (upto n) x.1.l y.1.l = -1) := by
  unfold ltOf Tu.cf
  have := cmpC_rng (upto n) x.1.l y.1.l
  rcases this with h | h | h <;> simp [h]
theorem Tu.swo : Sort.SWO (ltOf (Tu.cf (w := w) (n := n) (blk := blk))) where
  irrefl x := by rw [Tu.lt]; exact decide_eq_false (by rw [cmpC_self]; decide)
  trans x y z h1 h2 := by
    rw [Tu.lt] at *
    exact decide_eq_true (cmpC_lt (of_decide_eq_true h1) (of_decide_eq_true h2))
  ntrans x y z h1 h2 := by
    rw [Tu.lt] at *
    have h1 := of_decide_eq_false h1
    have h2 := of_decide_eq_false h2
    refine decide_eq_false fun h => ?_
    have q1 := cmpC_rng (upto n) x.1.l y.1.l
    have q2 := cmpC_rng (upto n) y.1.l z.1.l
    have a1 := cmpC_anti (upto n) x.1.l y.1.l
    have a2 := cmpC_anti (upto n) y.1.l z.1.l
    have t := ord_trans (pickL z.1.l (upto n)) (pickL y.1.l (upto n)) (pickL x.1.l (upto n)) (by unfold cmpC at *; omega) (by unfold cmpC at *; omega)
    have a3 := cmpC_anti (upto n) x.1.l z.1.l
    unfold cmpC at *
    omega
end
/-- Behind the sort's steps all but the row lies as it lay. -/
theorem sortWorld_fr {α : Type} [Inhabited α] (enc : α → Value) (w : World) (blk off m : Nat) (dk : Array α) (os : Array Obj) : Fr (· = blk) w.heap.size w (sortWorld enc w blk off m dk os) := by
  refine ⟨rfl, rfl, rfl, ?_, fun k hk hne => ?_⟩
  · simp [sortWorld, Sort.putRow, Sort.mapBlock, Sort.ahead]
  · unfold sortWorld
    rw [Sort.heap_grow_old _ _ (by simpa [Sort.putRow, Sort.mapBlock, Sort.ahead] using hk)]
    simp only [Sort.putRow, Sort.mapBlock, Sort.ahead]
    rw [Array.getElem?_modify, if_neg (fun e => hne e.symm)]
theorem pmap_back {p : Sl → Prop} : ∀ (xs : List Sl) (h : ∀ x ∈ xs, p x), (xs.pmap (fun x hx => (⟨x, hx⟩ : { x : Sl // p x })) h).map (fun y => y.1) = xs
  | [], _ => rfl
  | x :: xs, h => by simp only [List.pmap_cons, List.map_cons]; rw [pmap_back xs]
set_option maxHeartbeats 1000000 in
theorem sortF_any (A : Option Addr) (c r rb n cp : Nat) (P0 : Option Addr) (xs : List Sl) (w : World) (hrow : RdC w A (xs.map Sl.val)) (hfz : ∀ j, j < xs.length → ∀ b o, A = some ⟨b, o, none⟩ → w.frozen? ⟨b, o + j, none⟩ = false)
    (hx : ∀ x ∈ xs, RdV w x.A x.l ∧ x.l.length = n ∧ ∀ a b, x.A = some a → A = some b → a.block ≠ b.block)
    (hbx : w.cell? ⟨rb, 0, none⟩ = some (.pointer (some ⟨r, 0, none⟩))) (hrb : rb < w.heap.size) (hr1 : w.cell? ⟨r, 1, none⟩ = some (.slice P0 n cp)) (hr : r < w.heap.size) (hp : RdI w P0 (upto n))
    (hoff : ∀ b, A = some b → rb ≠ b.block ∧ r ≠ b.block ∧ ∀ a, P0 = some a → a.block ≠ b.block) (hn : n ≤ 8) (hd : (xs.map Sl.l).Nodup) (hlen : xs.length ≤ 1000000) :
    Calls Try.prog 64 #[.slice A xs.length c, .func (.func 65) #[] #[.pointer (some ⟨rb, 0, none⟩)]] w fun e w' =>
      e = .returned (.tuple #[]) ∧ ∃ ys : List Sl, ys.Perm xs ∧ SortS (upto n) (ys.map Sl.l) ∧ RdC w' A (ys.map Sl.val) ∧ Fr (fun k => ∃ b, A = some b ∧ k = b.block) w.heap.size w w' := by
  rcases xs with _ | ⟨x0, xs⟩
  · have h := AnyF.slices_SortFunc_none { Try.sortT with } A c (.func (.func 65) #[] #[.pointer (some ⟨rb, 0, none⟩)]) w
    refine Calls.mono (h : Calls Try.prog 64 _ _ _) ?_
    rintro e w' ⟨rfl, rfl⟩
    exact ⟨rfl, [], List.Perm.refl _, List.Pairwise.nil, hrow, Fr.refl _ _ _⟩
  · obtain ⟨blk, off, rfl, hbl, _⟩ := hrow 0 _ rfl
    have hx' : ∀ x ∈ x0 :: xs, RdV w x.A x.l ∧ x.l.length = n ∧ ∀ a, x.A = some a → a.block ≠ blk := fun x hm => ⟨(hx x hm).1, (hx x hm).2.1, fun a ha => (hx x hm).2.2 a _ ha rfl⟩
    obtain ⟨q1, q2, q3⟩ := hoff _ rfl
    let d : Array (Tu w n blk) := ((x0 :: xs).pmap (fun x hm => (⟨x, hm⟩ : Tu w n blk)) hx').toArray
    haveI : Inhabited (Tu w n blk) := ⟨⟨x0, hx' x0 (List.mem_cons_self ..)⟩⟩
    have hback : d.toList.map (fun y => y.1) = x0 :: xs := pmap_back _ hx'
    have hsz : d.size = (x0 :: xs).length := by have := congrArg List.length hback; simpa using this
    have hget : ∀ (d' : Array (Tu w n blk)) (j : Nat), j < d'.size → (d'.toList.map (fun y => y.1))[j]? = some (d'[j]!).1 := fun d' j hj => by
      rw [List.getElem?_map, Array.getElem?_toList, Array.getElem?_eq_getElem hj, getElem!_pos d' j hj]; rfl
    have hH : Sort.Holds Tu.enc w blk off d := fun j hj => by
      have h1 := hget d j hj
      rw [hback] at h1
      obtain ⟨b', o', e, _, hc⟩ := hrow j (d[j]!).1.val (by rw [List.getElem?_map, h1]; rfl)
      injection e with e; injection e with e1 e2 _; subst e1 e2
      exact ⟨hc, hfz j (by rw [← hsz]; exact hj) _ _ rfl⟩
    have hcmp : CmpLays1 Try.prog 65 #[.pointer (some ⟨rb, 0, none⟩)] Tu.enc Tu.cf blk off d.size w := fun m os dk hs x y => by
      have hF := sortWorld_fr (α := Tu w n blk) Tu.enc w blk off m dk os
      have hrd : ∀ z : Tu w n blk, RdV (sortWorld (α := Tu w n blk) Tu.enc w blk off m dk os) z.1.A z.1.l := fun z => z.2.1.onF (X := (· = blk)) (fun a ha e => z.2.2.2 a ha e) hF
      have hc := find1_grown x.1.A y.1.A P0 x.1.c y.1.c cp r rb n x.1.l y.1.l (sortWorld (α := Tu w n blk) Tu.enc w blk off m dk os) ((hF.cell hrb q1).trans hbx) ((hF.cell hr q2).trans hr1) (hp.onF (X := (· = blk)) (fun a ha e => q3 a ha e) hF) hn (hrd x) (hrd y) (by rw [x.2.2.1]; omega) (by rw [y.2.2.1]; omega)
      refine Calls.mono hc ?_
      rintro e w' ⟨rfl, hg⟩
      exact ⟨rfl, hg.same⟩
    have hcon := Any.slices_SortFunc Try.sortT Tu.enc (fun _ => rfl) Tu.cf Tu.swo 65 #[.pointer (some ⟨rb, 0, none⟩)] blk off c d w (enters_of Try.func65 (by kernel_rfl) rfl) hcmp hH hbl (by rw [hsz]; omega)
    rw [hsz] at hcon
    refine Calls.mono (hcon : Calls Try.prog 64 _ _ _) ?_
    rintro e w' ⟨rfl, d', m, os, hpm, hsd, rfl⟩
    obtain ⟨hp1, _, hp3⟩ := hpm
    have hF := sortWorld_fr (α := Tu w n blk) Tu.enc w blk off m d' os
    have hpl : d'.toList.Perm d.toList := by
      rw [← hsz] at hp3
      have e1 : d'.extract 0 d.size = d' := by rw [← hp1]; exact Array.extract_size ..
      have e2 : d.extract 0 d.size = d := Array.extract_size ..
      rwa [e1, e2] at hp3
    have hperm : (d'.toList.map (fun y => y.1)).Perm (x0 :: xs) := by
      have := hpl.map (fun y => y.1)
      rwa [hback] at this
    refine ⟨rfl, d'.toList.map (fun y => y.1), hperm, ?_, fun j u hu => ?_, hF.sub fun k _ hk => ⟨_, rfl, hk⟩⟩
    · have hnd : ((d'.toList.map (fun y => y.1)).map Sl.l).Nodup := ((hperm.map Sl.l).nodup_iff).2 hd
      unfold SortS
      rw [List.pairwise_iff_getElem]
      intro i j hi hj hij
      simp only [List.length_map, Array.length_toList] at hi hj
      have h1 := hsd i j (Nat.zero_le _) hij (by rw [← hsz, ← hp1]; exact hj)
      rw [Tu.lt] at h1
      have h1 := of_decide_eq_false h1
      have gi : (d'.toList.map (fun y => y.1))[i]? = some (d'[i]!).1 := hget d' i hi
      have gj : (d'.toList.map (fun y => y.1))[j]? = some (d'[j]!).1 := hget d' j hj
      have ei : ((d'.toList.map (fun y => y.1)).map Sl.l)[i]'(by simpa using hi) = (d'[i]!).1.l := by
        rw [List.getElem_map]; congr 1; exact (List.getElem?_eq_some_iff.1 gi).2
      have ej : ((d'.toList.map (fun y => y.1)).map Sl.l)[j]'(by simpa using hj) = (d'[j]!).1.l := by
        rw [List.getElem_map]; congr 1; exact (List.getElem?_eq_some_iff.1 gj).2
      have hne := List.pairwise_iff_getElem.1 hnd i j (by simpa using hi) (by simpa using hj) hij
      rw [ei, ej] at hne
      rw [ei, ej]
      have z := (not_congr (cmpC_zero (upto_perm n) (by rw [(d'[i]!).2.2.1, upto_len]) (by rw [(d'[j]!).2.2.1, upto_len]))).2 hne
      have a := cmpC_anti (upto n) (d'[i]!).1.l (d'[j]!).1.l
      rcases cmpC_rng (upto n) (d'[i]!).1.l (d'[j]!).1.l with h | h | h
      · exact h
      · exact absurd h z
      · omega
    · rw [List.getElem?_map, Option.map_eq_some_iff] at hu
      obtain ⟨y, hy, rfl⟩ := hu
      have hj : j < d'.size := by have := (List.getElem?_eq_some_iff.1 hy).1; simpa using this
      rw [hget d' j hj] at hy
      cases hy
      exact ⟨blk, off, rfl, Nat.lt_of_lt_of_le hbl hF.size, (holds_sortWorld Tu.enc w blk off m d d' os hbl hH hp1 j hj).1⟩
end Go.Proofs.Ytojanokicfeghaa
/-
  Package rel: contract of matching.
-/
namespace Go.Proofs.Ytojanokicfeghaa
open Go.RowKit FloM ValM Go.Shelf
set_option linter.unusedVariables false
set_option linter.unusedSimpArgs false
theorem keepZ {W w1 : World} (hb : Below W.heap.size W w1) : ∀ b o, b < W.heap.size → w1.frozen? ⟨b, o, none⟩ = W.frozen? ⟨b, o, none⟩ := fun b o h => by simp [World.frozen?, hb.block b h]
theorem ltOn {W w1 : World} (hb : Below W.heap.size W w1) : ∀ b, b < W.heap.size → b < w1.heap.size := fun b h => Nat.lt_of_lt_of_le h hb.size
theorem rdV_far' {X : Nat → Prop} {w w' : World} {A : Option Addr} {l : List V} (h : RdV w A l) (hx : ∀ b o, A = some ⟨b, o, none⟩ → ¬ X b) (hF : Fr X w.heap.size w w') : RdV w' A l := fun i v hv => by
  obtain ⟨b, o, e, hl, c0, c1, c2⟩ := h i v hv
  have k : ∀ j, w'.cell? ⟨b, j, none⟩ = w.cell? ⟨b, j, none⟩ := fun j => hF.cell hl (hx b o e)
  exact ⟨b, o, e, Nat.lt_of_lt_of_le hl hF.size, (k _).trans c0, (k _).trans c1, (k _).trans c2⟩
/-- What matching's iterator has captured. -/
structure MatchC (w w' : World) (B1 B2 B3 B4 g : Nat) (P : Option Addr) (cp : Nat) (p : List Int) (Wn : Option Addr) (cw : Nat) (want : List V) (C : Option Addr) (cc : Nat) (cols : List Int) : Prop where
  h1 : w'.heap[B1]? = some (.cells #[.pointer (some ⟨g, 0, none⟩), .slice P p.length cp] 89 (0, 0))
  h2 : ∃ HA hc, w'.cell? ⟨B2, 0, none⟩ = some (.slice HA (pickL want (p.take (leadL cols p))).length hc) ∧ RdV w' HA (pickL want (p.take (leadL cols p))) ∧ ∀ b o, HA = some ⟨b, o, none⟩ → w.heap.size ≤ b
  h3 : w'.heap[B3]? = some (.cells #[.slice Wn want.length cw] 23 (0, 0))
  h4 : w'.heap[B4]? = some (.cells #[.slice C cols.length cc] 28 (0, 0))
  g1 : w.heap.size ≤ B1
  g2 : w.heap.size ≤ B2
  l2 : B2 < w'.heap.size
  g3 : w.heap.size ≤ B3
  g4 : w.heap.size ≤ B4
  b : Below w.heap.size w w'
theorem rdI_take {w : World} {P : Option Addr} {p : List Int} (h : RdI w P p) (k : Nat) : RdI w P (p.take k) := fun i x hx => h i x (by rw [List.getElem?_take] at hx; split at hx <;> first | exact hx | cases hx)
theorem heap_al3 (w : World) (A B C : Obj) : (((w.alloc A).alloc B).alloc C).heap[w.heap.size]? = some A ∧ (((w.alloc A).alloc B).alloc C).heap[w.heap.size + 1]? = some B ∧ (((w.alloc A).alloc B).alloc C).heap[w.heap.size + 1 + 1]? = some C :=
  ⟨by rw [heap_alloc_old _ _ (by simp; omega), heap_alloc_old _ _ (by simp), heap_alloc_new], by rw [heap_alloc_old _ _ (by simp)]; exact heap_alloc2_new w A B, by have := heap_alloc_new ((w.alloc A).alloc B) C; simpa using this⟩
set_option maxRecDepth 20000 in
set_option maxHeartbeats 4000000 in
theorem matching_any (g : Nat) (P Wn C : Option Addr) (cp cw cc : Nat) (p cols : List Int) (want : List V) (w : World) (hp : RdI w P p) (hcap : p.length ≤ cp) (hpin : ∀ a, P = some a → a.block < w.heap.size) (hw : RdV w Wn want) (hc : RdI w C cols) (lp : p.length ≤ 1000) (lw : want.length ≤ 1000) (lc : cols.length ≤ 1000) :
    Calls Try.prog 63 #[.agg #[.pointer (some ⟨g, 0, none⟩), .slice P p.length cp], .slice Wn want.length cw, .slice C cols.length cc] w fun e w' =>
      ∃ B1 B2 B3 B4, e = .returned (.func (.func 84) #[] #[.pointer (some ⟨B1, 0, none⟩), .pointer (some ⟨B2, 0, none⟩), .pointer (some ⟨B3, 0, none⟩), .pointer (some ⟨B4, 0, none⟩)]) ∧ MatchC w w' B1 B2 B3 B4 g P cp p Wn cw want C cc cols := by
  have hmf : ∀ (fn : Fn) (first cap : Array Value) (w : World), (Instr.makeFunc fn first cap).run Try.prog w = .ok (.func fn first cap) w := fun _ _ _ _ => rfl
  go_enter Try.func63, Try.ntmps63
  go_wp2_with fail
  obtain ⟨e1, e2, e3⟩ := heap_al3 w (.cells #[.pointer (some ⟨g, 0, none⟩), .slice P p.length cp] 89) (.cells #[.slice Wn want.length cw] 23) (.cells #[.slice C cols.length cc] 28)
  have hb0 : Below w.heap.size w (((w.alloc (.cells #[.pointer (some ⟨g, 0, none⟩), .slice P p.length cp] 89)).alloc (.cells #[.slice Wn want.length cw] 23)).alloc (.cells #[.slice C cols.length cc] 28)) := (((Below.refl _ _).alloc (Nat.le_refl _) _).alloc (by simp) _).alloc (by simp; omega) _
  have hs0 : (((w.alloc (.cells #[.pointer (some ⟨g, 0, none⟩), .slice P p.length cp] 89)).alloc (.cells #[.slice Wn want.length cw] 23)).alloc (.cells #[.slice C cols.length cc] 28)).heap.size = w.heap.size + 3 := by simp
  generalize hW : (((w.alloc (.cells #[.pointer (some ⟨g, 0, none⟩), .slice P p.length cp] 89)).alloc (.cells #[.slice Wn want.length cw] 23)).alloc (.cells #[.slice C cols.length cc] 28)) = W at *
  clear hW
  obtain ⟨c0, c1⟩ := cell2 e1
  have c2 := cell_box' e2
  have c3 := cell_box' e3
  have hl1 : w.heap.size < W.heap.size := by omega
  have hl2 : w.heap.size + 1 < W.heap.size := by omega
  have hl3 : w.heap.size + 1 + 1 < W.heap.size := by omega
  have HP := Lib.hid (hp.on hb0); have HC := Lib.hid (hc.on hb0); have HWN := Lib.hid (hw.on hb0)
  obtain ⟨k, hk⟩ : ∃ k, leadL cols p = k := ⟨_, rfl⟩
  have hkp : k ≤ p.length := by rw [← hk]; exact lead_le cols p
  have HK := Lib.hid hk
  have hki : (k : Int) ≤ (cp : Int) := by omega
  have hki0 : (0 : Int) ≤ (k : Int) := by omega
  have HPK : Hid (∀ W2, Below W.heap.size W W2 → Calls Try.prog 83 #[.slice Wn want.length cw, .slice P k cp] W2 (SaysV (pickL want (p.take k)) W2)) := Lib.hid fun W2 h2 => by
    have := pick_any Wn P cw cp want (p.take k) W2 (HWN.out.on h2) ((rdI_take HP.out k).on h2) (by unfold maxLen; omega) (by rw [List.length_take]; omega)
    rw [List.length_take, Nat.min_eq_left hkp] at this
    exact this
  have HB0 := Lib.hid hb0
  have HLD : Hid (∀ W2, Below W.heap.size W W2 → Calls Try.prog 69 #[.agg #[.pointer (some ⟨g, 0, none⟩), .slice P p.length cp], .slice C cols.length cc] W2 fun e w' => e = .returned (.int .i64 (k : Nat)) ∧ Below W2.heap.size W2 w') := Lib.hid fun W2 h2 => by
    have := leading_any (.pointer (some ⟨g, 0, none⟩)) P C cp cc p cols W2 (HP.out.on h2) (HC.out.on h2) lp lc ⟨_, rfl⟩
    rw [HK.out] at this; exact this
  clear hp hc hw hb0 hk hs0
  obtain ⟨hd, hhd⟩ : ∃ hd, pickL want (p.take k) = hd := ⟨_, rfl⟩
  rw [hhd] at HPK
  have HHD := Lib.hid hhd; clear hhd
  go_region_held3 (fun u => Below W.heap.size W u ∧ u.cell? ⟨w.heap.size, 0, none⟩ = some (.pointer (some ⟨g, 0, none⟩)) ∧ u.cell? ⟨w.heap.size, 1, none⟩ = some (.slice P p.length cp) ∧ u.cell? ⟨w.heap.size + 1, 0, none⟩ = some (.slice Wn want.length cw) ∧ u.cell? ⟨w.heap.size + 1 + 1, 0, none⟩ = some (.slice C cols.length cc))
    ((refine (fun hh => ⟨hh, held_cell hl1 c0 hh, held_cell hl1 c1 hh, held_cell hl2 c2 hh, held_cell hl3 c3 hh⟩) ?_; repeat (first | exact Below.refl _ _ | exact h3 | exact h2 | apply Below.drew | (refine Below.setCell ?_ ?_ _; rotate_left; (first | omega | (focus (simp; done)) | (focus (simp; omega)))) | (refine bel_alloc ?_ ?_; (first | omega | (focus (simp; done)) | (focus (simp; omega)))))))
    ((first
      | (go_at_call 69; refine (HLD.out _ ?_).mono ?_; (repeat (first | exact Below.refl _ _ | apply Below.drew | (refine bel_alloc ?_ ?_; (first | omega | (focus (simp; done)) | (focus (simp; omega)))))); rintro e w2 ⟨rfl, hb2⟩; have h2 : Below W.heap.size W w2 := by { refine Below.trans ?_ (hb2.mono (by first | exact Nat.le_refl _ | (focus (simp; done)) | (focus (simp; omega)))); (repeat (first | exact Below.refl _ _ | apply Below.drew | (refine bel_alloc ?_ ?_; (first | omega | (focus (simp; done)) | (focus (simp; omega)))))) }; have kc2 := keep hb2; have kf2 := keepZ hb2; have q2 := ltOn hb2; have s2 := h2.size; replace hb2 := Lib.hid hb2; dsimp only)
      | (go_at_call 83; refine (HPK.out _ ?_).mono ?_; (repeat (first | exact Below.refl _ _ | exact h2 | apply Below.drew | (refine bel_alloc ?_ ?_; (first | omega | (focus (simp; done)) | (focus (simp; omega)))))); rintro e w3 ⟨HA, hc, rfl, hr3, ho3, hb3⟩; have h3 : Below W.heap.size W w3 := by { refine Below.trans ?_ (hb3.mono (by first | exact Nat.le_refl _ | (focus (simp; done)) | omega | (focus (simp; omega)))); (repeat (first | exact h2 | apply Below.drew | (refine bel_alloc ?_ ?_; (first | omega | (focus (simp; done)) | (focus (simp; omega)))))) }; have kc3 := keep hb3; have kf3 := keepZ hb3; have q3 := ltOn hb3; have s3 := h3.size; replace hb3 := Lib.hid hb3; replace hr3 := Lib.hid hr3; replace ho3 := Lib.hid ho3; dsimp only)))
  · go_wp2
    go_ret
    have hb4 : Below W.heap.size W (w3.alloc (.cells #[.slice HA hd.length hc] 23)) := h3.alloc s3 _
    have hbf := on HB0.out hb4
    refine ⟨_, _, _, _, rfl, (hb4.block _ hl1).trans e1, ⟨HA, hc, ?_, ?_, fun b o hb => ?_⟩, (hb4.block _ hl2).trans e2, (hb4.block _ hl3).trans e3, Nat.le_refl _, by omega, by simp, by omega, by omega, hbf⟩
    · rw [HK.out, HHD.out]; exact cell_box' (heap_alloc_new _ _)
    · rw [HK.out, HHD.out]; exact hr3.out.on ((Below.refl _ _).alloc (Nat.le_refl _) _)
    · have := ho3.out b o hb; omega
  · go_wp2
    go_ret
    have hb4 : Below W.heap.size W (w3.setCell ⟨w2.heap.size, 0, none⟩ (.slice HA hd.length hc)) := h3.setCell s2 _
    have hbf := on HB0.out hb4
    have hsz : (w3.setCell ⟨w2.heap.size, 0, none⟩ (.slice HA hd.length hc)).heap.size = w3.heap.size := by simp [World.setCell]
    have hF : Fr (· = w2.heap.size) w3.heap.size w3 (w3.setCell ⟨w2.heap.size, 0, none⟩ (.slice HA hd.length hc)) := fr_set w3 _ 0 _ _
    refine ⟨_, _, _, _, rfl, (hb4.block _ hl1).trans e1, ⟨HA, hc, ?_, ?_, fun b o hb => ?_⟩, (hb4.block _ hl2).trans e2, (hb4.block _ hl3).trans e3, Nat.le_refl _, by omega, ?_, by omega, by omega, hbf⟩
    · rw [HK.out, HHD.out]; exact World.cell?_setCell_same _ _ _ ((kc3 _ 0 (by simp)).trans (cell_box' (heap_alloc_new w2 _)))
    · rw [HK.out, HHD.out]; exact rdV_far' hr3.out (fun b o hb e => by have := ho3.out b o hb; simp at this; omega) hF
    · have := ho3.out b o hb; simp at this; omega
    · rw [hsz]; exact q3 _ (by simp)
  · go_wp2
    go_ret
    have hb4 : Below W.heap.size W (w3.setCell ⟨W.heap.size, 0, none⟩ (.slice HA hd.length hc)) := h3.setCell (Nat.le_refl _) _
    have hbf := on HB0.out hb4
    have hsz : (w3.setCell ⟨W.heap.size, 0, none⟩ (.slice HA hd.length hc)).heap.size = w3.heap.size := by simp [World.setCell]
    have hF : Fr (· = W.heap.size) w3.heap.size w3 (w3.setCell ⟨W.heap.size, 0, none⟩ (.slice HA hd.length hc)) := fr_set w3 _ 0 _ _
    have hw2 : W.heap.size < w2.heap.size := q2 _ (by simp)
    refine ⟨_, _, _, _, rfl, (hb4.block _ hl1).trans e1, ⟨HA, hc, ?_, ?_, fun b o hb => ?_⟩, (hb4.block _ hl2).trans e2, (hb4.block _ hl3).trans e3, Nat.le_refl _, by omega, ?_, by omega, by omega, hbf⟩
    · rw [HK.out, HHD.out]; exact World.cell?_setCell_same _ _ _ ((kc3 _ 0 hw2).trans ((kc2 _ 0 (by simp)).trans (cell_box' (heap_alloc_new W _))))
    · rw [HK.out, HHD.out]; exact rdV_far' hr3.out (fun b o hb e => by have := ho3.out b o hb; omega) hF
    · have := ho3.out b o hb; omega
    · rw [hsz]; exact q3 _ hw2
end Go.Proofs.Ytojanokicfeghaa
/-
  Iterators whose rounds leave all that is not their own as it lay; a range over one, whose body appends to a row.
-/
namespace Go.Proofs.Ytojanokicfeghaa
open Go.RowKit FloM ValM Go.Shelf
set_option linter.unusedVariables false
set_option linter.unusedSimpArgs false
attribute [local go_sem] Oper.semAt_some
/-- Behind a round: o was the row of the body's own ahead of it. -/
def RoundPostM (X : Nat → Prop) (l : Nat) (J : Option Nat → List Sl → World → Prop) (o : Option Nat) (xs : List Sl) (W1 : World) (e : Ending) (W' : World) : Prop :=
  e = .returned (.bool true) ∧ (∃ o', J o' xs W' ∧ (o' = o ∨ ∃ k, o' = some k ∧ W1.heap.size ≤ k)) ∧ Fr (fun k => X k ∨ o = some k ∨ k = l) W1.heap.size W1 W' ∧ KF W1 W' ∧ KN l W1 W'
def RoundM (X : Nat → Prop) (L : List (List V)) (l : Nat) (J : Option Nat → List Sl → World → Prop) : Prop :=
  ∀ (o : Option Nat) (pre : List Sl) (x : Sl) (W1 : World), J o pre W1 → pre.map Sl.l ++ [x.l] <+: L → SlOk X W1 x → YieldAt Fence.wide 0 Try.prog l #[x.val] W1 (RoundPostM X l J o (pre ++ [x]) W1)
def SeqM (g : Nat) (lb : Array Value) (X : Nat → Prop) (L : List (List V)) (w : World) : Prop :=
  ∀ (l : Nat) (J : Option Nat → List Sl → World → Prop) (W : World), Below w.heap.size w W → w.heap.size ≤ l → l < W.heap.size →
    (∀ o s A B, J o s A → Calm W.heap.size A B → J o s B) → RoundM X L l J → J none [] W →
    CallsIn Fence.wide 0 Try.prog g (#[.func (.yield l) #[] #[]] ++ lb) W fun e W' => (∃ v, e = .returned v) ∧ ∃ o xs, xs.map Sl.l = L ∧ J o xs W'
/-- How a round's body is left. -/
def postM (B : Nat) (X : Nat → Prop) (I : Option Nat → List Sl → World → Prop) (o : Option Nat) (xs : List Sl) (W : World) : Exit → Act → World → Prop
  | .normal, _, W' => KeepsFrom B W W' ∧ Fr (fun k => X k ∨ o = some k) W.heap.size W W' ∧ KF W W' ∧ ∃ o', I o' xs W' ∧ (o' = o ∨ ∃ k, o' = some k ∧ W.heap.size ≤ k)
  | _, _, _ => False
theorem wpIn_seqM {n : Nat} {g : Operand} {ps : Array Tmp} {assign body : Code} {Q : Exit → Act → World → Prop} {a : Act} {w w0 : World}
    {gf : Nat} {lb : Array Value} (hg : a.eval g = .func (.func gf) #[] lb) (eg : ∀ args w, (callFunc gf args).run Try.prog w = .ok (.enter gf args) w)
    {X : Nat → Prop} {L : List (List V)} (hseq : SeqM gf lb X L w0) (hb0 : Below w0.heap.size w0 w) (hps : ps.size = 1)
    (I : Option Nat → List Sl → World → Prop) (hI : ∀ o s A B, I o s A → Calm w.heap.size A B → I o s B) (h0 : I none [] w) (a₁ : Sl → Act)
    (hassign : ∀ (l : Nat) (x : Sl) (W : World) (K : Act → World → Prop), K (a₁ x) W →
      assign.wpIn (Fence.wide.inRound l) 0 Try.prog (Exit.then K (fun _ _ _ => False)) { tmps := (ps.zip #[x.val]).foldl (fun t (p, v) => t.setIfInBounds p v) a.tmps, defers := [] } W)
    (hbody : ∀ (l : Nat) (o : Option Nat) (pre : List Sl) (x : Sl) (W : World), w.heap.size ≤ l → I o pre W → pre.map Sl.l ++ [x.l] <+: L → SlOk X W x → body.wpIn (Fence.wide.inRound l) 0 Try.prog (postM w.heap.size X I o (pre ++ [x]) W) (a₁ x) W)
    (hdone : ∀ (D : Nat) (o : Option Nat) (xs : List Sl) (W : World), w.heap.size ≤ D → xs.map Sl.l = L → I o xs W → W.heap[D]? = some (.deferred (some [])) → Q .normal { a with defers := { target := .collected D, args := #[] } :: a.defers } W) :
    (Code.rangeFunc g ps assign body).wpIn Fence.wide n Try.prog Q a w := by
  refine wpIn_rangeFunc fun fn hfn => ?_
  -- the loop's record, and the block for what the rounds put off
  have hD0 : w.heap.size ≤ w.heap.size := Nat.le_refl _
  let rec' : LoopState → Option Code → Loop := fun st pe => { state := st, pending := pe, fn, tmps := a.tmps, params := ps, assign, body, defers := w.heap.size }
  let W1 := (w.alloc (.deferred (some []))).alloc (.loop (rec' .ready none))
  have hW1 : Below w.heap.size w W1 := ((Below.refl _ w).alloc (Nat.le_refl _) _).alloc (by simp) _
  have hL1 : W1.heap[w.heap.size + 1]? = some (.loop (rec' .ready none)) := by
    have := World.alloc_heap_new (w.alloc (.deferred (some []))) (.loop (rec' .ready none)); rwa [World.size_alloc] at this
  have hK1 : W1.heap[w.heap.size]? = some (.deferred (some [])) := (Below.heap_alloc _ _ _ (by simp)).trans (World.alloc_heap_new w _)
  have hs1 : w.heap.size ≤ W1.heap.size := hW1.size
  refine ⟨w.heap.size + 1, [{ target := .collected w.heap.size, args := #[] }], W1, { target := .fn (.func gf) lb, args := #[.func (.yield (w.heap.size + 1)) #[] #[]] }, W1, gf,
    #[.func (.yield (w.heap.size + 1)) #[] #[]] ++ lb, W1, run_enterLoop_outer _ _ _ _ _, ?_, fun _ _ => trivial, ?_, (fun h => by cases h), ?_⟩
  · simp only [resolve, hg]; simp [go_sem]
  · simp [invoke, go_sem, eg]
  -- the caller's invariant, with the two blocks beside it
  have up : ∀ {A B : World}, Calm W1.heap.size A B → Calm w.heap.size A B := fun h => h.mono hs1
  have two : ∀ {A B : World} {k : Nat} {o : Obj}, k < W1.heap.size → Calm W1.heap.size A B → A.heap[k]? = some o → B.heap[k]? = some o := fun hk h ha => h.same _ _ ha (.inl hk)
  have l1 : w.heap.size + 1 < W1.heap.size := (Array.getElem?_eq_some_iff.1 hL1).1
  refine callsIn_deep ((hseq (w.heap.size + 1)
    (fun o pre W => I o pre W ∧ W.heap[w.heap.size + 1]? = some (.loop (rec' .ready none)) ∧ W.heap[w.heap.size]? = some (.deferred (some [])))
    W1 (hb0.trans (hW1.mono hb0.size)) (by have := hb0.size; omega) l1
    (fun o s A B hs hc => ⟨hI o s A B hs.1 (up hc), two l1 hc hs.2.1, two (by omega) hc hs.2.2⟩)
    ?_ ⟨hI _ _ _ _ h0 (Calm.of_below hW1), hL1, hK1⟩).mono ?_)
  · -- one round
    rintro o pre x W ⟨hi, hl, hk⟩ hpre hok
    have hlt : w.heap.size + 1 < W.heap.size := (Array.getElem?_eq_some_iff.1 hl).1
    have hy := run_yield (P := Try.prog) (args := #[x.val]) hl (by rw [hps]; rfl)
    refine ⟨fn, _, assign, body, hy, roundIn_of_wpIn hfn (hassign _ x W _ ⟨_, run_beginRound hl rfl, ?_⟩)⟩
    have c2 : Calm w.heap.size W (W.putObj (w.heap.size + 1) (.loop { rec' .ready none with state := .busy })) := Calm.put hl rfl (by omega)
    have hl2 : (W.putObj (w.heap.size + 1) (.loop { rec' .ready none with state := .busy })).heap[w.heap.size + 1]? = some (.loop { rec' .ready none with state := .busy }) := World.putObj_heap_same hlt
    have hk2 : (W.putObj (w.heap.size + 1) (.loop { rec' .ready none with state := .busy })).heap[w.heap.size]? = some (.deferred (some [])) := (World.putObj_heap_other (by omega)).trans hk
    refine wpIn_mono (hbody _ o pre x _ (by omega) (hI _ _ _ _ hi c2) hpre (c2.slOk hok)) ?_
    have fin : ∀ (jump : Option Code) (W3 : World), KeepsFrom w.heap.size (W.putObj (w.heap.size + 1) (.loop { rec' .ready none with state := .busy })) W3 →
        (Instr.endRound (w.heap.size + 1) jump).run Try.prog W3 = .ok (.bool jump.isNone) (W3.putObj (w.heap.size + 1) (.loop (rec' (if jump.isNone then .ready else .done) jump))) ∧
        Calm w.heap.size W3 (W3.putObj (w.heap.size + 1) (.loop (rec' (if jump.isNone then .ready else .done) jump))) ∧
        (W3.putObj (w.heap.size + 1) (.loop (rec' (if jump.isNone then .ready else .done) jump))).heap[w.heap.size + 1]? = some (.loop (rec' (if jump.isNone then .ready else .done) jump)) ∧
        (W3.putObj (w.heap.size + 1) (.loop (rec' (if jump.isNone then .ready else .done) jump))).heap[w.heap.size]? = some (.deferred (some [])) := fun jump W3 hk3 => by
      have hl3 := hk3.same _ _ (by omega) hl2 rfl
      exact ⟨run_endRound jump hl3, Calm.put hl3 rfl (by omega), World.putObj_heap_same (Array.getElem?_eq_some_iff.1 hl3).1, (World.putObj_heap_other (by omega)).trans (hk3.same _ _ (Nat.le_refl _) hk2 rfl)⟩
    have kn : ∀ (W3 : World) (o' : Obj), KeepsFrom w.heap.size (W.putObj (w.heap.size + 1) (.loop { rec' .ready none with state := .busy })) W3 → KN (w.heap.size + 1) W (W3.putObj (w.heap.size + 1) o') := fun W3 o' hk3 =>
      ⟨Nat.le_trans c2.size (Nat.le_trans hk3.size (by simp)), fun k o hlk hka ho => (World.putObj_heap_other (by omega)).trans (hk3.same k o (by omega) ((World.putObj_heap_other (by omega)).trans hka) ho)⟩
    rintro e a3 W3 hp
    cases e with
    | normal =>
      obtain ⟨hk3, hf3, hq3, o2, hi3, ho2⟩ := hp
      obtain ⟨hr, c3, hl4, hk4⟩ := fin none W3 hk3
      have hfl : ∀ (A : World) (ob : Obj) (B : Nat), Fr (fun k => X k ∨ o = some k ∨ k = w.heap.size + 1) B A (A.putObj (w.heap.size + 1) ob) := fun A ob B => ⟨rfl, rfl, rfl, by simp, fun k _ hx => World.putObj_heap_other (fun e => hx (.inr (.inr e)))⟩
      have hsz : (W.putObj (w.heap.size + 1) (.loop { rec' .ready none with state := .busy })).heap.size = W.heap.size := by simp
      rw [hsz] at hf3
      exact ⟨_, _, hr, rfl, ⟨o2, ⟨hI _ _ _ _ hi3 c3, hl4, hk4⟩, ho2.imp_right fun ⟨k, e, hkk⟩ => ⟨k, e, by rw [hsz] at hkk; exact hkk⟩⟩, ((hfl W _ _).trans (hf3.sub fun k _ hk => hk.imp_right .inl)).trans (hfl W3 _ _), ((KF.calm c2).trans hq3).trans (KF.calm c3), kn W3 _ hk3⟩
    | ret => exact hp.elim
    | exit id => exact hp.elim
    | goto t => exact hp.elim
    | panic ch => exact hp.elim
    | outgrown => exact hp.elim
  · -- behind the iterator
    rintro e W2 ⟨⟨v, rfl⟩, o, xs, hS, hi, hl, hk⟩
    exact ⟨none, _, run_endLoop hl (by simp [rec']), hdone _ o xs _ (Nat.le_refl _) hS (hI _ _ _ _ hi (Calm.put hl rfl (by omega))) ((World.putObj_heap_other (by omega)).trans hk)⟩
end Go.Proofs.Ytojanokicfeghaa
/-
  Package rel: what matching's iterator tells.
-/
namespace Go.Proofs.Ytojanokicfeghaa
open Go.RowKit FloM ValM Go.Shelf
set_option linter.unusedVariables false
set_option linter.unusedSimpArgs false
attribute [local go_sem] Oper.semAt_some
def matB (cols : List Int) (want t : List V) : Bool := cmpC cols t want == 0
theorem wpIn_seqA (d : Tmp) {n : Nat} {g : Operand} {ps : Array Tmp} {assign body : Code} {Q : Exit → Act → World → Prop} {a : Act} {w w0 : World}
    {gf : Nat} {lb : Array Value} (hg : a.eval g = .func (.func gf) #[] lb) (eg : ∀ args w, (callFunc gf args).run Try.prog w = .ok (.enter gf args) w)
    {X : Nat → Prop} {n₀ : Nat} {L : List (List V)} (hseq : SeqR gf lb X n₀ L w0) (hb0 : Below w0.heap.size w0 w) (hn₀ : n₀ ≤ w.heap.size) (hps : ps.size = 1)
    (I : List Sl → World → Prop) (hI : ∀ s A B, I s A → Calm w.heap.size A B → I s B) (h0 : I [] w)
    (hassign : ∀ (l : Nat) (x : Sl) (W : World) (K : Act → World → Prop), K { tmps := ((ps.zip #[x.val]).foldl (fun t (p, v) => t.setIfInBounds p v) a.tmps).setIfInBounds d x.val, defers := [] } W →
      assign.wpIn (Fence.wide.inRound l) 0 Try.prog (Exit.then K (fun _ _ _ => False)) { tmps := (ps.zip #[x.val]).foldl (fun t (p, v) => t.setIfInBounds p v) a.tmps, defers := [] } W)
    (hbody : ∀ (l : Nat) (pre : List Sl) (x : Sl) (W : World), w.heap.size ≤ l → I pre W → pre.map Sl.l ++ [x.l] <+: L → SlOk X W x → body.wpIn (Fence.wide.inRound l) 0 Try.prog (postR w.heap.size X n₀ I (fun _ _ _ => False) (pre ++ [x]) W) { tmps := ((ps.zip #[x.val]).foldl (fun t (p, v) => t.setIfInBounds p v) a.tmps).setIfInBounds d x.val, defers := [] } W)
    (hdone : ∀ (D : Nat) (xs : List Sl) (W : World), w.heap.size ≤ D → xs.map Sl.l = L → I xs W → W.heap[D]? = some (.deferred (some [])) → Q .normal { a with defers := { target := .collected D, args := #[] } :: a.defers } W) :
    (Code.rangeFunc g ps assign body).wpIn Fence.wide n Try.prog Q a w :=
  wpIn_seq hg eg hseq hb0 hn₀ hps I (fun _ _ _ => False) hI (fun _ _ _ _ h _ => h) h0 (fun x => { tmps := ((ps.zip #[x.val]).foldl (fun t (p, v) => t.setIfInBounds p v) a.tmps).setIfInBounds d x.val, defers := [] })
    hassign hbody hdone (fun D c pre W _ _ h _ => h.elim)
/-- Between two rounds: what was told, and fits, was handed on. -/
structure TellM (X : Nat → Prop) (w2 : World) (l : Nat) (q : List V → Bool) (J : Option Nat → List Sl → World → Prop) (o : Option Nat) (pre pre' : List Sl) (W : World) : Prop where
  same : pre'.map Sl.l = (pre.map Sl.l).filter q
  j : J o pre' W
  own : ∀ k, o = some k → w2.heap.size ≤ k
  fr : Fr (fun k => X k ∨ k = l) w2.heap.size w2 W
theorem rdV_step {X : Nat → Prop} {w0 w2 W : World} {A : Option Addr} {l : List V} (h : RdV w0 A l) (hb : Below w0.heap.size w0 w2) (hF : Fr X w2.heap.size w2 W) (hx : ∀ b o, A = some ⟨b, o, none⟩ → b < w0.heap.size → ¬ X b) : RdV W A l := fun i v hv => by
  obtain ⟨b, o, e, hl, c0, c1, c2⟩ := h i v hv
  have k : ∀ j, W.cell? ⟨b, j, none⟩ = w0.cell? ⟨b, j, none⟩ := fun j => (hF.cell (Nat.lt_of_lt_of_le hl hb.size) (hx b o e hl)).trans (keep hb _ _ hl)
  exact ⟨b, o, e, Nat.lt_of_lt_of_le hl (Nat.le_trans hb.size hF.size), (k _).trans c0, (k _).trans c1, (k _).trans c2⟩
theorem rdI_step {X : Nat → Prop} {w0 w2 W : World} {A : Option Addr} {l : List Int} (h : RdI w0 A l) (hb : Below w0.heap.size w0 w2) (hF : Fr X w2.heap.size w2 W) (hx : l ≠ [] → ∀ b o, A = some ⟨b, o, none⟩ → b < w0.heap.size → ¬ X b) : RdI W A l := fun i v hv => by
  obtain ⟨b, o, e, hl, c0⟩ := h i v hv
  exact ⟨b, o, e, Nat.lt_of_lt_of_le hl (Nat.le_trans hb.size hF.size), ((hF.cell (Nat.lt_of_lt_of_le hl hb.size) (hx (fun e2 => by subst e2; simp at hv) b o e hl)).trans (keep hb _ _ hl)).trans c0⟩
theorem SlOk.sub {X Y : Nat → Prop} {w : World} {x : Sl} (h : SlOk Y w x) (hXY : ∀ k, X k → Y k) : SlOk X w x := ⟨h.rd, fun a ha hx => h.off a ha (hXY _ hx), h.cap, h.ty⟩
set_option maxRecDepth 20000 in
set_option maxHeartbeats 8000000 in
theorem match_seq {X : Nat → Prop} {g B1 B2 B3 B4 cp cw cc : Nat} {P Wn C : Option Addr} {p cols : List Int} {M : List (List V)} {want : List V} (w0 w : World) (ht : TreeS X w0 g p M) (hC : MatchC w0 w B1 B2 B3 B4 g P cp p Wn cw want C cc cols) (hX : ∀ k, X k → k < w0.heap.size)
    (hw : RdV w0 Wn want) (ow : ∀ b o, Wn = some ⟨b, o, none⟩ → ¬ X b) (hc : RdI w0 C cols) (oc : cols ≠ [] → ∀ b o, C = some ⟨b, o, none⟩ → ¬ X b) (lw : want.length ≤ 1000) (lc : cols.length ≤ 1000) :
    SeqM 84 #[.pointer (some ⟨B1, 0, none⟩), .pointer (some ⟨B2, 0, none⟩), .pointer (some ⟨B3, 0, none⟩), .pointer (some ⟨B4, 0, none⟩)] X ((beg p (pickL want (p.take (leadL cols p))) M).filter (matB cols want)) w := by
  intro l J W hW hwl hl hJ hR h0
  obtain ⟨HA, hch, b2, rh, oh⟩ := hC.h2
  obtain ⟨hd, hhd⟩ : ∃ hd, pickL want (p.take (leadL cols p)) = hd := ⟨_, rfl⟩
  rw [hhd] at hR b2 rh ⊢
  have hdl : hd.length ≤ p.length := by
    rw [← hhd]
    have := pick_len want (p.take (leadL cols p))
    rw [List.length_take] at this; omega
  obtain ⟨W1, hW1⟩ : ∃ W1, W.alloc (.cells #[.func (.yield l) #[] #[]] 40) = W1 := ⟨_, rfl⟩
  have hb1 : Below W.heap.size W W1 := by rw [← hW1]; exact (Below.refl _ _).alloc (Nat.le_refl _) _
  have hwW : Below w.heap.size w W1 := hW.trans (hb1.mono hW.size)
  have hs1 : W1.heap.size = W.heap.size + 1 := by rw [← hW1]; simp
  have hybox : W1.heap[W.heap.size]? = some (.cells #[.func (.yield l) #[] #[]] 40 (0, 0)) := by rw [← hW1]; exact heap_alloc_new _ _
  have hbl : Below w0.heap.size w0 W1 := hC.b.trans (hwW.mono hC.b.size)
  have hws := hC.b.size
  have hWs := hW.size
  have lt : ∀ {B : Nat} {o : Obj}, w.heap[B]? = some o → B < w.heap.size := fun h => (Array.getElem?_eq_some_iff.1 h).1
  have l1 := lt hC.h1; have l3 := lt hC.h3; have l4 := lt hC.h4; have l2 := hC.l2
  have m1 := (keep hwW _ 0 l1).trans (cell2 hC.h1).1
  have m2 := (keep hwW _ 0 l2).trans b2
  have hFM := fromS_any (X := fun k => X k ∨ k = l) HA hch hd W1 ((ht.more (Y := fun k => X k ∨ k = l) (fun k h => .inl h) (fun k h => h.imp_right fun e => by omega)).on hbl) (rh.on hwW) hdl (fun k hk => by rcases hk with hk | rfl; (have := hX k hk; omega); omega)
  have hfl := ht.fit.lens
  have hfew := ht.few
  have HFM := Lib.hid hFM; have HC := Lib.hid hC; have HJ := Lib.hid hJ; have HR := Lib.hid hR; have H0 := Lib.hid h0; have HX := Lib.hid hX; have HYB := Lib.hid hybox; have HFL := Lib.hid hfl
  have HWN := Lib.hid hw; have HCC := Lib.hid hc
  clear hFM hC hJ hR h0 hX hybox ht hfl hw hc rh b2
  refine callsIn_deep (n := l) ?_
  refine callsIn_of_wp_marks Try.func84 rfl trivial ?_ rfl
  simp only [Try.ntmps84, List.size_toArray, List.length_cons, List.length_nil, Nat.reduceAdd, Nat.reduceSub, Array.replicate_succ, Array.replicate_zero, List.push_toArray, List.append_toArray, List.nil_append, List.cons_append]
  refine wpIn_wide.2 ?_
  go_wp2_with (go_at_call 22; (try rw [hW1]); refine HFM.out.mono ?_; rintro e w2 ⟨gf, lb, rfl, hen, hq, hb⟩; have HQ := Lib.hid hq; have HEN := Lib.hid hen; have HB := Lib.hid hb; clear hb hq hen)
  have hs2 := HB.out.size
  have hW2 : Below w.heap.size w w2 := hwW.trans (HB.out.mono hwW.size)
  have hX2 : ∀ B, w0.heap.size ≤ B → B < W.heap.size + 1 → B ≠ l → ¬ (X B ∨ B = l) := fun B h1 h2 h3 h => h.elim (fun hx => by have := HX.out B hx; omega) h3
  refine (wpIn_wide (n := l)).1 ?_
  refine wpIn_seqA 6 (n := l) rfl HEN.out HQ.out (Below.refl _ _) (Nat.le_refl _) rfl (fun pre W' => ∃ o pre', TellM X w2 l (matB cols want) J o pre pre' W')
    (fun s A B h hc => by
      obtain ⟨o, pre', h1⟩ := h
      exact ⟨o, pre', h1.same, HJ.out _ _ _ _ h1.j (hc.mono (by omega)), h1.own, h1.fr.trans (Fr.of (hc.below h1.fr.size))⟩)
    ⟨none, [], rfl, HJ.out _ _ _ _ H0.out (Calm.of_below (hb1.trans (HB.out.mono hb1.size))), (fun k hk => by cases hk), Fr.refl _ _ _⟩ ?assign ?body ?done
  case assign =>
    intro l2 x W' K hK
    gi_wp2
    simpa using hK
  case body =>
    rintro l2 pre y Wb hl2 ⟨o, pre', hI⟩ hpre hok
    have hsb := hI.fr.size
    have b3 := (hI.fr.cell (o := 0) (show B3 < w2.heap.size by omega) (hX2 _ HC.out.g3 (by omega) (by omega))).trans ((keep hW2 _ 0 l3).trans (cell_box' HC.out.h3))
    have b4 := (hI.fr.cell (o := 0) (show B4 < w2.heap.size by omega) (hX2 _ HC.out.g4 (by omega) (by omega))).trans ((keep hW2 _ 0 l4).trans (cell_box' HC.out.h4))
    have by0 := (hI.fr.cell (o := 0) (show W.heap.size < w2.heap.size by omega) (hX2 _ (by omega) (by omega) (by omega))).trans ((keep HB.out _ 0 (by omega)).trans (cell_box' HYB.out))
    have hym : y.l ∈ beg p hd M := hpre.subset (by simp)
    have hyl : y.l.length ≤ 1000 := by rw [HFL.out _ (List.mem_filter.1 hym).1]; omega
    have hb02 : Below w0.heap.size w0 w2 := hbl.trans (HB.out.mono (by omega))
    have hrw : RdV Wb Wn want := rdV_step HWN.out hb02 hI.fr (fun b oo e hlt hx => hx.elim (ow b oo e) (fun hx => by omega))
    have hrc : RdI Wb C cols := rdI_step HCC.out hb02 hI.fr (fun hne b oo e hlt hx => hx.elim (oc hne b oo e) (fun hx => by omega))
    · have HCMP := Lib.hid (compareT_any y.A Wn C y.c cw cc y.l want cols Wb hok.rd hrw hrc (by unfold maxLen; omega) (by unfold maxLen; omega) (by unfold maxLen; omega))
      have HIH := Lib.hid hI; have HOK := Lib.hid hok; have HPR := Lib.hid hpre; clear hI hok hpre hrw hrc hym
      by_cases hz : cmpC cols y.l want = 0
      · have hmb : matB cols want y.l = true := by unfold matB; rw [hz]; rfl
        have hpx : pre'.map Sl.l ++ [y.l] <+: (beg p hd M).filter (matB cols want) := by
          have h1 := List.IsPrefix.filter (matB cols want) HPR.out
          rw [List.filter_append, ← HIH.out.same] at h1
          simpa [hmb] using h1
        have HLAY : Hid (∀ w4, Below Wb.heap.size Wb w4 → YieldAt Fence.wide 0 Try.prog l #[y.val] w4 (RoundPostM X l J o (pre' ++ [y]) w4)) := Lib.hid (fun w4 h4 => HR.out o pre' y w4 (HJ.out _ _ _ _ HIH.out.j (Calm.of_below h4)) hpx ((HOK.out.on h4).sub fun k hk => .inl hk))
        have HZ := Lib.hid hz; have HMB := Lib.hid hmb
        have hz' : ordV (pickL y.l cols) (pickL want cols) = 0 := hz
        rw [hz'] at HCMP
        clear hz hpx hmb hz'
        gi_wp2_with (first
          | ((first | refine ⟨trivial, rfl, ?_⟩ | refine ⟨rfl, ?_⟩ | skip); gi_at_call 58; refine (CallsIn.inRound l2 (callsIn_wide.2 HCMP.out)).mono ?_; rintro e w3 ⟨rfl, h3⟩; have by3 := (keep h3 _ 0 (show W.heap.size < Wb.heap.size by omega)).trans by0; obtain ⟨fn, tmps, assign, body, hy, hRd⟩ := HLAY.out w3 h3)
          | ((first | refine ⟨trivial, rfl, ?_⟩ | refine ⟨rfl, ?_⟩ | skip); refine hRd.mono ?_; clear hRd; rintro e w5 ⟨rfl, ⟨o2, hJ5, ho5⟩, hF5, hK5, hN5⟩))
        have hf : Fr (fun k => X k ∨ k = l) w2.heap.size Wb w5 := (Fr.of (h3.mono hsb)).trans ⟨hF5.os, hF5.tape, hF5.output, hF5.size, fun k hk hx => hF5.block k (by have := h3.size; omega) (fun h => by
          rcases h with h | h | h
          · exact hx (.inl h)
          · have := HIH.out.own k h; omega
          · exact hx (.inr h))⟩
        exact ⟨((KN.of_below h3).trans hN5).from (by omega), hf, (KF.of_below h3).trans hK5, o2, pre' ++ [y], by rw [List.map_append, List.map_append, List.filter_append, HIH.out.same]; simp [HMB.out], hJ5, fun k hk => by
          rcases ho5 with e | ⟨k2, e, h2⟩
          · exact HIH.out.own k (e ▸ hk)
          · rw [e] at hk; cases hk
            have := h3.size; omega, HIH.out.fr.trans hf⟩
      · obtain ⟨r, hr⟩ : ∃ r, cmpC cols y.l want = r := ⟨_, rfl⟩
        have hmb : matB cols want y.l = false := by unfold matB; simpa using hz
        have hr0 : (r == 0) = false := by rw [← hr]; simpa using hz
        have hr' : ordV (pickL y.l cols) (pickL want cols) = r := hr
        rw [hr'] at HCMP
        have HMB := Lib.hid hmb
        clear hz hr hmb hr'
        gi_wp2_with (first
          | ((first | refine ⟨trivial, rfl, ?_⟩ | refine ⟨rfl, ?_⟩ | skip); gi_at_call 58; refine (CallsIn.inRound l2 (callsIn_wide.2 HCMP.out)).mono ?_; rintro e w3 ⟨rfl, h3⟩))
        refine ⟨fun _ h => (by cases h), ?_⟩
        gi_wp2
        exact ⟨(KN.of_below h3 (l := 0)).from (by omega), Fr.of (h3.mono hsb), KF.of_below h3, o, pre', by rw [List.map_append, List.filter_append, HIH.out.same]; simp [HMB.out], HJ.out _ _ _ _ HIH.out.j (Calm.of_below h3), HIH.out.own, HIH.out.fr.trans (Fr.of (h3.mono hsb))⟩
  case done =>
    rintro D xs W' hD hxs ⟨o, pre', hI⟩ hK
    go_wp2
    refine ⟨by simp, .inl ⟨_, _, rfl, run_takeDeferred hK, ?_⟩⟩
    have hcp := Calm.put (n := W.heap.size) (o' := .deferred none) hK rfl (by omega)
    refine ⟨_, results_none rfl _ _ _, ⟨_, rfl⟩, o, pre', ?_, HJ.out _ _ _ _ hI.j hcp⟩
    rw [hI.same, hxs]
end Go.Proofs.Ytojanokicfeghaa
/-
  Package rel: what is found by columns: plain mathematics.
-/
namespace Go.Proofs.Ytojanokicfeghaa
open Go.RowKit FloM ValM Go.Shelf
set_option linter.unusedVariables false
set_option linter.unusedSimpArgs false
/-- The tuples that have the values vals in the columns cols. -/
def foundL (cols : List Int) (vals : List V) (M : List (List V)) : List (List V) := M.filter fun t => ordV (pickL t cols) vals == 0
theorem found_mem {cols : List Int} {vals : List V} {M : List (List V)} {t : List V} : t ∈ foundL cols vals M ↔ t ∈ M ∧ pickL t cols = vals := by
  unfold foundL
  rw [List.mem_filter, beq_iff_eq, ord_zero]
theorem pick_cols {xl vals : List V} {cols : List Int} {n : Nat} (hin : ∀ x ∈ cols, inR n x = true) (hl : xl.length = n) (hv : vals.length = cols.length) (h : ∀ (j : Nat) (c : Int), cols[j]? = some c → xl[c.toNat]? = vals[j]?) : pickL xl cols = vals := by
  have hin' : ∀ x ∈ cols, inR xl.length x = true := by rw [hl]; exact hin
  apply List.ext_getElem?
  intro i
  rw [pick_at hin']
  cases hc : cols[i]? with
  | none =>
    have := List.getElem?_eq_none_iff.1 hc
    rw [List.getElem?_eq_none (by omega)]; rfl
  | some c => exact h i c hc
theorem pick_sub {s t : List V} {n : Nat} {cols q : List Int} (hs : s.length = n) (ht : t.length = n) (hin : ∀ x ∈ cols, inR n x = true) (h : pickL s cols = pickL t cols) (hq : ∀ x ∈ q, x ∈ cols) : pickL s q = pickL t q := by
  have hcol : ∀ c ∈ cols, s[c.toNat]? = t[c.toNat]? := fun c hc => by
    obtain ⟨i, hi⟩ := List.getElem?_of_mem hc
    have h1 := pick_at (t := s) (p := cols) (by rw [hs]; exact hin) i
    have h2 := pick_at (t := t) (p := cols) (by rw [ht]; exact hin) i
    rw [hi] at h1 h2
    rw [h] at h1
    exact h1.symm.trans h2
  apply List.ext_getElem?
  intro i
  rw [pick_at (t := s) (by rw [hs]; exact fun x hx => hin x (hq x hx)), pick_at (t := t) (by rw [ht]; exact fun x hx => hin x (hq x hx))]
  cases hc : q[i]? with
  | none => rfl
  | some c => exact hcol c (hq c (List.mem_of_getElem? hc))
theorem sortS_nodup {p : List Int} {M : List (List V)} (h : SortS p M) : M.Nodup := by
  refine List.Pairwise.imp (fun {a b} hab e => ?_) h
  subst e
  rw [cmpC_self] at hab; cases hab
section
variable {n : Nat} {p cols : List Int} {xl vals : List V} {H : List (List V)}
theorem look_mem (hp : permB p = true) (hpn : p.length = n) (hd : distB n cols = true) (hxl : xl.length = n) (hpk : pickL xl cols = vals) {t : List V} :
    t ∈ (beg p (pickL xl (p.take (leadL cols p))) (puts p H)).filter (matB cols xl) ↔ t ∈ foundL cols vals (puts (upto n) H) := by
  have hin := (distB_iff.1 hd).1
  have hlk := lead_le cols p
  have htk : ∀ x ∈ p.take (leadL cols p), x ∈ cols := lead_all cols p _ (Nat.le_refl _)
  have hhl : (pickL xl (p.take (leadL cols p))).length = leadL cols p := by
    rw [pick_perm_len (fun x hx => by rw [hxl]; exact hin x (htk x hx)), List.length_take]; omega
  rw [List.mem_filter, found_mem, puts_mem (upto_perm n), upto_len]
  unfold beg matB cmpC
  rw [List.mem_filter, beq_iff_eq, beq_iff_eq, ord_zero, ord_zero, puts_mem hp, hpn, hhl, hpk]
  constructor
  · rintro ⟨⟨⟨h1, h2⟩, _⟩, h3⟩; exact ⟨⟨h1, h2⟩, h3⟩
  · rintro ⟨⟨h1, h2⟩, h3⟩
    exact ⟨⟨⟨h1, h2⟩, pick_sub h2 hxl hin (h3.trans hpk.symm) htk⟩, h3⟩
theorem look_nodup : ((beg p (pickL xl (p.take (leadL cols p))) (puts p H)).filter (matB cols xl)).Nodup := by
  have h := (puts_fit p H).sort
  exact ((sortS_nodup h).filter _).filter _
theorem found_sort {vals : List V} : SortS (upto n) (foundL cols vals (puts (upto n) H)) := by
  have h := (puts_fit (upto n) H).sort
  unfold SortS foundL at *
  exact h.filter _
/-- Whatever index was gone through: sorted, it is what was to be found. -/
theorem look_found (hp : permB p = true) (hpn : p.length = n) (hd : distB n cols = true) (hxl : xl.length = n) (hpk : pickL xl cols = vals) {L : List (List V)} (hL : L.Perm ((beg p (pickL xl (p.take (leadL cols p))) (puts p H)).filter (matB cols xl))) (hs : SortS (upto n) L) :
    L = foundL cols vals (puts (upto n) H) :=
  sort_ext hs found_sort fun t => by rw [hL.mem_iff]; exact look_mem hp hpn hd hxl hpk
theorem look_len {t : List V} (hpn : p.length = n) (ht : t ∈ (beg p (pickL xl (p.take (leadL cols p))) (puts p H)).filter (matB cols xl)) : t.length = n := by
  have h1 := (List.mem_filter.1 ht).1
  unfold beg at h1
  rw [← hpn]
  exact (puts_fit p H).lens t (List.mem_filter.1 h1).1
theorem look_many : ((beg p (pickL xl (p.take (leadL cols p))) (puts p H)).filter (matB cols xl)).length ≤ H.length := by
  refine Nat.le_trans (List.length_filter_le _ _) (Nat.le_trans ?_ (puts_len p H))
  unfold beg
  exact List.length_filter_le _ _
end
end Go.Proofs.Ytojanokicfeghaa

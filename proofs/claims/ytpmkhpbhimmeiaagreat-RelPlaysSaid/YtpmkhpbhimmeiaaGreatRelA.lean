/-
  Package rel: how many of a permutation's first numbers are among the columns (leading); which index is used (Uses).
-/
import Derived.Test.YtpmkhpbhimmeiaaGreatBtMerL
import Derived.Test.YtpmkhpbhimmeiaaGreatTupUpto
import Derived.Deep.RegionHeld3
import Derived.Deep.AppendLies
import Derived.Deep.RegionLaw
import Derived.Test.YtpmkhpbhimmeiaaGreatTupCmp
namespace Go.Proofs.YtpmkhpbhimmeiaaGreat
open Go.RowKit FloM ValM Go.Shelf
set_option linter.unusedVariables false
set_option linter.unusedSimpArgs false
theorem upto_perm (n : Nat) : permB (upto n) = true := perm_iff.2 ⟨fun x hx => by rw [upto_len]; exact upto_mem.1 hx, upto_nodup n⟩
theorem upto_snoc (k : Nat) : upto (k + 1) = upto k ++ [(k : Int)] := by simp [upto, List.range_succ]

theorem RdI.row {w : World} {A : Option Addr} {xs : List Int} (h : RdI w A xs) (hne : 0 < xs.length) : ∃ b o, A = some ⟨b, o, none⟩ ∧ b < w.heap.size ∧ ∀ (j : Nat) (x : Int), xs[j]? = some x → w.cell? ⟨b, o + j, none⟩ = some (.int .i64 x) := by
  obtain ⟨b, o, rfl, hb, _⟩ := h 0 _ (List.getElem?_eq_getElem hne)
  refine ⟨b, o, rfl, hb, fun j x hx => ?_⟩
  obtain ⟨b', o', e, _, hc⟩ := h j x hx
  injection e with e; injection e with e1 e2 _; subst e1 e2; exact hc

/-! ### slices.Index, slices.Contains -/
set_option maxHeartbeats 1000000 in
theorem index_any (A : Option Addr) (c : Nat) (l : List Int) (x : Int) (w : World) (h : RdI w A l) (hl : l.length ≤ maxLen) :
    Calls Tryz.prog 104 #[.slice A l.length c, .int .i64 x] w fun e w' => (∃ r : Int, e = .returned (.int .i64 r) ∧ (0 ≤ r ↔ x ∈ l)) ∧ w = w' := by
  unfold maxLen at hl
  have H := Lib.hid h; clear h
  go_enter Tryz.func104, Tryz.ntmps104
  go_wp2
  go_loop [8] (fun v => ∃ k : Nat, v = .int .i64 (k : Nat) ∧ k ≤ l.length ∧ x ∉ l.take k) (fun v => l.length - (intOf v).toNat)
  case atStart => exact ⟨0, rfl, Nat.zero_le _, by simp⟩
  case round =>
    obtain ⟨k, rfl, hk, hn⟩ := hrel
    have HN := Lib.hid hn; clear hn
    by_cases hlt : k < l.length
    · obtain ⟨b, o, rfl, hb, hrow⟩ := H.out.row (by omega)
      have hy := List.getElem?_eq_getElem hlt
      generalize l[k] = y at hy
      have cy := hrow k y hy
      have HY := Lib.hid hy; clear hrow hy
      by_cases hxy : x = y
      · subst hxy
        go_wp2
        go_ret
        exact ⟨⟨k, rfl, fun _ => List.mem_of_getElem? HY.out, fun _ => by omega⟩, rfl⟩
      · have hxy' : (x == y) = false := by simpa using hxy
        go_wp2
        refine ⟨⟨k + 1, by go_num, by omega, ?_⟩, by simp [intOf]; omega⟩
        rw [take_snoc' HY.out, List.mem_append, List.mem_singleton]
        exact fun h => h.elim HN.out hxy
    · obtain rfl : k = l.length := by omega
      go_wp2
      go_ret
      refine ⟨⟨-1, rfl, fun h => by omega, fun h => ?_⟩, rfl⟩
      have := HN.out
      rw [List.take_of_length_le (Nat.le_refl _)] at this
      exact absurd h this
set_option maxHeartbeats 1000000 in
theorem contains_any (A : Option Addr) (c : Nat) (l : List Int) (x : Int) (w : World) (h : RdI w A l) (hl : l.length ≤ maxLen) :
    Calls Tryz.prog 77 #[.slice A l.length c, .int .i64 x] w fun e w' => e = .returned (.bool (decide (x ∈ l))) ∧ w = w' := by
  have hi := Lib.hid (index_any A c l x w h hl)
  clear h
  go_enter Tryz.func77, Tryz.ntmps77
  go_wp2_with (go_at_call 104; refine hi.out.mono ?_; rintro e w' ⟨⟨r, rfl, hr⟩, rfl⟩; have HR := Lib.hid hr; clear hr)
  go_ret
  exact ⟨congrArg (fun b => Ending.returned (.bool b)) (decide_eq_decide.2 HR.out), rfl⟩

/-! ### leading -/
/-- How many of the first numbers of p are in cols. -/
def leadL (cols : List Int) : List Int → Nat
  | [] => 0
  | x :: p => if x ∈ cols then leadL cols p + 1 else 0
theorem lead_le (cols : List Int) : ∀ p : List Int, leadL cols p ≤ p.length
  | [] => Nat.le_refl _
  | x :: p => by unfold leadL; split <;> simp [lead_le cols p]
theorem lead_stop {cols p : List Int} {k : Nat} (h : ∀ x ∈ p.take k, x ∈ cols) (hk : k ≤ p.length) (hs : ∀ x, p[k]? = some x → x ∉ cols) : leadL cols p = k := by
  induction p generalizing k with
  | nil => simp at hk; subst hk; rfl
  | cons y p ih =>
    cases k with
    | zero => unfold leadL; rw [if_neg (hs y rfl)]
    | succ k =>
      unfold leadL
      rw [if_pos (h y (by simp)), ih (k := k) (fun x hx => h x (by rw [List.take_succ_cons]; exact List.mem_cons_of_mem _ hx)) (by simpa using hk) (fun x hx => hs x (by simpa using hx))]
theorem lead_all (cols : List Int) : ∀ (p : List Int) (k : Nat), k ≤ leadL cols p → ∀ x ∈ p.take k, x ∈ cols
  | [], k, _, x, hx => by simp at hx
  | y :: p, 0, _, x, hx => by simp at hx
  | y :: p, k + 1, h, x, hx => by
    unfold leadL at h
    split at h
    · rename_i hy
      rw [List.take_succ_cons, List.mem_cons] at hx
      rcases hx with rfl | hx
      · exact hy
      · exact lead_all cols p k (by omega) x hx
    · omega
def LeadRel (p cols : List Int) (v : Value) : Prop := ∃ k : Nat, v = .int .i64 (k : Nat) ∧ k ≤ p.length ∧ ∀ x ∈ p.take k, x ∈ cols
set_option maxHeartbeats 2000000 in
theorem leading_any (tv : Value) (P C : Option Addr) (cp cc : Nat) (p cols : List Int) (w : World) (hp : RdI w P p) (hc : RdI w C cols) (lp : p.length ≤ 1000) (lc : cols.length ≤ 1000) (ht : ∃ a, tv = .pointer a) :
    Calls Tryz.prog 56 #[.agg #[tv, .slice P p.length cp], .slice C cols.length cc] w fun e w' => e = .returned (.int .i64 (leadL cols p : Nat)) ∧ Below w.heap.size w w' := by
  obtain ⟨ta, rfl⟩ := ht
  have hb0 : Below w.heap.size w (w.alloc (.cells #[.pointer ta, .slice P p.length cp] 72)) := (Below.refl _ _).alloc (Nat.le_refl _) _
  have HP := Lib.hid (hp.on hb0); have HC := Lib.hid (hc.on hb0); clear hp hc
  have hbx : (w.alloc (.cells #[.pointer ta, .slice P p.length cp] 72)).cell? ⟨w.heap.size, 1, none⟩ = some (.slice P p.length cp) := by
    have := heap_alloc_new w (.cells #[.pointer ta, .slice P p.length cp] 72)
    unfold World.cell?; simp only; rw [this]; rfl
  go_enter Tryz.func56, Tryz.ntmps56
  go_wp2
  go_loop [5] (fun v => LeadRel p cols v) (fun v => p.length - (intOf v).toNat)
  case atStart => exact ⟨0, rfl, Nat.zero_le _, by simp⟩
  case round =>
    obtain ⟨k, rfl, hk, hn⟩ := hrel
    have HN := Lib.hid hn; clear hn
    by_cases hlt : k < p.length
    · obtain ⟨b, o, rfl, hb, hrow⟩ := HP.out.row (by omega)
      have hy := List.getElem?_eq_getElem hlt
      generalize p[k] = y at hy
      have cy := hrow k y hy
      have HY := Lib.hid hy; clear hrow hy
      obtain ⟨q, hq⟩ : ∃ q, decide (y ∈ cols) = q := ⟨_, rfl⟩
      have HQ := Lib.hid hq; clear hq
      cases q with
      | true =>
        go_wp2_with (go_at_call 77; refine (contains_any C cc cols y _ HC.out (by unfold maxLen; omega)).mono ?_; rw [HQ.out]; rintro e w' ⟨rfl, rfl⟩)
        refine ⟨⟨k + 1, by go_num, by omega, ?_⟩, by simp [intOf]; omega⟩
        rw [take_snoc' HY.out]
        intro x hx
        rw [List.mem_append, List.mem_singleton] at hx
        rcases hx with hx | rfl
        · exact HN.out x hx
        · exact of_decide_eq_true HQ.out
      | false =>
        go_wp2_with (go_at_call 77; refine (contains_any C cc cols y _ HC.out (by unfold maxLen; omega)).mono ?_; rw [HQ.out]; rintro e w' ⟨rfl, rfl⟩)
        go_ret
        refine ⟨ret_int ?_, hb0⟩
        rw [lead_stop HN.out (by omega) (fun x hx => by rw [HY.out] at hx; cases hx; exact of_decide_eq_false HQ.out)]
    · obtain rfl : k = p.length := by omega
      go_wp2
      go_ret
      refine ⟨ret_int ?_, hb0⟩
      rw [lead_stop HN.out (Nat.le_refl _) (fun x hx => by rw [List.getElem?_eq_none (Nat.le_refl _)] at hx; cases hx)]
end Go.Proofs.YtpmkhpbhimmeiaaGreat
/-
  Package rel: a relation by the list of what was put: its plain index and the others.
-/
namespace Go.Proofs.YtpmkhpbhimmeiaaGreat
open Go.RowKit FloM ValM Go.Shelf
set_option linter.unusedVariables false
set_option linter.unusedSimpArgs false
section
variable {X Y : Nat → Prop} {w w' : World}
/-- What an index holds: a tree, and the permutation that it was made with. -/
structure IdxAt (X : Nat → Prop) (w : World) (g : Nat) (P : Option Addr) (cp : Nat) (p : List Int) (M : List (List V)) : Prop where
  t : TreeS X w g p M
  rp : RdI w P p
  offP : Off X P
  inP : ∀ a, P = some a → a.block < w.heap.size
  cap : p.length ≤ cp
  capm : cp ≤ maxLen
variable {g : Nat} {P : Option Addr} {cp : Nat} {p : List Int} {M M' : List (List V)}
theorem IdxAt.on (h : IdxAt X w g P cp p M) (hb : Below w.heap.size w w') : IdxAt X w' g P cp p M :=
  ⟨h.t.on hb, h.rp.on hb, h.offP, fun a ha => Nat.lt_of_lt_of_le (h.inP a ha) hb.size, h.cap, h.capm⟩
/-- Another tree was written. -/
theorem IdxAt.other {g' : Nat} (h : IdxAt X w g P cp p M) (hg' : X g') (hne : g ≠ g') (hb : Fr (· = g') w.heap.size w w') : IdxAt X w' g P cp p M :=
  have hx : Fr X w.heap.size w w' := hb.sub fun k _ hk => by subst hk; exact hg'
  ⟨h.t.other hg' hne hb, RdI.onF h.rp h.offP hx, h.offP, fun a ha => Nat.lt_of_lt_of_le (h.inP a ha) hb.size, h.cap, h.capm⟩
theorem IdxAt.put (h : IdxAt X w g P cp p M) (ht : TreeS X w' g p M') (hb : Fr (· = g) w.heap.size w w') : IdxAt X w' g P cp p M' :=
  have hx : Fr X w.heap.size w w' := hb.sub fun k _ hk => by subst hk; exact h.t.mem
  ⟨ht, RdI.onF h.rp h.offP hx, h.offP, fun a ha => Nat.lt_of_lt_of_le (h.inP a ha) hb.size, h.cap, h.capm⟩
theorem IdxAt.more (hX : ∀ k, X k → Y k) (hY : ∀ k, Y k → X k ∨ w.heap.size ≤ k) (h : IdxAt X w g P cp p M) : IdxAt Y w g P cp p M :=
  ⟨h.t.more hX hY, h.rp, off_more hY h.offP h.inP, h.inP, h.cap, h.capm⟩
theorem IdxAt.calm {n : Nat} (h : IdxAt X w g P cp p M) (hc : Calm n w w') : IdxAt X w' g P cp p M :=
  ⟨h.t.calm hc, hc.rdI h.rp, h.offP, fun a ha => Nat.lt_of_lt_of_le (h.inP a ha) hc.size, h.cap, h.capm⟩
end
/-- One of the other indexes: its two cells, and what it holds. -/
structure SlotAt (X : Nat → Prop) (w : World) (I : Option Addr) (j g : Nat) (P : Option Addr) (cp : Nat) (p : List Int) (M : List (List V)) : Prop where
  row : ∃ b o, I = some ⟨b, o, none⟩ ∧ b < w.heap.size ∧ ¬ X b ∧ w.cell? ⟨b, o + j * 2, none⟩ = some (.pointer (some ⟨g, 0, none⟩)) ∧ w.cell? ⟨b, o + j * 2 + 1, none⟩ = some (.slice P p.length cp)
  idx : IdxAt X w g P cp p M
/-- A relation at block r, of n columns: gs are the blocks of its indexes' trees, ps their permutations; the plain index holds M0, index j holds Ms j. -/
structure RelG (X : Nat → Prop) (w : World) (r n : Nat) (g0 : Nat) (gs : List Nat) (ps : List (List Int)) (M0 : List (List V)) (Ms : Nat → List (List V)) : Prop where
  few : n ≤ 8
  many : ps.length ≤ 1000
  offr : ¬ X r
  cells : ∃ P0 c0 I ci, w.heap[r]? = some (.cells #[.pointer (some ⟨g0, 0, none⟩), .slice P0 n c0, .slice I ps.length ci] 78 (0, 0)) ∧ IdxAt X w g0 P0 c0 (upto n) M0 ∧
    (∀ j p, ps[j]? = some p → ∃ g P cp, gs[j]? = some g ∧ SlotAt X w I j g P cp p (Ms j))
  len : gs.length = ps.length
  nodup : (g0 :: gs).Nodup
  lens : ∀ p ∈ ps, p.length = n
section
variable {X Y : Nat → Prop} {w w' : World} {r n g0 : Nat} {gs : List Nat} {ps : List (List Int)} {M0 M' : List (List V)} {Ms : Nat → List (List V)}
theorem SlotAt.on {I : Option Addr} {j g : Nat} {P : Option Addr} {cp : Nat} {p : List Int} {M : List (List V)} (h : SlotAt X w I j g P cp p M) (hb : Below w.heap.size w w') : SlotAt X w' I j g P cp p M := by
  obtain ⟨b, o, e, hl, hx, h1, h2⟩ := h.row
  exact ⟨⟨b, o, e, Nat.lt_of_lt_of_le hl hb.size, hx, (keep hb _ _ hl).trans h1, (keep hb _ _ hl).trans h2⟩, h.idx.on hb⟩
theorem SlotAt.rowF {I : Option Addr} {j g : Nat} {P : Option Addr} {cp : Nat} {p : List Int} {M M' : List (List V)} (h : SlotAt X w I j g P cp p M) (hb : Fr X w.heap.size w w') (hi : IdxAt X w' g P cp p M') : SlotAt X w' I j g P cp p M' := by
  obtain ⟨b, o, e, hl, hx, h1, h2⟩ := h.row
  exact ⟨⟨b, o, e, Nat.lt_of_lt_of_le hl hb.size, hx, (hb.cell hl hx).trans h1, (hb.cell hl hx).trans h2⟩, hi⟩
theorem RelG.on (h : RelG X w r n g0 gs ps M0 Ms) (hb : Below w.heap.size w w') : RelG X w' r n g0 gs ps M0 Ms := by
  obtain ⟨P0, c0, I, ci, h1, h2, h3⟩ := h.cells
  exact ⟨h.few, h.many, h.offr, ⟨P0, c0, I, ci, (hb.block _ (Array.getElem?_eq_some_iff.1 h1).1).trans h1, h2.on hb, fun j p hp => by
    obtain ⟨g, P, cp, hg, hs⟩ := h3 j p hp
    exact ⟨g, P, cp, hg, hs.on hb⟩⟩, h.len, h.nodup, h.lens⟩
theorem RelG.lt (h : RelG X w r n g0 gs ps M0 Ms) : r < w.heap.size := by
  obtain ⟨P0, c0, I, ci, h1, h2, h3⟩ := h.cells
  exact (Array.getElem?_eq_some_iff.1 h1).1
theorem RelG.gs_x (h : RelG X w r n g0 gs ps M0 Ms) {j g : Nat} (hg : gs[j]? = some g) : X g ∧ g < w.heap.size ∧ g ≠ g0 := by
  obtain ⟨P0, c0, I, ci, h1, h2, h3⟩ := h.cells
  have hl := (List.getElem?_eq_some_iff.1 hg).1
  obtain ⟨g', P, cp, hg', hs⟩ := h3 j _ (List.getElem?_eq_getElem (by have := h.len; omega))
  rw [hg] at hg'; cases hg'
  exact ⟨hs.idx.t.mem, hs.idx.t.lt, fun e => by
    have := (List.nodup_cons.1 h.nodup).1
    exact this (e ▸ List.mem_of_getElem? hg)⟩
/-- The plain tree was written. -/
theorem RelG.put0 (h : RelG X w r n g0 gs ps M0 Ms) (ht : TreeS X w' g0 (upto n) M') (hF : Fr (· = g0) w.heap.size w w') : RelG X w' r n g0 gs ps M' Ms := by
  obtain ⟨P0, c0, I, ci, h1, h2, h3⟩ := h.cells
  have hx : Fr X w.heap.size w w' := hF.sub fun k _ hk => by subst hk; exact h2.t.mem
  refine ⟨h.few, h.many, h.offr, ⟨P0, c0, I, ci, (hx.block _ (Array.getElem?_eq_some_iff.1 h1).1 h.offr).trans h1, h2.put ht hF, fun j p hp => ?_⟩, h.len, h.nodup, h.lens⟩
  obtain ⟨g, P, cp, hg, hs⟩ := h3 j p hp
  exact ⟨g, P, cp, hg, hs.rowF hx (hs.idx.other h2.t.mem (h.gs_x hg).2.2 hF)⟩
/-- The tree of index i was written. -/
theorem RelG.putI (h : RelG X w r n g0 gs ps M0 Ms) {i g : Nat} {p : List Int} (hg : gs[i]? = some g) (hp : ps[i]? = some p) (ht : TreeS X w' g p M') (hF : Fr (· = g) w.heap.size w w') : RelG X w' r n g0 gs ps M0 (fun j => if j = i then M' else Ms j) := by
  obtain ⟨P0, c0, I, ci, h1, h2, h3⟩ := h.cells
  obtain ⟨hgX, hgl, hg0⟩ := h.gs_x hg
  have hx : Fr X w.heap.size w w' := hF.sub fun k _ hk => by subst hk; exact hgX
  refine ⟨h.few, h.many, h.offr, ⟨P0, c0, I, ci, (hx.block _ (Array.getElem?_eq_some_iff.1 h1).1 h.offr).trans h1, h2.other hgX (fun e => hg0 e.symm) hF, fun j q hq => ?_⟩, h.len, h.nodup, h.lens⟩
  obtain ⟨g', P, cp, hg', hs⟩ := h3 j q hq
  refine ⟨g', P, cp, hg', ?_⟩
  by_cases e : j = i
  · subst e
    rw [hg] at hg'; cases hg'
    rw [hp] at hq; cases hq
    show SlotAt X w' I j g P cp p (if j = j then M' else Ms j)
    rw [if_pos rfl]
    exact hs.rowF hx (hs.idx.put ht hF)
  · show SlotAt X w' I j g' P cp q (if j = i then M' else Ms j)
    rw [if_neg e]
    refine hs.rowF hx (hs.idx.other hgX (fun e2 => e ?_) hF)
    subst e2
    obtain ⟨l1, e1⟩ := List.getElem?_eq_some_iff.1 hg
    obtain ⟨l2, e2⟩ := List.getElem?_eq_some_iff.1 hg'
    have hnd := List.pairwise_iff_getElem.1 (List.nodup_cons.1 h.nodup).2
    rcases Nat.lt_trichotomy j i with hlt | rfl | hlt
    · exact absurd (e2.trans e1.symm) (hnd j i l2 l1 hlt)
    · rfl
    · exact absurd (e1.trans e2.symm) (hnd i j l1 l2 hlt)
/-- What each index holds hangs on the lists alone. -/
theorem RelG.same {Ms' : Nat → List (List V)} (h : RelG X w r n g0 gs ps M0 Ms) (he : ∀ j, j < ps.length → Ms j = Ms' j) : RelG X w r n g0 gs ps M0 Ms' := by
  obtain ⟨P0, c0, I, ci, h1, h2, h3⟩ := h.cells
  refine ⟨h.few, h.many, h.offr, ⟨P0, c0, I, ci, h1, h2, fun j p hp => ?_⟩, h.len, h.nodup, h.lens⟩
  obtain ⟨g, P, cp, hg, hs⟩ := h3 j p hp
  exact ⟨g, P, cp, hg, he j (List.getElem?_eq_some_iff.1 hp).1 ▸ hs⟩
end
/-- A relation to which the tuples of H were put, one after the other. -/
def RelS (X : Nat → Prop) (w : World) (r n g0 : Nat) (gs : List Nat) (ps : List (List Int)) (H : List (List V)) : Prop := RelG X w r n g0 gs ps (puts (upto n) H) (fun j => puts (ps.getD j []) H)
end Go.Proofs.YtpmkhpbhimmeiaaGreat
/-
  Package rel: contracts of Len, Arity, Has, All, Put.
-/
namespace Go.Proofs.YtpmkhpbhimmeiaaGreat
open Go.RowKit FloM ValM Go.Shelf
set_option linter.unusedVariables false
set_option linter.unusedSimpArgs false
section
variable {X : Nat → Prop} {w w' : World} {r n g0 : Nat} {gs : List Nat} {ps : List (List Int)} {M0 M' : List (List V)} {Ms : Nat → List (List V)}
theorem cell3 {w : World} {r : Nat} {a b c : Value} {t : TypeId} {z : Nat × Nat} (h : w.heap[r]? = some (.cells #[a, b, c] t z)) : w.cell? ⟨r, 0, none⟩ = some a ∧ w.cell? ⟨r, 1, none⟩ = some b ∧ w.cell? ⟨r, 2, none⟩ = some c := by
  refine ⟨?_, ?_, ?_⟩ <;> (unfold World.cell?; simp only; rw [h]; rfl)
theorem relLen_any (w : World) (h : RelG X w r n g0 gs ps M0 Ms) : Calls Tryz.prog 12 #[.pointer (some ⟨r, 0, none⟩)] w fun e w' => e = .returned (.int .i64 (M0.length : Nat)) ∧ w = w' := by
  obtain ⟨P0, c0, I, ci, h1, h2, h3⟩ := h.cells
  obtain ⟨a0, a1, a2⟩ := cell3 h1
  have HT := Lib.hid h2.t; clear h h1 h2 h3
  go_enter Tryz.func12, Tryz.ntmps12
  go_wp2_with (go_at_call 43; refine (lenS_any _ HT.out).mono ?_; rintro e w' ⟨rfl, rfl⟩)
  go_ret
  exact ⟨rfl, rfl⟩
theorem relArity_any (w : World) (h : RelG X w r n g0 gs ps M0 Ms) : Calls Tryz.prog 15 #[.pointer (some ⟨r, 0, none⟩)] w fun e w' => e = .returned (.int .i64 (n : Nat)) ∧ w = w' := by
  obtain ⟨P0, c0, I, ci, h1, h2, h3⟩ := h.cells
  obtain ⟨a0, a1, a2⟩ := cell3 h1
  clear h h1 h2 h3
  go_enter Tryz.func15, Tryz.ntmps15
  go_wp2
  go_ret
  exact ⟨rfl, rfl⟩
theorem relHas_any (A : Option Addr) (ca : Nat) (a : List V) (w : World) (h : RelG X w r n g0 gs ps M0 Ms) (hr : RdV w A a) : Calls Tryz.prog 13 #[.pointer (some ⟨r, 0, none⟩), .slice A a.length ca] w fun e w' => e = .returned (.bool (hasB (upto n) a M0)) ∧ Below w.heap.size w w' := by
  obtain ⟨P0, c0, I, ci, h1, h2, h3⟩ := h.cells
  obtain ⟨a0, a1, a2⟩ := cell3 h1
  have HT := Lib.hid h2.t; have HR := Lib.hid hr; clear h h1 h2 h3 hr
  go_enter Tryz.func13, Tryz.ntmps13
  go_wp2_with (go_at_call 44; refine (hasS_any A ca a _ HT.out HR.out).mono ?_; rintro e w' ⟨rfl, hb⟩; have HB := Lib.hid hb; clear hb)
  go_ret
  exact ⟨rfl, HB.out⟩
theorem relAll_any (w : World) (h : RelG X w r n g0 gs ps M0 Ms) (hX : ∀ k, X k → k < w.heap.size) (hM : M0.length ≤ 100000) : Calls Tryz.prog 17 #[.pointer (some ⟨r, 0, none⟩)] w fun e w' => ∃ A c xs, SaysT X M0 w e w' A c xs := by
  obtain ⟨P0, c0, I, ci, h1, h2, h3⟩ := h.cells
  obtain ⟨a0, a1, a2⟩ := cell3 h1
  have HT := Lib.hid h2.t; have HX := Lib.hid hX; clear h h1 h2 h3 hX
  go_enter Tryz.func17, Tryz.ntmps17
  go_wp2_with (first
    | (go_at_call 46; refine (allS_any _ HT.out HX.out).mono ?_; rintro e w5 ⟨gf, lb, rfl, hen, hq, hb⟩; have HQ := Lib.hid hq; have HEN := Lib.hid hen; have HB := Lib.hid hb; clear hb hq hen)
    | (go_at_call 45; refine (collect_any w5 w5 HEN.out HQ.out (Below.refl _ _) (Nat.le_refl _) (by omega) (fun k hk => Nat.lt_of_lt_of_le (HX.out k hk) HB.out.size)).mono ?_; rintro e w6 ⟨A, c, xs, hs⟩; have he := hs.val; subst he; have HS := Lib.hid hs; clear hs))
  go_ret
  exact ⟨A, c, xs, HS.out.vals, rfl, HS.out.rd, fun a ha => Nat.le_trans HB.out.size (HS.out.own a ha), HS.out.cap, HS.out.capm, HB.out.trans (HS.out.b.mono HB.out.size)⟩
theorem RelG.at_ (h : RelG X w r n g0 gs ps M0 Ms) {I : Option Addr} {m ci j : Nat} {p : List Int} (hc : w.cell? ⟨r, 2, none⟩ = some (.slice I m ci)) (hp : ps[j]? = some p) : ∃ g P cp, gs[j]? = some g ∧ SlotAt X w I j g P cp p (Ms j) := by
  obtain ⟨P0, c0, I', ci', h1, h2, h3⟩ := h.cells
  rw [(cell3 h1).2.2] at hc
  cases hc
  exact h3 j p hp
/-! ### Put -/
theorem RdV.onF0 {X : Nat → Prop} {w w' : World} {A : Option Addr} {l : List V} (h : RdV w A l) (hx : l ≠ [] → Off X A) (hb : Fr X w.heap.size w w') : RdV w' A l := by
  cases l with
  | nil => intro i v hv; simp at hv
  | cons a t => exact h.onF (hx (by simp)) hb
/-- The trees' blocks are among those that may be written. -/
theorem RelG.x_sub (h : RelG X w r n g0 gs ps M0 Ms) : ∀ k, (k = g0 ∨ k ∈ gs) → X k := fun k hk => by
  rcases hk with rfl | hk
  · obtain ⟨P0, c0, I, ci, h1, h2, h3⟩ := h.cells; exact h2.t.mem
  · obtain ⟨i, hi⟩ := List.getElem?_of_mem hk; exact (h.gs_x hi).1
theorem off_sub {X Y : Nat → Prop} {A : Option Addr} (h : Off X A) (hs : ∀ k, Y k → X k) : Off Y A := fun a ha hy => h a ha (hs _ hy)
def putMs (ps : List (List Int)) (a : List V) (Ms : Nat → List (List V)) (k : Nat) : Nat → List (List V) := fun j => if j < k then putM (ps.getD j []) a (Ms j) else Ms j
set_option maxHeartbeats 4000000 in
theorem relPut_any (A : Option Addr) (ca : Nat) (a : List V) (w : World) (h : RelG X w r n g0 gs ps M0 Ms) (hr : RdV w A a) (ho : a ≠ [] → Off (fun k => k = g0 ∨ k ∈ gs) A) (hX : ∀ k, X k → k < w.heap.size) (hM : M0.length < 100000) (hMs : ∀ j, j < ps.length → (Ms j).length < 100000) :
    Calls Tryz.prog 10 #[.pointer (some ⟨r, 0, none⟩), .slice A a.length ca] w fun e w' => e = .returned (.tuple #[.bool (putB (upto n) a M0), .int .i64 (putE (upto n) a)]) ∧
      RelG X w' r n g0 gs ps (putM (upto n) a M0) (if putB (upto n) a M0 then putMs ps a Ms ps.length else Ms) ∧ Fr (fun k => k = g0 ∨ k ∈ gs) w.heap.size w w' := by
  have HXR := Lib.hid h.x_sub
  have hmany := h.many; have hrl := h.lt
  have HG := Lib.hid h
  obtain ⟨P0, c0, I, ci, h1, h2, h3⟩ := h.cells
  obtain ⟨a0, a1, a2⟩ := cell3 h1
  have HT := Lib.hid h2.t; have HR := Lib.hid hr; have HX := Lib.hid hX; have HO := Lib.hid ho; have HMS := Lib.hid hMs
  clear h h2 h3 hr hX ho hMs
  obtain ⟨b, hb⟩ : ∃ b, putB (upto n) a M0 = b := ⟨_, rfl⟩
  obtain ⟨pe, hpe⟩ : ∃ pe, putE (upto n) a = pe := ⟨_, rfl⟩
  have hP := putS_any A ca a w HT.out HR.out hM HX.out
  rw [hb, hpe] at hP ⊢
  have HP := Lib.hid hP; have HB := Lib.hid hb; have HPE := Lib.hid hpe
  clear hP hb hpe
  cases b with
  | false =>
    go_enter Tryz.func10, Tryz.ntmps10
    go_wp2_with (go_at_call 40; refine HP.out.mono ?_; rintro e w5 ⟨rfl, ht, hF⟩; have HT5 := Lib.hid ht; have HF5 := Lib.hid hF; clear ht hF)
    go_ret2
    exact ⟨rfl, HG.out.put0 HT5.out HF5.out, HF5.out.sub fun k _ hk => .inl hk⟩
  | true =>
    go_enter Tryz.func10, Tryz.ntmps10
    go_wp2_with (go_at_call 40; refine HP.out.mono ?_; rintro e w5 ⟨rfl, ht, hF⟩; have HT5 := Lib.hid (HG.out.put0 ht hF); have HF5 := Lib.hid (show Fr (fun k => k = g0 ∨ k ∈ gs) w.heap.size w w5 from hF.sub fun k _ hk => .inl hk); have a2' := (HF5.out.cell hrl (fun hz => HG.out.offr (HXR.out _ hz)) (o := 2)).trans a2; clear ht hF)
    clear a0 a1 a2
    go_loopw [30] (fun v wr => ∃ k : Nat, v = .int .i64 (k : Nat) ∧ k ≤ ps.length ∧ RelG X wr r n g0 gs ps (putM (upto n) a M0) (putMs ps a Ms k) ∧ Fr (fun k => k = g0 ∨ k ∈ gs) w.heap.size w wr ∧ wr.cell? ⟨r, 2, none⟩ = some (.slice I ps.length ci)) (fun v _ => ps.length - (intOf v).toNat)
    case atStart => exact ⟨0, rfl, Nat.zero_le _, HT5.out, HF5.out, a2'⟩
    case round =>
      clear a2' HT5 HF5
      obtain ⟨k, rfl, hk, hG, hF, hc2⟩ := hrel
      by_cases hlt : k < ps.length
      · have hp := List.getElem?_eq_getElem hlt
        have hd : ps.getD k [] = ps[k] := by simp [List.getD, hp]
        have hMk := HMS.out k hlt
        generalize ps[k] = p at hp hd
        obtain ⟨g, P, cp, hg, hs⟩ := hG.at_ hc2 hp
        obtain ⟨b, o, rfl, hbl, hxb, c0, c1⟩ := hs.row
        have hwx : ∀ i, X i → i < (wr.alloc (.cells #[.pointer (some ⟨g, 0, none⟩), .slice P p.length cp] 72)).heap.size := fun i hi => by have := HX.out i hi; have := hF.size; simp; omega
        have hal : Below wr.heap.size wr (wr.alloc (.cells #[.pointer (some ⟨g, 0, none⟩), .slice P p.length cp] 72)) := (Below.refl _ _).alloc (Nat.le_refl _) _
        have hmk : putMs ps a Ms k k = Ms k := by unfold putMs; rw [if_neg (by omega)]
        have hti := hs.idx.t.on hal
        rw [hmk] at hti
        have HPK := Lib.hid (putS_any A ca a _ hti (HR.out.onF0 HO.out (hF.trans (Fr.of (hal.mono hF.size)))) hMk hwx)
        have HGK := Lib.hid (hG.on hal)
        have HGG := Lib.hid hg; have HPP := Lib.hid hp; have HFK := Lib.hid (hF.trans (Fr.of (hal.mono hF.size))); have HC2 := Lib.hid hc2; have HHD := Lib.hid hd; have HGX := Lib.hid (hG.gs_x hg).1
        have HCA := Lib.hid ((keep hal r 2 (by have := hF.size; omega)).trans hc2)
        obtain ⟨bq, hbq⟩ : ∃ bq, putB p a (Ms k) = bq := ⟨_, rfl⟩
        obtain ⟨pq, hpq⟩ : ∃ pq, putE p a = pq := ⟨_, rfl⟩
        rw [hbq, hpq] at HPK
        clear hti hG hF hs hg hp hal hmk hc2 hwx hd hbq hpq
        go_wp2_with (go_at_call 40; refine HPK.out.mono ?_; rintro e w6 ⟨rfl, ht, hF6⟩; have HT6 := Lib.hid ht; have HF6 := Lib.hid hF6; clear ht hF6)
        go_roundw
        case rel =>
          have hx6 : Fr (fun k => k = g0 ∨ k ∈ gs) _ _ w6 := HF6.out.sub fun i _ hi => by subst hi; exact .inr (List.mem_of_getElem? HGG.out)
          refine ⟨k + 1, by go_num, by omega, (HGK.out.putI HGG.out HPP.out HT6.out HF6.out).same fun j hj => ?_, HFK.out.trans (hx6.mono HFK.out.size), (hx6.cell (by have := HFK.out.size; omega) (fun hz => HGK.out.offr (HXR.out _ hz))).trans HCA.out⟩
          unfold putMs
          by_cases e : j = k
          · subst e; rw [if_pos rfl, if_pos (by omega), HHD.out]
          · rw [if_neg e]
            by_cases e2 : j < k
            · rw [if_pos e2, if_pos (by omega)]
            · rw [if_neg e2, if_neg (by omega)]
        case measure => simp [intOf]; omega
      · obtain rfl : k = ps.length := by omega
        have HGK := Lib.hid hG; have HFK := Lib.hid hF
        have HLN : Hid (a.length = n) := Lib.hid (by
          have := HB.out
          unfold putB at this
          simp at this
          rw [this.1, upto_len])
        clear hG hF hc2
        go_wp2
        go_ret2
        refine ⟨?_, HGK.out, HFK.out⟩
        rw [← HPE.out]
        unfold putE
        rw [if_pos (by rw [HLN.out, upto_len])]
        rfl
end
end Go.Proofs.YtpmkhpbhimmeiaaGreat
/-
  Package rel: contracts of Uses, and of Put over what was put.
-/
namespace Go.Proofs.YtpmkhpbhimmeiaaGreat
open Go.RowKit FloM ValM Go.Shelf
set_option linter.unusedVariables false
set_option linter.unusedSimpArgs false
theorem cell2 {w : World} {r : Nat} {a b : Value} {t : TypeId} {z : Nat × Nat} (h : w.heap[r]? = some (.cells #[a, b] t z)) : w.cell? ⟨r, 0, none⟩ = some a ∧ w.cell? ⟨r, 1, none⟩ = some b := by
  refine ⟨?_, ?_⟩ <;> (unfold World.cell?; simp only; rw [h]; rfl)
set_option maxHeartbeats 2000000 in
theorem uses1_any (ta : Option Addr) (P C : Option Addr) (cp cc cb : Nat) (p cols : List Int) (w : World) (hp : RdI w P p) (hc : RdI w C cols) (lp : p.length ≤ 1000) (lc : cols.length ≤ 1000) (hcb : w.cell? ⟨cb, 0, none⟩ = some (.slice C cols.length cc)) (hl : cb < w.heap.size) :
    Calls Tryz.prog 55 #[.agg #[.pointer ta, .slice P p.length cp], .pointer (some ⟨cb, 0, none⟩)] w fun e w' => e = .returned (.bool (decide (leadL cols p = cols.length))) ∧ Below w.heap.size w w' := by
  have hb0 : Below w.heap.size w (w.alloc (.cells #[.pointer ta, .slice P p.length cp] 72)) := (Below.refl _ _).alloc (Nat.le_refl _) _
  obtain ⟨x0, x1⟩ := cell2 (heap_alloc_new w (.cells #[.pointer ta, .slice P p.length cp] 72))
  have x2 := (keep hb0 cb 0 hl).trans hcb
  have HP := Lib.hid (hp.on hb0); have HC := Lib.hid (hc.on hb0); clear hp hc hcb
  obtain ⟨k, hk⟩ : ∃ k, leadL cols p = k := ⟨_, rfl⟩
  have HK := Lib.hid hk
  have hs1 : (w.alloc (.cells #[.pointer ta, .slice P p.length cp] 72)).heap.size = w.heap.size + 1 := by simp
  rw [hk]
  clear hk
  go_enter Tryz.func55, Tryz.ntmps55
  go_wp2_with fail
  generalize hW : w.alloc (.cells #[.pointer ta, .slice P p.length cp] 72) = W at *
  have hl1 : w.heap.size < W.heap.size := by omega
  have hl2 : cb < W.heap.size := by omega
  have HB0 := Lib.hid hb0
  clear hb0 hs1 hW
  have h4 : Below W.heap.size W W.drew := (Below.refl _ _).drew
  go_region_held3 (fun u => u.cell? ⟨w.heap.size, 0, none⟩ = some (.pointer ta) ∧ u.cell? ⟨w.heap.size, 1, none⟩ = some (.slice P p.length cp) ∧ u.cell? ⟨cb, 0, none⟩ = some (.slice C cols.length cc))
    (first | exact ⟨x0, x1, x2⟩ | exact ⟨(keep h4 _ _ hl1).trans x0, (keep h4 _ _ hl1).trans x1, (keep h4 _ _ hl2).trans x2⟩)
    ((go_at_call 56; refine (leading_any (.pointer ta) P C cp cc p cols _ (HP.out.on h4) (HC.out.on h4) lp lc ⟨_, rfl⟩).mono ?_; rw [HK.out]; rintro e w9 ⟨rfl, hb⟩; replace h4 := on h4 hb; clear hb))
  all_goals
    go_wp2
    go_ret
    refine ⟨?_, HB0.out.trans (h4.mono HB0.out.size)⟩
    exact congrArg (fun b => Ending.returned (.bool b)) (decide_eq_decide.2 (by omega))
/-- r is the number of the first permutation that begins with the columns, or -1. -/
def UsesR (cols : List Int) (ps : List (List Int)) (r : Int) : Prop := (r = -1 ∧ ∀ p ∈ ps, leadL cols p ≠ cols.length) ∨ ∃ k : Nat, r = (k : Int) ∧ k < ps.length ∧ (∃ p, ps[k]? = some p ∧ leadL cols p = cols.length) ∧ ∀ q ∈ ps.take k, leadL cols q ≠ cols.length
section
variable {X : Nat → Prop} {r n g0 : Nat} {gs : List Nat} {ps : List (List Int)} {M0 M' : List (List V)} {Ms : Nat → List (List V)}
set_option maxHeartbeats 4000000 in
theorem indexFunc_any (I : Option Addr) (ci cb cc : Nat) (C : Option Addr) (cols : List Int) (w : World) (h : RelG X w r n g0 gs ps M0 Ms) (hr : w.cell? ⟨r, 2, none⟩ = some (.slice I ps.length ci)) (hc : RdI w C cols) (lc : cols.length ≤ 1000) (hcb : w.cell? ⟨cb, 0, none⟩ = some (.slice C cols.length cc)) (hl : cb < w.heap.size) :
    Calls Tryz.prog 54 #[.slice I ps.length ci, .func (.func 55) #[] #[.pointer (some ⟨cb, 0, none⟩)]] w fun e w' => (∃ k, e = .returned (.int .i64 k) ∧ UsesR cols ps k) ∧ Below w.heap.size w w' := by
  have hmany := h.many; have hfew := h.few; have hrl := h.lt
  have HG := Lib.hid h; have HR := Lib.hid hr; have HC := Lib.hid hc; have HCB := Lib.hid hcb
  have hen : ∀ args w, (callFunc 55 args).run Tryz.prog w = .ok (.enter 55 args) w := enters_of Tryz.func55 (by kernel_rfl) rfl
  clear h hr hc hcb
  go_enter Tryz.func54, Tryz.ntmps54
  go_wp2
  go_loopw [8] (fun v wr => ∃ k : Nat, v = .int .i64 (k : Nat) ∧ k ≤ ps.length ∧ (∀ q ∈ ps.take k, leadL cols q ≠ cols.length) ∧ Below w.heap.size w wr) (fun v _ => ps.length - (intOf v).toNat)
  case atStart => exact ⟨0, rfl, Nat.zero_le _, by simp, Below.refl _ _⟩
  case round =>
    obtain ⟨k, rfl, hk, hn, hB⟩ := hrel
    have HN := Lib.hid hn; clear hn
    by_cases hlt : k < ps.length
    · have hp := List.getElem?_eq_getElem hlt
      generalize ps[k] = p at hp
      obtain ⟨g, P, cp, hg, hs⟩ := HG.out.at_ HR.out hp
      have hpl : p.length ≤ 1000 := by have := HG.out.lens p (List.mem_of_getElem? hp); omega
      obtain ⟨b, o, rfl, hbl, hxb, c0', c1'⟩ := hs.row
      have c0 := (keep hB _ _ hbl).trans c0'
      have c1 := (keep hB _ _ hbl).trans c1'
      have HU := Lib.hid (uses1_any (some ⟨g, 0, none⟩) P C cp cc cb p cols wr (hs.idx.rp.on hB) (HC.out.on hB) hpl lc ((keep hB _ _ hl).trans HCB.out) (Nat.lt_of_lt_of_le hl hB.size))
      have HPP := Lib.hid hp
      obtain ⟨q, hq⟩ : ∃ q, decide (leadL cols p = cols.length) = q := ⟨_, rfl⟩
      rw [hq] at HU
      have HQ := Lib.hid hq
      clear hs hp c0' c1' hq
      cases q with
      | true =>
        go_wp2_with (go_at_call 55; refine HU.out.mono ?_; rintro e w5 ⟨rfl, hb⟩; have HB := Lib.hid hb; clear hb)
        go_ret
        exact ⟨⟨_, rfl, .inr ⟨k, rfl, hlt, ⟨p, HPP.out, of_decide_eq_true HQ.out⟩, HN.out⟩⟩, on hB HB.out⟩
      | false =>
        go_wp2_with (go_at_call 55; refine HU.out.mono ?_; rintro e w5 ⟨rfl, hb⟩; have HB := Lib.hid hb; clear hb)
        refine ⟨⟨k + 1, by go_num, by omega, ?_, on hB HB.out⟩, by simp [intOf]; omega⟩
        intro q hq
        rw [take_snoc' HPP.out, List.mem_append, List.mem_singleton] at hq
        rcases hq with hq | rfl
        · exact HN.out q hq
        · exact of_decide_eq_false HQ.out
    · obtain rfl : k = ps.length := by omega
      go_wp2
      go_ret
      refine ⟨⟨_, rfl, .inl ⟨rfl, fun q hq => ?_⟩⟩, hB⟩
      have := HN.out
      rw [List.take_of_length_le (Nat.le_refl _)] at this
      exact this q hq
set_option maxHeartbeats 2000000 in
theorem relUses_any (C : Option Addr) (cc : Nat) (cols : List Int) (w : World) (h : RelG X w r n g0 gs ps M0 Ms) (hc : RdI w C cols) (lc : cols.length ≤ 1000) :
    Calls Tryz.prog 20 #[.pointer (some ⟨r, 0, none⟩), .slice C cols.length cc] w fun e w' => (∃ k, e = .returned (.int .i64 k) ∧ UsesR cols ps k) ∧ Below w.heap.size w w' := by
  have hb0 : Below w.heap.size w (w.alloc (.cells #[.slice C cols.length cc] 24)) := (Below.refl _ _).alloc (Nat.le_refl _) _
  have hrl := h.lt
  obtain ⟨P0, c0, I, ci, h1, h2, h3⟩ := h.cells
  have a2 := (keep hb0 r 2 hrl).trans (cell3 h1).2.2
  have HI := Lib.hid (indexFunc_any I ci w.heap.size cc C cols (w.alloc (.cells #[.slice C cols.length cc] 24)) (h.on hb0) a2 (hc.on hb0) lc (cell_box' (heap_alloc_new _ _)) (by simp))
  have hmf : ∀ (fn : Fn) (first cap : Array Value) (w : World), (Instr.makeFunc fn first cap).run Tryz.prog w = .ok (.func fn first cap) w := fun _ _ _ _ => rfl
  clear h h1 h2 h3 hc
  go_enter Tryz.func20, Tryz.ntmps20
  go_wp2_with (go_at_call 54; refine HI.out.mono ?_; rintro e w5 ⟨⟨k, rfl, hu⟩, hb⟩; have HB := Lib.hid hb; have HU := Lib.hid hu; clear hb hu)
  go_ret
  exact ⟨⟨k, rfl, HU.out⟩, on hb0 HB.out⟩
theorem relUses_nil (C : Option Addr) (m cc : Nat) (w : World) : Calls Tryz.prog 20 #[.pointer none, .slice C m cc] w fun e w' => e = .returned (.int .i64 (-1)) ∧ Below w.heap.size w w' := by
  go_enter Tryz.func20, Tryz.ntmps20
  go_wp2
  go_ret
  exact ⟨rfl, (Below.refl _ _).alloc (Nat.le_refl _) _⟩
/-! ### Put over what was put -/
theorem putM_len_le (p : List Int) (a : List V) (M : List (List V)) : (putM p a M).length ≤ M.length + 1 := by
  unfold putM; split
  · exact ins_len p a M
  · omega
theorem RelS.put {w w' : World} {H : List (List V)} {a : List V} (h : RelS X w r n g0 gs ps H) (hg : RelG X w' r n g0 gs ps (putM (upto n) a (puts (upto n) H)) (if putB (upto n) a (puts (upto n) H) then putMs ps a (fun j => puts (ps.getD j []) H) ps.length else fun j => puts (ps.getD j []) H)) : RelS X w' r n g0 gs ps (H ++ [a]) := by
  unfold RelS
  have hlens := h.lens
  have hperm : ∀ j, j < ps.length → permB (ps.getD j []) = true ∧ (ps.getD j []).length = n := fun j hj => by
    obtain ⟨P0, c0, I, ci, h1, h2, h3⟩ := h.cells
    have hp := List.getElem?_eq_getElem hj
    obtain ⟨g, P, cp, hgg, hs⟩ := h3 j _ hp
    have hd : ps.getD j [] = ps[j] := by simp [List.getD, hp]
    rw [hd]
    exact ⟨hs.idx.t.perm, hlens _ (List.mem_of_getElem? hp)⟩
  rw [puts_snoc]
  refine RelG.same hg fun j hj => ?_
  obtain ⟨h1, h2⟩ := hperm j hj
  rw [puts_snoc]
  cases hb : putB (upto n) a (puts (upto n) H) with
  | true =>
    show putMs ps a (fun j => puts (ps.getD j []) H) ps.length j = _
    unfold putMs; rw [if_pos hj]
  | false =>
    show puts (ps.getD j []) H = _
    refine (putM_same h1 (puts_fit _ _) fun hl => ?_).symm
    refine (puts_mem h1 H).2 ⟨?_, hl⟩
    have hin : inS (upto n) a (puts (upto n) H) = true := by
      unfold putB at hb
      rw [decide_eq_true (by rw [upto_len, hl, h2])] at hb
      simpa using hb
    exact ((puts_mem (upto_perm n) H).1 ((inS_mem (upto_perm n) (by rw [upto_len, hl, h2]) (puts_fit _ _).lens).1 hin)).1
theorem relPutS_any (A : Option Addr) (ca : Nat) (a : List V) (w : World) {H : List (List V)} (h : RelS X w r n g0 gs ps H) (hr : RdV w A a) (ho : a ≠ [] → Off (fun k => k = g0 ∨ k ∈ gs) A) (hX : ∀ k, X k → k < w.heap.size) (hH : H.length < 100000) :
    Calls Tryz.prog 10 #[.pointer (some ⟨r, 0, none⟩), .slice A a.length ca] w fun e w' => e = .returned (.tuple #[.bool (putB (upto n) a (puts (upto n) H)), .int .i64 (putE (upto n) a)]) ∧ RelS X w' r n g0 gs ps (H ++ [a]) ∧ Fr (fun k => k = g0 ∨ k ∈ gs) w.heap.size w w' := by
  refine (relPut_any A ca a w h hr ho hX (Nat.lt_of_le_of_lt (puts_len _ _) hH) (fun j _ => Nat.lt_of_le_of_lt (puts_len _ _) hH)).mono ?_
  rintro e w' ⟨rfl, hg, hF⟩
  exact ⟨rfl, h.put hg, hF⟩
end
end Go.Proofs.YtpmkhpbhimmeiaaGreat
/-
  Package rel: contracts of plainOrder, newIndex, distinct.
-/
namespace Go.Proofs.YtpmkhpbhimmeiaaGreat
open Go.RowKit FloM ValM Go.Shelf
set_option linter.unusedVariables false
set_option linter.unusedSimpArgs false
theorem rdI_rowIs {w : World} {g n : Nat} {f : Nat → Value} {l : List Int} (h : w.rowIs g 3 n f) (hl : ∀ i x, l[i]? = some x → i < n ∧ f i = .int .i64 x) : RdI w (some ⟨g, 0, none⟩) l := fun i x hx => by
  obtain ⟨hi, e⟩ := hl i x hx
  have h0 := h
  obtain ⟨c, hg, _⟩ := h
  exact ⟨g, 0, rfl, (Array.getElem?_eq_some_iff.1 hg).1, by rw [Nat.zero_add]; exact (World.rowIs.cell h0 hi).trans (congrArg some e)⟩
def plainF (k : Nat) (i : Nat) : Value := .int .i64 (if i < k then (i : Int) else 0)
set_option maxHeartbeats 1000000 in
theorem plainOrder_any (n : Nat) (w : World) (hn : n ≤ 1000) : Calls Tryz.prog 36 #[.int .i64 (n : Int)] w fun e w' => ∃ A c, e = .returned (.slice A n c) ∧ RdI w' A (upto n) ∧ Below w.heap.size w w' := by
  have hmk := fun W => run_make_row' (P := Tryz.prog) 24 3 (.int .i64 0) 8 Tryz.underlying24 info_int rfl .i64 .i64 n (by omega) (by omega) W
  go_enter Tryz.func36, Tryz.ntmps36
  go_wp2
  go_loopw [9] (fun i wr => ∃ k : Nat, i = .int .i64 (k : Nat) ∧ k ≤ n ∧ Below w.heap.size w wr ∧ wr.rowIs w.heap.size 3 n (plainF k)) (fun i _ => n - (intOf i).toNat)
  case atStart =>
    refine ⟨0, rfl, Nat.zero_le _, (Below.refl _ _).alloc (Nat.le_refl _) _, ?_⟩
    exact (World.rowIs_made w (.int .i64 0) n 3).congr fun i _ => by simp [plainF]
  case round =>
    obtain ⟨k, rfl, hk, hB, hrow⟩ := hrel
    have HRow := Lib.hid hrow; clear hrow hmk
    by_cases hlt : k < n
    · have hcell := HRow.out.cell hlt
      have hfro := HRow.out.frozen k
      have hv : plainF k k = .int .i64 0 := by unfold plainF; rw [if_neg (by omega)]
      rw [hv] at hcell
      clear hv
      go_wp2
      go_roundw
      case rel =>
        refine ⟨k + 1, by go_num, by omega, hB.setCell (Nat.le_refl _) _, ?_⟩
        have := HRow.out.set k (.int .i64 k)
        exact this.congr fun i _ => by
          unfold plainF
          by_cases e : i = k
          · subst e; simp
          · by_cases e2 : i < k
            · simp [e, e2]; omega
            · simp [e, e2]; omega
      case measure => simp [intOf]; omega
    · obtain rfl : k = n := by omega
      go_wp2
      go_ret
      refine ⟨_, _, rfl, rdI_rowIs HRow.out fun i x hx => ?_, hB⟩
      rw [upto_at] at hx
      split at hx
      · rename_i hi; cases hx; exact ⟨hi, by unfold plainF; rw [if_pos hi]⟩
      · cases hx
/-! ### newIndex -/
theorem results_cellI {fn : Func} {p u : Tmp} (h : fn.results = #[.cell p 72, .tmp u]) (tmps : Array Value) (w : World) (g : Nat) (a b : Value) (t : TypeId) (z : Nat × Nat) (hp : tmps.getD p undef = .pointer (some ⟨g, 0, none⟩)) (hg : w.heap[g]? = some (.cells #[a, b] t z)) : (results fn tmps).run Tryz.prog w = .ok (.tuple #[.agg #[a, b], tmps.getD u undef]) w := by
  rw [results_cell_tmp h, hp]
  have := run_loadVar_row (P := Tryz.prog) w g t 72 #[a, b] z _ hg Tryz.underlying72 rfl (by kernel_rfl)
  simp [asAddr, this, Result.andThen]
theorem store2 {w : World} {D : Nat} {a b : Value} {t : TypeId} {z : Nat × Nat} (h : w.heap[D]? = some (.cells #[a, b] t z)) (x y : Value) : ((w.setCell ⟨D, 0, none⟩ x).setCell ⟨D, 1, none⟩ y).heap[D]? = some (.cells #[x, y] t z) := by
  have h1 := heap_set' (w := w) (D := D) (o := 0) (cs := [a, b]) (t := t) (z := z) x h
  have h2 := heap_set' (w := w.setCell ⟨D, 0, none⟩ x) (D := D) (o := 1) (cs := [x, b]) (t := t) (z := z) y h1
  exact h2
/-- What newIndex hands back: the tree's block and the permutation's row are new. -/
structure IdxC (p : List Int) (w w' : World) (g : Nat) (P : Option Addr) (cp : Nat) : Prop where
  t : ∀ Y : Nat → Prop, Y g → (∀ k, Y k → k < w.heap.size ∨ k = g ∨ w'.heap.size ≤ k) → TreeS Y w' g p []
  fresh : w.heap.size ≤ g
  rp : RdI w' P p
  row : ∀ a, P = some a → g < a.block ∧ a.block < w'.heap.size
  cap : p.length ≤ cp
  capm : cp ≤ maxLen
  b : Below w.heap.size w w'
set_option maxHeartbeats 2000000 in
theorem newIndex_far (ar : Int) (A : Option Addr) (c m : Nat) (w : World) (h : ar ≠ (m : Int)) (hm : m ≤ maxLen) : Calls Tryz.prog 35 #[.int .i64 ar, .slice A m c] w fun e w' => e = .returned (.tuple #[.agg #[.pointer none, .slice none 0 0], .int .i64 1]) ∧ Below w.heap.size w w' := by
  have h' : ((m : Int) == ar) = false := by simpa using fun e => h e.symm
  go_enter Tryz.func35, Tryz.ntmps35
  go_wp2
  refine bodyPost_ret (results_cellI rfl _ _ w.heap.size _ _ _ _ rfl (heap_alloc_new _ _)) rfl ?_
  exact ⟨rfl, (Below.refl _ _).alloc (Nat.le_refl _) _⟩
set_option maxHeartbeats 2000000 in
theorem newIndex_bad (A : Option Addr) (c : Nat) (p : List Int) (w : World) (hp : RdI w A p) (hl : p.length ≤ 8) (hb : permB p = false) : Calls Tryz.prog 35 #[.int .i64 (p.length : Int), .slice A p.length c] w fun e w' => e = .returned (.tuple #[.agg #[.pointer none, .slice none 0 0], .int .i64 1]) ∧ Below w.heap.size w w' := by
  have h0 : Below w.heap.size w (w.alloc (.cells #[.pointer none, .slice none 0 0] 72)) := (Below.refl _ _).alloc (Nat.le_refl _) _
  have HN := Lib.hid (new_bad A c p _ hl (hp.on h0) hb)
  have hbx := heap_alloc_new w (.cells #[.pointer none, .slice none 0 0] 72)
  have hHN : w.heap.size < (w.alloc (.cells #[.pointer none, .slice none 0 0] 72)).heap.size := by simp
  have HBX := Lib.hid hbx
  clear hp hb hbx
  go_enter Tryz.func35, Tryz.ntmps35
  go_wp2_with (go_at_call 61; refine HN.out.mono ?_; rintro e w1 ⟨rfl, h1⟩; have hq := (h1.block _ hHN).trans HBX.out; obtain ⟨q0, q1⟩ := cell2 hq; have f0 : w1.frozen? ⟨w.heap.size, 0, none⟩ = false := (by simp [World.frozen?, hq]); have f1 : w1.frozen? ⟨w.heap.size, 1, none⟩ = false := (by simp [World.frozen?, hq]); have HQ := Lib.hid hq; have HB1 := Lib.hid h1; clear hq h1)
  refine bodyPost_ret (results_cellI rfl _ _ w.heap.size _ _ _ _ rfl (store2 HQ.out _ _)) rfl ?_
  exact ⟨rfl, ((h0.trans (HB1.out.mono (by simp))).setCell (Nat.le_refl _) _).setCell (Nat.le_refl _) _⟩
set_option maxHeartbeats 2000000 in
theorem newIndex_any (A : Option Addr) (c : Nat) (p : List Int) (w : World) (hp : RdI w A p) (hl : p.length ≤ 8) (hb : permB p = true) : Calls Tryz.prog 35 #[.int .i64 (p.length : Int), .slice A p.length c] w fun e w' => ∃ g P cp, e = .returned (.tuple #[.agg #[.pointer (some ⟨g, 0, none⟩), .slice P p.length cp], .int .i64 0]) ∧ IdxC p w w' g P cp := by
  have h0 : Below w.heap.size w (w.alloc (.cells #[.pointer none, .slice none 0 0] 72)) := (Below.refl _ _).alloc (Nat.le_refl _) _
  have HN := Lib.hid (new_any A c p _ hl (hp.on h0) hb)
  have hbx := heap_alloc_new w (.cells #[.pointer none, .slice none 0 0] 72)
  have hHN : w.heap.size < (w.alloc (.cells #[.pointer none, .slice none 0 0] 72)).heap.size := by simp
  have HBX := Lib.hid hbx
  have HP := Lib.hid (hp.on h0)
  clear hp hbx
  go_enter Tryz.func35, Tryz.ntmps35
  go_wp2_with (first
    | (go_at_call 61; refine HN.out.mono ?_; rintro e w1 ⟨g, P1, cp1, rfl, N⟩; have HNC := Lib.hid N; clear N)
    | (go_at_call 62; refine (cloneI_in A c p _ (HP.out.on HNC.out.b) (by omega)).mono ?_; rintro e w2 ⟨P', c', rfl, hr, ho, hc1, hc2, h2⟩; have hq := (h2.block _ (Nat.lt_of_lt_of_le hHN HNC.out.b.size)).trans ((HNC.out.b.block _ hHN).trans HBX.out); obtain ⟨q0, q1⟩ := cell2 hq; have f0 : w2.frozen? ⟨w.heap.size, 0, none⟩ = false := (by simp [World.frozen?, hq]); have f1 : w2.frozen? ⟨w.heap.size, 1, none⟩ = false := (by simp [World.frozen?, hq]); have HQ := Lib.hid hq; have HB2 := Lib.hid h2; have HO := Lib.hid ho; have HRR := Lib.hid hr; clear hq h2 ho hr))
  refine bodyPost_ret (results_cellI rfl _ _ w.heap.size _ _ _ _ rfl (store2 HQ.out _ _)) rfl ?_
  have hgf := HNC.out.fresh
  rw [World.size_alloc] at hgf
  have hgl := HNC.out.lt
  have hg2 : g < w2.heap.size := Nat.lt_of_lt_of_le hgl HB2.out.size
  have hF : Fr (· = w.heap.size) w2.heap.size w2 ((w2.setCell ⟨w.heap.size, 0, none⟩ (.pointer (some ⟨g, 0, none⟩))).setCell ⟨w.heap.size, 1, none⟩ (.slice P' p.length c')) := (fr_set w2 _ 0 _ _).trans (fr_set _ _ 1 _ _)
  have hbl : Below w.heap.size w w2 := (h0.trans (HNC.out.b.mono (by simp))).trans (HB2.out.mono (by have := HNC.out.b.size; simp at this; omega))
  have hne : ∀ a, P' = some a → a.block ≠ w.heap.size := fun a ha e => by have := (HO.out a ha).1; omega
  have ht2 : ∀ Y : Nat → Prop, Y g → (∀ k, Y k → k < w.heap.size ∨ k = g ∨ ((w2.setCell ⟨w.heap.size, 0, none⟩ (.pointer (some ⟨g, 0, none⟩))).setCell ⟨w.heap.size, 1, none⟩ (.slice P' p.length c')).heap.size ≤ k) → TreeS Y ((w2.setCell ⟨w.heap.size, 0, none⟩ (.pointer (some ⟨g, 0, none⟩))).setCell ⟨w.heap.size, 1, none⟩ (.slice P' p.length c')) g p [] := fun Y hY hYk => by
    have ht : TreeS (fun k => Y k ∨ k = w.heap.size) w2 g p [] := TreeS.start HNC.out HB2.out (.inl hY) (fun a ha e => by
      have h1 := HNC.out.row a ha
      have h2 := HNC.out.row' a ha
      rw [World.size_alloc] at h1
      have h3 := hF.size
      rcases e with e | e
      · have := hYk _ e; omega
      · omega) hb hl
    exact (ht.onF (hF.sub fun k _ hk => .inr hk) (hF.block _ hg2 (by omega))).sub (X := Y) (fun k hk => .inl hk) hY
  refine ⟨g, P', c', rfl, ht2, by omega, HRR.out.onF (fun a ha e => hne a ha e) hF, fun a ha => ⟨by have := (HO.out a ha).1; omega, Nat.lt_of_lt_of_le (HO.out a ha).2 hF.size⟩, hc1, hc2, hbl.trans (hF.below hbl.size fun k hk e => by omega)⟩
end Go.Proofs.YtpmkhpbhimmeiaaGreat
/-
  Package rel: contract of distinct.
-/
namespace Go.Proofs.YtpmkhpbhimmeiaaGreat
open Go.RowKit FloM ValM Go.Shelf
set_option linter.unusedVariables false
set_option linter.unusedSimpArgs false
def distB (n : Nat) (cols : List Int) : Bool := cols.all (inR n) && decide cols.Nodup
theorem distB_iff {n : Nat} {cols : List Int} : distB n cols = true ↔ (∀ x ∈ cols, inR n x = true) ∧ cols.Nodup := by
  unfold distB; rw [Bool.and_eq_true, List.all_eq_true, decide_eq_true_eq]
def sawF (l : List Int) (i : Nat) : Value := .bool (decide ((i : Int) ∈ l))
section
variable {X : Nat → Prop} {r n g0 : Nat} {gs : List Nat} {ps : List (List Int)} {M0 M' : List (List V)} {Ms : Nat → List (List V)}
set_option maxHeartbeats 4000000 in
theorem distinct_any (C : Option Addr) (cc : Nat) (cols : List Int) (w : World) (h : RelG X w r n g0 gs ps M0 Ms) (hc : RdI w C cols) (lc : cols.length ≤ 1000) :
    Calls Tryz.prog 47 #[.pointer (some ⟨r, 0, none⟩), .slice C cols.length cc] w fun e w' => e = .returned (.bool (distB n cols)) ∧ Below w.heap.size w w' := by
  have hfew := h.few
  have HG := Lib.hid h; have HC := Lib.hid hc; clear h hc
  go_enter Tryz.func47, Tryz.ntmps47
  go_wp2
  go_loopw [10] (fun i wr => ∃ k : Nat, i = .int .i64 (k : Nat) ∧ k ≤ cols.length ∧ Below w.heap.size w wr ∧ wr.rowIs w.heap.size 116 8 (sawF (cols.take k)) ∧ (∀ x ∈ cols.take k, inR n x = true) ∧ (cols.take k).Nodup) (fun i _ => cols.length - (intOf i).toNat)
  case atStart =>
    refine ⟨0, rfl, Nat.zero_le _, (Below.refl _ _).alloc (Nat.le_refl _) _, ?_, by simp, by simp⟩
    refine World.rowIs_alloc w _ _ _ fun i hi => ?_
    have : i < 8 := hi
    rcases i with _ | _ | _ | _ | _ | _ | _ | _ | i <;> first | rfl | omega
  case round =>
    obtain ⟨k, rfl, hk, hB, hrow, hin, hnd⟩ := hrel
    have HRow := Lib.hid hrow; have HIN := Lib.hid hin; have HND := Lib.hid hnd; clear hrow hin hnd
    by_cases hlt : k < cols.length
    · obtain ⟨b, o, rfl, hb, hcs⟩ := HC.out.row (by omega)
      have hx := List.getElem?_eq_getElem hlt
      generalize cols[k] = x at hx
      have cx := (keep hB _ _ hb).trans (hcs k x hx)
      have HX := Lib.hid hx; clear hcs hx
      have HGR := Lib.hid (HG.out.on hB)
      have hmem : x ∈ cols := List.mem_of_getElem? HX.out
      have HM := Lib.hid hmem; clear hmem
      by_cases h0 : x < 0
      · have HF : Hid (distB n cols = false) := Lib.hid (Bool.eq_false_iff.2 fun h => by
          have := (distB_iff.1 h).1 x HM.out
          have := (inR_iff.1 this).1; omega)
        go_wp2_with (go_at_call 15; refine (relArity_any _ HGR.out).mono ?_; rintro e w' ⟨rfl, rfl⟩)
        go_ret
        exact ⟨by rw [HF.out]; rfl, hB⟩
      · by_cases h1 : (n : Int) ≤ x
        · have HF : Hid (distB n cols = false) := Lib.hid (Bool.eq_false_iff.2 fun h => by
            have := (distB_iff.1 h).1 x HM.out
            have := (inR_iff.1 this).2; omega)
          go_wp2_with (go_at_call 15; refine (relArity_any _ HGR.out).mono ?_; rintro e w' ⟨rfl, rfl⟩)
          go_ret
          exact ⟨by rw [HF.out]; rfl, hB⟩
        · obtain ⟨m, rfl⟩ := Int.eq_ofNat_of_zero_le (show 0 ≤ x by omega)
          have hmn : m < n := by omega
          have hm8 : (m : Int) < 8 := by omega
          have hm0 : (0 : Int) ≤ (m : Int) := by omega
          have hcell := HRow.out.cell (i := m) (by omega)
          have hfro := HRow.out.frozen m
          by_cases hs : (m : Int) ∈ cols.take k
          · have hv : sawF (cols.take k) m = .bool true := by unfold sawF; rw [decide_eq_true hs]
            rw [hv] at hcell
            have HF : Hid (distB n cols = false) := Lib.hid (Bool.eq_false_iff.2 fun h => by
              have hn := (distB_iff.1 h).2
              rw [split_take HX.out, List.nodup_append] at hn
              exact hn.2.2 _ hs _ (List.mem_cons_self ..) rfl)
            clear hv hs
            go_wp2_with (go_at_call 15; refine (relArity_any _ HGR.out).mono ?_; rintro e w' ⟨rfl, rfl⟩)
            go_ret
            exact ⟨by rw [HF.out]; rfl, hB⟩
          · have hv : sawF (cols.take k) m = .bool false := by unfold sawF; rw [decide_eq_false hs]
            rw [hv] at hcell
            have HS := Lib.hid hs
            clear hv hs
            go_wp2_with (go_at_call 15; refine (relArity_any _ HGR.out).mono ?_; rintro e w' ⟨rfl, rfl⟩)
            refine ⟨⟨k + 1, by go_num, by omega, hB.setCell (Nat.le_refl _) _, ?_, ?_, ?_⟩, by simp [intOf]; omega⟩
            · refine (HRow.out.set m (.bool true)).congr fun i _ => ?_
              unfold sawF
              rw [take_snoc' HX.out]
              by_cases e : i = m
              · subst e; simp
              · simp [e]; omega
            · rw [take_snoc' HX.out]
              intro y hy
              rw [List.mem_append, List.mem_singleton] at hy
              rcases hy with hy | rfl
              · exact HIN.out y hy
              · exact inR_iff.2 ⟨by omega, by omega⟩
            · rw [take_snoc' HX.out, List.nodup_append]
              exact ⟨HND.out, by simp, fun a ha b hb e => by rw [List.mem_singleton] at hb; subst hb; subst e; exact HS.out ha⟩
    · obtain rfl : k = cols.length := by omega
      have HT : Hid (distB n cols = true) := Lib.hid (by
        have h1 := HIN.out; have h2 := HND.out
        rw [List.take_of_length_le (Nat.le_refl _)] at h1 h2
        exact distB_iff.2 ⟨h1, h2⟩)
      go_wp2
      go_ret
      exact ⟨by rw [HT.out]; rfl, hB⟩
end
end Go.Proofs.YtpmkhpbhimmeiaaGreat
/-
  Package rel: a relation while New makes it, one index after the other.
-/
namespace Go.Proofs.YtpmkhpbhimmeiaaGreat
open Go.RowKit FloM ValM Go.Shelf
set_option linter.unusedVariables false
set_option linter.unusedSimpArgs false
/-- An index's record. -/
structure Ix where
  g : Nat
  P : Option Addr
  c : Nat
  p : List Int
  M : List (List V)
def Ix.cells (e : Ix) : List Value := [.pointer (some ⟨e.g, 0, none⟩), .slice e.P e.p.length e.c]
def ixCells (es : List Ix) : List Value := es.flatMap Ix.cells
theorem ixCells_snoc (es : List Ix) (e : Ix) : ixCells (es ++ [e]) = ixCells es ++ e.cells := by simp [ixCells]
theorem ixCells_len : ∀ es : List Ix, (ixCells es).length = es.length * 2
  | [] => rfl
  | e :: es => by have := ixCells_len es; simp only [ixCells, List.flatMap_cons, List.length_append, List.length_cons] at *; simp only [Ix.cells, List.length_cons, List.length_nil]; omega
theorem ixCells_at : ∀ {es : List Ix} {j : Nat} {e : Ix}, es[j]? = some e → (ixCells es)[j * 2]? = some (.pointer (some ⟨e.g, 0, none⟩)) ∧ (ixCells es)[j * 2 + 1]? = some (.slice e.P e.p.length e.c)
  | x :: es, 0, e, h => by cases h; exact ⟨rfl, rfl⟩
  | x :: es, j + 1, e, h => by
    obtain ⟨h1, h2⟩ := ixCells_at (es := es) (j := j) (e := e) h
    have e1 : ixCells (x :: es) = x.cells ++ ixCells es := by simp [ixCells]
    have hl : x.cells.length = 2 := rfl
    rw [e1, List.getElem?_append_right (by omega), List.getElem?_append_right (by omega), hl]
    exact ⟨by rw [show (j + 1) * 2 - 2 = j * 2 by omega]; exact h1, by rw [show (j + 1) * 2 + 1 - 2 = j * 2 + 1 by omega]; exact h2⟩
theorem IdxAt.onF {X : Nat → Prop} {w w' : World} {g : Nat} {P : Option Addr} {cp : Nat} {p : List Int} {M : List (List V)} (h : IdxAt X w g P cp p M) (hF : Fr X w.heap.size w w') (hg : w'.heap[g]? = w.heap[g]?) : IdxAt X w' g P cp p M :=
  ⟨h.t.onF hF hg, h.rp.onF h.offP hF, h.offP, fun a ha => Nat.lt_of_lt_of_le (h.inP a ha) hF.size, h.cap, h.capm⟩
theorem IdxAt.sub {X Y : Nat → Prop} {w : World} {g : Nat} {P : Option Addr} {cp : Nat} {p : List Int} {M : List (List V)} (hXY : ∀ b, X b → Y b) (hg : X g) (h : IdxAt Y w g P cp p M) : IdxAt X w g P cp p M :=
  ⟨h.t.sub hXY hg, h.rp, fun a ha hx => h.offP a ha (hXY _ hx), h.inP, h.cap, h.capm⟩
/-! ### Relations beside others -/
section
variable {X Y Z : Nat → Prop} {w w' : World} {r n g0 : Nat} {gs : List Nat} {ps : List (List Int)} {M0 : List (List V)} {Ms : Nat → List (List V)}
theorem RelG.x_lt {X : Nat → Prop} {w : World} {M0 : List (List V)} {Ms : Nat → List (List V)} (h : RelG X w r n g0 gs ps M0 Ms) : ∀ k, (k = g0 ∨ k ∈ gs) → k < w.heap.size := fun k hk => by
  rcases hk with rfl | hk
  · obtain ⟨P0, c0, I, ci, h1, h2, h3⟩ := h.cells; exact h2.t.lt
  · obtain ⟨i, hi⟩ := List.getElem?_of_mem hk; exact (h.gs_x hi).2.1
theorem RelG.g0_lt (h : RelG X w r n g0 gs ps M0 Ms) : g0 < w.heap.size := by
  obtain ⟨P0, c0, I, ci, h1, h2, h3⟩ := h.cells; exact h2.t.lt
/-- Other trees of X were written. -/
theorem RelG.onF (h : RelG X w r n g0 gs ps M0 Ms) (hF : Fr Z w.heap.size w w') (hZ : ∀ k, Z k → X k) (hd : ∀ k, Z k → ¬ (k = g0 ∨ k ∈ gs)) : RelG X w' r n g0 gs ps M0 Ms := by
  have hx : Fr X w.heap.size w w' := hF.sub fun k _ hk => hZ k hk
  obtain ⟨P0, c0, I, ci, h1, h2, h3⟩ := h.cells
  refine ⟨h.few, h.many, h.offr, ⟨P0, c0, I, ci, (hx.block _ (Array.getElem?_eq_some_iff.1 h1).1 h.offr).trans h1, h2.onF hx (hF.block _ h2.t.lt fun hz => hd _ hz (.inl rfl)), fun j p hp => ?_⟩, h.len, h.nodup, h.lens⟩
  obtain ⟨g, P, cp, hgj, hs⟩ := h3 j p hp
  exact ⟨g, P, cp, hgj, hs.rowF hx (hs.idx.onF hx (hF.block _ hs.idx.t.lt fun hz => hd _ hz (.inr (List.mem_of_getElem? hgj))))⟩
theorem SlotAt.more {I : Option Addr} {j g : Nat} {P : Option Addr} {cp : Nat} {p : List Int} {M : List (List V)} (hX : ∀ k, X k → Y k) (hY : ∀ k, Y k → X k ∨ w.heap.size ≤ k) (h : SlotAt X w I j g P cp p M) : SlotAt Y w I j g P cp p M := by
  obtain ⟨b, o, e, hl, hx, h1, h2⟩ := h.row
  exact ⟨⟨b, o, e, hl, fun hy => (hY b hy).elim hx (by omega), h1, h2⟩, h.idx.more hX hY⟩
theorem RelG.more (hX : ∀ k, X k → Y k) (hY : ∀ k, Y k → X k ∨ w.heap.size ≤ k) (h : RelG X w r n g0 gs ps M0 Ms) : RelG Y w r n g0 gs ps M0 Ms := by
  obtain ⟨P0, c0, I, ci, h1, h2, h3⟩ := h.cells
  have hl := h.lt
  refine ⟨h.few, h.many, fun hy => (hY r hy).elim h.offr (by omega), ⟨P0, c0, I, ci, h1, h2.more hX hY, fun j p hp => ?_⟩, h.len, h.nodup, h.lens⟩
  obtain ⟨g, P, cp, hgj, hs⟩ := h3 j p hp
  exact ⟨g, P, cp, hgj, hs.more hX hY⟩
theorem RelG.sub (hXY : ∀ k, X k → Y k) (hx : ∀ k, (k = g0 ∨ k ∈ gs) → X k) (h : RelG Y w r n g0 gs ps M0 Ms) : RelG X w r n g0 gs ps M0 Ms := by
  obtain ⟨P0, c0, I, ci, h1, h2, h3⟩ := h.cells
  refine ⟨h.few, h.many, fun hy => h.offr (hXY _ hy), ⟨P0, c0, I, ci, h1, h2.sub hXY (hx _ (.inl rfl)), fun j p hp => ?_⟩, h.len, h.nodup, h.lens⟩
  obtain ⟨g, P, cp, hgj, hs⟩ := h3 j p hp
  obtain ⟨b, o, e, hl, hxb, q1, q2⟩ := hs.row
  exact ⟨g, P, cp, hgj, ⟨b, o, e, hl, fun hy => hxb (hXY _ hy), q1, q2⟩, hs.idx.sub hXY (hx _ (.inr (List.mem_of_getElem? hgj)))⟩
end
/-- A new tree beside the blocks of Y, told by its list. -/
structure IdxM (Y : Nat → Prop) (p : List Int) (M : List (List V)) (w w' : World) (g : Nat) (P : Option Addr) (cp : Nat) : Prop where
  t : TreeS (fun k => Y k ∨ k = g) w' g p M
  fresh : w.heap.size ≤ g
  rp : RdI w' P p
  row : ∀ a, P = some a → w.heap.size ≤ a.block ∧ a.block ≠ g ∧ a.block < w'.heap.size
  cap : p.length ≤ cp
  capm : cp ≤ maxLen
  b : Below w.heap.size w w'
theorem IdxC.m {Y : Nat → Prop} {p : List Int} {w w' : World} {g cp : Nat} {P : Option Addr} (h : IdxC p w w' g P cp) (hY : ∀ k, Y k → k < w.heap.size) : IdxM Y p [] w w' g P cp :=
  ⟨h.t _ (.inr rfl) fun k hk => hk.elim (fun e => .inl (hY k e)) fun e => .inr (.inl e), h.fresh, h.rp, fun a ha => ⟨by have := h.row a ha; have := h.fresh; omega, by have := h.row a ha; omega, (h.row a ha).2⟩, h.cap, h.capm, h.b⟩
/-- A relation under way: its record, and the rows of its indexes so far; Y holds of all that is written. -/
structure NewI (Y : Nat → Prop) (w : World) (r n g0 : Nat) (M0 : List (List V)) (es : List Ix) (W : World) (I : Option Addr) (ci : Nat) : Prop where
  rcd : ∃ P0 c0, W.heap[r]? = some (.cells #[.pointer (some ⟨g0, 0, none⟩), .slice P0 n c0, .slice I es.length ci] 78 (0, 0)) ∧
    Y g0 ∧ Y r ∧ (∀ e ∈ es, Y e.g) ∧ (∀ b, I = some b → Y b.block) ∧ (∀ k, Y k → k < W.heap.size) ∧ IdxAt Y W g0 P0 c0 (upto n) M0 ∧ ∀ e ∈ es, IdxAt Y W e.g e.P e.c e.p e.M
  own : W.ownsRow (r + 1) 72 2 (.slice I es.length ci) es.length (ixCells es)
  b : Below w.heap.size w W
  gw : w.heap.size ≤ g0
  rn : w.heap.size ≤ r
  ge : ∀ e ∈ es, w.heap.size ≤ e.g
  nodup : (g0 :: es.map Ix.g).Nodup
  lens : ∀ e ∈ es, e.p.length = n
theorem own_obj {w : World} {base n size : Nat} {e : TypeId} {b : Addr} {c : Nat} {xs : List Value} (h : w.ownsRow base e size (.slice (some b) n c) n xs) : ∃ cs, w.heap[b.block]? = some (.cells cs e (0, 0)) := by
  rcases h.2 with ⟨e, _⟩ | ⟨g, cap, cur, e, _, hgg, _⟩
  · cases e
  · injection e with e _ _; injection e with e; subst e; exact ⟨_, hgg⟩
theorem NewI.next {Y : Nat → Prop} {w W W5 Wm W8 : World} {r n g0 : Nat} {M0 M : List (List V)} {es : List Ix} {I : Option Addr} {ci g cp g3 c3 : Nat} {P : Option Addr} {p : List Int} (h : NewI Y w r n g0 M0 es W I ci) (hc : IdxM Y p M W W5 g P cp) (hp : p.length = n) (hm : Below W5.heap.size W5 Wm)
    (ho : W8.ownsRow (r + 1) 72 2 (.slice (some ⟨g3, 0, none⟩) (es.length + 1) c3) (es.length + 1) (ixCells es ++ (Ix.mk g P cp p M).cells)) (hg : Wm.grownBy W8 (Value.slice I es.length ci).ownBlock)
    (hor : (Value.slice I es.length ci).ownBlock = some g3 ∨ g3 = Wm.heap.size) (hlt : g3 < W8.heap.size) :
    (W8.cell? ⟨r, 2, none⟩ = some (.slice I es.length ci) ∧ W8.frozen? ⟨r, 2, none⟩ = false) ∧ NewI (fun k => Y k ∨ k = g ∨ k = g3) w r n g0 M0 (es ++ [Ix.mk g P cp p M]) (W8.setCell ⟨r, 2, none⟩ (.slice (some ⟨g3, 0, none⟩) (es.length + 1) c3)) (some ⟨g3, 0, none⟩) c3 := by
  obtain ⟨P0, c0, hrec, y1, y2, y3, y4, y5, y6, y7⟩ := h.rcd
  have hrl := (Array.getElem?_eq_some_iff.1 hrec).1
  have hob : ∀ k, (Value.slice I es.length ci).ownBlock = some k → ∃ b, I = some b ∧ b.block = k := fun k hk => by
    cases I with
    | none => cases hk
    | some b => exact ⟨b, rfl, by simpa [Value.ownBlock] using hk⟩
  have hobx : ∀ k, (Value.slice I es.length ci).ownBlock = some k → ∃ cs, W.heap[k]? = some (.cells cs 72 (0, 0)) := fun k hk => by
    obtain ⟨b, rfl, rfl⟩ := hob k hk
    exact own_obj h.own
  have h56 : Below W5.heap.size W5 Wm := hm
  have hW6 : Below W.heap.size W Wm := hc.b.trans (h56.mono hc.b.size)
  have hf := hc.fresh
  have hgl : g < W5.heap.size := hc.t.lt
  have hs6 : W5.heap.size ≤ Wm.heap.size := hm.size
  obtain ⟨Y', hY'⟩ : ∃ Y' : Nat → Prop, Y' = fun k => Y k ∨ k = g ∨ k = g3 := ⟨_, rfl⟩
  have hg3 : Y g3 ∨ W5.heap.size ≤ g3 := by
    rcases hor with e | e
    · obtain ⟨b, e1, e2⟩ := hob g3 e; exact .inl (e2 ▸ y4 b e1)
    · exact .inr (by omega)
  have hmo : ∀ k, Y' k → Y k ∨ W.heap.size ≤ k := fun k hk => by
    subst hY'
    rcases hk with hk | rfl | rfl
    · exact .inl hk
    · exact .inr hf
    · rcases hg3 with e | e
      · exact .inl e
      · exact .inr (Nat.le_trans hc.b.size e)
  have hYY : ∀ k, Y k → Y' k := fun k hk => by subst hY'; exact .inl hk
  -- from the world ahead of append to the end
  have hF8 : Fr Y' Wm.heap.size Wm W8 := ⟨hg.os, hg.tape, hg.output, hg.size, fun k hk hx => hg.block k hk (fun e => hx (by
    obtain ⟨b, e1, e2⟩ := hob k e.symm
    exact hYY _ (e2 ▸ y4 b e1)))⟩
  have hF9 : Fr (· = r) W8.heap.size W8 (W8.setCell ⟨r, 2, none⟩ (.slice (some ⟨g3, 0, none⟩) (es.length + 1) c3)) := fr_set W8 r 2 _ _
  have hFr : Fr Y' Wm.heap.size Wm (W8.setCell ⟨r, 2, none⟩ (.slice (some ⟨g3, 0, none⟩) (es.length + 1) c3)) :=
    hF8.trans ((hF9.sub fun k _ hk => by subst hk; exact hYY _ y2).mono hF8.size)
  have hkeep : ∀ (k : Nat) (cs : Array Value), Wm.heap[k]? = some (.cells cs 107 (0, 0)) → (W8.setCell ⟨r, 2, none⟩ (.slice (some ⟨g3, 0, none⟩) (es.length + 1) c3)).heap[k]? = Wm.heap[k]? := fun k cs hk => by
    have hkl := (Array.getElem?_eq_some_iff.1 hk).1
    have hkr : k ≠ r := fun e => by
      subst e
      rw [hW6.block k hrl, hrec] at hk; cases hk
    refine (hF9.block k (Nat.lt_of_lt_of_le hkl hF8.size) hkr).trans (hg.block k hkl fun e => ?_)
    obtain ⟨cs2, hcs⟩ := hobx k e.symm
    have hkW := (Array.getElem?_eq_some_iff.1 hcs).1
    rw [hW6.block k hkW, hcs] at hk; cases hk
  have hmove : ∀ {g' : Nat} {P' : Option Addr} {c' : Nat} {p' : List Int} {M' : List (List V)}, IdxAt Y' Wm g' P' c' p' M' → IdxAt Y' (W8.setCell ⟨r, 2, none⟩ (.slice (some ⟨g3, 0, none⟩) (es.length + 1) c3)) g' P' c' p' M' := fun hi => by
    obtain ⟨cs, hcs⟩ := hi.t.obj
    exact hi.onF hFr (hkeep _ cs hcs)
  have hold : ∀ {g' : Nat} {P' : Option Addr} {c' : Nat} {p' : List Int} {M' : List (List V)}, IdxAt Y W g' P' c' p' M' → IdxAt Y' (W8.setCell ⟨r, 2, none⟩ (.slice (some ⟨g3, 0, none⟩) (es.length + 1) c3)) g' P' c' p' M' := fun hi => hmove ((hi.more hYY hmo).on hW6)
  have hnew : IdxAt Y' (W8.setCell ⟨r, 2, none⟩ (.slice (some ⟨g3, 0, none⟩) (es.length + 1) c3)) g P cp p M := by
    refine hmove (IdxAt.on (w := W5) ⟨hc.t.more (fun k hk => ?_) (fun k hk => ?_), hc.rp, fun a ha hx => ?_, fun a ha => (hc.row a ha).2.2, hc.cap, hc.capm⟩ h56)
    · subst hY'
      rcases hk with hk | rfl
      · exact .inl hk
      · exact .inr (.inl rfl)
    · subst hY'
      rcases hk with hk | rfl | rfl
      · exact .inl (.inl hk)
      · exact .inl (.inr rfl)
      · rcases hg3 with e | e
        · exact .inl (.inl e)
        · exact .inr e
    · obtain ⟨q1, q2, q3⟩ := hc.row a ha
      subst hY'
      rcases hx with hx | hx | hx
      · have := y5 _ hx; omega
      · omega
      · rcases hg3 with e | e
        · have := y5 _ e; omega
        · omega
  have hrec6 := (hW6.block r hrl).trans hrec
  have hrec8 : W8.heap[r]? = some (.cells #[.pointer (some ⟨g0, 0, none⟩), .slice P0 n c0, .slice I es.length ci] 78 (0, 0)) := by
    refine (hg.block r (by have := hW6.size; omega) fun e => ?_).trans hrec6
    obtain ⟨cs2, hcs⟩ := hobx r e.symm
    rw [hrec] at hcs; cases hcs
  have hrl8 := (Array.getElem?_eq_some_iff.1 hrec8).1
  have hrg3 : g3 ≠ r := fun e => by
    obtain ⟨cs, hcs⟩ := own_obj ho
    subst e
    rw [hrec8] at hcs; cases hcs
  subst hY'
  refine ⟨⟨(cell3 hrec8).2.2, by simp [World.frozen?, hrec8]⟩, ⟨⟨P0, c0, ?_, hYY _ y1, hYY _ y2, ?_, ?_, ?_, hold y6, ?_⟩, ?_, ?_, h.gw, h.rn, ?_, ?_, ?_⟩⟩
  · have := heap_set' (w := W8) (D := r) (o := 2) (cs := [.pointer (some ⟨g0, 0, none⟩), .slice P0 n c0, .slice I es.length ci]) (t := 78) (z := (0, 0)) (.slice (some ⟨g3, 0, none⟩) (es.length + 1) c3) hrec8
    simp only [List.set_cons_succ, List.set_cons_zero] at this
    rw [List.length_append, List.length_singleton]
    exact this
  · intro e he
    rw [List.mem_append, List.mem_singleton] at he
    rcases he with he | rfl
    · exact hYY _ (y3 e he)
    · exact .inr (.inl rfl)
  · intro b hb
    cases hb
    exact .inr (.inr rfl)
  · intro k hk
    have h1 := hFr.size
    rcases hmo k hk with h2 | h2
    · have := y5 k h2; have := hW6.size; omega
    · rcases hk with hk | rfl | rfl
      · have := y5 k hk; omega
      · omega
      · have : (W8.setCell ⟨r, 2, none⟩ (.slice (some ⟨k, 0, none⟩) (es.length + 1) c3)).heap.size = W8.heap.size := by simp [World.setCell]
        omega
  · intro e he
    rw [List.mem_append, List.mem_singleton] at he
    rcases he with he | rfl
    · exact hold (y7 e he)
    · exact hnew
  · rw [List.length_append, List.length_singleton, ixCells_snoc]
    refine ⟨ho.1, ?_⟩
    rcases ho.2 with ⟨e, _⟩ | ⟨g', cap, cur, hv, hbg, hgg, rest⟩
    · cases e
    · injection hv with hv1 hv2 hv3
      injection hv1 with hv1
      injection hv1 with hv1 hv4 hv5
      subst hv1
      exact .inr ⟨g3, cap, cur, by rw [hv3], hbg, (hF9.block g3 hlt hrg3).trans hgg, rest⟩
  · have hb8 : Below w.heap.size w W8 := by
      refine (h.b.trans (hW6.mono h.b.size)).trans ⟨hg.os, hg.tape, hg.output, hg.size, fun k hk => hg.block k (by have := h.b.size; have := hW6.size; omega) fun e => ?_⟩
      obtain ⟨b, e1, e2⟩ := hob k e.symm
      have := own_base h.own k e.symm
      have := h.rn
      omega
    exact hb8.setCell h.rn _
  · intro e he
    rw [List.mem_append, List.mem_singleton] at he
    rcases he with he | rfl
    · exact h.ge e he
    · have := h.b.size; show w.heap.size ≤ g; omega
  · rw [List.map_append, ← List.cons_append, List.nodup_append]
    refine ⟨h.nodup, by simp, fun a ha b hb e => ?_⟩
    simp only [List.map_cons, List.map_nil, List.mem_singleton] at hb
    subst hb; subst e
    rw [List.mem_cons, List.mem_map] at ha
    rcases ha with rfl | ⟨x, hx, rfl⟩
    · have := y5 _ y1; omega
    · have := y5 _ (y3 x hx); omega
  · intro e he
    rw [List.mem_append, List.mem_singleton] at he
    rcases he with he | rfl
    · exact h.lens e he
    · exact hp
end Go.Proofs.YtpmkhpbhimmeiaaGreat
/-
  Package rel: contract of New.
-/
namespace Go.Proofs.YtpmkhpbhimmeiaaGreat
open Go.RowKit FloM ValM Go.Shelf
set_option linter.unusedVariables false
set_option linter.unusedSimpArgs false
/-- A list of numbers that came in: its slice. -/
structure IS where
  A : Option Addr
  c : Nat
  l : List Int
def IS.val (x : IS) : Value := .slice x.A x.l.length x.c
structure RdP (w : World) (A : Option Addr) (xs : List IS) : Prop where
  rd : RdC w A (xs.map IS.val)
  each : ∀ x ∈ xs, RdI w x.A x.l ∧ x.l.length ≤ maxLen
theorem RdP.on {w w' : World} {A : Option Addr} {xs : List IS} (h : RdP w A xs) (hb : Below w.heap.size w w') : RdP w' A xs := ⟨h.rd.on hb, fun x hx => ⟨(h.each x hx).1.on hb, (h.each x hx).2⟩⟩
theorem RdP.row {w : World} {A : Option Addr} {xs : List IS} (h : RdP w A xs) (hne : 0 < xs.length) : ∃ b o, A = some ⟨b, o, none⟩ ∧ b < w.heap.size ∧ ∀ j x, xs[j]? = some x → w.cell? ⟨b, o + j, none⟩ = some (.slice x.A x.l.length x.c) := by
  obtain ⟨b, o, rfl, hb, _⟩ := h.rd 0 _ (show (xs.map IS.val)[0]? = some _ by rw [List.getElem?_map, List.getElem?_eq_getElem hne]; rfl)
  refine ⟨b, o, rfl, hb, fun j x hx => ?_⟩
  obtain ⟨b', o', e, _, hc⟩ := h.rd j (.slice x.A x.l.length x.c) (by rw [List.getElem?_map, hx]; rfl)
  injection e with e; injection e with e1 e2 _; subst e1 e2; exact hc
def goodP (n : Nat) (p : List Int) : Bool := decide (p.length = n) && permB p
theorem goodP_iff {n : Nat} {p : List Int} : goodP n p = true ↔ p.length = n ∧ permB p = true := by unfold goodP; rw [Bool.and_eq_true, decide_eq_true_eq]
theorem grown_undrew {w w' : World} {o : Option Nat} (h : w.drew.grownBy w' o) : w.grownBy w' o := ⟨h.os, h.tape, h.output, h.size, h.block⟩
theorem info_ix : (Tryz.prog.info? 72).map (fun i => (i.zero, i.size, i.bytes)) = some (some (.agg #[.pointer none, .slice none 0 0]), 2, 32) := by kernel_rfl
theorem IdxM.idx {Y Y' : Nat → Prop} {p : List Int} {M : List (List V)} {w w' : World} {g cp : Nat} {P : Option Addr} (h : IdxM Y p M w w' g P cp) (hs : ∀ k, (Y k ∨ k = g) → Y' k) (hm : ∀ k, Y' k → (Y k ∨ k = g) ∨ w'.heap.size ≤ k) (hY : ∀ k, Y k → k < w.heap.size) : IdxAt Y' w' g P cp p M :=
  ⟨h.t.more hs hm, h.rp, fun a ha hx => by
    have := h.row a ha
    rcases hm _ hx with (hy | hy) | hy
    · have := hY _ hy; omega
    · omega
    · omega, fun a ha => (h.row a ha).2.2, h.cap, h.capm⟩
theorem NewI.start {Z : Nat → Prop} {w w1 w2 : World} {n g cp : Nat} {M : List (List V)} {P : Option Addr} (hZ : ∀ k, Z k → k < w.heap.size) (hb : Below w.heap.size w w1) (hc : IdxM Z (upto n) M w1 w2 g P cp) (o1 : Obj) : NewI (fun k => (Z k ∨ k = g) ∨ k = w2.heap.size + 1) w (w2.heap.size + 1) n g M [] ((w2.alloc o1).alloc (.cells #[.pointer (some ⟨g, 0, none⟩), .slice P n cp, .slice none 0 0] 78)) none 0 := by
  have h2 : Below w2.heap.size w2 ((w2.alloc o1).alloc (.cells #[.pointer (some ⟨g, 0, none⟩), .slice P n cp, .slice none 0 0] 78)) := ((Below.refl _ _).alloc (Nat.le_refl _) _).alloc (by simp) _
  have hbw : Below w.heap.size w w2 := hb.trans (hc.b.mono hb.size)
  have hf := hc.fresh
  have hgl := hc.t.lt
  refine ⟨⟨P, cp, ?_, .inl (.inr rfl), .inr rfl, (fun e he => by cases he), (fun b hb => by cases hb), (fun k hk => ?_), ?_, (fun e he => by cases he)⟩, own_nil _ _ _ _, hbw.trans (h2.mono hbw.size), Nat.le_trans hb.size hf, (by have := hbw.size; omega), (fun e he => by cases he), by simp, (fun e he => by cases he)⟩
  · have := World.alloc_heap_new (w2.alloc o1) (.cells #[.pointer (some ⟨g, 0, none⟩), .slice P n cp, .slice none 0 0] 78)
    rw [World.size_alloc] at this; exact this
  · have := hbw.size
    simp; rcases hk with (hk | rfl) | rfl
    · have := hZ k hk; omega
    · omega
    · omega
  · exact (hc.idx (Y' := fun k => (Z k ∨ k = g) ∨ k = w2.heap.size + 1) (fun k hk => .inl hk) (fun k hk => hk.imp_right fun e => by omega) (fun k hk => Nat.lt_of_lt_of_le (hZ k hk) hb.size)).on h2
theorem IdxM.base {Y : Nat → Prop} {p : List Int} {M : List (List V)} {w0 w w' : World} {g cp : Nat} {P : Option Addr} (h : IdxM Y p M w w' g P cp) (hb : Below w0.heap.size w0 w) : IdxM Y p M w0 w' g P cp :=
  ⟨h.t, Nat.le_trans hb.size h.fresh, h.rp, fun a ha => ⟨Nat.le_trans hb.size (h.row a ha).1, (h.row a ha).2⟩, h.cap, h.capm, hb.trans (h.b.mono hb.size)⟩
theorem NewI.start0 {Z : Nat → Prop} {w w2 : World} {n g cp : Nat} {M : List (List V)} {P : Option Addr} (hZ : ∀ k, Z k → k < w.heap.size) (hc : IdxM Z (upto n) M w w2 g P cp) : NewI (fun k => (Z k ∨ k = g) ∨ k = w2.heap.size) w w2.heap.size n g M [] (w2.alloc (.cells #[.pointer (some ⟨g, 0, none⟩), .slice P n cp, .slice none 0 0] 78)) none 0 := by
  have h2 : Below w2.heap.size w2 (w2.alloc (.cells #[.pointer (some ⟨g, 0, none⟩), .slice P n cp, .slice none 0 0] 78)) := (Below.refl _ _).alloc (Nat.le_refl _) _
  have hbw := hc.b
  have hf := hc.fresh
  have hgl := hc.t.lt
  refine ⟨⟨P, cp, World.alloc_heap_new _ _, .inl (.inr rfl), .inr rfl, (fun e he => by cases he), (fun b hb => by cases hb), (fun k hk => ?_), ?_, (fun e he => by cases he)⟩, own_nil _ _ _ _, hbw.trans (h2.mono hbw.size), hf, hbw.size, (fun e he => by cases he), by simp, (fun e he => by cases he)⟩
  · have := hbw.size
    simp; rcases hk with (hk | rfl) | rfl
    · have := hZ k hk; omega
    · omega
    · omega
  · exact (hc.idx (Y' := fun k => (Z k ∨ k = g) ∨ k = w2.heap.size) (fun k hk => .inl hk) (fun k hk => hk.imp_right fun e => by omega) hZ).on h2
theorem NewI.done {Y Z : Nat → Prop} {w W : World} {r n g0 ci : Nat} {M0 : List (List V)} {es : List Ix} {I : Option Addr} (h : NewI Y w r n g0 M0 es W I ci) (hZ : ∀ k, Z k → k < w.heap.size ∧ Y k) (hn : n ≤ 8) (hm : es.length ≤ 1000) : RelG (fun k => Z k ∨ k = g0 ∨ k ∈ es.map Ix.g) W r n g0 (es.map Ix.g) (es.map Ix.p) M0 (fun j => (es.map Ix.M).getD j []) := by
  obtain ⟨P0, c0, hrec, y1, y2, y3, y4, y5, y6, y7⟩ := h.rcd
  have hrn := h.rn
  have hXY : ∀ k, (Z k ∨ k = g0 ∨ k ∈ es.map Ix.g) → Y k := fun k hk => by
    rcases hk with hk | rfl | hk
    · exact (hZ k hk).2
    · exact y1
    · obtain ⟨e, he, rfl⟩ := List.mem_map.1 hk; exact y3 e he
  have hobj : ∀ k, (k = g0 ∨ k ∈ es.map Ix.g) → ∃ cs, W.heap[k]? = some (.cells cs 107 (0, 0)) := fun k hk => by
    rcases hk with rfl | hk
    · exact y6.t.obj
    · obtain ⟨e, he, rfl⟩ := List.mem_map.1 hk; exact (y7 e he).t.obj
  refine ⟨hn, by simpa using hm, fun hr => ?_, ⟨P0, c0, I, ci, by rw [List.length_map]; exact hrec, y6.sub hXY (.inr (.inl rfl)), fun j p hp => ?_⟩, by simp, h.nodup, fun p hp => ?_⟩
  · rcases hr with hr | hr
    · have := (hZ r hr).1; omega
    · obtain ⟨cs, hcs⟩ := hobj r hr
      rw [hrec] at hcs; cases hcs
  · rw [List.getElem?_map, Option.map_eq_some_iff] at hp
    obtain ⟨e, he, rfl⟩ := hp
    obtain ⟨q1, q2⟩ := ixCells_at he
    obtain ⟨b, cap, hv, hb1, hb2, hb3⟩ := own_cell h.own q1
    obtain ⟨b', cap', hv', hb1', hb2', hb3'⟩ := own_cell h.own q2
    injection hv with hv1 _ hv2
    subst hv1
    injection hv' with hv1 _ _
    injection hv1 with hv1
    injection hv1 with hv1 _ _
    subst hv1
    have hbase := own_base h.own b rfl
    refine ⟨e.g, e.P, e.c, by rw [List.getElem?_map, he]; rfl, ⟨⟨b, 0, rfl, hb2, fun hx => ?_, by rw [Nat.zero_add]; exact hb3, by rw [Nat.zero_add]; exact hb3'⟩, ?_⟩⟩
    · rcases hx with hx | hx
      · have := (hZ b hx).1; omega
      · obtain ⟨cs, hcs⟩ := hobj b hx
        obtain ⟨cs2, hcs2⟩ := own_obj h.own
        rw [hcs] at hcs2; cases hcs2
    · have hM : (es.map Ix.M).getD j [] = e.M := by simp [List.getD, he]
      show IdxAt _ W e.g e.P e.c e.p ((es.map Ix.M).getD j [])
      rw [hM]
      exact (y7 e (List.mem_of_getElem? he)).sub hXY (.inr (.inr (List.mem_map_of_mem (List.mem_of_getElem? he))))
  · obtain ⟨e, he, rfl⟩ := List.mem_map.1 hp
    exact h.lens e he
theorem relNew_out (n : Int) (v : Value) (w : World) (h : n < 0 ∨ 8 < n) : Calls Tryz.prog 8 #[.int .i64 n, v] w fun e w' => e = .returned (.tuple #[.pointer none, .int .i64 1]) ∧ w = w' := by
  rcases h with h | h
  · go_enter Tryz.func8, Tryz.ntmps8
    go_wp2
    go_ret2
    exact ⟨rfl, rfl⟩
  · go_enter Tryz.func8, Tryz.ntmps8
    go_wp2
    go_ret2
    exact ⟨rfl, rfl⟩
/-- What New hands back. -/
structure NewS (w : World) (n : Nat) (ps : List (List Int)) (r g0 : Nat) (gs : List Nat) (w' : World) : Prop where
  s : RelS (fun k => k = g0 ∨ k ∈ gs) w' r n g0 gs ps []
  b : Below w.heap.size w w'
  r0 : w.heap.size ≤ r
  x0 : ∀ k, (k = g0 ∨ k ∈ gs) → w.heap.size ≤ k
/-- A new relation with the tuples of H, beside the trees of Z. -/
structure NewZ (Z : Nat → Prop) (w : World) (n : Nat) (ps : List (List Int)) (H : List (List V)) (r g0 : Nat) (gs : List Nat) (w' : World) : Prop where
  s : RelS (fun k => Z k ∨ k = g0 ∨ k ∈ gs) w' r n g0 gs ps H
  b : Below w.heap.size w w'
  r0 : w.heap.size ≤ r
  x0 : ∀ k, (k = g0 ∨ k ∈ gs) → w.heap.size ≤ k
theorem NewZ.one {w w' : World} {n r g0 : Nat} {ps : List (List Int)} {gs : List Nat} (h : NewZ (fun _ => False) w n ps [] r g0 gs w') : NewS w n ps r g0 gs w' :=
  ⟨RelG.sub (fun k hk => .inr hk) (fun k hk => hk) h.s, h.b, h.r0, h.x0⟩
set_option maxRecDepth 20000 in
set_option maxHeartbeats 8000000 in
theorem relNewZ_any {Z : Nat → Prop} (A : Option Addr) (c n : Nat) (xs : List IS) (w : World) (hZ : ∀ k, Z k → k < w.heap.size) (hn : n ≤ 8) (h : RdP w A xs) (hm : xs.length ≤ 1000) :
    Calls Tryz.prog 8 #[.int .i64 (n : Int), .slice A xs.length c] w fun e w' =>
      ((∀ x ∈ xs, goodP n x.l = true) ∧ ∃ r g0 gs, e = .returned (.tuple #[.pointer (some ⟨r, 0, none⟩), .int .i64 0]) ∧ NewZ Z w n (xs.map IS.l) [] r g0 gs w') ∨
      ((∃ x ∈ xs, goodP n x.l = false) ∧ e = .returned (.tuple #[.pointer none, .int .i64 1]) ∧ Below w.heap.size w w') := by
  have HZ := Lib.hid hZ; clear hZ
  have H := Lib.hid h; clear h
  have HPO := Lib.hid (plainOrder_any n w (by omega))
  have HNI : Hid (∀ (A1 : Option Addr) (c1 : Nat) (W : World), RdI W A1 (upto n) → Calls Tryz.prog 35 #[.int .i64 (n : Int), .slice A1 n c1] W fun e w' => ∃ g P cp, e = .returned (.tuple #[.agg #[.pointer (some ⟨g, 0, none⟩), .slice P n cp], .int .i64 0]) ∧ IdxC (upto n) W w' g P cp) := Lib.hid fun A1 c1 W hr => by
    have := newIndex_any A1 c1 (upto n) W hr (by rw [upto_len]; exact hn) (upto_perm n)
    rw [upto_len] at this; exact this
  obtain ⟨i0, hi0, hz0, hz1, hz2⟩ := info_parts info_ix
  have HI0 := Lib.hid (And.intro hi0 (And.intro hz0 (And.intro hz1 hz2)))
  clear hi0 hz0 hz1 hz2
  have hn0 : ¬ (n : Int) < 0 := by omega
  have hn8 : ¬ 8 < (n : Int) := by omega
  go_enter Tryz.func8, Tryz.ntmps8
  go_wp2_with (first
    | (go_at_call 36; refine HPO.out.mono ?_; rintro e w1 ⟨A1, c1, rfl, r1, b1⟩; have HR1 := Lib.hid r1; have HB1 := Lib.hid b1; clear r1 b1)
    | (go_at_call 35; refine (HNI.out A1 c1 _ HR1.out).mono ?_; rintro e w2 ⟨g, P, cp, rfl, hc⟩; have HC := Lib.hid hc; clear hc))
  have hst := Lib.hid (NewI.start HZ.out HB1.out (HC.out.m (Y := Z) fun k hk => Nat.lt_of_lt_of_le (HZ.out k hk) HB1.out.size) (.cells #[.pointer (some ⟨g, 0, none⟩), .slice P n cp] 72))
  have hs2 : w2.heap.size + 1 = w2.heap.size + 1 := rfl
  clear HPO HNI hs2
  generalize w2.heap.size + 1 = r at hst ⊢
  go_loopw [34] (fun v wr => ∃ (k : Nat) (es : List Ix) (I : Option Addr) (ci : Nat) (Y : Nat → Prop), v = .int .i64 (k : Nat) ∧ k ≤ xs.length ∧ es.map Ix.p = (xs.take k).map IS.l ∧ NewI Y w r n g [] es wr I ci ∧ (∀ k, Z k → Y k) ∧ (∀ e ∈ es, e.M = []) ∧ ∀ x ∈ xs.take k, goodP n x.l = true) (fun v _ => xs.length - (intOf v).toNat)
  case atStart => exact ⟨0, [], none, 0, _, rfl, Nat.zero_le _, by simp, hst.out, (fun k hk => .inl (.inl hk)), (fun e he => by cases he), by simp⟩
  case round =>
    clear hst
    obtain ⟨k, es, I, ci, Y, rfl, hk, hps, hI, hZY, hM0, hgood⟩ := hrel
    have HZY := Lib.hid hZY; have HM0 := Lib.hid hM0; clear hZY hM0
    have HI := Lib.hid hI; have HPS := Lib.hid hps; have HGD := Lib.hid hgood
    have hel : es.length = k := by have := congrArg List.length hps; simpa [Nat.min_eq_left hk] using this
    have HEL := Lib.hid hel
    have hel1 : es.length ≤ 1000 := by omega
    clear hI hgood hps hel
    by_cases hlt : k < xs.length
    · obtain ⟨b, o, rfl, hb, hrow⟩ := H.out.row (by omega)
      have hx := List.getElem?_eq_getElem hlt
      generalize xs[k] = x at hx
      have cx := (keep HI.out.b _ _ hb).trans (hrow k x hx)
      have HX := Lib.hid hx
      have RX := Lib.hid ((H.out.each x (List.mem_of_getElem? hx)).1.on HI.out.b)
      have hxm := (H.out.each x (List.mem_of_getElem? hx)).2
      clear hrow hx
      by_cases hln : x.l.length = n
      · have hxl8 : x.l.length ≤ 8 := by omega
        cases hpb : permB x.l with
        | false =>
          have hNB := newIndex_bad x.A x.c x.l wr RX.out hxl8 hpb
          rw [show (x.l.length : Int) = (n : Int) by omega] at hNB
          have HNB := Lib.hid hNB
          have HBD : Hid (goodP n x.l = false) := Lib.hid (by unfold goodP; rw [hpb, Bool.and_false])
          clear hNB hpb hln
          go_wp2_with (go_at_call 35; refine HNB.out.mono ?_; rintro e w5 ⟨rfl, hb5⟩; have HB5 := Lib.hid hb5; clear hb5)
          go_ret2
          exact .inr ⟨⟨x, List.mem_of_getElem? HX.out, HBD.out⟩, rfl, (on HI.out.b HB5.out).alloc (on HI.out.b HB5.out).size _⟩
        | true =>
          have hNB := newIndex_any x.A x.c x.l wr RX.out hxl8 hpb
          rw [show (x.l.length : Int) = (n : Int) by omega] at hNB
          have HNB := Lib.hid hNB
          have HBD : Hid (goodP n x.l = true) := Lib.hid (goodP_iff.2 ⟨hln, hpb⟩)
          have HLN := Lib.hid hln
          obtain ⟨P0, c0, hrec, _, _, _, _, hyl, _⟩ := HI.out.rcd
          have HYL := Lib.hid hyl
          have hrl := (Array.getElem?_eq_some_iff.1 hrec).1
          have HC2 := Lib.hid (cell3 hrec).2.2
          clear hNB hpb hln hrec hyl
          go_wp2_with (go_at_call 35; refine HNB.out.mono ?_; rintro e w5 ⟨g5, P5, cp5, rfl, hc5⟩; have HC5 := Lib.hid (hc5.m (Y := Y) HYL.out); clear hc5)
          obtain ⟨yi0, yz0, yz1, yz2⟩ := HI0.out
          have d1 : ∀ o1 : Obj, (w5.alloc o1).cell? ⟨r, 2, none⟩ = some (.slice I es.length ci) := fun o1 => (keep (HC5.out.b.trans (((Below.refl _ _).alloc (Nat.le_refl _) o1).mono HC5.out.b.size)) r 2 hrl).trans HC2.out
          have d2 : ∀ o1 o2 : Obj, ((w5.alloc o1).alloc o2).cell? ⟨r, 2, none⟩ = some (.slice I es.length ci) := fun o1 o2 => (keep (HC5.out.b.trans ((((Below.refl _ _).alloc (Nat.le_refl _) o1).alloc (by simp) o2).mono HC5.out.b.size)) r 2 hrl).trans HC2.out
          go_region_law (refine step_append_lies _ rfl (.tmp 51) (.tmp 53) 76 rfl (r + 1) 72 i0 _ 2 32 Tryz.underlying76 yi0 yz0 yz1 yz2 rfl (by decide) (.slice I es.length ci) es.length (ixCells es) (by simp [Act.eval, Act.put]) ?_ ⟨w5.heap.size + 1, 0, none⟩ 1 1 (Ix.mk g5 P5 cp5 x.l []).cells (by simp [Act.eval, Act.put]) rfl ?_ ?_ (by decide) ?_ ?_ ?_ (w5.heap.size + 2) (by simp) ?_; (exact own_on HI.out.own (HC5.out.b.trans ((((Below.refl _ _).alloc (Nat.le_refl _) _).alloc (by simp) _).mono HC5.out.b.size)).drew); (exact news_two w5 _ #[.pointer (some ⟨g5, 0, none⟩), .slice P5 x.l.length cp5] _); (intro u hu; simp only [Ix.cells, List.mem_cons, List.not_mem_nil, or_false] at hu; rcases hu with rfl | rfl <;> rfl); (unfold maxLen; omega); omega; (have := HC5.out.b.size; simp; omega); intro g3 c3 w8 ho3 hg3 hor3 hlt3; have hq := NewI.next HI.out HC5.out HLN.out (((Below.refl _ _).alloc (Nat.le_refl _) _).alloc (by simp) _) ho3 (grown_undrew hg3) (by simpa using hor3) hlt3; have e3 := hq.1.1; have f3 := hq.1.2; have HQ := Lib.hid hq.2; clear hq ho3 hg3 hor3 hlt3)
          all_goals
            go_wp2
            go_roundw
            case rel =>
              refine ⟨k + 1, es ++ [Ix.mk g5 P5 cp5 x.l []], some ⟨g3, 0, none⟩, c3, _, by go_num, by omega, ?_, HQ.out, (fun k hk => .inl (HZY.out k hk)), (fun e he => ?_), ?_⟩
              · rw [take_snoc' HX.out, List.map_append, List.map_append, HPS.out]; rfl
              · rw [List.mem_append, List.mem_singleton] at he
                rcases he with he | rfl
                · exact HM0.out e he
                · rfl
              · rw [take_snoc' HX.out]
                intro y hy
                rw [List.mem_append, List.mem_singleton] at hy
                rcases hy with hy | rfl
                · exact HGD.out y hy
                · exact HBD.out
            case measure => simp [intOf]; omega
      · have hNB := newIndex_far (n : Int) x.A x.c x.l.length wr (by omega) hxm
        have HNB := Lib.hid hNB
        have HBD : Hid (goodP n x.l = false) := Lib.hid (by unfold goodP; rw [decide_eq_false hln, Bool.false_and])
        clear hNB hln
        go_wp2_with (go_at_call 35; refine HNB.out.mono ?_; rintro e w5 ⟨rfl, hb5⟩; have HB5 := Lib.hid hb5; clear hb5)
        go_ret2
        exact .inr ⟨⟨x, List.mem_of_getElem? HX.out, HBD.out⟩, rfl, (on HI.out.b HB5.out).alloc (on HI.out.b HB5.out).size _⟩
    · obtain rfl : k = xs.length := by omega
      go_wp2
      go_ret2
      have h1 := HPS.out; have h2 := HGD.out
      rw [List.take_of_length_le (Nat.le_refl _)] at h1 h2
      refine .inl ⟨h2, r, g, es.map Ix.g, rfl, ?_, HI.out.b, HI.out.rn, fun k hk => ?_⟩
      · rw [← h1]
        refine RelG.same (HI.out.done (Z := Z) (fun k hk => ⟨HZ.out k hk, HZY.out k hk⟩) hn hel1) fun j hj => ?_
        rw [List.length_map] at hj
        have he := List.getElem?_eq_getElem hj
        have := HM0.out _ (List.getElem_mem hj)
        show (es.map Ix.M).getD j [] = []
        simp [List.getD, he, this]
      · rcases hk with rfl | hk
        · exact HI.out.gw
        · obtain ⟨e, he, rfl⟩ := List.mem_map.1 hk; exact HI.out.ge e he
theorem relNew_any (A : Option Addr) (c n : Nat) (xs : List IS) (w : World) (hn : n ≤ 8) (h : RdP w A xs) (hm : xs.length ≤ 1000) :
    Calls Tryz.prog 8 #[.int .i64 (n : Int), .slice A xs.length c] w fun e w' =>
      ((∀ x ∈ xs, goodP n x.l = true) ∧ ∃ r g0 gs, e = .returned (.tuple #[.pointer (some ⟨r, 0, none⟩), .int .i64 0]) ∧ NewS w n (xs.map IS.l) r g0 gs w') ∨
      ((∃ x ∈ xs, goodP n x.l = false) ∧ e = .returned (.tuple #[.pointer none, .int .i64 1]) ∧ Below w.heap.size w w') :=
  (relNewZ_any (Z := fun _ => False) A c n xs w (fun k hk => hk.elim) hn h hm).mono fun e w' h => h.imp_left fun ⟨h1, r, g0, gs, h2, h3⟩ => ⟨h1, r, g0, gs, h2, h3.one⟩
end Go.Proofs.YtpmkhpbhimmeiaaGreat

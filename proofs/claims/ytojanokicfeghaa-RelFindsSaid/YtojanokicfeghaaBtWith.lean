/-
  Contract of a node's with: a leaf.
-/
import Derived.Test.YtojanokicfeghaaBtExch
import Derived.Test.YtojanokicfeghaaBtPlace
import Derived.Deep.RegionHeld3
namespace Go.Proofs.Ytojanokicfeghaa
open Go.RowKit FloM ValM
set_option linter.unusedVariables false

set_option maxHeartbeats 4000000 in
theorem with_nil {X : Nat → Prop} (A P : Option Addr) (ca cp : Nat) (a : List V) (n : Nat) (w : World) (ha : RdV w A a) (la : a.length ≤ 1000) (hX : ∀ k, X k → k < w.heap.size) :
    Calls Try.prog 49 #[.pointer none, .slice A a.length ca, .slice P n cp] w fun e w' => ∃ d y Bt dt Bk dk, e = .returned (.tuple #[.pointer (some ⟨d, 0, none⟩), .bool true]) ∧ NodeAt X w' d [y] [] Bt dt Bk dk ∧ y.l = a ∧ Below w.heap.size w w' := by
  have HX := Lib.hid hX; clear hX
  go_enter Try.func49, Try.ntmps49
  go_wp2_with (go_at_call 59; refine (cloneV_any A ca a _ ha la).mono ?_; rintro e w1 ⟨A1, k1, hW⟩; have hE := hW.val; subst hE; replace hW := Lib.hid hW)
  go_ret2
  have hB := hW.out.b
  have hb1 := hB.alloc hB.size (.cells #[.slice A1 a.length k1] 23)
  have hb2 := hb1.alloc hb1.size (.cells #[.slice (some ⟨w1.heap.size, 0, none⟩) 1 1, .slice none 0 0] 111)
  have hs := hB.size
  have hn : ∀ k, w.heap.size ≤ k → ¬ X k := fun k hk hx => by have := HX.out k hx; omega
  have hok := hW.out.ok HX.out
  have hab : Below w1.heap.size w1 ((w1.alloc (.cells #[.slice A1 a.length k1] 23)).alloc (.cells #[.slice (some ⟨w1.heap.size, 0, none⟩) 1 1, .slice none 0 0] 111)) := ((Below.refl _ _).alloc (Nat.le_refl _) _).alloc (by simp) _
  refine ⟨w1.heap.size + 1, ⟨A1, k1, a⟩, some ⟨w1.heap.size, 0, none⟩, 1, none, 0, rfl, node_new (t := 111) ?_ (hn _ (by omega)) rfl rfl ⟨?_, fun b hb => by cases hb; exact hn _ hs, fun z hz => ?_⟩ RdC.nil (Off.none _) (Nat.le_refl _) (Nat.le_refl _) (by unfold maxLen; omega) (by unfold maxLen; omega), rfl, hb2⟩
  · simp only [heap_al, Array.getElem?_push, Array.size_push]; repeat (first | rw [if_pos trivial] | rw [if_pos (by omega)] | rw [if_neg (by omega)])
    rfl
  · exact rdC_new (cs := #[.slice A1 a.length k1]) (t := 23) (fz := (0, 0)) (by simp only [heap_al, Array.getElem?_push, Array.size_push]; repeat (first | rw [if_pos trivial] | rw [if_pos (by omega)] | rw [if_neg (by omega)]))
  · rw [List.mem_singleton] at hz; subst hz; exact hok.on hab
theorem bel_alloc {B : Nat} {a w : World} {o : Obj} (hB : B ≤ w.heap.size) (h : Below B a w) : Below B a (w.alloc o) := h.alloc hB o
theorem held_cell {w1 u : World} {b o : Nat} {v : Value} (hb : b < w1.heap.size) (c : w1.cell? ⟨b, o, none⟩ = some v) (h : Below w1.heap.size w1 u) : u.cell? ⟨b, o, none⟩ = some v := (keep h _ _ hb).trans c
theorem tup_cells (xs : List Sl) : ∀ u ∈ xs.map Sl.val, u.oneCell' = true := by
  intro u hu
  rw [List.mem_map] at hu
  obtain ⟨x, _, rfl⟩ := hu; rfl
/-- A slice from k on; without room behind it its address is left. -/
theorem rdC_from {w : World} {b o ct k : Nat} {cs : List Value} (h : RdC w (some ⟨b, o, none⟩) cs) (hl : cs.length ≤ ct) : RdC w (if ct = k then some ⟨b, o, none⟩ else some ⟨b, o + k, none⟩) (cs.drop k) := by
  split
  · rw [List.drop_of_length_le (by omega)]; exact RdC.nil
  · exact h.drop k
theorem cat3T {g : Nat} {t : TypeId} (W : World) (p1 p2 p3 : Pt) (v1 v2 v3 : Value) (h1 : p1.val = v1) (h2 : p2.val = v2) (h3 : p3.val = v3) (hg : W.heap[g]? = some (.cells #[v1, v2, v3] t (0, 0))) (k1 : PtOk W p1) (k2 : PtOk W p2) (k3 : PtOk W p3) (hs : p1.l.length + p2.l.length + p3.l.length ≤ 1000000) :
    Calls Try.prog 75 #[.slice (some ⟨g, 0, none⟩) 3 3] W (SaysC (p1.l ++ p2.l ++ p3.l) W) := by
  have := catT_any g 0 3 [p1, p2, p3] W (by simp only [List.map_cons, List.map_nil, h1, h2, h3]; exact rdC_new hg) (by simp only [List.mem_cons, List.not_mem_nil, or_false]; rintro x (rfl | rfl | rfl) <;> assumption) (by simp [catL]; omega) (by simp)
  have e : catL [p1, p2, p3] = p1.l ++ p2.l ++ p3.l := by simp [catL]
  rw [e] at this
  exact this
theorem cat3P {g : Nat} {t : TypeId} (W : World) (p1 p2 p3 : Pt) (v1 v2 v3 : Value) (h1 : p1.val = v1) (h2 : p2.val = v2) (h3 : p3.val = v3) (hg : W.heap[g]? = some (.cells #[v1, v2, v3] t (0, 0))) (k1 : PtOk W p1) (k2 : PtOk W p2) (k3 : PtOk W p3) (hs : p1.l.length + p2.l.length + p3.l.length ≤ 1000000) :
    Calls Try.prog 92 #[.slice (some ⟨g, 0, none⟩) 3 3] W (SaysC (p1.l ++ p2.l ++ p3.l) W) := by
  have := catP_any g 0 3 [p1, p2, p3] W (by simp only [List.map_cons, List.map_nil, h1, h2, h3]; exact rdC_new hg) (by simp only [List.mem_cons, List.not_mem_nil, or_false]; rintro x (rfl | rfl | rfl) <;> assumption) (by simp [catL]; omega) (by simp)
  have e : catL [p1, p2, p3] = p1.l ++ p2.l ++ p3.l := by simp [catL]
  rw [e] at this
  exact this
theorem insT_any {k tb to ct : Nat} {ts : List Sl} (A1 : Option Addr) (k1 : Nat) (a : List V) (w2 : World) (h : RdC w2 (some ⟨tb, to, none⟩) (ts.map Sl.val)) (hc : ts.length ≤ ct) (hr : RdV w2 A1 a) (hk : k ≤ ts.length) (hn : ts.length ≤ 1000) :
    Calls Try.prog 75 #[.slice (some ⟨w2.heap.size + 1, 0, none⟩) 3 3]
      ((w2.alloc (.cells #[.slice A1 a.length k1] 23)).alloc (.cells #[.slice (some ⟨tb, to, none⟩) k ct, .slice (some ⟨w2.heap.size, 0, none⟩) 1 1, .slice (if ct = k then some ⟨tb, to, none⟩ else some ⟨tb, to + k, none⟩) (ts.length - k) (ct - k)] 22))
      (SaysC ((ts.take k ++ ⟨A1, k1, a⟩ :: ts.drop k).map Sl.val) ((w2.alloc (.cells #[.slice A1 a.length k1] 23)).alloc (.cells #[.slice (some ⟨tb, to, none⟩) k ct, .slice (some ⟨w2.heap.size, 0, none⟩) 1 1, .slice (if ct = k then some ⟨tb, to, none⟩ else some ⟨tb, to + k, none⟩) (ts.length - k) (ct - k)] 22))) := by
  have hB : Below w2.heap.size w2 ((w2.alloc (.cells #[.slice A1 a.length k1] 23)).alloc (.cells #[.slice (some ⟨tb, to, none⟩) k ct, .slice (some ⟨w2.heap.size, 0, none⟩) 1 1, .slice (if ct = k then some ⟨tb, to, none⟩ else some ⟨tb, to + k, none⟩) (ts.length - k) (ct - k)] 22)) := ((Below.refl _ _).alloc (Nat.le_refl _) _).alloc (by simp) _
  have e : (ts.take k ++ (⟨A1, k1, a⟩ : Sl) :: ts.drop k).map Sl.val = (ts.take k).map Sl.val ++ [Sl.val ⟨A1, k1, a⟩] ++ (ts.drop k).map Sl.val := by simp
  rw [e]
  have h' := h.on hB
  refine cat3T _ ⟨some ⟨tb, to, none⟩, ct, (ts.take k).map Sl.val⟩ ⟨some ⟨w2.heap.size, 0, none⟩, 1, [Sl.val ⟨A1, k1, a⟩]⟩ ⟨(if ct = k then some ⟨tb, to, none⟩ else some ⟨tb, to + k, none⟩), ct - k, (ts.drop k).map Sl.val⟩ (.slice (some ⟨tb, to, none⟩) k ct) (.slice (some ⟨w2.heap.size, 0, none⟩) 1 1) (.slice (if ct = k then some ⟨tb, to, none⟩ else some ⟨tb, to + k, none⟩) (ts.length - k) (ct - k)) ?_ rfl ?_ (t := 22) ?_ ⟨?_, tup_cells _⟩ ⟨?_, tup_cells [_]⟩ ⟨?_, tup_cells _⟩ ?_
  · simp [Pt.val, hk]
  · simp [Pt.val]
  · simp only [heap_al, Array.getElem?_push, Array.size_push]; repeat (first | rw [if_pos trivial] | rw [if_pos (by omega)])
  · rw [List.map_take]; exact h'.take k
  · refine rdC_new (cs := #[.slice A1 a.length k1]) (t := 23) (fz := (0, 0)) ?_
    simp only [heap_al, Array.getElem?_push, Array.size_push]; repeat (first | rw [if_pos trivial] | rw [if_pos (by omega)] | rw [if_neg (by omega)])
  · rw [List.map_drop]; exact rdC_from h' (by simpa using hc)
  · simp; omega
def WithL (X : Nat → Prop) (b : Nat) (ts : List Sl) (a : List V) (p : List Int) (w : World) (e : Ending) (w' : World) : Prop := ∃ (k : Nat) (f : Bool), PlaceP ts a p k f ∧ Below w.heap.size w w' ∧
      ((f = true ∧ e = .returned (.tuple #[.pointer (some ⟨b, 0, none⟩), .bool false])) ∨
       (f = false ∧ ∃ d y Bt dt Bk dk, e = .returned (.tuple #[.pointer (some ⟨d, 0, none⟩), .bool true]) ∧ y.l = a ∧ NodeAt X w' d (ts.take k ++ y :: ts.drop k) [] Bt dt Bk dk))
theorem leaf_end {X : Nat → Prop} {k n : Nat} {ts : List Sl} {w w1 w2 w3 : World} {A1 A3 : Option Addr} {k1 c3 : Nat} {a : List V} {t : TypeId} (hb : Below w.heap.size w w1) (h2 : Below w1.heap.size w1 w2) (h23 : Below w2.heap.size w2 w3) (hts : ∀ x ∈ ts, SlOk X w x) (hW : SlOk X w2 ⟨A1, k1, a⟩) (hX : ∀ k, X k → k < w.heap.size)
    (hr3 : RdC w3 A3 ((ts.take k ++ ⟨A1, k1, a⟩ :: ts.drop k).map Sl.val)) (ho3 : ∀ a, A3 = some a → w2.heap.size ≤ a.block) (hk3 : ((ts.take k ++ (⟨A1, k1, a⟩ : Sl) :: ts.drop k).map Sl.val).length ≤ c3) (hk3' : c3 ≤ maxLen) (hk : k ≤ ts.length) (hn : k + (ts.length - k + 1) = n) :
    NodeAt X (w3.alloc (.cells #[.slice A3 n c3, .slice none 0 0] t)) w3.heap.size (ts.take k ++ ⟨A1, k1, a⟩ :: ts.drop k) [] A3 c3 none 0 ∧ Below w.heap.size w (w3.alloc (.cells #[.slice A3 n c3, .slice none 0 0] t)) := by
  have hl : (ts.take k ++ (⟨A1, k1, a⟩ : Sl) :: ts.drop k).length = n := by simp; omega
  rw [List.length_map, hl] at hk3
  have hB : Below w.heap.size w w3 := on (on hb h2) h23
  have s1 := hb.size; have s2 := h2.size; have s3 := h23.size
  have hB2 : Below w.heap.size w (w3.alloc (.cells #[.slice A3 n c3, .slice none 0 0] t)) := hB.alloc hB.size _
  have h3 : Below w3.heap.size w3 (w3.alloc (.cells #[.slice A3 n c3, .slice none 0 0] t)) := (Below.refl _ _).alloc (Nat.le_refl _) _
  refine ⟨node_new (heap_alloc_new _ _) (fun hx => by have := hX _ hx; omega) hl rfl ⟨hr3.on h3, fun z hz hx => by have := ho3 z hz; have := hX _ hx; omega, fun z hz => ?_⟩ RdC.nil (Off.none _) hk3 (Nat.le_refl _) hk3' (by unfold maxLen; omega), hB2⟩
  rw [List.mem_append, List.mem_cons] at hz
  rcases hz with hz | rfl | hz
  · exact (hts z (List.mem_of_mem_take hz)).on hB2
  · exact hW.on (h23.trans (h3.mono s3))
  · exact (hts z (List.mem_of_mem_drop hz)).on hB2
set_option maxRecDepth 10000 in
set_option maxHeartbeats 8000000 in
theorem with_leaf {X : Nat → Prop} {b : Nat} {ts : List Sl} {At Ak : Option Addr} {ct ck : Nat} (A P : Option Addr) (ca cp : Nat) (a : List V) (p : List Int) (w : World) (h : NodeAt X w b ts [] At ct Ak ck) (ha : RdV w A a) (hp : RdI w P p) (la : a.length ≤ 1000) (lp : p.length ≤ 1000) (lt : ∀ x ∈ ts, x.l.length ≤ 1000) (hn1 : 1 ≤ ts.length) (hn2 : ts.length ≤ 1000) (hX : ∀ k, X k → k < w.heap.size) :
    Calls Try.prog 49 #[.pointer (some ⟨b, 0, none⟩), .slice A a.length ca, .slice P p.length cp] w (WithL X b ts a p w) := by
  obtain ⟨tb, to, rfl, htb, _⟩ := h.rt.at_ (List.getElem?_eq_getElem (show 0 < ts.length by omega))
  have hcap := h.capt; have hcap' := h.capt'
  unfold maxLen at hcap'
  have HN := Lib.hid h; clear h
  have HA := Lib.hid ha; have HP := Lib.hid hp; have HX := Lib.hid hX; clear ha hp hX
  have HLT := Lib.hid lt; clear lt
  go_enter Try.func49, Try.ntmps49
  go_wp2_with (first
    | (go_at_call 52; refine (place_any A P ca cp a p _ HN.out HA.out HP.out la lp HLT.out).mono ?_; rintro e w1 ⟨k, f, rfl, hpl, hb⟩; have hkl := hpl.le; replace hpl := Lib.hid hpl; have c0 := (HN.out.on hb).c0; have c1 := (HN.out.on hb).c1; cases f)
    | (go_at_call 53; refine (kid_leaf _ _ (HN.out.on hb)).mono ?_; rintro e w2 ⟨rfl, rfl⟩))
  · have hbl : b < w1.heap.size := (HN.out.on hb).lt
    have hbd : Below w.heap.size w w1.drew := hb.drew
    have hi1 : (0 : Int) ≤ (k : Int) := by omega
    have hi2 : (k : Int) ≤ (ct : Int) := by omega
    have hi3 : (k : Int) ≤ (ts.length : Int) := by omega
    have hi4 : (ts.length : Int) ≤ (ct : Int) := by omega
    have HC := Lib.hid (fun (A1 : Option Addr) (k1 : Nat) (w2 : World) (hr : RdV w2 A1 a) (h2 : Below w1.heap.size w1 w2) => insT_any (k := k) A1 k1 a w2 ((HN.out.on hb).rt.rd.on h2) hcap hr hkl hn2)
    go_region_held3 (fun u => Below w1.heap.size w1 u ∧ u.cell? ⟨b, 0, none⟩ = some (.slice (some ⟨tb, to, none⟩) ts.length ct))
      ((refine (fun hh => ⟨hh, held_cell hbl c0 hh⟩) ?_; repeat (first | exact Below.refl _ _ | exact h3 | exact h2 | apply Below.drew | (refine bel_alloc ?_ ?_; (first | omega | (focus (simp; done)) | (focus (simp; omega)))))))
      ((first
        | (go_at_call 59; refine (cloneV_any A ca a _ (HA.out.on hbd) la).mono ?_; rintro e w2 ⟨A1, k1, hW⟩; have hE := hW.val; subst hE; have h2 : Below w1.heap.size w1 w2 := (Below.refl _ _).drew.trans hW.b; have s2 : w1.heap.size ≤ w2.heap.size := h2.size; replace hW := Lib.hid hW; dsimp only)
        | (go_at_call 75; refine (HC.out A1 k1 w2 hW.out.rd h2).mono ?_; rintro e w3 ⟨A3, c3, rfl, hr3, ho3, hk3, hk3', _, hb3⟩; have h3 : Below w1.heap.size w1 w3 := ((h2.alloc h2.size _).alloc (by simp; omega) _).trans (hb3.mono (by simp; omega)); have s3 : w1.heap.size ≤ w3.heap.size := h3.size; have h23 : Below w2.heap.size w2 w3 := (((Below.refl _ _).alloc (Nat.le_refl _) _).alloc (by simp) _).trans (hb3.mono (by simp; omega)); replace hr3 := Lib.hid hr3; replace hk3 := Lib.hid hk3; replace hk3' := Lib.hid hk3'; replace ho3 := Lib.hid ho3; dsimp only)))
    all_goals go_wp2
    all_goals
      go_ret2
      obtain ⟨hN1, hB1⟩ := leaf_end (t := 111) hb h2 h23 HN.out.rt.each (hW.out.ok (fun z hz => Nat.lt_of_lt_of_le (HX.out z hz) hb.size)) HX.out hr3.out (fun z hz => Nat.le_trans (by simp; omega) (ho3.out z hz)) hk3.out hk3'.out hkl rfl
      exact ⟨_, false, hpl.out, hB1, .inr ⟨rfl, _, _, _, _, _, _, rfl, rfl, hN1⟩⟩
  · go_ret2
    exact ⟨k, true, hpl.out, hb, .inl ⟨rfl, rfl⟩⟩
end Go.Proofs.Ytojanokicfeghaa

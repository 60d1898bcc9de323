/-
  Contract of a node's exchange, where the new kid has a tuple too many.
-/
import Derived.Test.YtojanokicfeghaaBtWith
namespace Go.Proofs.Ytojanokicfeghaa
open Go.RowKit FloM ValM
set_option linter.unusedVariables false
set_option linter.unusedSimpArgs false

def ptrV (b : Nat) : Value := .pointer (some ⟨b, 0, none⟩)
def SplitP (X : Nat → Prop) (ts : List Sl) (ps : List Value) (w : World) (e : Ending) (w' : World) : Prop := ∃ bl br bt At' Ak' ct' ck' Bt Bk dt dk Ct Ck et ek x, e = .returned (.pointer (some ⟨bt, 0, none⟩)) ∧ ts[3]? = some x ∧
      NodeAt X w' bl (ts.take 3) (ps.take 4) At' ct' Ak' ck' ∧ NodeAt X w' br (ts.drop 4) (ps.drop 4) Bt dt Bk dk ∧ NodeAt X w' bt [x] [.pointer (some ⟨bl, 0, none⟩), .pointer (some ⟨br, 0, none⟩)] Ct et Ck ek ∧ Below w.heap.size w w'
theorem split_any {X : Nat → Prop} {b : Nat} {ts : List Sl} {ps : List Value} {At Ak : Option Addr} {ct ck : Nat} (w : World) (h : NodeAt X w b ts ps At ct Ak ck) (h7 : ts.length = 7) (h8 : ps = [] ∨ ps.length = 8) (hX : ∀ k, X k → k < w.heap.size) :
    Calls Try.prog 91 #[.pointer (some ⟨b, 0, none⟩)] w (SplitP X ts ps w) := by
  rcases h8 with rfl | h8
  · exact split_leaf w h h7 hX
  · exact split_kids w h h7 h8 hX
def ExchP (X : Nat → Prop) (ts ts' : List Sl) (ps ps' : List Value) (i : Nat) (w : World) (e : Ending) (w' : World) : Prop := ∃ d bl br x A1 A2 A3 A4 B1 B2 c1 c2 c3 c4 d1 d2, e = .returned (ptrV d) ∧ ts'[3]? = some x ∧
      NodeAt X w' bl (ts'.take 3) (ps'.take 4) A1 c1 A2 c2 ∧ NodeAt X w' br (ts'.drop 4) (ps'.drop 4) A3 c3 A4 c4 ∧ NodeAt X w' d (ts.take i ++ x :: ts.drop i) (ps.take i ++ ptrV bl :: ptrV br :: ps.drop (i + 1)) B1 d1 B2 d2 ∧ Below w.heap.size w w'
theorem exch_end {X : Nat → Prop} {i n m : Nat} {ts : List Sl} {ps : List Value} {x : Sl} {bl br : Nat} {w w1 w3 : World} {A3 A4 : Option Addr} {c3 c4 : Nat} {t : TypeId} (hb : Below w.heap.size w w1) (h13 : Below w1.heap.size w1 w3) (hts : ∀ x ∈ ts, SlOk X w x) (hx : SlOk X w1 x) (hX : ∀ k, X k → k < w.heap.size)
    (hr3 : RdC w3 A3 ((ts.take i ++ x :: ts.drop i).map Sl.val)) (ho3 : ∀ a, A3 = some a → w1.heap.size ≤ a.block) (hk3 : ((ts.take i ++ x :: ts.drop i).map Sl.val).length ≤ c3) (hk3' : c3 ≤ maxLen) (hn : ((ts.take i ++ x :: ts.drop i).map Sl.val).length = n)
    (hr4 : RdC w3 A4 (ps.take i ++ ptrV bl :: ptrV br :: ps.drop (i + 1))) (ho4 : ∀ a, A4 = some a → w1.heap.size ≤ a.block) (hk4 : (ps.take i ++ ptrV bl :: ptrV br :: ps.drop (i + 1)).length ≤ c4) (hk4' : c4 ≤ maxLen) (hm : (ps.take i ++ ptrV bl :: ptrV br :: ps.drop (i + 1)).length = m) :
    NodeAt X (w3.alloc (.cells #[.slice A3 n c3, .slice A4 m c4] t)) w3.heap.size (ts.take i ++ x :: ts.drop i) (ps.take i ++ ptrV bl :: ptrV br :: ps.drop (i + 1)) A3 c3 A4 c4 ∧ Below w.heap.size w (w3.alloc (.cells #[.slice A3 n c3, .slice A4 m c4] t)) := by
  have s1 := hb.size; have s2 := h13.size
  have hB : Below w.heap.size w w3 := on hb h13
  have hB2 : Below w.heap.size w (w3.alloc (.cells #[.slice A3 n c3, .slice A4 m c4] t)) := hB.alloc hB.size _
  have h3 : Below w3.heap.size w3 (w3.alloc (.cells #[.slice A3 n c3, .slice A4 m c4] t)) := (Below.refl _ _).alloc (Nat.le_refl _) _
  rw [hn] at hk3; rw [hm] at hk4
  refine ⟨node_new (heap_alloc_new _ _) (fun hx => by have := hX _ hx; omega) (by simpa using hn) hm ⟨hr3.on h3, fun z hz hx => by have := ho3 z hz; have := hX _ hx; omega, fun z hz => ?_⟩ (hr4.on h3) (fun z hz hx => by have := ho4 z hz; have := hX _ hx; omega) hk3 hk4 hk3' hk4', hB2⟩
  rw [List.mem_append, List.mem_cons] at hz
  rcases hz with hz | rfl | hz
  · exact (hts z (List.mem_of_mem_take hz)).on hB2
  · exact hx.on (h13.trans (h3.mono s2))
  · exact (hts z (List.mem_of_mem_drop hz)).on hB2
theorem heap_on {a w : World} {g : Nat} {o : Obj} (h : Below a.heap.size a w) (hg : a.heap[g]? = some o) : w.heap[g]? = some o := (h.block _ (Array.getElem?_eq_some_iff.1 hg).1).trans hg
theorem insT2 {k tb to ct et g : Nat} {Ct : Option Addr} {ts : List Sl} {t : TypeId} (W : World) (x : Sl) (h : RdC W (some ⟨tb, to, none⟩) (ts.map Sl.val)) (hc : ts.length ≤ ct) (hr : RdC W Ct ([x].map Sl.val)) (hk : k ≤ ts.length) (hn : ts.length ≤ 1000)
    (hg : W.heap[g]? = some (.cells #[.slice (some ⟨tb, to, none⟩) k ct, .slice Ct 1 et, .slice (if ct = k then some ⟨tb, to, none⟩ else some ⟨tb, to + k, none⟩) (ts.length - k) (ct - k)] t (0, 0))) :
    Calls Try.prog 75 #[.slice (some ⟨g, 0, none⟩) 3 3] W (SaysC ((ts.take k ++ x :: ts.drop k).map Sl.val) W) := by
  have e : (ts.take k ++ x :: ts.drop k).map Sl.val = (ts.take k).map Sl.val ++ [x].map Sl.val ++ (ts.drop k).map Sl.val := by simp
  rw [e]
  refine cat3T _ ⟨some ⟨tb, to, none⟩, ct, (ts.take k).map Sl.val⟩ ⟨Ct, et, [x].map Sl.val⟩ ⟨(if ct = k then some ⟨tb, to, none⟩ else some ⟨tb, to + k, none⟩), ct - k, (ts.drop k).map Sl.val⟩ _ _ _ ?_ ?_ ?_ hg ⟨?_, tup_cells _⟩ ⟨hr, tup_cells _⟩ ⟨?_, tup_cells _⟩ ?_
  · simp [Pt.val, hk]
  · simp [Pt.val]
  · simp [Pt.val]
  · rw [List.map_take]; exact h.take k
  · rw [List.map_drop]; exact rdC_from h (by simpa using hc)
  · simp; omega
theorem insP2 {i kb ko ck ek g n : Nat} {Ck : Option Addr} {ps : List Value} {bl br : Nat} {t : TypeId} (W : World) (h : RdC W (some ⟨kb, ko, none⟩) ps) (hc : ps.length ≤ ck) (hr : RdC W Ck [ptrV bl, ptrV br]) (hi : i < ps.length) (hn : ps.length ≤ 1001) (h1 : ∀ u ∈ ps, u.oneCell' = true) (hl : ps.length - (i + 1) = n)
    (hg : W.heap[g]? = some (.cells #[.slice (some ⟨kb, ko, none⟩) i ck, .slice Ck 2 ek, .slice (if ck = i + 1 then some ⟨kb, ko, none⟩ else some ⟨kb, ko + (i + 1), none⟩) n (ck - (i + 1))] t (0, 0))) :
    Calls Try.prog 92 #[.slice (some ⟨g, 0, none⟩) 3 3] W (SaysC (ps.take i ++ ptrV bl :: ptrV br :: ps.drop (i + 1)) W) := by
  have e : ps.take i ++ ptrV bl :: ptrV br :: ps.drop (i + 1) = ps.take i ++ [ptrV bl, ptrV br] ++ ps.drop (i + 1) := by simp
  rw [e]
  refine cat3P _ ⟨some ⟨kb, ko, none⟩, ck, ps.take i⟩ ⟨Ck, ek, [ptrV bl, ptrV br]⟩ ⟨(if ck = i + 1 then some ⟨kb, ko, none⟩ else some ⟨kb, ko + (i + 1), none⟩), ck - (i + 1), ps.drop (i + 1)⟩ _ _ _ ?_ ?_ ?_ hg ⟨?_, fun u hu => h1 u (List.mem_of_mem_take hu)⟩ ⟨hr, fun u hu => ?_⟩ ⟨?_, fun u hu => h1 u (List.mem_of_mem_drop hu)⟩ ?_
  · simp [Pt.val]; omega
  · simp [Pt.val]
  · simp [Pt.val, hl]
  · exact h.take i
  · simp only [List.mem_cons, List.not_mem_nil, or_false] at hu
    rcases hu with rfl | rfl <;> rfl
  · exact rdC_from h hc
  · simp; omega
set_option maxRecDepth 10000 in
set_option maxHeartbeats 8000000 in
theorem exch_big {X : Nat → Prop} {b c : Nat} {ts ts' : List Sl} {ps ps' : List Value} {At Ak At' Ak' : Option Addr} {ct ck ct' ck' : Nat} (i : Nat) (w : World) (h : NodeAt X w b ts ps At ct Ak ck) (h' : NodeAt X w c ts' ps' At' ct' Ak' ck') (hi : i ≤ ts.length) (hp : ps.length = ts.length + 1) (h7 : ts'.length = 7) (h8 : ps' = [] ∨ ps'.length = 8) (hn1 : 1 ≤ ts.length) (hn2 : ts.length ≤ 1000) (h1 : ∀ u ∈ ps, u.oneCell' = true) (hX : ∀ k, X k → k < w.heap.size) :
    Calls Try.prog 76 #[.pointer (some ⟨b, 0, none⟩), .int .i64 (i : Int), .pointer (some ⟨c, 0, none⟩)] w (ExchP X ts ts' ps ps' i w) := by
  obtain ⟨tb, to, rfl, htb, hz1⟩ := h.rt.at_ (List.getElem?_eq_getElem (show 0 < ts.length by omega))
  clear hz1
  obtain ⟨kb, ko, rfl, hkb, hz1⟩ := h.rk 0 _ (List.getElem?_eq_getElem (show 0 < ps.length by omega))
  clear hz1
  have c0' := h'.c0
  rw [h7] at c0'
  have hcap := h.capt; have hcap' := h.capt'; have hkap := h.capk; have hkap' := h.capk'
  unfold maxLen at hcap' hkap'
  have HN := Lib.hid h; have HN' := Lib.hid h'; have HP := Lib.hid h1; have HX := Lib.hid hX; clear h h' h1 hX
  have HPL := Lib.hid hp; clear hp
  go_enter Try.func76, Try.ntmps76
  go_wp2_with (go_at_call 91; refine (split_any w HN'.out h7 h8 HX.out).mono ?_; rintro e w1 ⟨bl, br, bt, L1, L2, l1, l2, R1, R2, r1, r2, Ct, Ck, et, ek, x, rfl, hx, hL, hR, hT, hb⟩; replace hL := Lib.hid hL; replace hR := Lib.hid hR; replace hT := Lib.hid hT; replace hx := Lib.hid hx)
  have c0 := (HN.out.on hb).c0; have c1 := (HN.out.on hb).c1
  have d0 := hT.out.c0; have d1 := hT.out.c1
  simp only [List.length_cons, List.length_nil, Nat.zero_add, Nat.reduceAdd] at d0 d1
  rw [HPL.out] at c1 hkap
  have hbl : b < w1.heap.size := (HN.out.on hb).lt
  have htl : bt < w1.heap.size := hT.out.lt
  have hi0 : (0 : Int) ≤ (i : Int) := by omega
  have hi2 : (i : Int) ≤ (ct : Int) := by omega
  have hi3 : (i : Int) ≤ (ts.length : Int) := by omega
  have hi4 : (ts.length : Int) ≤ (ct : Int) := by omega
  have hi5 : (i : Int) ≤ (ck : Int) := by omega
  have hi6 : (i : Int) + 1 ≤ ((ts.length + 1 : Nat) : Int) := by omega
  have hi7 : ((ts.length + 1 : Nat) : Int) ≤ (ck : Int) := by omega
  have hi8 : (0 : Int) ≤ (i : Int) + 1 := by omega
  have hw : IntKind.i64.wrap ((i : Int) + 1) = ((i + 1 : Nat) : Int) := by rw [IntKind.wrap_i64]; omega
  go_wp2
  have HC1 := Lib.hid (fun (g : Nat) (W : World) (hW : Below w1.heap.size w1 W) (hg : W.heap[g]? = some (.cells #[.slice (some ⟨tb, to, none⟩) i ct, .slice Ct 1 et, .slice (if ct = i then some ⟨tb, to, none⟩ else some ⟨tb, to + i, none⟩) (ts.length - i) (ct - i)] 22 (0, 0))) =>
    (insT2 (k := i) W x (((HN.out.on hb).rt.rd).on hW) hcap (hT.out.rt.rd.on hW) hi hn2 hg))
  have HC2 := Lib.hid (fun (g : Nat) (W : World) (hW : Below w1.heap.size w1 W) (hg : W.heap[g]? = some (.cells #[.slice (some ⟨kb, ko, none⟩) i ck, .slice Ck 2 ek, .slice (if ck = i + 1 then some ⟨kb, ko, none⟩ else some ⟨kb, ko + (i + 1), none⟩) (ts.length - i) (ck - (i + 1))] 109 (0, 0))) =>
    (insP2 (bl := bl) (br := br) (i := i) W (((HN.out.on hb).rk).on hW) (by rw [HPL.out]; exact hkap) (hT.out.rk.on hW) (by rw [HPL.out]; omega) (by rw [HPL.out]; omega) HP.out (by rw [HPL.out]; omega) hg))
  go_region_held3 (fun u => Below w1.heap.size w1 u ∧ u.cell? ⟨b, 0, none⟩ = some (.slice (some ⟨tb, to, none⟩) ts.length ct) ∧ u.cell? ⟨b, 1, none⟩ = some (.slice (some ⟨kb, ko, none⟩) (ts.length + 1) ck) ∧ u.cell? ⟨bt, 0, none⟩ = some (.slice Ct 1 et) ∧ u.cell? ⟨bt, 1, none⟩ = some (.slice Ck 2 ek))
      ((refine (fun hh => ⟨hh, held_cell hbl c0 hh, held_cell hbl c1 hh, held_cell htl d0 hh, held_cell htl d1 hh⟩) ?_; repeat (first | exact Below.refl _ _ | exact h3 | exact h2 | apply Below.drew | (refine bel_alloc ?_ ?_; (first | omega | (focus (simp; done)) | (focus (simp; omega)))))))
      ((first
        | (go_at_call 75; refine (HC1.out _ _ ?_ ?_).mono ?_; (repeat (first | exact Below.refl _ _ | exact h3 | exact h2 | apply Below.drew | (refine bel_alloc ?_ ?_; (first | omega | (focus (simp; done)) | (focus (simp; omega)))))); (simp only [heap_al, heap_dr, Array.getElem?_push, Array.size_push]; repeat (first | rw [if_pos trivial] | rw [if_pos (by omega)] | rw [if_neg (by omega)])); rintro e w2 ⟨A3, c3, rfl, hr3, ho3, hk3, hk3', _, hb2⟩; have h2 : Below w1.heap.size w1 w2 := by { refine Below.trans ?_ (hb2.mono (by simp; try omega)); (repeat (first | exact Below.refl _ _ | apply Below.drew | (refine bel_alloc ?_ ?_; (first | omega | (focus (simp; done)) | (focus (simp; omega)))))) }; have s2 : w1.heap.size ≤ w2.heap.size := h2.size; replace hr3 := Lib.hid hr3; replace hk3 := Lib.hid hk3; replace hk3' := Lib.hid hk3'; replace ho3 := Lib.hid ho3; replace hb2 := Lib.hid hb2; dsimp only)
        | (go_at_call 92; refine (HC2.out _ _ ?_ ?_).mono ?_; (repeat (first | exact Below.refl _ _ | exact h2 | apply Below.drew | (refine bel_alloc ?_ ?_; (first | omega | (focus (simp; done)) | (focus (simp; omega)))))); (first | (focus ((simp only [heap_al, heap_dr, Array.getElem?_push, Array.size_push]; repeat (first | rw [if_pos trivial] | rw [if_pos (by omega)] | rw [if_neg (by omega)])); done)) | (focus (refine heap_on hb2.out ?_; (simp only [heap_al, heap_dr, Array.getElem?_push, Array.size_push]; repeat (first | rw [if_pos trivial] | rw [if_pos (by omega)] | rw [if_neg (by omega)])); done))); rintro e w3 ⟨A4, c4, rfl, hr4, ho4, hk4, hk4', _, hb3⟩; have h23 : Below w2.heap.size w2 w3 := by { refine Below.trans ?_ (hb3.mono ?_); rotate_left; (first | exact Nat.le_refl _ | (focus (simp; done)) | (focus (simp; omega))); (repeat (first | exact Below.refl _ _ | apply Below.drew | (refine bel_alloc ?_ ?_; (first | exact Nat.le_refl _ | omega | (simp; omega))))) }; have h3 : Below w1.heap.size w1 w3 := on h2 h23; have s3 : w1.heap.size ≤ w3.heap.size := h3.size; replace hr4 := Lib.hid hr4; replace hk4 := Lib.hid hk4; replace hk4' := Lib.hid hk4'; replace ho4 := Lib.hid ho4; dsimp only)))
  all_goals generalize (if ct = i then some (⟨tb, to, none⟩ : Addr) else some ⟨tb, to + i, none⟩) = Z1
  all_goals generalize (if ck = i + 1 then some (⟨kb, ko, none⟩ : Addr) else some ⟨kb, ko + (i + 1), none⟩) = Z2
  all_goals go_wp2
  all_goals
    go_ret
    have hn3 : ((ts.take i ++ x :: ts.drop i).map Sl.val).length = i + (ts.length - i + 1) := by simp; omega
    have hm3 : (ps.take i ++ ptrV bl :: ptrV br :: ps.drop (i + 1)).length = min i ps.length + (ps.length - (i + 1) + 1 + 1) := by simp
    obtain ⟨hN1, hB1⟩ := exch_end (t := 111) hb h3 HN.out.rt.each (hT.out.rt.each x (List.mem_singleton.2 rfl)) HX.out (hr3.out.on h23) (fun z hz => Nat.le_trans (by first | exact Nat.le_refl _ | (simp; done) | (simp; omega) | omega) (ho3.out z hz)) hk3.out hk3'.out hn3 hr4.out (fun z hz => Nat.le_trans (by first | exact Nat.le_refl _ | (simp; done) | (simp; omega) | omega) (ho4.out z hz)) hk4.out hk4'.out hm3
    exact ⟨_, bl, br, x, _, _, _, _, _, _, _, _, _, _, _, _, rfl, hx.out, hL.out.on (h3.trans ((Below.refl _ w3).alloc h3.size _)), hR.out.on (h3.trans ((Below.refl _ w3).alloc h3.size _)), hN1, hB1⟩
end Go.Proofs.Ytojanokicfeghaa

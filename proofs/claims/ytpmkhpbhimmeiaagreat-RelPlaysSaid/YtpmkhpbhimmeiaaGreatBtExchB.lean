/-
  Contract of a node's split.
-/
import Derived.Test.YtpmkhpbhimmeiaaGreatBtCat
import Derived.RegionTactic
import Derived.BigRegion
import Derived.Deep.RegionHeld3
import Derived.Test.YtpmkhpbhimmeiaaGreatBtPlace
namespace Go.Proofs.YtpmkhpbhimmeiaaGreat
open Go.RowKit FloM ValM
set_option linter.unusedVariables false

theorem heap_al (w : World) (o : Obj) : (w.alloc o).heap = w.heap.push o := rfl
theorem heap_dr (w : World) : w.drew.heap = w.heap := rfl
theorem node_new {X : Nat → Prop} {W : World} {b n m : Nat} {ts : List Sl} {ps : List Value} {At Ak : Option Addr} {ct ck : Nat} {t : TypeId} (hc : W.heap[b]? = some (.cells #[.slice At n ct, .slice Ak m ck] t (0, 0))) (hx : ¬ X b) (hn : ts.length = n) (hm : ps.length = m) (rt : RdT X W At ts) (rk : RdC W Ak ps) (ok : Off X Ak) (h1 : n ≤ ct) (h2 : m ≤ ck) (h3 : ct ≤ maxLen) (h4 : ck ≤ maxLen) : NodeAt X W b ts ps At ct Ak ck :=
  ⟨(Array.getElem?_eq_some_iff.1 hc).1, hx, by rw [hn]; simp [World.cell?, hc], by rw [hm]; simp [World.cell?, hc], rt, rk, fun _ => ok, by omega, by omega, h3, h4⟩
theorem rdC_new {W : World} {b : Nat} {cs : Array Value} {t : TypeId} {fz : Nat × Nat} (hc : W.heap[b]? = some (.cells cs t fz)) : RdC W (some ⟨b, 0, none⟩) cs.toList := fun j u hu => ⟨b, 0, rfl, (Array.getElem?_eq_some_iff.1 hc).1, by simp [World.cell?, hc]; simpa using hu⟩
theorem split_end {X : Nat → Prop} {b : Nat} {ts : List Sl} {Ak : Option Addr} {ct ck : Nat} (w : World) {W : World} {tb to bl br bt B1 B2 : Nat} {x : Sl} {t1 t2 t3 t4 t5 : TypeId} (h : NodeAt X w b ts [] (some ⟨tb, to, none⟩) ct Ak ck) (hx : ts[3]? = some x) (h7 : ts.length = 7) (hX : ∀ k, X k → k < w.heap.size) (hB : Below w.heap.size w W)
    (hl : W.heap[bl]? = some (.cells #[.slice (some ⟨tb, to, none⟩) 3 ct, .slice none 0 0] t1 (0, 0)))
    (hr : W.heap[br]? = some (.cells #[.slice (some ⟨tb, to + 4, none⟩) 3 (ct - 4), .slice none 0 0] t2 (0, 0)))
    (hB1 : W.heap[B1]? = some (.cells #[.slice x.A x.l.length x.c] t3 (0, 0)))
    (hB2 : W.heap[B2]? = some (.cells #[.pointer (some ⟨bl, 0, none⟩), .pointer (some ⟨br, 0, none⟩)] t4 (0, 0)))
    (ht : W.heap[bt]? = some (.cells #[.slice (some ⟨B1, 0, none⟩) 1 1, .slice (some ⟨B2, 0, none⟩) 2 2] t5 (0, 0)))
    (g1 : w.heap.size ≤ bl) (g2 : w.heap.size ≤ br) (g3 : w.heap.size ≤ B1) (g4 : w.heap.size ≤ B2) (g5 : w.heap.size ≤ bt) :
    ∃ bl br bt' At' Ak' ct' ck' Bt Bk dt dk Ct Ck et ek x, Ending.returned (.pointer (some ⟨bt, 0, none⟩)) = .returned (.pointer (some ⟨bt', 0, none⟩)) ∧ ts[3]? = some x ∧
      NodeAt X W bl (ts.take 3) [] At' ct' Ak' ck' ∧ NodeAt X W br (ts.drop 4) [] Bt dt Bk dk ∧ NodeAt X W bt' [x] [.pointer (some ⟨bl, 0, none⟩), .pointer (some ⟨br, 0, none⟩)] Ct et Ck ek ∧ Below w.heap.size w W := by
  have hn : ∀ k, w.heap.size ≤ k → ¬ X k := fun k hk hx => by have := hX k hx; omega
  have c1 := h.capt; have c2 := h.capt'
  have hrt := h.rt.on hB
  refine ⟨bl, br, bt, _, _, _, _, _, _, _, _, _, _, _, _, x, rfl, hx,
    node_new hl (hn _ g1) (by simp; omega) rfl (hrt.take 3) RdC.nil (Off.none _) (by omega) (Nat.le_refl _) c2 (by unfold maxLen; omega),
    node_new hr (hn _ g2) (by simp; omega) rfl (hrt.drop 4) RdC.nil (Off.none _) (by omega) (Nat.le_refl _) (by omega) (by unfold maxLen; omega),
    node_new ht (hn _ g5) rfl rfl ⟨rdC_new hB1, fun a ha => by cases ha; exact hn _ g3, fun y hy => by
      rw [List.mem_singleton] at hy; subst hy; exact hrt.each _ (List.mem_of_getElem? hx)⟩ (rdC_new hB2) (fun a ha => by cases ha; exact hn _ g4) (Nat.le_refl _) (Nat.le_refl _) (by unfold maxLen; omega) (by unfold maxLen; omega), hB⟩
set_option maxHeartbeats 4000000 in
theorem split_leaf {X : Nat → Prop} {b : Nat} {ts : List Sl} {At Ak : Option Addr} {ct ck : Nat} (w : World) (h : NodeAt X w b ts [] At ct Ak ck) (h7 : ts.length = 7) (hX : ∀ k, X k → k < w.heap.size) :
    Calls Tryz.prog 107 #[.pointer (some ⟨b, 0, none⟩)] w fun e w' => ∃ bl br bt At' Ak' ct' ck' Bt Bk dt dk Ct Ck et ek x, e = .returned (.pointer (some ⟨bt, 0, none⟩)) ∧ ts[3]? = some x ∧
      NodeAt X w' bl (ts.take 3) [] At' ct' Ak' ck' ∧ NodeAt X w' br (ts.drop 4) [] Bt dt Bk dk ∧ NodeAt X w' bt [x] [.pointer (some ⟨bl, 0, none⟩), .pointer (some ⟨br, 0, none⟩)] Ct et Ck ek ∧ Below w.heap.size w w' := by
  have hlt : 3 < ts.length := by omega
  have hx := List.getElem?_eq_getElem hlt
  generalize ts[3] = x at hx
  obtain ⟨tb, to, rfl, htb, hcx⟩ := h.rt.at_ hx
  have c0 := h.c0; have c1 := h.c1
  simp only [List.length_nil] at c1
  rw [h7] at c0
  have hct := h.capt; have hct' := h.capt'
  unfold maxLen at hct'
  have hb := h.lt
  have HN := Lib.hid h; clear h
  have HX := Lib.hid hx; clear hx
  go_enter Tryz.func107, Tryz.ntmps107
  go_wp2
  go_region
  all_goals go_wp2
  · go_ret
    exact split_end w (bl := w.heap.size) (br := w.heap.size + 1) (bt := w.heap.size + 1 + 1 + 1 + 1) (B1 := w.heap.size + 1 + 1) (B2 := w.heap.size + 1 + 1 + 1) HN.out HX.out h7 hX ((((((Below.refl _ w).alloc (Nat.le_refl _) _).alloc (by simp) _).alloc (by simp; omega) _).alloc (by simp; omega) _).alloc (by simp; omega) _).drew (by simp only [heap_dr, heap_al, Array.getElem?_push, Array.size_push]; repeat (first | rw [if_pos trivial] | rw [if_pos (by omega)] | rw [if_neg (by omega)])) (by simp only [heap_dr, heap_al, Array.getElem?_push, Array.size_push]; repeat (first | rw [if_pos trivial] | rw [if_pos (by omega)] | rw [if_neg (by omega)])) (by simp only [heap_dr, heap_al, Array.getElem?_push, Array.size_push]; repeat (first | rw [if_pos trivial] | rw [if_pos (by omega)] | rw [if_neg (by omega)])) (by simp only [heap_dr, heap_al, Array.getElem?_push, Array.size_push]; repeat (first | rw [if_pos trivial] | rw [if_pos (by omega)] | rw [if_neg (by omega)])) (by simp only [heap_dr, heap_al, Array.getElem?_push, Array.size_push]; repeat (first | rw [if_pos trivial] | rw [if_pos (by omega)] | rw [if_neg (by omega)])) (by omega) (by omega) (by omega) (by omega) (by omega)
  · go_ret
    exact split_end w (bl := w.heap.size + 1) (br := w.heap.size) (bt := w.heap.size + 1 + 1 + 1 + 1) (B1 := w.heap.size + 1 + 1) (B2 := w.heap.size + 1 + 1 + 1) HN.out HX.out h7 hX ((((((Below.refl _ w).alloc (Nat.le_refl _) _).alloc (by simp) _).alloc (by simp; omega) _).alloc (by simp; omega) _).alloc (by simp; omega) _).drew (by simp only [heap_dr, heap_al, Array.getElem?_push, Array.size_push]; repeat (first | rw [if_pos trivial] | rw [if_pos (by omega)] | rw [if_neg (by omega)])) (by simp only [heap_dr, heap_al, Array.getElem?_push, Array.size_push]; repeat (first | rw [if_pos trivial] | rw [if_pos (by omega)] | rw [if_neg (by omega)])) (by simp only [heap_dr, heap_al, Array.getElem?_push, Array.size_push]; repeat (first | rw [if_pos trivial] | rw [if_pos (by omega)] | rw [if_neg (by omega)])) (by simp only [heap_dr, heap_al, Array.getElem?_push, Array.size_push]; repeat (first | rw [if_pos trivial] | rw [if_pos (by omega)] | rw [if_neg (by omega)])) (by simp only [heap_dr, heap_al, Array.getElem?_push, Array.size_push]; repeat (first | rw [if_pos trivial] | rw [if_pos (by omega)] | rw [if_neg (by omega)])) (by omega) (by omega) (by omega) (by omega) (by omega)
end Go.Proofs.YtpmkhpbhimmeiaaGreat
/-
  Contract of a node's split, where it has kids.
-/
namespace Go.Proofs.YtpmkhpbhimmeiaaGreat
open Go.RowKit FloM ValM
set_option linter.unusedVariables false

theorem split_endK {X : Nat → Prop} {b : Nat} {ts : List Sl} {ps : List Value} {ct ck : Nat} (w : World) {W : World} {tb to kb ko bl br bt B1 B2 : Nat} {x : Sl} {t1 t2 t3 t4 t5 : TypeId} (h : NodeAt X w b ts ps (some ⟨tb, to, none⟩) ct (some ⟨kb, ko, none⟩) ck) (hx : ts[3]? = some x) (h7 : ts.length = 7) (h8 : ps.length = 8) (hX : ∀ k, X k → k < w.heap.size) (hB : Below w.heap.size w W)
    (hl : W.heap[bl]? = some (.cells #[.slice (some ⟨tb, to, none⟩) 3 ct, .slice (some ⟨kb, ko, none⟩) 4 ck] t1 (0, 0)))
    (hr : W.heap[br]? = some (.cells #[.slice (some ⟨tb, to + 4, none⟩) 3 (ct - 4), .slice (some ⟨kb, ko + 4, none⟩) 4 (ck - 4)] t2 (0, 0)))
    (hB1 : W.heap[B1]? = some (.cells #[.slice x.A x.l.length x.c] t3 (0, 0)))
    (hB2 : W.heap[B2]? = some (.cells #[.pointer (some ⟨bl, 0, none⟩), .pointer (some ⟨br, 0, none⟩)] t4 (0, 0)))
    (ht : W.heap[bt]? = some (.cells #[.slice (some ⟨B1, 0, none⟩) 1 1, .slice (some ⟨B2, 0, none⟩) 2 2] t5 (0, 0)))
    (g1 : w.heap.size ≤ bl) (g2 : w.heap.size ≤ br) (g3 : w.heap.size ≤ B1) (g4 : w.heap.size ≤ B2) (g5 : w.heap.size ≤ bt) :
    ∃ bl br bt' At' Ak' ct' ck' Bt Bk dt dk Ct Ck et ek x, Ending.returned (.pointer (some ⟨bt, 0, none⟩)) = .returned (.pointer (some ⟨bt', 0, none⟩)) ∧ ts[3]? = some x ∧
      NodeAt X W bl (ts.take 3) (ps.take 4) At' ct' Ak' ck' ∧ NodeAt X W br (ts.drop 4) (ps.drop 4) Bt dt Bk dk ∧ NodeAt X W bt' [x] [.pointer (some ⟨bl, 0, none⟩), .pointer (some ⟨br, 0, none⟩)] Ct et Ck ek ∧ Below w.heap.size w W := by
  have hn : ∀ k, w.heap.size ≤ k → ¬ X k := fun k hk hx => by have := hX k hx; omega
  have c1 := h.capt; have c2 := h.capt'; have c3 := h.capk; have c4 := h.capk'
  have hrt := h.rt.on hB
  have hrk := h.rk.on hB
  have hnk : ps ≠ [] := fun e => by simp [e] at h8
  refine ⟨bl, br, bt, _, _, _, _, _, _, _, _, _, _, _, _, x, rfl, hx,
    node_new hl (hn _ g1) (by simp; omega) (by simp; omega) (hrt.take 3) (hrk.take 4) (h.offk hnk) (by omega) (by omega) c2 c4,
    node_new hr (hn _ g2) (by simp; omega) (by simp; omega) (hrt.drop 4) (hrk.drop 4) (fun a ha => by cases ha; exact off_some (h.offk hnk)) (by omega) (by omega) (by omega) (by omega),
    node_new ht (hn _ g5) rfl rfl ⟨rdC_new hB1, fun a ha => by cases ha; exact hn _ g3, fun y hy => by
      rw [List.mem_singleton] at hy; subst hy; exact hrt.each _ (List.mem_of_getElem? hx)⟩ (rdC_new hB2) (fun a ha => by cases ha; exact hn _ g4) (Nat.le_refl _) (Nat.le_refl _) (by unfold maxLen; omega) (by unfold maxLen; omega), hB⟩
set_option maxHeartbeats 8000000 in
theorem split_kids {X : Nat → Prop} {b : Nat} {ts : List Sl} {ps : List Value} {At Ak : Option Addr} {ct ck : Nat} (w : World) (h : NodeAt X w b ts ps At ct Ak ck) (h7 : ts.length = 7) (h8 : ps.length = 8) (hX : ∀ k, X k → k < w.heap.size) :
    Calls Tryz.prog 107 #[.pointer (some ⟨b, 0, none⟩)] w fun e w' => ∃ bl br bt At' Ak' ct' ck' Bt Bk dt dk Ct Ck et ek x, e = .returned (.pointer (some ⟨bt, 0, none⟩)) ∧ ts[3]? = some x ∧
      NodeAt X w' bl (ts.take 3) (ps.take 4) At' ct' Ak' ck' ∧ NodeAt X w' br (ts.drop 4) (ps.drop 4) Bt dt Bk dk ∧ NodeAt X w' bt [x] [.pointer (some ⟨bl, 0, none⟩), .pointer (some ⟨br, 0, none⟩)] Ct et Ck ek ∧ Below w.heap.size w w' := by
  have hlt : 3 < ts.length := by omega
  have hx := List.getElem?_eq_getElem hlt
  generalize ts[3] = x at hx
  obtain ⟨tb, to, rfl, htb, hcx⟩ := h.rt.at_ hx
  obtain ⟨kb, ko, rfl, hkb, hcy⟩ := h.rk 0 _ (List.getElem?_eq_getElem (show 0 < ps.length by omega))
  have c0 := h.c0; have c1 := h.c1
  rw [h7] at c0
  rw [h8] at c1
  have hct := h.capt; have hct' := h.capt'; have hck := h.capk; have hck' := h.capk'
  unfold maxLen at hct' hck'
  have hb := h.lt
  have HN := Lib.hid h; clear h
  have HX := Lib.hid hx; clear hx hcy
  go_enter Tryz.func107, Tryz.ntmps107
  go_wp2
  go_region
  all_goals go_wp2
  all_goals go_region
  all_goals go_wp2
  · go_ret
    exact split_endK w (bl := w.heap.size) (br := w.heap.size + 1) (bt := w.heap.size + 1 + 1 + 1 + 1) (B1 := w.heap.size + 1 + 1) (B2 := w.heap.size + 1 + 1 + 1) HN.out HX.out h7 h8 hX ((((((Below.refl _ w).alloc (Nat.le_refl _) _).alloc (by simp) _).alloc (by simp; omega) _).alloc (by simp; omega) _).alloc (by simp; omega) _).drew.drew (by simp only [heap_dr, heap_al, Array.getElem?_push, Array.size_push]; repeat (first | rw [if_pos trivial] | rw [if_pos (by omega)] | rw [if_neg (by omega)])) (by simp only [heap_dr, heap_al, Array.getElem?_push, Array.size_push]; repeat (first | rw [if_pos trivial] | rw [if_pos (by omega)] | rw [if_neg (by omega)])) (by simp only [heap_dr, heap_al, Array.getElem?_push, Array.size_push]; repeat (first | rw [if_pos trivial] | rw [if_pos (by omega)] | rw [if_neg (by omega)])) (by simp only [heap_dr, heap_al, Array.getElem?_push, Array.size_push]; repeat (first | rw [if_pos trivial] | rw [if_pos (by omega)] | rw [if_neg (by omega)])) (by simp only [heap_dr, heap_al, Array.getElem?_push, Array.size_push]; repeat (first | rw [if_pos trivial] | rw [if_pos (by omega)] | rw [if_neg (by omega)])) (by omega) (by omega) (by omega) (by omega) (by omega)
  · go_ret
    exact split_endK w (bl := w.heap.size + 1) (br := w.heap.size) (bt := w.heap.size + 1 + 1 + 1 + 1) (B1 := w.heap.size + 1 + 1) (B2 := w.heap.size + 1 + 1 + 1) HN.out HX.out h7 h8 hX ((((((Below.refl _ w).alloc (Nat.le_refl _) _).alloc (by simp) _).alloc (by simp; omega) _).alloc (by simp; omega) _).alloc (by simp; omega) _).drew.drew (by simp only [heap_dr, heap_al, Array.getElem?_push, Array.size_push]; repeat (first | rw [if_pos trivial] | rw [if_pos (by omega)] | rw [if_neg (by omega)])) (by simp only [heap_dr, heap_al, Array.getElem?_push, Array.size_push]; repeat (first | rw [if_pos trivial] | rw [if_pos (by omega)] | rw [if_neg (by omega)])) (by simp only [heap_dr, heap_al, Array.getElem?_push, Array.size_push]; repeat (first | rw [if_pos trivial] | rw [if_pos (by omega)] | rw [if_neg (by omega)])) (by simp only [heap_dr, heap_al, Array.getElem?_push, Array.size_push]; repeat (first | rw [if_pos trivial] | rw [if_pos (by omega)] | rw [if_neg (by omega)])) (by simp only [heap_dr, heap_al, Array.getElem?_push, Array.size_push]; repeat (first | rw [if_pos trivial] | rw [if_pos (by omega)] | rw [if_neg (by omega)])) (by omega) (by omega) (by omega) (by omega) (by omega)
end Go.Proofs.YtpmkhpbhimmeiaaGreat
/-
  Contract of a node's exchange, where the new kid has no tuple too many.
-/
namespace Go.Proofs.YtpmkhpbhimmeiaaGreat
open Go.RowKit FloM ValM
set_option linter.unusedVariables false

/-- A row of cells of which one is set. -/
theorem rdC_set {w : World} {b o : Nat} {cs : List Value} {i : Nat} {v : Value} (h : RdC w (some ⟨b, o, none⟩) cs) (hi : i < cs.length) (hf : w.frozen? ⟨b, o + i, none⟩ = false) : RdC (w.setCell ⟨b, o + i, none⟩ v) (some ⟨b, o, none⟩) (cs.set i v) := fun j u hu => by
  have hj : j < cs.length := by have := (List.getElem?_eq_some_iff.1 hu).1; simpa using this
  obtain ⟨b', o', e, hl, hc⟩ := h j _ (List.getElem?_eq_getElem hj)
  injection e with e; injection e with e1 e2 _; subst e1 e2
  refine ⟨b, o, rfl, by simpa [World.setCell] using hl, ?_⟩
  by_cases hij : i = j
  · subst hij
    rw [List.getElem?_set_self hi] at hu
    cases hu
    exact World.cell?_setCell_same' _ _ _ (by rw [hc]; rfl)
  · rw [List.getElem?_set_ne hij, List.getElem?_eq_getElem hj] at hu
    cases hu
    have : (w.setCell ⟨b, o + i, none⟩ v).cell? ⟨b, o + j, none⟩ = w.cell? ⟨b, o + j, none⟩ := by
      apply World.cell?_setCell_other
      intro e; injection e; omega
    rw [this]; exact hc
set_option maxRecDepth 10000 in
set_option maxHeartbeats 4000000 in
theorem exch_small {X : Nat → Prop} {b c : Nat} {ts ts' : List Sl} {ps ps' : List Value} {At Ak At' Ak' : Option Addr} {ct ck ct' ck' : Nat} (i : Nat) (w : World) (h : NodeAt X w b ts ps At ct Ak ck) (h' : NodeAt X w c ts' ps' At' ct' Ak' ck') (hi : i < ps.length) (h6 : ts'.length ≤ 6) (hp : ps.length ≤ 1000) (h1 : ∀ u ∈ ps, u.oneCell' = true) (hX : ∀ k, X k → k < w.heap.size) :
    Calls Tryz.prog 81 #[.pointer (some ⟨b, 0, none⟩), .int .i64 (i : Int), .pointer (some ⟨c, 0, none⟩)] w fun e w' => ∃ d Bt dt Bk dk, e = .returned (.pointer (some ⟨d, 0, none⟩)) ∧ NodeAt X w' d ts (ps.set i (.pointer (some ⟨c, 0, none⟩))) Bt dt Bk dk ∧ Below w.heap.size w w' := by
  have c0 := h.c0; have c1 := h.c1; have c0' := h'.c0
  have HN := Lib.hid h; have HN' := Lib.hid h'; have HP := Lib.hid h1; clear h h' h1
  replace hX := Lib.hid hX
  have HI := Lib.hid hi; have HPL := Lib.hid hp; clear hi hp
  go_enter Tryz.func81, Tryz.ntmps81
  go_wp2_with (go_at_call 106; refine (cloneP_any _ _ ps _ HN.out.rk HP.out (Nat.le_trans HPL.out (by omega))).mono ?_; rintro e w1 ⟨A1, k1, rfl, hr1, hA1, hk1, hk1', hf1, hb1⟩; obtain ⟨kb, ko, rfl, hkb, hkc⟩ := hr1 i _ (List.getElem?_eq_getElem HI.out); have hfz := hf1 _ rfl (ko + i); have hlt := HI.out; have hbd := HPL.out; have hne : kb ≠ b := by { have := hA1 _ rfl; have := HN.out.lt; simp only at *; omega }; have hc0 := (World.cell?_setCell_far w1 ⟨kb, ko + i, none⟩ ⟨b, 0, none⟩ (.pointer (some ⟨c, 0, none⟩)) hne).trans ((keep hb1 _ _ HN.out.lt).trans HN.out.c0))
  go_ret
  have hb2 : Below w.heap.size w (w1.setCell ⟨kb, ko + i, none⟩ (.pointer (some ⟨c, 0, none⟩))) := hb1.setCell (by have := hA1 _ rfl; exact this) _
  have hb3 := hb2.alloc hb2.size (.cells #[.slice At ts.length ct, .slice (some ⟨kb, ko, none⟩) ps.length k1] 125)
  have hrk : RdC (w1.setCell ⟨kb, ko + i, none⟩ (.pointer (some ⟨c, 0, none⟩))) (some ⟨kb, ko, none⟩) (ps.set i (.pointer (some ⟨c, 0, none⟩))) := rdC_set hr1 hlt hfz
  have hnew := heap_alloc_new (w1.setCell ⟨kb, ko + i, none⟩ (.pointer (some ⟨c, 0, none⟩))) (.cells #[.slice At ts.length ct, .slice (some ⟨kb, ko, none⟩) ps.length k1] 125)
  rw [show (w1.setCell ⟨kb, ko + i, none⟩ (.pointer (some ⟨c, 0, none⟩))).heap.size = w1.heap.size by simp [World.setCell]] at hnew
  have hsz : w.heap.size ≤ w1.heap.size := hb1.size
  refine ⟨_, _, _, _, _, rfl, node_new hnew (fun hx => ?_) rfl (by simp) (HN.out.rt.on hb3) (hrk.on ((Below.refl _ _).alloc (Nat.le_refl _) _)) (fun a ha hx => ?_) HN.out.capt hk1 HN.out.capt' hk1', hb3⟩
  · have := hX.out _ hx
    omega
  · cases ha
    have := hX.out _ hx
    have := hA1 _ rfl
    omega
end Go.Proofs.YtpmkhpbhimmeiaaGreat
/-
  Contract of a node's with: a leaf.
-/
namespace Go.Proofs.YtpmkhpbhimmeiaaGreat
open Go.RowKit FloM ValM
set_option linter.unusedVariables false

set_option maxHeartbeats 4000000 in
theorem with_nil {X : Nat → Prop} (A P : Option Addr) (ca cp : Nat) (a : List V) (n : Nat) (w : World) (ha : RdV w A a) (la : a.length ≤ 1000) (hX : ∀ k, X k → k < w.heap.size) :
    Calls Tryz.prog 64 #[.pointer none, .slice A a.length ca, .slice P n cp] w fun e w' => ∃ d y Bt dt Bk dk, e = .returned (.tuple #[.pointer (some ⟨d, 0, none⟩), .bool true]) ∧ NodeAt X w' d [y] [] Bt dt Bk dk ∧ y.l = a ∧ Below w.heap.size w w' := by
  have HX := Lib.hid hX; clear hX
  go_enter Tryz.func64, Tryz.ntmps64
  go_wp2_with (go_at_call 79; refine (cloneV_any A ca a _ ha la).mono ?_; rintro e w1 ⟨A1, k1, hW⟩; have hE := hW.val; subst hE; replace hW := Lib.hid hW)
  go_ret2
  have hB := hW.out.b
  have hb1 := hB.alloc hB.size (.cells #[.slice A1 a.length k1] 25)
  have hb2 := hb1.alloc hb1.size (.cells #[.slice (some ⟨w1.heap.size, 0, none⟩) 1 1, .slice none 0 0] 125)
  have hs := hB.size
  have hn : ∀ k, w.heap.size ≤ k → ¬ X k := fun k hk hx => by have := HX.out k hx; omega
  have hok := hW.out.ok HX.out
  have hab : Below w1.heap.size w1 ((w1.alloc (.cells #[.slice A1 a.length k1] 25)).alloc (.cells #[.slice (some ⟨w1.heap.size, 0, none⟩) 1 1, .slice none 0 0] 125)) := ((Below.refl _ _).alloc (Nat.le_refl _) _).alloc (by simp) _
  refine ⟨w1.heap.size + 1, ⟨A1, k1, a⟩, some ⟨w1.heap.size, 0, none⟩, 1, none, 0, rfl, node_new (t := 125) ?_ (hn _ (by omega)) rfl rfl ⟨?_, fun b hb => by cases hb; exact hn _ hs, fun z hz => ?_⟩ RdC.nil (Off.none _) (Nat.le_refl _) (Nat.le_refl _) (by unfold maxLen; omega) (by unfold maxLen; omega), rfl, hb2⟩
  · simp only [heap_al, Array.getElem?_push, Array.size_push]; repeat (first | rw [if_pos trivial] | rw [if_pos (by omega)] | rw [if_neg (by omega)])
    rfl
  · exact rdC_new (cs := #[.slice A1 a.length k1]) (t := 25) (fz := (0, 0)) (by simp only [heap_al, Array.getElem?_push, Array.size_push]; repeat (first | rw [if_pos trivial] | rw [if_pos (by omega)] | rw [if_neg (by omega)]))
  · rw [List.mem_singleton] at hz; subst hz; exact hok.on hab
theorem bel_alloc {B : Nat} {a w : World} {o : Obj} (hB : B ≤ w.heap.size) (h : Below B a w) : Below B a (w.alloc o) := h.alloc hB o
theorem held_cell {w1 u : World} {b o : Nat} {v : Value} (hb : b < w1.heap.size) (c : w1.cell? ⟨b, o, none⟩ = some v) (h : Below w1.heap.size w1 u) : u.cell? ⟨b, o, none⟩ = some v := (keep h _ _ hb).trans c
theorem tup_cells (xs : List Sl) : ∀ u ∈ xs.map Sl.val, u.oneCell' = true := by
  intro u hu
  rw [List.mem_map] at hu
  obtain ⟨x, _, rfl⟩ := hu; rfl
/-- A slice from k on; without room behind it its address is left. -/
theorem rdC_from {w : World} {b o ct k : Nat} {cs : List Value} (h : RdC w (some ⟨b, o, none⟩) cs) (hl : cs.length ≤ ct) : RdC w (if ct = k then some ⟨b, o, none⟩ else some ⟨b, o + k, none⟩) (cs.drop k) := by
  split
  · rw [List.drop_of_length_le (by omega)]; exact RdC.nil
  · exact h.drop k
theorem cat3T {g : Nat} {t : TypeId} (W : World) (p1 p2 p3 : Pt) (v1 v2 v3 : Value) (h1 : p1.val = v1) (h2 : p2.val = v2) (h3 : p3.val = v3) (hg : W.heap[g]? = some (.cells #[v1, v2, v3] t (0, 0))) (k1 : PtOk W p1) (k2 : PtOk W p2) (k3 : PtOk W p3) (hs : p1.l.length + p2.l.length + p3.l.length ≤ 1000000) :
    Calls Tryz.prog 80 #[.slice (some ⟨g, 0, none⟩) 3 3] W (SaysC (p1.l ++ p2.l ++ p3.l) W) := by
  have := catT_any g 0 3 [p1, p2, p3] W (by simp only [List.map_cons, List.map_nil, h1, h2, h3]; exact rdC_new hg) (by simp only [List.mem_cons, List.not_mem_nil, or_false]; rintro x (rfl | rfl | rfl) <;> assumption) (by simp [catL]; omega) (by simp)
  have e : catL [p1, p2, p3] = p1.l ++ p2.l ++ p3.l := by simp [catL]
  rw [e] at this
  exact this
theorem cat3P {g : Nat} {t : TypeId} (W : World) (p1 p2 p3 : Pt) (v1 v2 v3 : Value) (h1 : p1.val = v1) (h2 : p2.val = v2) (h3 : p3.val = v3) (hg : W.heap[g]? = some (.cells #[v1, v2, v3] t (0, 0))) (k1 : PtOk W p1) (k2 : PtOk W p2) (k3 : PtOk W p3) (hs : p1.l.length + p2.l.length + p3.l.length ≤ 1000000) :
    Calls Tryz.prog 108 #[.slice (some ⟨g, 0, none⟩) 3 3] W (SaysC (p1.l ++ p2.l ++ p3.l) W) := by
  have := catP_any g 0 3 [p1, p2, p3] W (by simp only [List.map_cons, List.map_nil, h1, h2, h3]; exact rdC_new hg) (by simp only [List.mem_cons, List.not_mem_nil, or_false]; rintro x (rfl | rfl | rfl) <;> assumption) (by simp [catL]; omega) (by simp)
  have e : catL [p1, p2, p3] = p1.l ++ p2.l ++ p3.l := by simp [catL]
  rw [e] at this
  exact this
theorem insT_any {k tb to ct : Nat} {ts : List Sl} (A1 : Option Addr) (k1 : Nat) (a : List V) (w2 : World) (h : RdC w2 (some ⟨tb, to, none⟩) (ts.map Sl.val)) (hc : ts.length ≤ ct) (hr : RdV w2 A1 a) (hk : k ≤ ts.length) (hn : ts.length ≤ 1000) :
    Calls Tryz.prog 80 #[.slice (some ⟨w2.heap.size + 1, 0, none⟩) 3 3]
      ((w2.alloc (.cells #[.slice A1 a.length k1] 25)).alloc (.cells #[.slice (some ⟨tb, to, none⟩) k ct, .slice (some ⟨w2.heap.size, 0, none⟩) 1 1, .slice (if ct = k then some ⟨tb, to, none⟩ else some ⟨tb, to + k, none⟩) (ts.length - k) (ct - k)] 23))
      (SaysC ((ts.take k ++ ⟨A1, k1, a⟩ :: ts.drop k).map Sl.val) ((w2.alloc (.cells #[.slice A1 a.length k1] 25)).alloc (.cells #[.slice (some ⟨tb, to, none⟩) k ct, .slice (some ⟨w2.heap.size, 0, none⟩) 1 1, .slice (if ct = k then some ⟨tb, to, none⟩ else some ⟨tb, to + k, none⟩) (ts.length - k) (ct - k)] 23))) := by
  have hB : Below w2.heap.size w2 ((w2.alloc (.cells #[.slice A1 a.length k1] 25)).alloc (.cells #[.slice (some ⟨tb, to, none⟩) k ct, .slice (some ⟨w2.heap.size, 0, none⟩) 1 1, .slice (if ct = k then some ⟨tb, to, none⟩ else some ⟨tb, to + k, none⟩) (ts.length - k) (ct - k)] 23)) := ((Below.refl _ _).alloc (Nat.le_refl _) _).alloc (by simp) _
  have e : (ts.take k ++ (⟨A1, k1, a⟩ : Sl) :: ts.drop k).map Sl.val = (ts.take k).map Sl.val ++ [Sl.val ⟨A1, k1, a⟩] ++ (ts.drop k).map Sl.val := by simp
  rw [e]
  have h' := h.on hB
  refine cat3T _ ⟨some ⟨tb, to, none⟩, ct, (ts.take k).map Sl.val⟩ ⟨some ⟨w2.heap.size, 0, none⟩, 1, [Sl.val ⟨A1, k1, a⟩]⟩ ⟨(if ct = k then some ⟨tb, to, none⟩ else some ⟨tb, to + k, none⟩), ct - k, (ts.drop k).map Sl.val⟩ (.slice (some ⟨tb, to, none⟩) k ct) (.slice (some ⟨w2.heap.size, 0, none⟩) 1 1) (.slice (if ct = k then some ⟨tb, to, none⟩ else some ⟨tb, to + k, none⟩) (ts.length - k) (ct - k)) ?_ rfl ?_ (t := 23) ?_ ⟨?_, tup_cells _⟩ ⟨?_, tup_cells [_]⟩ ⟨?_, tup_cells _⟩ ?_
  · simp [Pt.val, hk]
  · simp [Pt.val]
  · simp only [heap_al, Array.getElem?_push, Array.size_push]; repeat (first | rw [if_pos trivial] | rw [if_pos (by omega)])
  · rw [List.map_take]; exact h'.take k
  · refine rdC_new (cs := #[.slice A1 a.length k1]) (t := 25) (fz := (0, 0)) ?_
    simp only [heap_al, Array.getElem?_push, Array.size_push]; repeat (first | rw [if_pos trivial] | rw [if_pos (by omega)] | rw [if_neg (by omega)])
  · rw [List.map_drop]; exact rdC_from h' (by simpa using hc)
  · simp; omega
def WithL (X : Nat → Prop) (b : Nat) (ts : List Sl) (a : List V) (p : List Int) (w : World) (e : Ending) (w' : World) : Prop := ∃ (k : Nat) (f : Bool), PlaceP ts a p k f ∧ Below w.heap.size w w' ∧
      ((f = true ∧ e = .returned (.tuple #[.pointer (some ⟨b, 0, none⟩), .bool false])) ∨
       (f = false ∧ ∃ d y Bt dt Bk dk, e = .returned (.tuple #[.pointer (some ⟨d, 0, none⟩), .bool true]) ∧ y.l = a ∧ NodeAt X w' d (ts.take k ++ y :: ts.drop k) [] Bt dt Bk dk))
theorem leaf_end {X : Nat → Prop} {k n : Nat} {ts : List Sl} {w w1 w2 w3 : World} {A1 A3 : Option Addr} {k1 c3 : Nat} {a : List V} {t : TypeId} (hb : Below w.heap.size w w1) (h2 : Below w1.heap.size w1 w2) (h23 : Below w2.heap.size w2 w3) (hts : ∀ x ∈ ts, SlOk X w x) (hW : SlOk X w2 ⟨A1, k1, a⟩) (hX : ∀ k, X k → k < w.heap.size)
    (hr3 : RdC w3 A3 ((ts.take k ++ ⟨A1, k1, a⟩ :: ts.drop k).map Sl.val)) (ho3 : ∀ a, A3 = some a → w2.heap.size ≤ a.block) (hk3 : ((ts.take k ++ (⟨A1, k1, a⟩ : Sl) :: ts.drop k).map Sl.val).length ≤ c3) (hk3' : c3 ≤ maxLen) (hk : k ≤ ts.length) (hn : k + (ts.length - k + 1) = n) :
    NodeAt X (w3.alloc (.cells #[.slice A3 n c3, .slice none 0 0] t)) w3.heap.size (ts.take k ++ ⟨A1, k1, a⟩ :: ts.drop k) [] A3 c3 none 0 ∧ Below w.heap.size w (w3.alloc (.cells #[.slice A3 n c3, .slice none 0 0] t)) := by
  have hl : (ts.take k ++ (⟨A1, k1, a⟩ : Sl) :: ts.drop k).length = n := by simp; omega
  rw [List.length_map, hl] at hk3
  have hB : Below w.heap.size w w3 := on (on hb h2) h23
  have s1 := hb.size; have s2 := h2.size; have s3 := h23.size
  have hB2 : Below w.heap.size w (w3.alloc (.cells #[.slice A3 n c3, .slice none 0 0] t)) := hB.alloc hB.size _
  have h3 : Below w3.heap.size w3 (w3.alloc (.cells #[.slice A3 n c3, .slice none 0 0] t)) := (Below.refl _ _).alloc (Nat.le_refl _) _
  refine ⟨node_new (heap_alloc_new _ _) (fun hx => by have := hX _ hx; omega) hl rfl ⟨hr3.on h3, fun z hz hx => by have := ho3 z hz; have := hX _ hx; omega, fun z hz => ?_⟩ RdC.nil (Off.none _) hk3 (Nat.le_refl _) hk3' (by unfold maxLen; omega), hB2⟩
  rw [List.mem_append, List.mem_cons] at hz
  rcases hz with hz | rfl | hz
  · exact (hts z (List.mem_of_mem_take hz)).on hB2
  · exact hW.on (h23.trans (h3.mono s3))
  · exact (hts z (List.mem_of_mem_drop hz)).on hB2
set_option maxRecDepth 10000 in
set_option maxHeartbeats 8000000 in
theorem with_leaf {X : Nat → Prop} {b : Nat} {ts : List Sl} {At Ak : Option Addr} {ct ck : Nat} (A P : Option Addr) (ca cp : Nat) (a : List V) (p : List Int) (w : World) (h : NodeAt X w b ts [] At ct Ak ck) (ha : RdV w A a) (hp : RdI w P p) (la : a.length ≤ 1000) (lp : p.length ≤ 1000) (lt : ∀ x ∈ ts, x.l.length ≤ 1000) (hn1 : 1 ≤ ts.length) (hn2 : ts.length ≤ 1000) (hX : ∀ k, X k → k < w.heap.size) :
    Calls Tryz.prog 64 #[.pointer (some ⟨b, 0, none⟩), .slice A a.length ca, .slice P p.length cp] w (WithL X b ts a p w) := by
  obtain ⟨tb, to, rfl, htb, _⟩ := h.rt.at_ (List.getElem?_eq_getElem (show 0 < ts.length by omega))
  have hcap := h.capt; have hcap' := h.capt'
  unfold maxLen at hcap'
  have HN := Lib.hid h; clear h
  have HA := Lib.hid ha; have HP := Lib.hid hp; have HX := Lib.hid hX; clear ha hp hX
  have HLT := Lib.hid lt; clear lt
  go_enter Tryz.func64, Tryz.ntmps64
  go_wp2_with (first
    | (go_at_call 67; refine (place_any A P ca cp a p _ HN.out HA.out HP.out la lp HLT.out).mono ?_; rintro e w1 ⟨k, f, rfl, hpl, hb⟩; have hkl := hpl.le; replace hpl := Lib.hid hpl; have c0 := (HN.out.on hb).c0; have c1 := (HN.out.on hb).c1; cases f)
    | (go_at_call 68; refine (kid_leaf _ _ (HN.out.on hb)).mono ?_; rintro e w2 ⟨rfl, rfl⟩))
  · have hbl : b < w1.heap.size := (HN.out.on hb).lt
    have hbd : Below w.heap.size w w1.drew := hb.drew
    have hi1 : (0 : Int) ≤ (k : Int) := by omega
    have hi2 : (k : Int) ≤ (ct : Int) := by omega
    have hi3 : (k : Int) ≤ (ts.length : Int) := by omega
    have hi4 : (ts.length : Int) ≤ (ct : Int) := by omega
    have HC := Lib.hid (fun (A1 : Option Addr) (k1 : Nat) (w2 : World) (hr : RdV w2 A1 a) (h2 : Below w1.heap.size w1 w2) => insT_any (k := k) A1 k1 a w2 ((HN.out.on hb).rt.rd.on h2) hcap hr hkl hn2)
    go_region_held3 (fun u => Below w1.heap.size w1 u ∧ u.cell? ⟨b, 0, none⟩ = some (.slice (some ⟨tb, to, none⟩) ts.length ct))
      ((refine (fun hh => ⟨hh, held_cell hbl c0 hh⟩) ?_; repeat (first | exact Below.refl _ _ | exact h3 | exact h2 | apply Below.drew | (refine bel_alloc ?_ ?_; (first | omega | (focus (simp; done)) | (focus (simp; omega)))))))
      ((first
        | (go_at_call 79; refine (cloneV_any A ca a _ (HA.out.on hbd) la).mono ?_; rintro e w2 ⟨A1, k1, hW⟩; have hE := hW.val; subst hE; have h2 : Below w1.heap.size w1 w2 := (Below.refl _ _).drew.trans hW.b; have s2 : w1.heap.size ≤ w2.heap.size := h2.size; replace hW := Lib.hid hW; dsimp only)
        | (go_at_call 80; refine (HC.out A1 k1 w2 hW.out.rd h2).mono ?_; rintro e w3 ⟨A3, c3, rfl, hr3, ho3, hk3, hk3', _, hb3⟩; have h3 : Below w1.heap.size w1 w3 := ((h2.alloc h2.size _).alloc (by simp; omega) _).trans (hb3.mono (by simp; omega)); have s3 : w1.heap.size ≤ w3.heap.size := h3.size; have h23 : Below w2.heap.size w2 w3 := (((Below.refl _ _).alloc (Nat.le_refl _) _).alloc (by simp) _).trans (hb3.mono (by simp; omega)); replace hr3 := Lib.hid hr3; replace hk3 := Lib.hid hk3; replace hk3' := Lib.hid hk3'; replace ho3 := Lib.hid ho3; dsimp only)))
    all_goals go_wp2
    all_goals
      go_ret2
      obtain ⟨hN1, hB1⟩ := leaf_end (t := 125) hb h2 h23 HN.out.rt.each (hW.out.ok (fun z hz => Nat.lt_of_lt_of_le (HX.out z hz) hb.size)) HX.out hr3.out (fun z hz => Nat.le_trans (by simp; omega) (ho3.out z hz)) hk3.out hk3'.out hkl rfl
      exact ⟨_, false, hpl.out, hB1, .inr ⟨rfl, _, _, _, _, _, _, rfl, rfl, hN1⟩⟩
  · go_ret2
    exact ⟨k, true, hpl.out, hb, .inl ⟨rfl, rfl⟩⟩
end Go.Proofs.YtpmkhpbhimmeiaaGreat
/-
  Contract of a node's exchange, where the new kid has a tuple too many.
-/
namespace Go.Proofs.YtpmkhpbhimmeiaaGreat
open Go.RowKit FloM ValM
set_option linter.unusedVariables false
set_option linter.unusedSimpArgs false

def ptrV (b : Nat) : Value := .pointer (some ⟨b, 0, none⟩)
def SplitP (X : Nat → Prop) (ts : List Sl) (ps : List Value) (w : World) (e : Ending) (w' : World) : Prop := ∃ bl br bt At' Ak' ct' ck' Bt Bk dt dk Ct Ck et ek x, e = .returned (.pointer (some ⟨bt, 0, none⟩)) ∧ ts[3]? = some x ∧
      NodeAt X w' bl (ts.take 3) (ps.take 4) At' ct' Ak' ck' ∧ NodeAt X w' br (ts.drop 4) (ps.drop 4) Bt dt Bk dk ∧ NodeAt X w' bt [x] [.pointer (some ⟨bl, 0, none⟩), .pointer (some ⟨br, 0, none⟩)] Ct et Ck ek ∧ Below w.heap.size w w'
theorem split_any {X : Nat → Prop} {b : Nat} {ts : List Sl} {ps : List Value} {At Ak : Option Addr} {ct ck : Nat} (w : World) (h : NodeAt X w b ts ps At ct Ak ck) (h7 : ts.length = 7) (h8 : ps = [] ∨ ps.length = 8) (hX : ∀ k, X k → k < w.heap.size) :
    Calls Tryz.prog 107 #[.pointer (some ⟨b, 0, none⟩)] w (SplitP X ts ps w) := by
  rcases h8 with rfl | h8
  · exact split_leaf w h h7 hX
  · exact split_kids w h h7 h8 hX
def ExchP (X : Nat → Prop) (ts ts' : List Sl) (ps ps' : List Value) (i : Nat) (w : World) (e : Ending) (w' : World) : Prop := ∃ d bl br x A1 A2 A3 A4 B1 B2 c1 c2 c3 c4 d1 d2, e = .returned (ptrV d) ∧ ts'[3]? = some x ∧
      NodeAt X w' bl (ts'.take 3) (ps'.take 4) A1 c1 A2 c2 ∧ NodeAt X w' br (ts'.drop 4) (ps'.drop 4) A3 c3 A4 c4 ∧ NodeAt X w' d (ts.take i ++ x :: ts.drop i) (ps.take i ++ ptrV bl :: ptrV br :: ps.drop (i + 1)) B1 d1 B2 d2 ∧ Below w.heap.size w w'
theorem exch_end {X : Nat → Prop} {i n m : Nat} {ts : List Sl} {ps : List Value} {x : Sl} {bl br : Nat} {w w1 w3 : World} {A3 A4 : Option Addr} {c3 c4 : Nat} {t : TypeId} (hb : Below w.heap.size w w1) (h13 : Below w1.heap.size w1 w3) (hts : ∀ x ∈ ts, SlOk X w x) (hx : SlOk X w1 x) (hX : ∀ k, X k → k < w.heap.size)
    (hr3 : RdC w3 A3 ((ts.take i ++ x :: ts.drop i).map Sl.val)) (ho3 : ∀ a, A3 = some a → w1.heap.size ≤ a.block) (hk3 : ((ts.take i ++ x :: ts.drop i).map Sl.val).length ≤ c3) (hk3' : c3 ≤ maxLen) (hn : ((ts.take i ++ x :: ts.drop i).map Sl.val).length = n)
    (hr4 : RdC w3 A4 (ps.take i ++ ptrV bl :: ptrV br :: ps.drop (i + 1))) (ho4 : ∀ a, A4 = some a → w1.heap.size ≤ a.block) (hk4 : (ps.take i ++ ptrV bl :: ptrV br :: ps.drop (i + 1)).length ≤ c4) (hk4' : c4 ≤ maxLen) (hm : (ps.take i ++ ptrV bl :: ptrV br :: ps.drop (i + 1)).length = m) :
    NodeAt X (w3.alloc (.cells #[.slice A3 n c3, .slice A4 m c4] t)) w3.heap.size (ts.take i ++ x :: ts.drop i) (ps.take i ++ ptrV bl :: ptrV br :: ps.drop (i + 1)) A3 c3 A4 c4 ∧ Below w.heap.size w (w3.alloc (.cells #[.slice A3 n c3, .slice A4 m c4] t)) := by
  have s1 := hb.size; have s2 := h13.size
  have hB : Below w.heap.size w w3 := on hb h13
  have hB2 : Below w.heap.size w (w3.alloc (.cells #[.slice A3 n c3, .slice A4 m c4] t)) := hB.alloc hB.size _
  have h3 : Below w3.heap.size w3 (w3.alloc (.cells #[.slice A3 n c3, .slice A4 m c4] t)) := (Below.refl _ _).alloc (Nat.le_refl _) _
  rw [hn] at hk3; rw [hm] at hk4
  refine ⟨node_new (heap_alloc_new _ _) (fun hx => by have := hX _ hx; omega) (by simpa using hn) hm ⟨hr3.on h3, fun z hz hx => by have := ho3 z hz; have := hX _ hx; omega, fun z hz => ?_⟩ (hr4.on h3) (fun z hz hx => by have := ho4 z hz; have := hX _ hx; omega) hk3 hk4 hk3' hk4', hB2⟩
  rw [List.mem_append, List.mem_cons] at hz
  rcases hz with hz | rfl | hz
  · exact (hts z (List.mem_of_mem_take hz)).on hB2
  · exact hx.on (h13.trans (h3.mono s2))
  · exact (hts z (List.mem_of_mem_drop hz)).on hB2
theorem heap_on {a w : World} {g : Nat} {o : Obj} (h : Below a.heap.size a w) (hg : a.heap[g]? = some o) : w.heap[g]? = some o := (h.block _ (Array.getElem?_eq_some_iff.1 hg).1).trans hg
theorem insT2 {k tb to ct et g : Nat} {Ct : Option Addr} {ts : List Sl} {t : TypeId} (W : World) (x : Sl) (h : RdC W (some ⟨tb, to, none⟩) (ts.map Sl.val)) (hc : ts.length ≤ ct) (hr : RdC W Ct ([x].map Sl.val)) (hk : k ≤ ts.length) (hn : ts.length ≤ 1000)
    (hg : W.heap[g]? = some (.cells #[.slice (some ⟨tb, to, none⟩) k ct, .slice Ct 1 et, .slice (if ct = k then some ⟨tb, to, none⟩ else some ⟨tb, to + k, none⟩) (ts.length - k) (ct - k)] t (0, 0))) :
    Calls Tryz.prog 80 #[.slice (some ⟨g, 0, none⟩) 3 3] W (SaysC ((ts.take k ++ x :: ts.drop k).map Sl.val) W) := by
  have e : (ts.take k ++ x :: ts.drop k).map Sl.val = (ts.take k).map Sl.val ++ [x].map Sl.val ++ (ts.drop k).map Sl.val := by simp
  rw [e]
  refine cat3T _ ⟨some ⟨tb, to, none⟩, ct, (ts.take k).map Sl.val⟩ ⟨Ct, et, [x].map Sl.val⟩ ⟨(if ct = k then some ⟨tb, to, none⟩ else some ⟨tb, to + k, none⟩), ct - k, (ts.drop k).map Sl.val⟩ _ _ _ ?_ ?_ ?_ hg ⟨?_, tup_cells _⟩ ⟨hr, tup_cells _⟩ ⟨?_, tup_cells _⟩ ?_
  · simp [Pt.val, hk]
  · simp [Pt.val]
  · simp [Pt.val]
  · rw [List.map_take]; exact h.take k
  · rw [List.map_drop]; exact rdC_from h (by simpa using hc)
  · simp; omega
theorem insP2 {i kb ko ck ek g n : Nat} {Ck : Option Addr} {ps : List Value} {bl br : Nat} {t : TypeId} (W : World) (h : RdC W (some ⟨kb, ko, none⟩) ps) (hc : ps.length ≤ ck) (hr : RdC W Ck [ptrV bl, ptrV br]) (hi : i < ps.length) (hn : ps.length ≤ 1001) (h1 : ∀ u ∈ ps, u.oneCell' = true) (hl : ps.length - (i + 1) = n)
    (hg : W.heap[g]? = some (.cells #[.slice (some ⟨kb, ko, none⟩) i ck, .slice Ck 2 ek, .slice (if ck = i + 1 then some ⟨kb, ko, none⟩ else some ⟨kb, ko + (i + 1), none⟩) n (ck - (i + 1))] t (0, 0))) :
    Calls Tryz.prog 108 #[.slice (some ⟨g, 0, none⟩) 3 3] W (SaysC (ps.take i ++ ptrV bl :: ptrV br :: ps.drop (i + 1)) W) := by
  have e : ps.take i ++ ptrV bl :: ptrV br :: ps.drop (i + 1) = ps.take i ++ [ptrV bl, ptrV br] ++ ps.drop (i + 1) := by simp
  rw [e]
  refine cat3P _ ⟨some ⟨kb, ko, none⟩, ck, ps.take i⟩ ⟨Ck, ek, [ptrV bl, ptrV br]⟩ ⟨(if ck = i + 1 then some ⟨kb, ko, none⟩ else some ⟨kb, ko + (i + 1), none⟩), ck - (i + 1), ps.drop (i + 1)⟩ _ _ _ ?_ ?_ ?_ hg ⟨?_, fun u hu => h1 u (List.mem_of_mem_take hu)⟩ ⟨hr, fun u hu => ?_⟩ ⟨?_, fun u hu => h1 u (List.mem_of_mem_drop hu)⟩ ?_
  · simp [Pt.val]; omega
  · simp [Pt.val]
  · simp [Pt.val, hl]
  · exact h.take i
  · simp only [List.mem_cons, List.not_mem_nil, or_false] at hu
    rcases hu with rfl | rfl <;> rfl
  · exact rdC_from h hc
  · simp; omega
set_option maxRecDepth 10000 in
set_option maxHeartbeats 8000000 in
theorem exch_big {X : Nat → Prop} {b c : Nat} {ts ts' : List Sl} {ps ps' : List Value} {At Ak At' Ak' : Option Addr} {ct ck ct' ck' : Nat} (i : Nat) (w : World) (h : NodeAt X w b ts ps At ct Ak ck) (h' : NodeAt X w c ts' ps' At' ct' Ak' ck') (hi : i ≤ ts.length) (hp : ps.length = ts.length + 1) (h7 : ts'.length = 7) (h8 : ps' = [] ∨ ps'.length = 8) (hn1 : 1 ≤ ts.length) (hn2 : ts.length ≤ 1000) (h1 : ∀ u ∈ ps, u.oneCell' = true) (hX : ∀ k, X k → k < w.heap.size) :
    Calls Tryz.prog 81 #[.pointer (some ⟨b, 0, none⟩), .int .i64 (i : Int), .pointer (some ⟨c, 0, none⟩)] w (ExchP X ts ts' ps ps' i w) := by
  obtain ⟨tb, to, rfl, htb, hz1⟩ := h.rt.at_ (List.getElem?_eq_getElem (show 0 < ts.length by omega))
  clear hz1
  obtain ⟨kb, ko, rfl, hkb, hz1⟩ := h.rk 0 _ (List.getElem?_eq_getElem (show 0 < ps.length by omega))
  clear hz1
  have c0' := h'.c0
  rw [h7] at c0'
  have hcap := h.capt; have hcap' := h.capt'; have hkap := h.capk; have hkap' := h.capk'
  unfold maxLen at hcap' hkap'
  have HN := Lib.hid h; have HN' := Lib.hid h'; have HP := Lib.hid h1; have HX := Lib.hid hX; clear h h' h1 hX
  have HPL := Lib.hid hp; clear hp
  go_enter Tryz.func81, Tryz.ntmps81
  go_wp2_with (go_at_call 107; refine (split_any w HN'.out h7 h8 HX.out).mono ?_; rintro e w1 ⟨bl, br, bt, L1, L2, l1, l2, R1, R2, r1, r2, Ct, Ck, et, ek, x, rfl, hx, hL, hR, hT, hb⟩; replace hL := Lib.hid hL; replace hR := Lib.hid hR; replace hT := Lib.hid hT; replace hx := Lib.hid hx)
  have c0 := (HN.out.on hb).c0; have c1 := (HN.out.on hb).c1
  have d0 := hT.out.c0; have d1 := hT.out.c1
  simp only [List.length_cons, List.length_nil, Nat.zero_add, Nat.reduceAdd] at d0 d1
  rw [HPL.out] at c1 hkap
  have hbl : b < w1.heap.size := (HN.out.on hb).lt
  have htl : bt < w1.heap.size := hT.out.lt
  have hi0 : (0 : Int) ≤ (i : Int) := by omega
  have hi2 : (i : Int) ≤ (ct : Int) := by omega
  have hi3 : (i : Int) ≤ (ts.length : Int) := by omega
  have hi4 : (ts.length : Int) ≤ (ct : Int) := by omega
  have hi5 : (i : Int) ≤ (ck : Int) := by omega
  have hi6 : (i : Int) + 1 ≤ ((ts.length + 1 : Nat) : Int) := by omega
  have hi7 : ((ts.length + 1 : Nat) : Int) ≤ (ck : Int) := by omega
  have hi8 : (0 : Int) ≤ (i : Int) + 1 := by omega
  have hw : IntKind.i64.wrap ((i : Int) + 1) = ((i + 1 : Nat) : Int) := by rw [IntKind.wrap_i64]; omega
  go_wp2
  have HC1 := Lib.hid (fun (g : Nat) (W : World) (hW : Below w1.heap.size w1 W) (hg : W.heap[g]? = some (.cells #[.slice (some ⟨tb, to, none⟩) i ct, .slice Ct 1 et, .slice (if ct = i then some ⟨tb, to, none⟩ else some ⟨tb, to + i, none⟩) (ts.length - i) (ct - i)] 23 (0, 0))) =>
    (insT2 (k := i) W x (((HN.out.on hb).rt.rd).on hW) hcap (hT.out.rt.rd.on hW) hi hn2 hg))
  have HC2 := Lib.hid (fun (g : Nat) (W : World) (hW : Below w1.heap.size w1 W) (hg : W.heap[g]? = some (.cells #[.slice (some ⟨kb, ko, none⟩) i ck, .slice Ck 2 ek, .slice (if ck = i + 1 then some ⟨kb, ko, none⟩ else some ⟨kb, ko + (i + 1), none⟩) (ts.length - i) (ck - (i + 1))] 123 (0, 0))) =>
    (insP2 (bl := bl) (br := br) (i := i) W (((HN.out.on hb).rk).on hW) (by rw [HPL.out]; exact hkap) (hT.out.rk.on hW) (by rw [HPL.out]; omega) (by rw [HPL.out]; omega) HP.out (by rw [HPL.out]; omega) hg))
  go_region_held3 (fun u => Below w1.heap.size w1 u ∧ u.cell? ⟨b, 0, none⟩ = some (.slice (some ⟨tb, to, none⟩) ts.length ct) ∧ u.cell? ⟨b, 1, none⟩ = some (.slice (some ⟨kb, ko, none⟩) (ts.length + 1) ck) ∧ u.cell? ⟨bt, 0, none⟩ = some (.slice Ct 1 et) ∧ u.cell? ⟨bt, 1, none⟩ = some (.slice Ck 2 ek))
      ((refine (fun hh => ⟨hh, held_cell hbl c0 hh, held_cell hbl c1 hh, held_cell htl d0 hh, held_cell htl d1 hh⟩) ?_; repeat (first | exact Below.refl _ _ | exact h3 | exact h2 | apply Below.drew | (refine bel_alloc ?_ ?_; (first | omega | (focus (simp; done)) | (focus (simp; omega)))))))
      ((first
        | (go_at_call 80; refine (HC1.out _ _ ?_ ?_).mono ?_; (repeat (first | exact Below.refl _ _ | exact h3 | exact h2 | apply Below.drew | (refine bel_alloc ?_ ?_; (first | omega | (focus (simp; done)) | (focus (simp; omega)))))); (simp only [heap_al, heap_dr, Array.getElem?_push, Array.size_push]; repeat (first | rw [if_pos trivial] | rw [if_pos (by omega)] | rw [if_neg (by omega)])); rintro e w2 ⟨A3, c3, rfl, hr3, ho3, hk3, hk3', _, hb2⟩; have h2 : Below w1.heap.size w1 w2 := by { refine Below.trans ?_ (hb2.mono (by simp; try omega)); (repeat (first | exact Below.refl _ _ | apply Below.drew | (refine bel_alloc ?_ ?_; (first | omega | (focus (simp; done)) | (focus (simp; omega)))))) }; have s2 : w1.heap.size ≤ w2.heap.size := h2.size; replace hr3 := Lib.hid hr3; replace hk3 := Lib.hid hk3; replace hk3' := Lib.hid hk3'; replace ho3 := Lib.hid ho3; replace hb2 := Lib.hid hb2; dsimp only)
        | (go_at_call 108; refine (HC2.out _ _ ?_ ?_).mono ?_; (repeat (first | exact Below.refl _ _ | exact h2 | apply Below.drew | (refine bel_alloc ?_ ?_; (first | omega | (focus (simp; done)) | (focus (simp; omega)))))); (first | (focus ((simp only [heap_al, heap_dr, Array.getElem?_push, Array.size_push]; repeat (first | rw [if_pos trivial] | rw [if_pos (by omega)] | rw [if_neg (by omega)])); done)) | (focus (refine heap_on hb2.out ?_; (simp only [heap_al, heap_dr, Array.getElem?_push, Array.size_push]; repeat (first | rw [if_pos trivial] | rw [if_pos (by omega)] | rw [if_neg (by omega)])); done))); rintro e w3 ⟨A4, c4, rfl, hr4, ho4, hk4, hk4', _, hb3⟩; have h23 : Below w2.heap.size w2 w3 := by { refine Below.trans ?_ (hb3.mono ?_); rotate_left; (first | exact Nat.le_refl _ | (focus (simp; done)) | (focus (simp; omega))); (repeat (first | exact Below.refl _ _ | apply Below.drew | (refine bel_alloc ?_ ?_; (first | exact Nat.le_refl _ | omega | (simp; omega))))) }; have h3 : Below w1.heap.size w1 w3 := on h2 h23; have s3 : w1.heap.size ≤ w3.heap.size := h3.size; replace hr4 := Lib.hid hr4; replace hk4 := Lib.hid hk4; replace hk4' := Lib.hid hk4'; replace ho4 := Lib.hid ho4; dsimp only)))
  all_goals generalize (if ct = i then some (⟨tb, to, none⟩ : Addr) else some ⟨tb, to + i, none⟩) = Z1
  all_goals generalize (if ck = i + 1 then some (⟨kb, ko, none⟩ : Addr) else some ⟨kb, ko + (i + 1), none⟩) = Z2
  all_goals go_wp2
  all_goals
    go_ret
    have hn3 : ((ts.take i ++ x :: ts.drop i).map Sl.val).length = i + (ts.length - i + 1) := by simp; omega
    have hm3 : (ps.take i ++ ptrV bl :: ptrV br :: ps.drop (i + 1)).length = min i ps.length + (ps.length - (i + 1) + 1 + 1) := by simp
    obtain ⟨hN1, hB1⟩ := exch_end (t := 125) hb h3 HN.out.rt.each (hT.out.rt.each x (List.mem_singleton.2 rfl)) HX.out (hr3.out.on h23) (fun z hz => Nat.le_trans (by first | exact Nat.le_refl _ | (simp; done) | (simp; omega) | omega) (ho3.out z hz)) hk3.out hk3'.out hn3 hr4.out (fun z hz => Nat.le_trans (by first | exact Nat.le_refl _ | (simp; done) | (simp; omega) | omega) (ho4.out z hz)) hk4.out hk4'.out hm3
    exact ⟨_, bl, br, x, _, _, _, _, _, _, _, _, _, _, _, _, rfl, hx.out, hL.out.on (h3.trans ((Below.refl _ w3).alloc h3.size _)), hR.out.on (h3.trans ((Below.refl _ w3).alloc h3.size _)), hN1, hB1⟩
end Go.Proofs.YtpmkhpbhimmeiaaGreat

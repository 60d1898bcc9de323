/-
  Contract of a node's exchange, where the new kid has no tuple too many.
-/
import Derived.Test.YtojanokicfeghaaBtSplitK
namespace Go.Proofs.Ytojanokicfeghaa
open Go.RowKit FloM ValM
set_option linter.unusedVariables false

/-- A row of cells of which one is set. -/
theorem rdC_set {w : World} {b o : Nat} {cs : List Value} {i : Nat} {v : Value} (h : RdC w (some ⟨b, o, none⟩) cs) (hi : i < cs.length) (hf : w.frozen? ⟨b, o + i, none⟩ = false) : RdC (w.setCell ⟨b, o + i, none⟩ v) (some ⟨b, o, none⟩) (cs.set i v) := fun j u hu => by
  have hj : j < cs.length := by have := (List.getElem?_eq_some_iff.1 hu).1; simpa using this
  obtain ⟨b', o', e, hl, hc⟩ := h j _ (List.getElem?_eq_getElem hj)
  injection e with e; injection e with e1 e2 _; subst e1 e2
  refine ⟨b, o, rfl, by simpa [World.setCell] using hl, ?_⟩
  by_cases hij : i = j
  · subst hij
    rw [List.getElem?_set_self hi] at hu
    cases hu
    exact World.cell?_setCell_same' _ _ _ (by rw [hc]; rfl)
  · rw [List.getElem?_set_ne hij, List.getElem?_eq_getElem hj] at hu
    cases hu
    have : (w.setCell ⟨b, o + i, none⟩ v).cell? ⟨b, o + j, none⟩ = w.cell? ⟨b, o + j, none⟩ := by
      apply World.cell?_setCell_other
      intro e; injection e; omega
    rw [this]; exact hc
set_option maxRecDepth 10000 in
set_option maxHeartbeats 4000000 in
theorem exch_small {X : Nat → Prop} {b c : Nat} {ts ts' : List Sl} {ps ps' : List Value} {At Ak At' Ak' : Option Addr} {ct ck ct' ck' : Nat} (i : Nat) (w : World) (h : NodeAt X w b ts ps At ct Ak ck) (h' : NodeAt X w c ts' ps' At' ct' Ak' ck') (hi : i < ps.length) (h6 : ts'.length ≤ 6) (hp : ps.length ≤ 1000) (h1 : ∀ u ∈ ps, u.oneCell' = true) (hX : ∀ k, X k → k < w.heap.size) :
    Calls Try.prog 76 #[.pointer (some ⟨b, 0, none⟩), .int .i64 (i : Int), .pointer (some ⟨c, 0, none⟩)] w fun e w' => ∃ d Bt dt Bk dk, e = .returned (.pointer (some ⟨d, 0, none⟩)) ∧ NodeAt X w' d ts (ps.set i (.pointer (some ⟨c, 0, none⟩))) Bt dt Bk dk ∧ Below w.heap.size w w' := by
  have c0 := h.c0; have c1 := h.c1; have c0' := h'.c0
  have HN := Lib.hid h; have HN' := Lib.hid h'; have HP := Lib.hid h1; clear h h' h1
  replace hX := Lib.hid hX
  have HI := Lib.hid hi; have HPL := Lib.hid hp; clear hi hp
  go_enter Try.func76, Try.ntmps76
  go_wp2_with (go_at_call 90; refine (cloneP_any _ _ ps _ HN.out.rk HP.out (Nat.le_trans HPL.out (by omega))).mono ?_; rintro e w1 ⟨A1, k1, rfl, hr1, hA1, hk1, hk1', hf1, hb1⟩; obtain ⟨kb, ko, rfl, hkb, hkc⟩ := hr1 i _ (List.getElem?_eq_getElem HI.out); have hfz := hf1 _ rfl (ko + i); have hlt := HI.out; have hbd := HPL.out; have hne : kb ≠ b := by { have := hA1 _ rfl; have := HN.out.lt; simp only at *; omega }; have hc0 := (World.cell?_setCell_far w1 ⟨kb, ko + i, none⟩ ⟨b, 0, none⟩ (.pointer (some ⟨c, 0, none⟩)) hne).trans ((keep hb1 _ _ HN.out.lt).trans HN.out.c0))
  go_ret
  have hb2 : Below w.heap.size w (w1.setCell ⟨kb, ko + i, none⟩ (.pointer (some ⟨c, 0, none⟩))) := hb1.setCell (by have := hA1 _ rfl; exact this) _
  have hb3 := hb2.alloc hb2.size (.cells #[.slice At ts.length ct, .slice (some ⟨kb, ko, none⟩) ps.length k1] 111)
  have hrk : RdC (w1.setCell ⟨kb, ko + i, none⟩ (.pointer (some ⟨c, 0, none⟩))) (some ⟨kb, ko, none⟩) (ps.set i (.pointer (some ⟨c, 0, none⟩))) := rdC_set hr1 hlt hfz
  have hnew := heap_alloc_new (w1.setCell ⟨kb, ko + i, none⟩ (.pointer (some ⟨c, 0, none⟩))) (.cells #[.slice At ts.length ct, .slice (some ⟨kb, ko, none⟩) ps.length k1] 111)
  rw [show (w1.setCell ⟨kb, ko + i, none⟩ (.pointer (some ⟨c, 0, none⟩))).heap.size = w1.heap.size by simp [World.setCell]] at hnew
  have hsz : w.heap.size ≤ w1.heap.size := hb1.size
  refine ⟨_, _, _, _, _, rfl, node_new hnew (fun hx => ?_) rfl (by simp) (HN.out.rt.on hb3) (hrk.on ((Below.refl _ _).alloc (Nat.le_refl _) _)) (fun a ha hx => ?_) HN.out.capt hk1 HN.out.capt' hk1', hb3⟩
  · have := hX.out _ hx
    omega
  · cases ha
    have := hX.out _ hx
    have := hA1 _ rfl
    omega
end Go.Proofs.Ytojanokicfeghaa

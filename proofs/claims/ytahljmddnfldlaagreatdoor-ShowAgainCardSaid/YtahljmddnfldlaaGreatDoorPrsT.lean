/-
  Package parse: terms.
-/
import Derived.Test.YtahljmddnfldlaaGreatDoorPrsS
import Derived.Test.YtahljmddnfldlaaGreatDoorPrsD
import Derived.Test.YtahljmddnfldlaaGreatDoorPrsN
import Derived.Test.YtahljmddnfldlaaGreatDoorValG
namespace Go.Proofs.YtahljmddnfldlaaGreatDoor
open Go.RowKit FloM ValM Go.Shelf
set_option linter.unusedVariables false
set_option linter.unusedSimpArgs false
/-- Tokens of a text that is not too long. -/
def GoodT (ts : List Tk) : Prop := ∀ t ∈ ts, TokOk t ∧ t.t.length ≤ 20000
theorem GoodT.tail {t : Tk} {r : List Tk} (h : GoodT (t :: r)) : GoodT r := fun x hx => h x (List.mem_cons_of_mem _ hx)
theorem GoodT.suf {r ts : List Tk} (h : GoodT ts) (hs : r <:+ ts) : GoodT r := fun x hx => h x (hs.subset hx)
def Tm.cells (t : Tm) : List Value := [.string (bs t.v), .int .i64 t.x.k, .int .i64 t.x.n, .string t.x.s]
def Tm.val (t : Tm) : Value := .agg #[.string (bs t.v), .int .i64 t.x.k, .int .i64 t.x.n, .string t.x.s]
def TermQ (R : Ans Tm) (rb tb z o : Nat) (W : World) (e : Ending) (w' : World) : Prop := match R with
  | .ok t r => e = .returned t.val ∧ RdrAt w' rb tb z r o ∧ Fr (· = rb) W.heap.size W w'
  | .no a k => e = .panicked [{ v := faultP a k, recovered := false }] ∧ Fr (· = rb) W.heap.size W w'
def zeroT : List Value := [.string ByteArray.empty, .int .i64 0, .int .i64 0, .string ByteArray.empty]
section
variable {W W' : World} {rb tb z o : Nat} {ts : List Tk}
theorem RdrAt.other (h : RdrAt W rb tb z ts o) {g : Nat} (hg : W.heap.size ≤ g) {W1 W2 : World} (hb : Below W.heap.size W W1) (hF : Fr (· = g) W.heap.size W1 W2) : RdrAt W2 rb tb z ts o :=
  h.on ((hb).trans (hF.below (Nat.le_refl _) fun k hk e => by omega))
theorem rdr_fr {g : Nat} (h : RdrAt W rb tb z ts o) (hr : rb ≠ g) (ht : tb ≠ g) (hF : ∀ B, Fr (· = g) B W W') : RdrAt W' rb tb z ts o := h.fr (hF _) hr ht
set_option maxRecDepth 20000 in
set_option maxHeartbeats 4000000 in
theorem term_any (W : World) (h : RdrAt W rb tb z ts o) (hg : GoodT ts) : Calls Tryz.prog 60 #[.pointer (some ⟨rb, 0, none⟩)] W (TermQ (termP z ts) rb tb z o W) := by
  have hal : ∀ ob, Below W.heap.size W (W.alloc ob) := fun ob => (Below.refl _ _).alloc (Nat.le_refl _) ob
  have hrl := h.lt; have htl := h.tlt
  have HN := Lib.hid (need_term (W.alloc (.cells zeroT.toArray 48)) (h.on (hal _)))
  have hR0 := row_new (t := 48) W zeroT
  have HR0 := Lib.hid hR0
  have HAL := Lib.hid hal
  unfold termP
  clear h hR0 hal
  cases hn : needP termT z ts with
  | no a k =>
    rw [hn] at HN
    simp only [Ans.bind]
    clear hn
    go_enter Tryz.func60, Tryz.ntmps60
    go_wp2_with (go_at_call 53; refine HN.out.mono ?_; rintro e w1 ⟨rfl, f1⟩)
    exact ⟨rfl, rfl, (Fr.of (HAL.out _)).trans (f1.mono (by simp))⟩
  | ok t r =>
    rw [hn] at HN
    obtain ⟨rfl, ht⟩ := need_len hn
    have hlen := (hg t (by simp)).2
    have HVar : Hid (∀ V, Calls Tryz.prog 89 #[.agg #[.int .i64 (t.k : Int), .string (bs t.t), .int .i64 (t.a : Int)]] V fun e w' => e = .returned (.bool (varT t)) ∧ Below V.heap.size V w') := Lib.hid fun V => isVar_any t V
    simp only [Ans.bind]
    clear hn ht hg
    cases hv : varT t with
    | true =>
      rw [hv] at HVar
      have HE : Hid (termOf t = ⟨t.t, v0⟩) := Lib.hid (by unfold termOf; rw [if_pos (by unfold varT at hv; exact beq_iff_eq.1 hv)])
      clear hv
      go_enter Tryz.func60, Tryz.ntmps60
      go_wp2_with (first
        | (go_at_call 53; refine HN.out.mono ?_; rintro e w1 ⟨rfl, h1, f1⟩; have H1 := Lib.hid h1; have F1 := Lib.hid f1; unfold Tk.val; have HR1 := Lib.hid (HR0.out.fr f1 (by simp) (by omega)); have HT1 := Lib.hid (row_new (t := 92) w1 [.int .i64 (t.k : Int), .string (bs t.t), .int .i64 (t.a : Int)]); clear h1 f1)
        | (go_at_call 89; refine (HVar.out _).mono ?_; rintro e w2 ⟨rfl, hb2⟩; have HB2 := Lib.hid hb2; have HT2 := Lib.hid (rowOn HT1.out hb2); have d1 := HT2.out.cell 1; simp only [List.getElem?_cons_zero, List.getElem?_cons_succ] at d1; clear hb2)
        | (refine wpList_storeR rfl 48 (.tmp 2) _ rfl W.heap.size 0 rfl (.agg #[.string (bs t.t), .int .i64 0, .int .i64 0, .string ByteArray.empty]) rfl _ rfl (pre := []) (old := zeroT) (post := []) (rowOn (Row.alloc HR1.out _) HB2.out) rfl rfl (by kernel_rfl) rfl ?_; intro w3 hR3 hF3 hs3))
      refine bodyPost_ret (results_cell_row rfl _ _ W.heap.size _ _ _ _ rfl hR3 Tryz.underlying48 rfl (by kernel_rfl)) rfl ?_
      rw [HE.out]
      have hb2 := on ((Below.refl _ _).alloc (Nat.le_refl _) _) HB2.out
      have hz1 := F1.out.size
      simp only [World.size_alloc] at hz1
      refine ⟨rfl, rdr_fr (H1.out.on hb2) (by omega) (by omega) hF3, (Fr.of (HAL.out _)).trans ((F1.out.mono (by simp)).trans ((Fr.of (hb2.mono (by omega))).trans (Fr.of ((hF3 W.heap.size).below (Nat.le_refl _) fun k hk e => by omega))))⟩
    | false =>
      rw [hv] at HVar
      have HE : Hid (termOf t = ⟨[], (readV (bs t.t)).getD v0⟩) := Lib.hid (by unfold termOf; rw [if_neg (by unfold varT at hv; exact beq_eq_false_iff_ne.1 hv)])
      have HRD : Hid (∀ U, Calls Tryz.prog 90 #[.string (bs t.t)] U fun e w' => ∃ (x : V) (er : Int), (readV (bs t.t)).getD v0 = x ∧ e = .returned (.tuple #[.agg #[.int .i64 x.k, .int .i64 x.n, .string x.s], .int .i64 er]) ∧ Below U.heap.size U w') := Lib.hid fun U => (read_go (bs t.t) U (by rw [← ls_len, ls_bs]; unfold maxLen; omega)).mono (by
        rintro e w' (⟨v, hv, rfl, hb⟩ | ⟨hv, rfl, hb⟩)
        · exact ⟨v, 0, by rw [hv]; rfl, rfl, hb⟩
        · exact ⟨v0, 2, by rw [hv]; rfl, rfl, hb⟩)
      clear hv
      go_enter Tryz.func60, Tryz.ntmps60
      go_wp2_with (first
        | (go_at_call 53; refine HN.out.mono ?_; rintro e w1 ⟨rfl, h1, f1⟩; have H1 := Lib.hid h1; have F1 := Lib.hid f1; unfold Tk.val; have HR1 := Lib.hid (HR0.out.fr f1 (by simp) (by omega)); have HT1 := Lib.hid (row_new (t := 92) w1 [.int .i64 (t.k : Int), .string (bs t.t), .int .i64 (t.a : Int)]); clear h1 f1)
        | (go_at_call 89; refine (HVar.out _).mono ?_; rintro e w2 ⟨rfl, hb2⟩; have HB2 := Lib.hid (on ((Below.refl _ _).alloc (Nat.le_refl _) _) hb2); have HT2 := Lib.hid (rowOn HT1.out hb2); have d1 := HT2.out.cell 1; simp only [List.getElem?_cons_zero, List.getElem?_cons_succ] at d1; clear hb2)
        | (go_at_call 90; refine (HRD.out _).mono ?_; rintro e w3 ⟨x, er, hx, rfl, hb3⟩; have HX := Lib.hid hx; have HB3 := Lib.hid (on HB2.out hb3); clear hx hb3)
        | (refine wpList_storeR rfl 48 (.tmp 2) _ rfl W.heap.size 0 rfl (.agg #[.string ByteArray.empty, .int .i64 x.k, .int .i64 x.n, .string x.s]) rfl _ rfl (pre := []) (old := zeroT) (post := []) (Row.alloc (rowOn HR1.out HB3.out) _) rfl rfl (by kernel_rfl) rfl ?_; intro w4 hR4 hF4 hs4))
      refine bodyPost_ret (results_cell_row rfl _ _ W.heap.size _ _ _ _ rfl hR4 Tryz.underlying48 rfl (by kernel_rfl)) rfl ?_
      rw [HE.out, HX.out]
      have hz1 := F1.out.size
      have hz3 := HB3.out.size
      simp only [World.size_alloc] at hz1
      have hb4 := HB3.out.alloc hz3 (.cells #[.int .i64 x.k, .int .i64 x.n, .string x.s] 46)
      refine ⟨rfl, rdr_fr (H1.out.on hb4) (by omega) (by omega) hF4, (Fr.of (HAL.out _)).trans ((F1.out.mono (by simp)).trans ((Fr.of (hb4.mono (by omega))).trans (Fr.of ((hF4 W.heap.size).below (Nat.le_refl _) fun k hk e => by omega))))⟩
end
end Go.Proofs.YtahljmddnfldlaaGreatDoor

/-
  Package safe: what is added to a set of names.
-/
import Derived.Test.YtahljmddnfldlaaSafB
import Derived.Handy
namespace Go.Proofs.Ytahljmddnfldlaa
open Go.RowKit FloM ValM Go.Shelf Go.Maps
set_option linter.unusedVariables false
set_option linter.unusedSimpArgs false
theorem tmL_ok {x : LtI} (h : x.ok) : ∀ t ∈ tmL x, TmOk t := fun t ht => by
  unfold tmL at ht
  simp only [List.mem_append, List.mem_cons, List.not_mem_nil, or_false] at ht
  rcases ht with ht | rfl | rfl | rfl
  · exact h.1.2 t ht
  · exact h.2.2.1
  · exact h.2.2.2.1
  · exact h.2.2.2.2.1
theorem Fr.imp {X Y : Nat → Prop} {B : Nat} {w w' : World} (h : Fr X B w w') (hi : ∀ k, X k → Y k) : Fr Y B w w' := ⟨h.os, h.tape, h.output, h.size, fun k hk hn => h.block k hk fun e => hn (hi k e)⟩
theorem lit_at (x : LtI) (W : World) : (W.alloc (.cells (ltIC x).toArray 43)).rangeAt W.heap.size 0 (ltIC x) := fun j v hj => by rw [Nat.zero_add]; exact ((lit_row x W).cell j).trans hj
def Bind1 (ts : List Tm) (S : List Nm) (b n : Nat) (W w1 : World) (i : Value) (wr : World) : Prop := ∃ k : Nat, i = .int .i64 (k : Nat) ∧ k ≤ ts.length ∧ Fr (· = b) w1.heap.size w1 wr ∧ SetAt wr b (n + k) (S ++ vsT (ts.take k))
set_option maxRecDepth 20000 in
set_option maxHeartbeats 8000000 in
theorem bind_any (b n : Nat) (S : List Nm) (x : LtI) (W : World) (h : SetAt W b n S) (hn : n ≤ 1000000) (hx : x.rd W) (hok : x.ok) (hl : x.m.a.length ≤ 1000) :
    Calls Try.prog 29 #[.map (some b), .agg (ltIC x).toArray] W fun e w' => e = .returned (.tuple #[]) ∧ SetAt w' b (n + (x.m.a.length + 3)) (S ++ vsL x) ∧ Fr (· = b) W.heap.size W w' := by
  show Calls Try.prog 29 #[.map (some b), .agg (ltIC x).toArray] W fun e w' => e = .returned (.tuple #[]) ∧ SetAt w' b (n + (x.m.a.length + 3)) (S ++ vsT (tmL x)) ∧ Fr (· = b) W.heap.size W w'
  have hb := h.lt
  have hB0 : Below W.heap.size W (W.alloc (.cells (ltIC x).toArray 43)) := (Below.refl _ _).alloc (Nat.le_refl _) _
  have HB0 := Lib.hid hB0
  have HRG := Lib.hid (lit_at x W)
  have HT := Lib.hid (terms_any x _ (hx.on hB0) hl)
  have HS := Lib.hid (h.on hB0)
  have htl : (tmL x).length = x.m.a.length + 3 := by simp [tmL]
  have HTL := Lib.hid htl
  have HOK := Lib.hid (tmL_ok hok)
  have hm9 : (tmL x).length ≤ 1003 := by omega
  clear hx hok hB0 h htl
  generalize tmL x = ts at *
  go_enter Try.func29, Try.ntmps29
  go_wp2_with (first
    | (refine wpList_load_mid rfl 43 (.tmp 3) rfl W.heap.size 0 rfl (ltIC x) _ HRG.out Try.underlying43 rfl (by kernel_rfl) ?_)
    | (go_at_call 39; refine HT.out.mono ?_; rintro e w1 ⟨A, c, rfl, hO, hB1⟩; have HO := Lib.hid hO; have HB1 := Lib.hid hB1; clear hO hB1))
  have HRD : Hid (RdX 4 tmC w1 A ts) := Lib.hid (RdX.of_own (fun _ => rfl) HO.out)
  have hbw1 : b < w1.heap.size := Nat.lt_of_lt_of_le hb (Nat.le_trans HB0.out.size HB1.out.size)
  go_loopw [9] (fun i wr => Bind1 ts S b n W w1 i wr) (fun i _ => ts.length - (intOf i).toNat)
  case atStart => exact ⟨0, rfl, Nat.zero_le _, Fr.refl _ _ _, by simpa [vsT] using HS.out.on HB1.out⟩
  case round =>
    obtain ⟨k, rfl, hk, hF, hS⟩ := hrel
    have HF := Lib.hid hF; have HSk := Lib.hid hS; clear hF hS
    by_cases hlt : k < ts.length
    · obtain ⟨t, ht⟩ : ∃ t, ts[k]? = some t := ⟨_, List.getElem?_eq_getElem hlt⟩
      have hrf : RdX 4 tmC wr A ts := HRD.out.onF (fun _ a ha e => by
        subst ha
        have h1 := own_base HO.out a.block rfl
        have h2 := HB0.out.size
        omega) HF.out
      obtain ⟨g, o, rfl, hg, hc⟩ := hrf.2 k t ht
      have x0 := hc 0 _ rfl; have x1 := hc 1 _ rfl; have x2 := hc 2 _ rfl; have x3 := hc 3 _ rfl
      rw [Nat.add_zero] at x0
      have hkey := key_of (HOK.out t (List.mem_of_getElem? ht)).1
      have HTK := Lib.hid ht
      clear hrf hc ht
      by_cases hv : t.v = []
      · have f1 : ((bs t.v).toList == []) = true := by rw [bsl, hv]; rfl
        have HV := Lib.hid hv; clear hv
        go_wp2
        go_roundw
        case rel =>
          refine ⟨k + 1, by go_num, by omega, HF.out.trans ((Fr.of ((Below.refl _ _).alloc (Nat.le_refl _) _)).mono HF.out.size), ?_⟩
          have e : vsT (ts.take (k + 1)) = vsT (ts.take k) := by
            rw [List.take_add_one, HTK.out, vsT_app]
            simp [vsT, HV.out]
          rw [e]
          exact (HSk.out.mono (by omega)).on ((Below.refl _ _).alloc (Nat.le_refl _) _)
        case measure => simp [intOf]; omega
      · have f1 : ((bs t.v).toList == []) = false := by rw [bsl, beq_eq_false_iff_ne]; exact hv
        have HV := Lib.hid hv; clear hv
        obtain ⟨D, hD, hE⟩ := HSk.out
        have HE := Lib.hid hE; have HD := Lib.hid hD; clear hE hD
        have HF2 : Hid (Fr (· = b) w1.heap.size w1 (wr.alloc (.cells #[.string (bs t.v), .int .i64 t.x.k, .int .i64 t.x.n, .string t.x.s] 40))) := Lib.hid (HF.out.trans ((Fr.of ((Below.refl _ _).alloc (Nat.le_refl _) _)).mono HF.out.size))
        go_wp2_with (first
          | (at_mapUpdate; refine wpList_mapUpdate_own _ rfl _ _ _ 70 rfl 9 82 keyLaw Try.underlying70 (unitElem (H := Unit)) b (n + k) _ rfl (HD.out.alloc _) (by unfold maxLen; omega) _ _ _ rfl rfl hkey _ [] unitElem_mk ?_; intro w2 hown1 hgrow1; have HO2 := Lib.hid hown1; have HG := Lib.hid hgrow1; clear hown1 hgrow1))
        go_roundw
        case rel =>
          refine ⟨k + 1, by go_num, by omega, HF2.out.trans ((Fr.imp (fr_of_grown HG.out) (fun k e => by injection e with e; exact e.symm)).mono HF2.out.size), ?_⟩
          have e : vsT (ts.take (k + 1)) = vsT (ts.take k) ++ [t.v] := by
            rw [List.take_add_one, HTK.out, vsT_app]
            simp [vsT, HV.out]
          rw [e, ← List.append_assoc]
          exact set_put HD.out HE.out HO2.out
        case measure => simp [intOf]; omega
    · obtain rfl : k = ts.length := by omega
      have HS2 := HSk.out
      rw [List.take_length] at HS2
      have HS3 := Lib.hid HS2; clear HS2
      go_wp2
      go_returns
      refine ⟨rfl, ?_, ?_⟩
      · rw [← HTL.out]; exact HS3.out
      · exact (Fr.of (on HB0.out HB1.out)).trans (HF.out.mono (Nat.le_trans HB0.out.size HB1.out.size))
end Go.Proofs.Ytahljmddnfldlaa

/-
  Package safe: Order.
-/
import Derived.Test.YtahljmddnfldlaaSafO
namespace Go.Proofs.Ytahljmddnfldlaa
open Go.RowKit FloM ValM Go.Shelf Go.Maps
set_option linter.unusedVariables false
set_option linter.unusedSimpArgs false
theorem info_bool11 : (Try.prog.info? 4).map (fun i => (i.zero, i.size, i.bytes)) = some (some (.bool false), 1, 1) := by kernel_rfl
theorem info_int11 : (Try.prog.info? 3).map (fun i => (i.zero, i.size, i.bytes)) = some (some (.int .i64 0), 1, 8) := by kernel_rfl
def OrdQ (R : Option (List Nat × List Nm)) (W : World) (e : Ending) (w' : World) : Prop := match R with
  | some (l, U) => ∃ A c A2 c2, e = .returned (.tuple #[.slice A l.length c, .slice A2 (namesL U).length c2, .int .i64 0]) ∧ OwnX 3 1 niC w' W.heap.size A c l ∧ OwnN w' W.heap.size A2 c2 (namesL U) ∧ Below W.heap.size W w'
  | none => e = .returned (.tuple #[.slice none 0 0, .slice none 0 0, .int .i64 7]) ∧ Below W.heap.size W w'
def OrdR (body : List LtI) (n0 b g base : Nat) (R : Option (List Nat × List Nm)) (W : World) (o : Value) (wr : World) : Prop := ∃ t S A c, o = .slice A t.length c ∧ t.length ≤ body.length ∧ orderL vsL readyL body (body.length - t.length) t S = R ∧ OrdS body.length n0 b g base t S A c W wr
/-- None of the literals so far is to be taken. -/
def Past (body : List LtI) (t : List Nat) (S : List Nm) (i : Nat) : Prop := ∀ j, j < i → (!decide (j ∈ t) && rdAt readyL body S j) = false
theorem Past.step {body : List LtI} {t : List Nat} {S : List Nm} {i : Nat} (h : Past body t S i) (hi : (!decide (i ∈ t) && rdAt readyL body S i) = false) : Past body t S (i + 1) := fun j hj => by
  rcases Nat.lt_or_ge j i with h1 | h1
  · exact h j h1
  · have : j = i := by omega
    subst this; exact hi
theorem past_hit {body : List LtI} {t : List Nat} {S : List Nm} {i n : Nat} (h : Past body t S i) (hi : i < body.length) (ht : i ∉ t) (hr : rdAt readyL body S i = true) : orderL vsL readyL body (n + 1) t S = orderL vsL readyL body n (t ++ [i]) (S ++ vsAt vsL body i) := by
  have e : nextI readyL body t S = some i := find_range hi (by simp [ht, hr]) (fun j hj => h j hj)
  conv => lhs; unfold orderL
  rw [e]
theorem past_none {body : List LtI} {t : List Nat} {S : List Nm} {n : Nat} (h : Past body t S body.length) : orderL vsL readyL body (n + 1) t S = none := by
  have e : nextI readyL body t S = none := by
    unfold nextI
    rw [List.find?_eq_none]
    intro i hi
    rw [h i (List.mem_range.1 hi)]; simp
  unfold orderL
  rw [e]
def InR (body : List LtI) (t : List Nat) (S : List Nm) (w2 : World) (i : Value) (wr : World) : Prop := ∃ k : Nat, i = .int .i64 (k : Nat) ∧ k ≤ body.length ∧ Below w2.heap.size w2 wr ∧ Past body t S k
set_option maxRecDepth 20000 in
set_option maxHeartbeats 16000000 in
theorem order_any (B : Option Addr) (d : Nat) (body : List LtI) (A0 : Option Addr) (c0 : Nat) (bound : List Nm) (W : World) (hb : RdX 17 ltIC W B body) (hx : ∀ x ∈ body, x.rd W ∧ x.ok ∧ x.m.a.length ≤ 1000) (hl : body.length ≤ 100) (hr : RdN W A0 bound) (hn : NmOk bound) (hln : bound.length ≤ 1000) :
    Calls Try.prog 11 #[.slice B body.length d, .slice A0 bound.length c0] W (OrdQ (ordL vsL readyL body bound) W) := by
  have HBD := Lib.hid hb; have HX := Lib.hid hx
  have HS := Lib.hid (setOf_any A0 c0 bound W hr hn (by omega))
  have hmk := fun W => run_make_row' (P := Try.prog) 62 4 (.bool false) 1 Try.underlying62 info_bool11 rfl .i64 .i64 body.length (by omega) (by omega) W
  obtain ⟨R, hR⟩ : ∃ R, ordL vsL readyL body bound = R := ⟨_, rfl⟩
  rw [hR]
  have HR := Lib.hid hR
  obtain ⟨n0, hn0⟩ : ∃ n0, Hid (bound.length = n0) := ⟨_, Lib.hid rfl⟩
  have hn1 : n0 ≤ 1000 := by rw [← hn0.out]; exact hln
  clear hb hx hr hn hR
  go_enter Try.func11, Try.ntmps11
  go_wp2
  go_step3
  go_wp2_with (go_at_call 27; refine HS.out.mono ?_; rintro e w1 ⟨rfl, hS1, hB1⟩; have HS1 := Lib.hid hS1; have HB1 := Lib.hid hB1; clear hS1 hB1)
  go_step3
  go_wp2
  generalize hW2 : World.alloc w1 _ = w2
  have hrow : w2.rowIs w1.heap.size 4 body.length (selF []) := by
    rw [← hW2]
    exact (World.rowIs_made w1 (.bool false) body.length 4).congr fun i _ => by simp [selF]
  have hB2 : Below w1.heap.size w1 w2 := hW2 ▸ (Below.refl _ _).alloc (Nat.le_refl _) _
  have hz2 : w2.heap.size = w1.heap.size + 1 := by rw [← hW2]; simp
  have hlt1 := HS1.out.lt
  have hge1 := HB1.out.size
  have HO0 : Hid (OrdS body.length n0 W.heap.size w1.heap.size w2.heap.size [] bound none 0 W w2) := Lib.hid ⟨on HB1.out hB2, by have h := HS1.out.on hB2; rw [hn0.out] at h; exact h, hrow, ⟨rfl, .inl ⟨rfl, rfl⟩⟩, by omega, by omega, Nat.le_refl _, by omega, Nat.le_refl _, hge1⟩
  have HR0 : Hid (orderL vsL readyL body body.length [] bound = R) := Lib.hid HR.out
  generalize w1.heap.size = g at *
  generalize hbase : w2.heap.size = base at HO0
  clear hW2 hrow hB2 hz2 hlt1 hge1 HS1 HB1 HS hmk hbase HR
  go_loopw [8] (fun o wr => OrdR body n0 W.heap.size g base R W o wr) (fun o _ => body.length - (match o with | .slice _ n _ => n | _ => 0))
  case atStart => exact ⟨[], bound, none, 0, rfl, Nat.zero_le _, HR0.out, HO0.out⟩
  case round =>
    clear HO0 HR0
    obtain ⟨t, S, A, c, rfl, htl, hRt, hO⟩ := hrel
    have HRT := Lib.hid hRt; have HO := Lib.hid hO; clear hRt hO
    by_cases hlt : t.length < body.length
    · obtain ⟨wo, rfl⟩ : ∃ wo, wo = wr := ⟨_, rfl⟩
      go_wp2
      go_loopw [8, 23] (fun o i wq => o = .slice A t.length c ∧ InR body t S wo i wq) (fun _ i _ => body.length - (intOf i).toNat)
      case atStart => exact ⟨rfl, 0, rfl, Nat.zero_le _, Below.refl _ _, fun j hj => absurd hj (Nat.not_lt_zero _)⟩
      case round =>
        obtain ⟨rfl, k, rfl, hk, hq, hP⟩ := hrel
        have HQ := Lib.hid hq; have HP := Lib.hid hP; clear hP
        by_cases hkl : k < body.length
        · obtain ⟨x, hx⟩ : ∃ x, body[k]? = some x := ⟨_, List.getElem?_eq_getElem hkl⟩
          have hOq := HO.out.on hq
          obtain ⟨hx1, hx2, hx3⟩ := HX.out x (List.mem_of_getElem? hx)
          obtain ⟨gb, o, rfl, hgb, hc⟩ := HBD.out.2 k x hx
          have hcell := hOq.sel.cell hkl
          have HOq := Lib.hid hOq
          have HRG : Hid (∀ V, Below W.heap.size W V → V.rangeAt gb (o + k * 17) (ltIC x)) := Lib.hid fun V hV j v hj => (keep hV _ _ hgb).trans (hc j v hj)
          have hrx : rdAt readyL body S k = readyL x S := by unfold rdAt; rw [hx]
          have HRX := Lib.hid hrx; have HXX := Lib.hid hx
          have HRD : Hid (∀ V, Below wr.heap.size wr V → Calls Try.prog 28 #[.map (some W.heap.size), .agg (ltIC x).toArray] V fun e w' => e = .returned (.bool (readyL x S)) ∧ Below V.heap.size V w') := Lib.hid fun V hV => ready_any W.heap.size _ S x V (HOq.out.set.on hV) (hx1.on (on HOq.out.be hV)) hx2 hx3
          have HX2 := Lib.hid (And.intro hx1 (And.intro hx2 hx3))
          have hm0 : body.length - t.length = (body.length - (t.length + 1)) + 1 := by omega
          have HM := Lib.hid hm0
          clear hq hc hx hrx hOq hx1 hx2 hx3 hm0
          by_cases hmem : k ∈ t
          · have hv : selF t k = .bool true := by simp [selF, hmem]
            rw [hv] at hcell
            have HIn := Lib.hid hmem; clear hmem hv
            go_wp2
            go_roundw
            case rel => exact ⟨rfl, k + 1, by go_num, by omega, HQ.out, HP.out.step (by simp [HIn.out])⟩
            case measure => simp [intOf]; omega
          · have hv : selF t k = .bool false := by simp [selF, hmem]
            rw [hv] at hcell
            have HIn := Lib.hid hmem; clear hmem hv
            have hB0 : Below wr.heap.size wr wr := Below.refl _ _
            cases hrdy : readyL x S with
            | false =>
              have HRf := Lib.hid hrdy
              rw [hrdy] at HRD
              clear hrdy
              go_wp2_with (first
                | (refine wpList_load_want rfl 43 (.tmp 35) rfl gb (o + k * 17) rfl (ltIC x) _ (HRG.out _ (on HOq.out.be hB0)) Try.underlying43 rfl (by kernel_rfl) ?_)
                | (go_at_call 28; refine (HRD.out _ hB0).mono ?_; rintro e w5 ⟨rfl, h'⟩; replace hB0 := on hB0 h'; clear h'))
              go_roundw
              case rel => exact ⟨rfl, k + 1, by go_num, by omega, on HQ.out hB0, HP.out.step (by rw [HRX.out, HRf.out]; simp)⟩
              case measure => simp [intOf]; omega
            | true =>
              have HRt := Lib.hid hrdy
              rw [hrdy] at HRD
              clear hrdy
              go_upto_region 9 with (first
                | (refine wpList_load_want rfl 43 (.tmp 35) rfl gb (o + k * 17) rfl (ltIC x) _ (HRG.out _ (on HOq.out.be hB0)) Try.underlying43 rfl (by kernel_rfl) ?_)
                | (go_at_call 28; refine (HRD.out _ hB0).mono ?_; rintro e w5 ⟨rfl, h'⟩; replace hB0 := on hB0 h'; clear h'))
              obtain ⟨i0, hi0, hz0, hz1, hz2⟩ := info_parts info_int11
              have HI0 := Lib.hid hi0; have HZ0 := Lib.hid hz0; have HZ1 := Lib.hid hz1; have HZ2 := Lib.hid hz2
              have hO5 := HOq.out.on hB0
              have hA5 : Below w5.heap.size w5 (w5.alloc (.cells #[.int .i64 (k : Int)] 3)) := (Below.refl _ _).alloc (Nat.le_refl _) _
              have hOa := hO5.on hA5
              have HOa := Lib.hid hOa; have HB5 := Lib.hid (on hB0 hA5)
              have hlb := hOa.lw
              have HLB := Lib.hid hlb
              have htl2 : t.length + 1 ≤ 101 := by omega
              clear hi0 hz0 hz1 hz2 hO5 hA5 hOa hlb hcell hB0
              go_upto_region 10 with (at_builtin; refine wpList_append_own _ rfl (.tmp 41) (.tmp 43) 26 rfl base 3 i0 (.int .i64 0) 1 8 Try.underlying26 HI0.out HZ0.out HZ1.out HZ2.out rfl (by decide) _ _ _ rfl HOa.out.own ⟨w5.heap.size, 0, none⟩ 1 1 [.int .i64 (k : Int)] rfl rfl (cell_one_new _ _ _) (fun u hu => by simp only [List.mem_cons, List.not_mem_nil, or_false] at hu; subst hu; rfl) (by unfold maxLen; omega) (by omega) HLB.out ?_; intro v6 w6 ho6 hg6 _; have HO6 := Lib.hid ho6; have HG6 := Lib.hid hg6; clear ho6 hg6; obtain ⟨A6, c6, rfl⟩ := own_form HO6.out; have hsel6 := rowIs_fr HOa.out.sel (fr_of_grown HG6.out) (rowIs_lt HOa.out.sel) (fun e => by have h1 := own_base HOa.out.own g e; have h2 := HOa.out.lg; omega); have hc6 := hsel6.cell hkl; have hf6 := hsel6.frozen k; clear hsel6)
              have hmid := HOa.out.mid (i := k) HG6.out
              obtain ⟨w7, hw7⟩ : ∃ w7, Hid (w6.setCell ⟨g, k, none⟩ (.bool true) = w7) := ⟨_, Lib.hid rfl⟩
              rw [hw7.out] at hmid ⊢
              have HM7 := Lib.hid hmid
              clear hmid hc6 hf6
              go_wp2_with (first
                | (refine wpList_load_mid rfl 43 (.tmp 49) rfl gb (o + k * 17) rfl (ltIC x) _ (HRG.out _ HM7.out.1) Try.underlying43 rfl (by kernel_rfl) ?_)
                | (go_at_call 29; refine (bind_any W.heap.size _ S x _ HM7.out.2 (by omega) (HX2.out.1.on HM7.out.1) HX2.out.2.1 HX2.out.2.2).mono ?_; rintro e w8 ⟨rfl, hS8, hF8⟩; have HS8 := Lib.hid hS8; have HF8 := Lib.hid hF8; clear hS8 hF8))
              go_roundw
              case rel =>
                have hxm := HX2.out.2.2
                have hst := OrdS.step (i := k) (S' := S ++ vsL x) HOa.out hkl (Below.refl _ _) HO6.out HG6.out hw7.out.symm (HS8.out.mono (by omega)) HF8.out
                refine ⟨t ++ [k], S ++ vsL x, A6, c6, by rw [List.length_append]; rfl, by rw [List.length_append]; exact hlt, ?_, hst⟩
                have e1 := HRT.out
                rw [HM.out, past_hit HP.out hkl HIn.out (by rw [HRX.out]; exact HRt.out)] at e1
                have e2 : vsAt vsL body k = vsL x := by unfold vsAt; rw [HXX.out]
                rw [e2] at e1
                rw [List.length_append]
                exact e1
              case measure => simp; omega
        · obtain rfl : k = body.length := by omega
          have HRn : Hid (R = none) := Lib.hid (by
            have e1 := HRT.out
            rw [show body.length - t.length = (body.length - (t.length + 1)) + 1 by omega, past_none HP.out] at e1
            exact e1.symm)
          have HBn := Lib.hid (on HO.out.be hq)
          clear hq
          go_wp2
          rw [Exit.noGoto_ret]
          go_ret3
          rw [HRn.out]
          exact ⟨rfl, HBn.out⟩
    · have htl2 : t.length = body.length := by omega
      have HRs : Hid (R = some (t, S)) := Lib.hid (by
        have e1 := HRT.out
        rw [show body.length - t.length = 0 by omega] at e1
        exact e1.symm)
      have hnn : n0 + 1003 * t.length ≤ 1000000 := by omega
      have HNN := Lib.hid hnn; have HTL := Lib.hid htl2
      clear htl2 hnn
      go_wp2_with (go_at_call 30; refine (list_any W.heap.size _ S _ HO.out.set HNN.out).mono ?_; rintro e w9 ⟨A9, c9, rfl, hO9, hB9⟩; have HO9 := Lib.hid hO9; have HB9 := Lib.hid hB9; clear hO9 hB9)
      rw [Exit.noGoto_ret]
      go_ret3
      rw [HRs.out]
      have hg5 := HO.out.be.size; have hg6 := HO.out.gb; have hg7 := HO.out.lb
      exact ⟨A, c, A9, c9, rfl, own_less (own_on HO.out.own HB9.out) (by omega), own_less HO9.out HO.out.be.size, on HO.out.be HB9.out⟩
end Go.Proofs.Ytahljmddnfldlaa

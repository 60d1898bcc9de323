/-
  The document's answer: Order.
-/
import Derived.Test.YtahljmddnfldlaaSafJ
namespace Go.Proofs.Ytahljmddnfldlaa
open Go.RowKit FloM ValM Go.Shelf Go.Maps
set_option linter.unusedVariables false
set_option linter.unusedSimpArgs false
theorem ready_mono11 : Mono readyL := fun x S T h hr => by
  have hi : ∀ t : Tm, inS t S = true → inS t T = true := fun t ht => by
    unfold inS at ht ⊢
    simp only [decide_eq_true_eq] at ht ⊢
    exact ht.imp id (h t.v)
  unfold readyL at hr ⊢
  split
  · rename_i h2; rw [if_pos h2] at hr
    unfold allS at hr ⊢
    rw [List.all_eq_true] at hr ⊢
    exact fun t ht => hi t (hr t ht)
  rename_i h2
  rw [if_neg h2] at hr
  split
  · rename_i h3; rw [if_pos h3] at hr
    simp only [Bool.or_eq_true, Bool.and_eq_true] at hr ⊢
    exact hr.imp (fun h => ⟨hi _ h.1, hi _ h.2⟩) (fun h => ⟨h.1, h.2.imp (hi _) (hi _)⟩)
  rename_i h3
  rw [if_neg h3] at hr
  split
  · rename_i h4; rw [if_pos h4] at hr
    simp only [Bool.and_eq_true] at hr ⊢
    exact ⟨hi _ hr.1, hi _ hr.2⟩
  · rfl
theorem ready_names (x : LtI) (S : List Nm) : readyL x (namesL S) = readyL x S := by
  have e : ∀ a b : Bool, (a = true ↔ b = true) → a = b := by decide
  exact e _ _ ⟨ready_mono11 x _ _ fun y h => (namesL_mem S y).1 h, ready_mono11 x _ _ fun y h => (namesL_mem S y).2 h⟩
theorem own_lt {w : World} {base size n : Nat} {e : TypeId} {v : Value} {xs : List Value} (h : w.ownsRow base e size v n xs) : ∀ k, v.ownBlock = some k → k < w.heap.size := by
  intro k hk
  rcases h.2 with ⟨rfl, _⟩ | ⟨g, cap, cur, rfl, hbg, hh, _⟩
  · simp [Value.ownBlock] at hk
  · simp [Value.ownBlock] at hk
    subst hk
    exact (Array.getElem?_eq_some_iff.1 hh).1
def OrdP (R : Option (List Nat × List Nm)) (W : World) (e : Ending) (w' : World) : Prop := match R with
  | some (l, U) => ∃ A c A2 c2, e = .returned (.tuple #[.slice A l.length c, .slice A2 (namesL U).length c2, .int .i64 0]) ∧ RdX 1 niC w' A l ∧ RdN w' A2 (namesL U) ∧ Below W.heap.size W w'
  | none => e = .returned (.tuple #[.slice none 0 0, .slice none 0 0, .int .i64 7]) ∧ Below W.heap.size W w'
/-- What the document's Order holds. -/
structure OrdT (m g base : Nat) (t : List Nat) (S : List Nm) (A : Option Addr) (c : Nat) (A1 : Option Addr) (W wr : World) : Prop where
  be : Below W.heap.size W wr
  sel : wr.rowIs g 4 m (selF t)
  own : OwnX 3 1 niC wr base A c t
  nms : RdN wr A1 (namesL S)
  ng : ∀ a, A1 = some a → a.block ≠ g
  no : ∀ a, A1 = some a → (Value.slice A t.length c).ownBlock ≠ some a.block
  gg : W.heap.size ≤ g
  gb : g < base
  lw : base ≤ wr.heap.size
  sl : (namesL S).length ≤ 1000 + 1003 * t.length
section
variable {m g base c : Nat} {t : List Nat} {S : List Nm} {A A1 : Option Addr} {W wr w' : World}
theorem OrdT.on (h : OrdT m g base t S A c A1 W wr) (hb : Below wr.heap.size wr w') : OrdT m g base t S A c A1 W w' :=
  ⟨Go.Proofs.Ytahljmddnfldlaa.on h.be hb, rowIs_fr h.sel (X := fun _ => False) (Fr.of hb) (rowIs_lt h.sel) (fun h => h), own_on h.own hb, RdX.on h.nms hb, h.ng, h.no, h.gg, h.gb, Nat.le_trans h.lw hb.size, h.sl⟩
/-- The place is taken. -/
theorem OrdT.put {i : Nat} (h : OrdT m g base t S A c A1 W wr) : Below W.heap.size W (wr.setCell ⟨g, i, none⟩ (.bool true)) ∧ (wr.setCell ⟨g, i, none⟩ (.bool true)).rowIs g 4 m (selF (t ++ [i])) ∧ OwnX 3 1 niC (wr.setCell ⟨g, i, none⟩ (.bool true)) base A c t ∧ RdN (wr.setCell ⟨g, i, none⟩ (.bool true)) A1 (namesL S) ∧ base ≤ (wr.setCell ⟨g, i, none⟩ (.bool true)).heap.size := by
  have f := fr_set wr g i (.bool true) wr.heap.size
  have g1 := h.gg; have g2 := h.gb; have g3 := h.lw
  refine ⟨h.be.trans (f.below h.be.size (fun k hk e => by omega)), ?_, own_frx (X := (· = g)) h.own (fun k e => by omega) f, RdX.onF h.nms (fun _ a ha e => h.ng a ha e) f, Nat.le_trans g3 f.size⟩
  refine (h.sel.set i (.bool true)).congr fun j _ => ?_
  unfold selF
  by_cases e : j = i
  · subst e; simp
  · simp [e]
end
def OrdU (body : List LtI) (g base : Nat) (R : Option (List Nat × List Nm)) (W : World) (o b : Value) (wr : World) : Prop := ∃ t S A c A1 c1, o = .slice A t.length c ∧ b = .slice A1 (namesL S).length c1 ∧ t.length ≤ body.length ∧ orderL vsL readyL body (body.length - t.length) t S = R ∧ OrdT body.length g base t S A c A1 W wr
def InT (body : List LtI) (t : List Nat) (S : List Nm) (wo : World) (nx i : Value) (wq : World) : Prop := ∃ k : Nat, i = .int .i64 (k : Nat) ∧ k ≤ body.length ∧ Below wo.heap.size wo wq ∧ ((nx = .int .i64 (-1) ∧ Past body t S k) ∨ ∃ j : Nat, nx = .int .i64 (j : Nat) ∧ j < k ∧ Past body t S j ∧ j ∉ t ∧ rdAt readyL body S j = true)
set_option maxRecDepth 20000 in
set_option maxHeartbeats 16000000 in
theorem order11_any (B : Option Addr) (d : Nat) (body : List LtI) (A0 : Option Addr) (c0 : Nat) (bound : List Nm) (W : World) (hb : RdX 17 ltIC W B body) (hx : ∀ x ∈ body, x.rd W ∧ x.m.a.length ≤ 1000) (hl : body.length ≤ 80) (hr : RdN W A0 bound) (hln : bound.length ≤ 1000) :
    Calls Try.prog 12 #[.slice B body.length d, .slice A0 bound.length c0] W (OrdP (ordL vsL readyL body bound) W) := by
  have HBD := Lib.hid hb; have HX := Lib.hid hx
  have HN : Hid (Calls Try.prog 26 #[.slice none 0 0, .slice A0 bound.length c0] W (SaysN (namesL bound) W)) := Lib.hid (by
    have h := names_any none 0 [] A0 c0 bound W hr ⟨Nat.zero_le _, fun i y hy => by simp at hy⟩ (by simp; omega)
    rw [show bound ++ vsT [] = bound by simp [vsT]] at h
    exact h)
  have hn0 := namesL_len bound
  have hmk := fun W => run_make_row' (P := Try.prog) 62 4 (.bool false) 1 Try.underlying62 info_bool11 rfl .i64 .i64 body.length (by omega) (by omega) W
  obtain ⟨R, hR⟩ : ∃ R, ordL vsL readyL body bound = R := ⟨_, rfl⟩
  rw [hR]
  have HR := Lib.hid hR
  clear hb hx hr hR
  go_enter Try.func12, Try.ntmps12
  go_wp2_with (go_at_call 26; refine HN.out.mono ?_; rintro e w1 ⟨A1, c1, rfl, hN1, hB1⟩; have HN1 := Lib.hid hN1; have HB1 := Lib.hid hB1; clear hN1 hB1)
  generalize hW2 : World.alloc w1 _ = w2
  have hrow : w2.rowIs w1.heap.size 4 body.length (selF []) := by
    rw [← hW2]
    exact (World.rowIs_made w1 (.bool false) body.length 4).congr fun i _ => by simp [selF]
  have hB2 : Below w1.heap.size w1 w2 := hW2 ▸ (Below.refl _ _).alloc (Nat.le_refl _) _
  have hz2 : w2.heap.size = w1.heap.size + 1 := by rw [← hW2]; simp
  have hge1 := HB1.out.size
  have HO0 : Hid (OrdT body.length w1.heap.size w2.heap.size [] bound none 0 A1 W w2) := Lib.hid ⟨on HB1.out hB2, hrow, ⟨rfl, .inl ⟨rfl, rfl⟩⟩, RdX.on HN1.out.rd hB2, fun a ha e => by
      have := own_lt HN1.out a.block (by rw [ha]; rfl)
      omega, fun a ha => by simp [Value.ownBlock], hge1, by omega, Nat.le_refl _, by simp; omega⟩
  have HR0 : Hid (orderL vsL readyL body body.length [] bound = R) := Lib.hid HR.out
  generalize w1.heap.size = g at *
  generalize hbase : w2.heap.size = base at HO0
  clear hW2 hrow hB2 hz2 hge1 hmk hbase HR HN hn0 HN1 HB1
  go_loopw [7, 1] (fun o b wr => OrdU body g base R W o b wr) (fun o _ _ => body.length - (match o with | .slice _ n _ => n | _ => 0))
  case atStart => exact ⟨[], bound, none, 0, A1, c1, rfl, rfl, Nat.zero_le _, HR0.out, HO0.out⟩
  case round =>
    clear HO0 HR0
    obtain ⟨t, S, A, c, A1', c1', rfl, rfl, htl, hRt, hO⟩ := hrel
    have HRT := Lib.hid hRt; have HO := Lib.hid hO; clear hRt hO
    have hs9 : (namesL S).length ≤ 9223372036854775807 := by have := HO.out.sl; omega
    by_cases hlt : t.length < body.length
    · obtain ⟨wo, rfl⟩ : ∃ wo, wo = wr := ⟨_, rfl⟩
      go_wp2
      go_loopw [9, 23] (fun nx i wq => InT body t S wo nx i wq) (fun _ i _ => body.length - (intOf i).toNat)
      case atStart => exact ⟨0, rfl, Nat.zero_le _, Below.refl _ _, .inl ⟨rfl, fun j hj => absurd hj (Nat.not_lt_zero _)⟩⟩
      case round =>
        obtain ⟨k, rfl, hk, hq, hnx⟩ := hrel
        have HQ := Lib.hid hq
        by_cases hkl : k < body.length
        · obtain ⟨x, hx⟩ : ∃ x, body[k]? = some x := ⟨_, List.getElem?_eq_getElem hkl⟩
          have hOq := HO.out.on hq
          obtain ⟨hx1, hx3⟩ := HX.out x (List.mem_of_getElem? hx)
          obtain ⟨gb, o, rfl, hgb, hc⟩ := HBD.out.2 k x hx
          have hcell := hOq.sel.cell hkl
          have HOq := Lib.hid hOq
          have HRG : Hid (∀ V, Below wr.heap.size wr V → V.rangeAt gb (o + k * 17) (ltIC x)) := Lib.hid fun V hV j v hj => (keep (on HOq.out.be hV) _ _ hgb).trans (hc j v hj)
          have hrx : rdAt readyL body S k = readyL x S := by unfold rdAt; rw [hx]
          have HRX := Lib.hid hrx
          have HRD : Hid (∀ V, Below wr.heap.size wr V → Calls Try.prog 31 #[.agg (ltIC x).toArray, .slice A1' (namesL S).length c1'] V fun e w' => e = .returned (.bool (readyL x S)) ∧ Below V.heap.size V w') := Lib.hid fun V hV => by
            have h := ready11_any x A1' c1' (namesL S) V (hx1.on (on HOq.out.be hV)) hx3 (RdX.on HOq.out.nms hV)
            rw [ready_names] at h
            exact h
          clear hq hc hx hrx hOq hx1 hx3
          have hB0 : Below wr.heap.size wr wr := Below.refl _ _
          rcases hnx with ⟨rfl, hP⟩ | ⟨j, rfl, hjk, hP, hjt, hjr⟩
          · have HP := Lib.hid hP; clear hP
            by_cases hmem : k ∈ t
            · have hv : selF t k = .bool true := by simp [selF, hmem]
              rw [hv] at hcell
              have HIn := Lib.hid hmem; clear hmem hv
              go_wp2
              go_roundw
              case rel => exact ⟨k + 1, by go_num, by omega, HQ.out, .inl ⟨rfl, HP.out.step (by simp [HIn.out])⟩⟩
              case measure => simp [intOf]; omega
            · have hv : selF t k = .bool false := by simp [selF, hmem]
              rw [hv] at hcell
              have HIn := Lib.hid hmem; clear hmem hv
              cases hrdy : readyL x S with
              | false =>
                have HRf := Lib.hid hrdy
                rw [hrdy] at HRD
                clear hrdy
                go_wp2_with (first
                  | (refine wpList_load_want rfl 43 (.tmp 38) rfl gb (o + k * 17) rfl (ltIC x) _ (HRG.out _ hB0) Try.underlying43 rfl (by kernel_rfl) ?_)
                  | (go_at_call 31; refine (HRD.out _ hB0).mono ?_; rintro e w5 ⟨rfl, h'⟩; replace hB0 := on hB0 h'; clear h'))
                go_roundw
                case rel => exact ⟨k + 1, by go_num, by omega, on HQ.out hB0, .inl ⟨rfl, HP.out.step (by rw [HRX.out, HRf.out]; simp)⟩⟩
                case measure => simp [intOf]; omega
              | true =>
                have HRt := Lib.hid hrdy
                rw [hrdy] at HRD
                clear hrdy
                go_wp2_with (first
                  | (refine wpList_load_want rfl 43 (.tmp 38) rfl gb (o + k * 17) rfl (ltIC x) _ (HRG.out _ hB0) Try.underlying43 rfl (by kernel_rfl) ?_)
                  | (go_at_call 31; refine (HRD.out _ hB0).mono ?_; rintro e w5 ⟨rfl, h'⟩; replace hB0 := on hB0 h'; clear h'))
                go_roundw
                case rel => exact ⟨k + 1, by go_num, by omega, on HQ.out hB0, .inr ⟨k, by go_num, by omega, HP.out, HIn.out, by rw [HRX.out]; exact HRt.out⟩⟩
                case measure => simp [intOf]; omega
          · have HJ := Lib.hid (And.intro hP (And.intro hjt hjr))
            have hj0 : ¬ ((j : Int) < 0) := by omega
            clear hP hjt hjr HRD HRG
            go_wp2
            go_roundw
            case rel => exact ⟨k + 1, by go_num, by omega, HQ.out, .inr ⟨j, by go_num, by omega, HJ.out.1, HJ.out.2.1, HJ.out.2.2⟩⟩
            case measure => simp [intOf]; omega
        · obtain rfl : k = body.length := by omega
          rcases hnx with ⟨rfl, hP⟩ | ⟨j, rfl, hjk, hP, hjt, hjr⟩
          · have HRn : Hid (R = none) := Lib.hid (by
              have e1 := HRT.out
              rw [show body.length - t.length = (body.length - (t.length + 1)) + 1 by omega, past_none hP] at e1
              exact e1.symm)
            have HBn := Lib.hid (on HO.out.be hq)
            clear hq hP
            go_wp2
            go_ret3
            rw [HRn.out]
            exact ⟨rfl, HBn.out⟩
          · obtain ⟨x, hx⟩ : ∃ x, body[j]? = some x := ⟨_, List.getElem?_eq_getElem hjk⟩
            have hOq := HO.out.on hq
            obtain ⟨hx1, hx3⟩ := HX.out x (List.mem_of_getElem? hx)
            obtain ⟨gb, o, rfl, hgb, hc⟩ := HBD.out.2 j x hx
            have hcell := hOq.sel.cell hjk
            have hfz := hOq.sel.frozen j
            have hj0 : ¬ ((j : Int) < 0) := by omega
            have hput := hOq.put (i := j)
            have HOq := Lib.hid hOq
            have HJ := Lib.hid (And.intro hP (And.intro hjt hjr))
            have HXX := Lib.hid hx
            have HX2 := Lib.hid (And.intro hx1 hx3)
            have HCC := Lib.hid hc
            clear hq hc hx hx1 hx3 hOq hP hjt hjr
            obtain ⟨i0, hi0, hz0, hz1, hz2⟩ := info_parts info_int11
            have HI0 := Lib.hid hi0; have HZ0 := Lib.hid hz0; have HZ1 := Lib.hid hz1; have HZ2 := Lib.hid hz2
            clear hi0 hz0 hz1 hz2
            go_upto_region 15 with fail
            generalize wr.setCell ⟨g, j, none⟩ (.bool true) = wb at *
            have HPU := Lib.hid hput
            clear hput hcell hfz
            have hA5 : Below wb.heap.size wb (wb.alloc (.cells #[.int .i64 (j : Int)] 3)) := (Below.refl _ _).alloc (Nat.le_refl _) _
            have HA5 := Lib.hid hA5
            have HOW := Lib.hid (own_on HPU.out.2.2.1 hA5)
            have HLB := Lib.hid (Nat.le_trans HPU.out.2.2.2.2 hA5.size)
            have htl2 : t.length + 1 ≤ 81 := by omega
            clear hA5
            go_upto_region 16 with (at_builtin; refine wpList_append_own _ rfl (.tmp 50) (.tmp 52) 26 rfl base 3 i0 (.int .i64 0) 1 8 Try.underlying26 HI0.out HZ0.out HZ1.out HZ2.out rfl (by decide) _ _ _ rfl HOW.out ⟨wb.heap.size, 0, none⟩ 1 1 [.int .i64 (j : Int)] rfl rfl (cell_one_new _ _ _) (fun u hu => by simp only [List.mem_cons, List.not_mem_nil, or_false] at hu; subst hu; rfl) (by unfold maxLen; omega) (by omega) HLB.out ?_; intro v6 w6 ho6 hg6 _; have HO6 := Lib.hid ho6; have HG6 := Lib.hid hg6; clear ho6 hg6; obtain ⟨A6, c6, rfl⟩ := own_form HO6.out)
            have f6 := fr_of_grown HG6.out
            have hgg := HOq.out.gg
            have hgb2 := HOq.out.gb
            have hB6 : Below W.heap.size W w6 := (on HPU.out.1 HA5.out).trans (f6.below (B' := W.heap.size) (on HPU.out.1 HA5.out).size (fun k hk e => by have := own_base HOW.out k e; omega))
            have hS5 : (wb.alloc (.cells #[.int .i64 (j : Int)] 3)).rowIs g 4 body.length (selF (t ++ [j])) := rowIs_fr HPU.out.2.1 (X := fun _ => False) (Fr.of HA5.out) (rowIs_lt HPU.out.2.1) (fun h => h)
            have hS6 : w6.rowIs g 4 body.length (selF (t ++ [j])) := rowIs_fr hS5 f6 (rowIs_lt hS5) (fun e => by have := own_base HOW.out g e; omega)
            have hN6 : RdN w6 A1' (namesL S) := RdX.onF (RdX.on HPU.out.2.2.2.1 HA5.out) (fun _ a ha e => HOq.out.no a ha e) f6
            have hsl := HOq.out.sl
            have HLW := Lib.hid (Nat.le_trans HLB.out f6.size)
            have HS6 := Lib.hid hS6
            have HB6 := Lib.hid hB6
            have HSL := Lib.hid hsl
            have HG2 := Lib.hid (And.intro hgg hgb2)
            have HBN := Lib.hid (binds11_any x A1' c1' (namesL S) w6 (HX2.out.1.on hB6) HX2.out.2 hN6 (by omega))
            have HEN : Hid (namesL (namesL S ++ vsL x) = namesL (S ++ vsL x)) := Lib.hid (namesL_congr fun y => by rw [List.mem_append, List.mem_append, namesL_mem])
            have HLN : Hid ((namesL (S ++ vsL x)).length ≤ 1000 + 1003 * (t.length + 1)) := Lib.hid (by
              rw [← HEN.out]
              have n1 := namesL_len (namesL S ++ vsL x)
              have n4 := vsT_len (tmL x)
              have n5 := HX2.out.2
              simp only [vsL, tmL, List.length_append, List.length_cons, List.length_nil] at n1 n4 ⊢
              omega)
            rw [HEN.out] at HBN
            have HRG6 : Hid (w6.rangeAt gb (o + j * 17) (ltIC x)) := Lib.hid fun i u hi => (keep hB6 _ _ hgb).trans (HCC.out i u hi)
            clear f6 hgg hgb2 hB6 hS5 hS6 hN6 hsl HEN
            go_wp2_with (first
              | (refine wpList_load_mid rfl 43 (.tmp 56) rfl gb (o + j * 17) rfl (ltIC x) _ HRG6.out Try.underlying43 rfl (by kernel_rfl) ?_)
              | (go_at_call 17; refine HBN.out.mono ?_; rintro e w7 ⟨A7, c7, rfl, hO7, hB7⟩; have HO7 := Lib.hid hO7; have HB7 := Lib.hid hB7; clear hO7 hB7))
            go_roundw
            case rel =>
              have o6 : OwnX 3 1 niC w6 base A6 c6 (t ++ [j]) := OwnX.app (b := j) HO6.out
              have z6 := rowIs_lt HS6.out
              have z7 := HB7.out.size
              have z8 := HLW.out
              refine ⟨t ++ [j], S ++ vsL x, A6, c6, A7, c7, by rw [List.length_append]; rfl, rfl, by rw [List.length_append]; exact hlt, ?_, ⟨on HB6.out HB7.out, rowIs_fr HS6.out (X := fun _ => False) (Fr.of HB7.out) z6 (fun h => h), own_on o6 HB7.out, HO7.out.rd, fun a ha e => ?_, fun a ha e => ?_, HG2.out.1, HG2.out.2, by omega, by rw [List.length_append]; exact HLN.out⟩⟩
              · have e1 := HRT.out
                rw [show body.length - t.length = (body.length - (t.length + 1)) + 1 by omega, past_hit HJ.out.1 hjk HJ.out.2.1 HJ.out.2.2] at e1
                have e2 : vsAt vsL body j = vsL x := by unfold vsAt; rw [HXX.out]
                rw [e2] at e1
                rw [List.length_append]
                exact e1
              · have := own_base HO7.out a.block (by rw [ha]; rfl)
                omega
              · have h1 := own_base HO7.out a.block (by rw [ha]; rfl)
                have h2 := own_lt o6 a.block e
                omega
            case measure => simp; omega
    · have htl2 : t.length = body.length := by omega
      have HRs : Hid (R = some (t, S)) := Lib.hid (by
        have e1 := HRT.out
        rw [show body.length - t.length = 0 by omega] at e1
        exact e1.symm)
      have HTL := Lib.hid htl2
      clear htl2
      go_wp2
      go_ret3
      rw [HRs.out]
      exact ⟨A, c, A1', c1', rfl, RdX.of_own (fun _ => rfl) HO.out.own, HO.out.nms, HO.out.be⟩
end Go.Proofs.Ytahljmddnfldlaa

/-
  SafeReady (layer 11, safe): for all literals the call returns true: each is taken once, what it needs is bound when it is, and behind all of them all names are. No condition.
-/
import Derived.Test.YtahljmddnfldlaaRows
import Derived.Test.YtahljmddnfldlaaSafU
import Derived.Test.YtahljmddnfldlaaSafY
import Derived.WalkKit
import Derived.ProofKit
import Derived.OpenShut
namespace Go.Proofs.Ytahljmddnfldlaa.safeReady
open Go.ChangeShapes Go.WideShapes Go.ChangeAt Go.RowKit FloM ValM Go.Shelf Go.Maps
set_option linter.unusedVariables false
set_option linter.unusedSimpArgs false
theorem fewB_each {body : List LtI} {bound : List Nm} (h : FewB body bound) (y : LtI) (hy : y ∈ body) : y.m.a.length ≤ 1000 := by have := (h.2.1 y hy).2; omega
/-- What is bound when k literals are taken. -/
def hvS (body : List LtI) (l : List Nat) (k : Nat) : List Nm := (l.take k).flatMap (vsAt vsL body)
theorem hvS_step {body : List LtI} {l : List Nat} {k i : Nat} {x : LtI} (hi : l[k]? = some i) (hx : body[i]? = some x) : namesL (namesL (hvS body l k) ++ vsL x) = namesL (hvS body l (k + 1)) := by
  refine namesL_congr fun y => ?_
  unfold hvS
  rw [List.take_add_one, hi, List.mem_append, namesL_mem]
  simp only [Option.toList_some, List.flatMap_append, List.flatMap_cons, List.flatMap_nil, List.append_nil, List.mem_append]
  have : vsAt vsL body i = vsL x := by unfold vsAt; rw [hx]
  rw [this]
theorem vsL_ne {x : LtI} {v : Nm} (h : v ∈ vsL x) : v ≠ [] := (vsT_mem.1 h).1
theorem inS_ne {t : Tm} {S : List Nm} (h : inS t S = true) : t.v = [] ∨ t.v ∈ S := by unfold inS at h; simpa using h
theorem inS_mem {t : Tm} {S : List Nm} {v : Nm} (h : inS t S = true) (e : t.v = v) (hv : v ≠ []) : v ∈ S := by
  rcases inS_ne h with h | h
  · exact absurd (e.symm.trans h) hv
  · exact e ▸ h
theorem rdy2 {x : LtI} {S : List Nm} {v : Nm} (h : readyL x S = true) (hk : x.k = 2) (hv : v ∈ vsL x) : v ∈ S := by
  unfold readyL at h
  rw [if_pos hk] at h
  unfold allS at h
  rw [List.all_eq_true] at h
  obtain ⟨hn, t, ht, e⟩ := vsT_mem.1 hv
  exact inS_mem (h t ht) e hn
theorem rdy4 {x : LtI} {S : List Nm} {v : Nm} (h : readyL x S = true) (hk : x.k = 4) (hv : v ∈ vsL x) (hs : v ∉ S) : x.b.v ≠ v ∧ x.c.v ≠ v := by
  unfold readyL at h
  rw [if_neg (by omega), if_neg (by omega), if_pos hk, Bool.and_eq_true] at h
  exact ⟨fun e => hs (inS_mem h.1 e (vsL_ne hv)), fun e => hs (inS_mem h.2 e (vsL_ne hv))⟩
theorem rdy3 {x : LtI} {S : List Nm} {v : Nm} (h : readyL x S = true) (hk : x.k = 3) (hv : v ∈ vsL x) (hs : v ∉ S) : (x.a.v = v → x.o = [61] ∧ (x.b.v = [] ∨ x.b.v ∈ S)) ∧ (x.b.v = v → x.o = [61] ∧ (x.a.v = [] ∨ x.a.v ∈ S)) := by
  unfold readyL at h
  rw [if_neg (by omega), if_pos hk, Bool.or_eq_true, Bool.and_eq_true, Bool.and_eq_true, Bool.or_eq_true, decide_eq_true_eq] at h
  refine ⟨fun e => ?_, fun e => ?_⟩
  · have ha : inS x.a S ≠ true := fun h1 => hs (inS_mem h1 e (vsL_ne hv))
    rcases h with h | h
    · exact absurd h.1 ha
    · rcases h.2 with h2 | h2
      · exact absurd h2 ha
      · exact ⟨h.1, inS_ne h2⟩
  · have hb : inS x.b S ≠ true := fun h1 => hs (inS_mem h1 e (vsL_ne hv))
    rcases h with h | h
    · exact absurd h.2 hb
    · rcases h.2 with h2 | h2
      · exact ⟨h.1, inS_ne h2⟩
      · exact absurd h2 hb
theorem not_seen {l : List Nat} {k i : Nat} (h : l.Nodup) (hi : l[k]? = some i) : i ∉ l.take k := fun hm => by
  obtain ⟨j, hj, e⟩ := List.mem_iff_getElem.1 hm
  rw [List.length_take] at hj
  rw [List.getElem_take] at e
  obtain ⟨hk, e2⟩ := List.getElem?_eq_some_iff.1 hi
  exact List.pairwise_iff_getElem.1 h j k (by omega) hk (by omega) (e.trans e2.symm)
def lz : List Value := [.int .i64 0, .string ByteArray.empty, .slice none 0 0, .string ByteArray.empty, .string ByteArray.empty, .int .i64 0, .int .i64 0, .string ByteArray.empty, .string ByteArray.empty, .int .i64 0, .int .i64 0, .string ByteArray.empty, .string ByteArray.empty, .int .i64 0, .int .i64 0, .string ByteArray.empty, .slice none 0 0]
def tz : List Value := [.string ByteArray.empty, .int .i64 0, .int .i64 0, .string ByteArray.empty]
/-- What the walk holds behind k literals: wz is the world behind Order, g what is seen. -/
structure RdyS (m g : Nat) (t : List Nat) (H : List Nm) (A : Option Addr) (c : Nat) (wz wr : World) : Prop where
  be : Below wz.heap.size wz wr
  sel : wr.rowIs g 4 m (selF t)
  own : OwnN wr (g + 1) A c H
  gz : wz.heap.size ≤ g
theorem RdyS.on {m g : Nat} {t : List Nat} {H : List Nm} {A : Option Addr} {c : Nat} {wz wr w' : World} (h : RdyS m g t H A c wz wr) (hb : Below wr.heap.size wr w') : RdyS m g t H A c wz w' :=
  ⟨Go.Proofs.Ytahljmddnfldlaa.on h.be hb, rowIs_fr h.sel (X := fun _ => False) (Fr.of hb) (rowIs_lt h.sel) (fun h => h), own_on h.own hb, h.gz⟩
theorem RdyS.put {m g i : Nat} {t : List Nat} {H : List Nm} {A : Option Addr} {c : Nat} {wz wr : World} (h : RdyS m g t H A c wz wr) : RdyS m g (t ++ [i]) H A c wz (wr.setCell ⟨g, i, none⟩ (.bool true)) := by
  have f := fr_set wr g i (.bool true) wr.heap.size
  have g1 := h.gz
  refine ⟨h.be.trans (f.below h.be.size (fun k hk e => by omega)), ?_, own_frx (X := (· = g)) h.own (fun k e => by omega) f, g1⟩
  refine (h.sel.set i (.bool true)).congr fun j _ => ?_
  unfold selF
  by_cases e : j = i
  · subst e; simp
  · simp [e]
def RdyR (body : List LtI) (l : List Nat) (g : Nat) (wz : World) (o i : Value) (wr : World) : Prop := ∃ k : Nat, i = .int .i64 (k : Nat) ∧ k ≤ l.length ∧ ∃ A c, o = .slice A (namesL (hvS body l k)).length c ∧ RdyS body.length g (l.take k) (namesL (hvS body l k)) A c wz wr
set_option maxRecDepth 20000 in
set_option maxHeartbeats 16000000 in
theorem walk_none (B : Option Addr) (d : Nat) (body : List LtI) (w : World) (r0 : RdX 17 ltIC w B body) (k0 : ∀ x ∈ body, LtOk w x) (h1 : ordL vsL readyL body [] = none) : Calls Try.prog 5 #[.slice B body.length d] w fun e w' => e = .returned (.bool true) ∧ Below w.heap.size w w' := by
  have hB := Below.refl w.heap.size w
  have HFew : Hid (∀ V, Below w.heap.size w V → Calls Try.prog 10 #[.slice B body.length d, .slice none 0 0] V (FewBQ body [] V)) := Lib.hid fun V hV => fewB_any B none d 0 body [] V (r0.on hV) (fun x hx => ⟨((k0 x hx).1).on hV, (k0 x hx).2⟩) (Nat.zero_le _)
  have HO1 : Hid (FewB body [] → ∀ V, Below w.heap.size w V → Calls Try.prog 11 #[.slice B body.length d, .slice none 0 0] V (OrdQ (ordL vsL readyL body []) V)) := Lib.hid fun hf V hV => order_any B d body none 0 [] V (r0.on hV) (fun x hx => ⟨((k0 x hx).1).on hV, (k0 x hx).2.1, fewB_each hf x hx⟩) (by have := hf.1; omega) ⟨Nat.zero_le _, fun i y hy => by simp at hy⟩ (fun s hs => by cases hs) (Nat.zero_le _)
  rw [h1] at HO1
  clear h1 r0 k0
  go_enter Try.func5, Try.ntmps5
  go_wp2_with (first
    | (go_at_call 9; refine (awake11_any _).mono ?_; rintro e w1 ⟨rfl, h'⟩; replace hB := on hB h'; clear h')
    | (go_at_call 10; refine (HFew.out _ hB).mono ?_; rintro e w2 ⟨b, hb, rfl, h'⟩; have HBx := Lib.hid hb; replace hB := on hB h'; clear hb h'; cases b)
    | (go_at_call 11; refine (HO1.out (HBx.out trivial) _ hB).mono ?_; rintro e w7 ⟨rfl, h'⟩; replace hB := on hB h'; clear h'; clear HO1))
  all_goals
    go_ret
    exact ⟨rfl, hB⟩
set_option maxRecDepth 20000 in
set_option maxHeartbeats 16000000 in
theorem walk_some (B : Option Addr) (d : Nat) (body : List LtI) (w : World) (r0 : RdX 17 ltIC w B body) (k0 : ∀ x ∈ body, LtOk w x) (l : List Nat) (U : List Nm) (h1 : ordL vsL readyL body [] = some (l, U)) : Calls Try.prog 5 #[.slice B body.length d] w fun e w' => e = .returned (.bool true) ∧ Below w.heap.size w w' := by
  have hB := Below.refl w.heap.size w
  have HFew : Hid (∀ V, Below w.heap.size w V → Calls Try.prog 10 #[.slice B body.length d, .slice none 0 0] V (FewBQ body [] V)) := Lib.hid fun V hV => fewB_any B none d 0 body [] V (r0.on hV) (fun x hx => ⟨((k0 x hx).1).on hV, (k0 x hx).2⟩) (Nat.zero_le _)
  have HO1 : Hid (FewB body [] → ∀ V, Below w.heap.size w V → Calls Try.prog 11 #[.slice B body.length d, .slice none 0 0] V (OrdQ (ordL vsL readyL body []) V)) := Lib.hid fun hf V hV => order_any B d body none 0 [] V (r0.on hV) (fun x hx => ⟨((k0 x hx).1).on hV, (k0 x hx).2.1, fewB_each hf x hx⟩) (by have := hf.1; omega) ⟨Nat.zero_le _, fun i y hy => by simp at hy⟩ (fun s hs => by cases hs) (Nat.zero_le _)
  obtain ⟨hg, hU, hl⟩ := ordL_good h1
  have HG := Lib.hid hg; have HU := Lib.hid hU
  rw [h1] at HO1
  have HR0 := Lib.hid r0; have HK0 := Lib.hid k0
  have hm0 : body.length ≤ 9223372036854775807 := Nat.le_trans r0.1 (by decide)
  clear h1 r0 k0 hg hU
  go_enter Try.func5, Try.ntmps5
  go_upto_region 6 with (first
    | (go_at_call 9; refine (awake11_any _).mono ?_; rintro e w1 ⟨rfl, h'⟩; replace hB := on hB h'; clear h')
    | (go_at_call 10; refine (HFew.out _ hB).mono ?_; rintro e w2 ⟨b, hb, rfl, h'⟩; have HBx := Lib.hid hb; replace hB := on hB h'; clear hb h'; cases b; (go_wp2_with (go_at_call 9; refine (awake11_any _).mono ?_; rintro e w1 ⟨rfl, h'⟩; replace hB := on hB h'; clear h'); go_ret; exact ⟨rfl, hB⟩))
    | (go_at_call 11; refine (HO1.out (HBx.out trivial) _ hB).mono ?_; rintro e wz ⟨A7, c7, B7, d7, rfl, hO7, hN7, h'⟩; have HO7 := Lib.hid hO7; have HN7 := Lib.hid hN7; replace hB := on hB h'; clear h' hO7 hN7 HO1))
  have hb13 := (HBx.out trivial).1
  have hmk := fun W => run_make_row' (P := Try.prog) 62 4 (.bool false) 1 Try.underlying62 info_bool11 rfl .i64 .i64 body.length (by omega) (by omega) W
  have HL : Hid (RdX 1 niC wz A7 l) := Lib.hid (RdX.of_own (fun _ => rfl) HO7.out)
  have HUB : Hid (RdN wz B7 (namesL U)) := Lib.hid HN7.out.rd
  clear HO7 HN7
  go_wp2
  generalize hW2 : World.alloc wz _ = wa
  have hrow : wa.rowIs wz.heap.size 4 body.length (selF []) := by
    rw [← hW2]
    exact (World.rowIs_made wz (.bool false) body.length 4).congr fun i _ => by simp [selF]
  have hB2 : Below wz.heap.size wz wa := hW2 ▸ (Below.refl _ _).alloc (Nat.le_refl _) _
  have HS0 : Hid (RdyS body.length wz.heap.size [] [] none 0 wz wa) := Lib.hid ⟨hB2, hrow, ⟨rfl, .inl ⟨rfl, rfl⟩⟩, Nat.le_refl _⟩
  have HWZ := Lib.hid hB
  generalize hgz : wz.heap.size = g at *
  have hlm : l.length ≤ 9223372036854775807 := by omega
  have HFB := Lib.hid (HBx.out trivial)
  clear hW2 hrow hB2 hmk HBx hB HFew
  go_loopw [7, 45] (fun o i wr => RdyR body l g wz o i wr) (fun _ i _ => l.length - (intOf i).toNat)
  case atStart => exact ⟨0, rfl, Nat.zero_le _, none, 0, rfl, HS0.out⟩
  case round =>
    clear HS0
    obtain ⟨k, rfl, hk, A, c, rfl, hS⟩ := hrel
    have HS := Lib.hid hS; clear hS
    by_cases hlt : k < l.length
    · obtain ⟨i, hi⟩ : ∃ i, l[k]? = some i := ⟨_, List.getElem?_eq_getElem hlt⟩
      have hib := HG.out.lt i (List.mem_of_getElem? hi)
      obtain ⟨x, hx⟩ : ∃ x, body[i]? = some x := ⟨_, List.getElem?_eq_getElem hib⟩
      have hrd := HG.out.rd k i hi
      have hrd2 : readyL x (hvS body l k) = true := by
        unfold rdAt at hrd; rw [hx] at hrd; simpa [hvS] using hrd
      obtain ⟨gb, o, rfl, hgb, hc⟩ := HR0.out.2 i x hx
      obtain ⟨ga, oa, rfl, hga, hca⟩ := HL.out.2 k i hi
      have hns := not_seen HG.out.nd hi
      have hcell := HS.out.sel.cell hib
      have hfz := HS.out.sel.frozen i
      rw [show selF (l.take k) i = .bool false by simp [selF, hns]] at hcell
      have hci : wr.cell? ⟨ga, oa + k, none⟩ = some (.int .i64 (i : Int)) := by
        have h1 := hca 0 (.int .i64 (i : Int)) rfl
        simp only [Nat.add_zero, Nat.mul_one] at h1
        exact (keep HS.out.be _ _ (by omega)).trans h1
      have HX := Lib.hid (HK0.out x (List.mem_of_getElem? hx))
      have HX3 := Lib.hid (fewB_each HFB.out x (List.mem_of_getElem? hx))
      have HST := Lib.hid (hvS_step hi hx)
      have HRD := Lib.hid hrd2
      have HRG : Hid (∀ V, Below w.heap.size w V → V.rangeAt gb (o + i * 17) (ltIC x)) := Lib.hid fun V hV j v hj => (keep hV _ _ hgb).trans (hc j v hj)
      have HI := Lib.hid hi
      have HTK : Hid (l.take (k + 1) = l.take k ++ [i]) := Lib.hid (by rw [List.take_add_one, hi]; rfl)
      have hi64 : i ≤ 9223372036854775807 := by omega
      clear hi hx hrd hrd2 hc hca hns
      go_upto_region 14 with fail
      obtain ⟨wb, hwb⟩ : ∃ wb, Hid (wr.setCell ⟨g, i, none⟩ (.bool true) = wb) := ⟨_, Lib.hid rfl⟩
      rw [hwb.out]
      have hSb : RdyS body.length g (l.take (k + 1)) (namesL (hvS body l k)) A c wz wb := by
        rw [HTK.out, ← hwb.out]; exact HS.out.put
      have HSb := Lib.hid hSb
      have hcb : wb.cell? ⟨ga, oa + k, none⟩ = some (.int .i64 (i : Int)) := by
        refine (keep hSb.be _ _ (by omega)).trans ?_
        rw [← hci]; exact (keep HS.out.be _ _ (by omega)).symm
      have HBb := Lib.hid (on HWZ.out (by rw [← hgz] at hSb; exact hSb.be))
      clear hcell hfz hci hSb HS hwb HTK
      go_upto_region 15 with (first
        | (refine wpList_load_mid rfl 43 (.tmp 82) rfl gb (o + i * 17) rfl (ltIC x) _ (HRG.out _ HBb.out) Try.underlying43 rfl (by kernel_rfl) ?_)
        | (refine wpList_storeR rfl 43 (.tmp 9) (.tmp 83) rfl wb.heap.size 0 rfl (.agg (ltIC x).toArray) rfl (ltIC x) rfl (pre := []) (old := lz) (post := []) (row_new wb lz) rfl rfl (by kernel_rfl) rfl ?_; intro wc hR hF hs; have HRc := Lib.hid hR; have hbc : Below wb.heap.size wb wc := ((Below.refl _ _).alloc (Nat.le_refl _) _).trans ((hF _).below (Nat.le_refl _) fun k hk e => by omega); have HBc := Lib.hid hbc; clear hR hF hs hbc))
      have hbw : Below w.heap.size w wc := on HBb.out HBc.out
      have HVA := Lib.hid (vars_any x wc (HX.out.1.on hbw) HX.out.2.1 HX3.out)
      have hrow9 : Row 43 wc wb.heap.size (ltIC x) := by have h := HRc.out; rwa [List.nil_append, List.append_nil] at h
      have hg9 : wb.heap.size < wc.heap.size := (Array.getElem?_eq_some_iff.1 hrow9).1
      have HRW := Lib.hid hrow9
      have hrn : RdN wc A (namesL (hvS body l k)) := RdX.on HSb.out.own.rd HBc.out
      have HRN := Lib.hid hrn
      have HSc := Lib.hid (HSb.out.on HBc.out)
      have HBW := Lib.hid hbw
      have HRG9 : Hid (wc.rangeAt wb.heap.size 0 (ltIC x)) := Lib.hid fun j v hj => by rw [Nat.zero_add]; exact (hrow9.cell j).trans hj
      generalize wb.heap.size = g9 at *
      clear hrow9 hrn HSb HBc HRc hbw
      go_wp2_with (first
        | (refine wpList_load_mid rfl 43 (.tmp 9) rfl g9 0 rfl (ltIC x) _ HRG9.out Try.underlying43 rfl (by kernel_rfl) ?_)
        | (go_at_call 14; refine HVA.out.mono ?_; rintro e wo ⟨A8, c8, rfl, hO8, hB8⟩; have HO8 := Lib.hid hO8; have HB8 := Lib.hid hB8; clear hO8 hB8))
      have hvs : ∀ v ∈ namesL (vsL x), v ∈ vsL x := fun v hv => (namesL_mem _ _).1 hv
      have hr8 : RdN wo A8 (namesL (vsL x)) := HO8.out.rd
      have hv8 : (namesL (vsL x)).length ≤ 9223372036854775807 := Nat.le_trans hr8.1 (by decide)
      have HVS := Lib.hid hvs; have HR8 := Lib.hid hr8
      have HBo := Lib.hid (on HBW.out HB8.out)
      have HSo := Lib.hid (HSc.out.on HB8.out)
      have HWo := Lib.hid (rowOn HRW.out HB8.out)
      have hgo : g9 < wo.heap.size := Nat.lt_of_lt_of_le hg9 HB8.out.size
      have HRNo := Lib.hid (RdX.on HRN.out HB8.out)
      clear hvs hr8 HO8 HB8 HVA HRG9 hg9 HRN HRW HBW HSc HBb
      generalize namesL (vsL x) = vs at *
      have HIN : Hid (∀ V s, Below wo.heap.size wo V → Calls Try.prog 25 #[.slice A (namesL (hvS body l k)).length c, .string (bs s)] V fun e w' => e = .returned (.bool (decide (s ∈ hvS body l k))) ∧ V = w') := Lib.hid fun V s hV => by
        have h := in_any A c (namesL (hvS body l k)) s V (RdX.on HRNo.out hV)
        rw [show decide (s ∈ namesL (hvS body l k)) = decide (s ∈ hvS body l k) from by simp only [namesL_mem]] at h
        exact h
      go_loopw [87] (fun j wq => ∃ q : Nat, j = .int .i64 (q : Nat) ∧ q ≤ vs.length ∧ Below wo.heap.size wo wq) (fun j _ => vs.length - (intOf j).toNat)
      case atStart => exact ⟨0, rfl, Nat.zero_le _, Below.refl _ _⟩
      case round =>
        obtain ⟨q, rfl, hql, hq⟩ := hrel
        have HQ := Lib.hid hq
        by_cases hlq : q < vs.length
        · obtain ⟨v, hv⟩ : ∃ v, vs[q]? = some v := ⟨_, List.getElem?_eq_getElem hlq⟩
          obtain ⟨b8, o8, rfl, hb8, hc8⟩ := RdN.at_ (RdX.on HR8.out hq) hv
          have HVM := Lib.hid (HVS.out v (List.mem_of_getElem? hv))
          have hrw := rowOn HWo.out hq
          have c0 : wr.cell? ⟨g9, 0, none⟩ = some (.int .i64 x.k) := hrw.cell 0
          have c3 : wr.cell? ⟨g9, 3, none⟩ = some (.string (bs x.o)) := hrw.cell 3
          have c4 : wr.cell? ⟨g9, 4, none⟩ = some (.string (bs x.a.v)) := hrw.cell 4
          have c8 : wr.cell? ⟨g9, 8, none⟩ = some (.string (bs x.b.v)) := hrw.cell 8
          have c12 : wr.cell? ⟨g9, 12, none⟩ = some (.string (bs x.c.v)) := hrw.cell 12
          have HWq := Lib.hid hrw
          clear hv hrw
          by_cases h2 : x.k = 2
          · have hd : decide (v ∈ hvS body l k) = true := by rw [decide_eq_true_eq]; exact rdy2 HRD.out h2 HVM.out
            rw [h2] at c0
            clear h2
            have HD := Lib.hid hd; clear hd
            go_wp2_with (go_at_call 25; refine (HIN.out _ v hq).mono ?_; rw [HD.out]; rintro e w3 ⟨rfl, rfl⟩)
            go_roundw
            case rel => exact ⟨q + 1, by go_num, by omega, HQ.out⟩
            case measure => simp [intOf]; omega
          by_cases h4 : x.k = 4
          · rw [h4] at c0
            by_cases hvS1 : v ∈ hvS body l k
            · have hd : decide (v ∈ hvS body l k) = true := decide_eq_true hvS1
              clear hvS1 h2 h4
              have HD := Lib.hid hd; clear hd
              go_wp2_with (go_at_call 25; refine (HIN.out _ v hq).mono ?_; rw [HD.out]; rintro e w3 ⟨rfl, rfl⟩)
              go_roundw
              case rel => exact ⟨q + 1, by go_num, by omega, HQ.out⟩
              case measure => simp [intOf]; omega
            · have hd : decide (v ∈ hvS body l k) = false := decide_eq_false hvS1
              obtain ⟨n1, n2⟩ := rdy4 HRD.out h4 HVM.out hvS1
              have f1 : ((bs x.b.v).toList == (bs v).toList) = false := by rw [bs_eq]; simp [n1]
              have f2 : ((bs x.c.v).toList == (bs v).toList) = false := by rw [bs_eq]; simp [n2]
              clear hvS1 h2 h4 n1 n2
              have HD := Lib.hid hd; clear hd
              go_wp2_with (go_at_call 25; refine (HIN.out _ v hq).mono ?_; rw [HD.out]; rintro e w3 ⟨rfl, rfl⟩)
              go_roundw
              case rel => exact ⟨q + 1, by go_num, by omega, HQ.out⟩
              case measure => simp [intOf]; omega
          by_cases h3 : x.k = 3
          · rw [h3] at c0
            have HRA : Hid (wr.rangeAt g9 4 (tmC x.a)) := Lib.hid fun j u hj => (HWq.out.cell (4 + j)).trans (by match j, hj with | 0, h => exact h | 1, h => exact h | 2, h => exact h | 3, h => exact h | n + 4, h => simp [tmC] at h)
            clear h2 h4
            by_cases hvS1 : v ∈ hvS body l k
            · have hd : decide (v ∈ hvS body l k) = true := decide_eq_true hvS1
              clear hvS1 h3
              by_cases hp : x.a.v = v
              · have f1 : ((bs x.a.v).toList == (bs v).toList) = true := by rw [bs_eq]; simp [hp]
                clear hp
                have HD := Lib.hid hd; clear hd
                go_upto_region 28 with (first
                  | (go_at_call 25; refine (HIN.out _ v hq).mono ?_; rw [HD.out]; rintro e w3 ⟨rfl, rfl⟩)
                  | (refine wpList_load_mid rfl 40 (.tmp 120) rfl g9 4 rfl (tmC x.a) _ HRA.out Try.underlying40 rfl (by kernel_rfl) ?_)
                  | (refine wpList_storeR rfl 40 (.tmp 13) (.tmp 121) rfl wr.heap.size 0 rfl (.agg (tmC x.a).toArray) rfl (tmC x.a) rfl (pre := []) (old := tz) (post := []) (row_new wr tz) rfl rfl (by kernel_rfl) rfl ?_; intro wf hR hF hs; have HRf := Lib.hid hR; have hbf : Below wr.heap.size wr wf := ((Below.refl _ _).alloc (Nat.le_refl _) _).trans ((hF _).below (Nat.le_refl _) fun k hk e => by omega); have HBf := Lib.hid hbf; clear hR hF hs hbf))
                have HRf2 : Hid (Row 40 wf wr.heap.size (tmC x.a)) := Lib.hid (by have h := HRf.out; rwa [List.nil_append, List.append_nil] at h)
                have hWf := rowOn HWq.out HBf.out
                have HWf := Lib.hid hWf
                have hqf := on HQ.out HBf.out
                have hzf := HQ.out.size
                have hgf : g9 < wr.heap.size := Nat.lt_of_lt_of_le hgo hzf
                generalize wr.heap.size = gf at *
                have c4 : wf.cell? ⟨g9, 4, none⟩ = some (.string (bs x.a.v)) := hWf.cell 4
                have HRB : Hid (wf.rangeAt g9 8 (tmC x.b)) := Lib.hid fun j u hj => (HWf.out.cell (8 + j)).trans (by match j, hj with | 0, h => exact h | 1, h => exact h | 2, h => exact h | 3, h => exact h | n + 4, h => simp [tmC] at h)
                clear hWf HBf HRf
                go_upto_region 30 with (first
                  | (refine wpList_load_mid rfl 40 (.tmp 127) rfl g9 8 rfl (tmC x.b) _ HRB.out Try.underlying40 rfl (by kernel_rfl) ?_)
                  | (refine wpList_storeR rfl 40 (.tmp 13) (.tmp 128) rfl gf 0 rfl (.agg (tmC x.b).toArray) rfl (tmC x.b) rfl (pre := []) (old := tmC x.a) (post := []) (by rw [List.nil_append, List.append_nil]; exact HRf2.out) rfl rfl (by kernel_rfl) rfl ?_; intro wh hR hF hs; have HRh := Lib.hid hR; have HFh := Lib.hid (hF wf.heap.size); have HZh := Lib.hid hs; clear hR hF hs))
                have hWh := Row.fr HWf.out HFh.out (Nat.lt_trans hgf (Array.getElem?_eq_some_iff.1 HRf2.out).1) (by omega)
                have hrh : Row 40 wh gf (tmC x.b) := by have h := HRh.out; rwa [List.nil_append, List.append_nil] at h
                have hqh : Below wo.heap.size wo wh := hqf.trans (HFh.out.below hqf.size (fun k hk e => by omega))
                have t0 : wh.cell? ⟨gf, 0, none⟩ = some (.string (bs x.b.v)) := hrh.cell 0
                have d3 : wh.cell? ⟨g9, 3, none⟩ = some (.string (bs x.o)) := hWh.cell 3
                have d4 : wh.cell? ⟨g9, 4, none⟩ = some (.string (bs x.a.v)) := hWh.cell 4
                have d8 : wh.cell? ⟨g9, 8, none⟩ = some (.string (bs x.b.v)) := hWh.cell 8
                clear hWh hrh HFh HRh HRf2 HWf HZh hqf c4
                go_wp2
                go_roundw
                case rel => exact ⟨q + 1, by go_num, by omega, hqh⟩
                case measure => simp [intOf]; omega
              · have f1 : ((bs x.a.v).toList == (bs v).toList) = false := by rw [bs_eq]; simp [hp]
                clear hp
                have HD := Lib.hid hd; clear hd
                go_upto_region 28 with (first
                  | (go_at_call 25; refine (HIN.out _ v hq).mono ?_; rw [HD.out]; rintro e w3 ⟨rfl, rfl⟩)
                  | (refine wpList_load_mid rfl 40 (.tmp 120) rfl g9 4 rfl (tmC x.a) _ HRA.out Try.underlying40 rfl (by kernel_rfl) ?_)
                  | (refine wpList_storeR rfl 40 (.tmp 13) (.tmp 121) rfl wr.heap.size 0 rfl (.agg (tmC x.a).toArray) rfl (tmC x.a) rfl (pre := []) (old := tz) (post := []) (row_new wr tz) rfl rfl (by kernel_rfl) rfl ?_; intro wf hR hF hs; have HRf := Lib.hid hR; have hbf : Below wr.heap.size wr wf := ((Below.refl _ _).alloc (Nat.le_refl _) _).trans ((hF _).below (Nat.le_refl _) fun k hk e => by omega); have HBf := Lib.hid hbf; clear hR hF hs hbf))
                have HRf2 : Hid (Row 40 wf wr.heap.size (tmC x.a)) := Lib.hid (by have h := HRf.out; rwa [List.nil_append, List.append_nil] at h)
                have hWf := rowOn HWq.out HBf.out
                have HWf := Lib.hid hWf
                have hqf := on HQ.out HBf.out
                have hzf := HQ.out.size
                have hgf : g9 < wr.heap.size := Nat.lt_of_lt_of_le hgo hzf
                generalize wr.heap.size = gf at *
                have c4 : wf.cell? ⟨g9, 4, none⟩ = some (.string (bs x.a.v)) := hWf.cell 4
                have d3 : wf.cell? ⟨g9, 3, none⟩ = some (.string (bs x.o)) := hWf.cell 3
                have d8 : wf.cell? ⟨g9, 8, none⟩ = some (.string (bs x.b.v)) := hWf.cell 8
                have t0 : wf.cell? ⟨gf, 0, none⟩ = some (.string (bs x.a.v)) := HRf2.out.cell 0
                clear hWf HBf HRf HRf2 HWf
                go_wp2
                go_roundw
                case rel => exact ⟨q + 1, by go_num, by omega, hqf⟩
                case measure => simp [intOf]; omega
            · have hd : decide (v ∈ hvS body l k) = false := decide_eq_false hvS1
              obtain ⟨n1, n2⟩ := rdy3 HRD.out h3 HVM.out hvS1
              clear hvS1 h3
              by_cases hp : x.a.v = v
              · obtain ⟨n3, n4⟩ := n1 hp
                have f1 : ((bs x.a.v).toList == (bs v).toList) = true := by rw [bs_eq]; simp [hp]
                have fo : ((bs x.o).toList == [61]) = true := by rw [bsl, n3]; rfl
                clear n1 n2 n3 hp
                by_cases hz : x.b.v = []
                · have fz : ((bs x.b.v).toList == []) = true := by rw [bsl, hz]; rfl
                  clear n4 hz
                  have HD := Lib.hid hd; clear hd
                  go_upto_region 28 with (first
                    | (go_at_call 25; refine (HIN.out _ v hq).mono ?_; rw [HD.out]; rintro e w3 ⟨rfl, rfl⟩)
                    | (refine wpList_load_mid rfl 40 (.tmp 120) rfl g9 4 rfl (tmC x.a) _ HRA.out Try.underlying40 rfl (by kernel_rfl) ?_)
                    | (refine wpList_storeR rfl 40 (.tmp 13) (.tmp 121) rfl wr.heap.size 0 rfl (.agg (tmC x.a).toArray) rfl (tmC x.a) rfl (pre := []) (old := tz) (post := []) (row_new wr tz) rfl rfl (by kernel_rfl) rfl ?_; intro wf hR hF hs; have HRf := Lib.hid hR; have hbf : Below wr.heap.size wr wf := ((Below.refl _ _).alloc (Nat.le_refl _) _).trans ((hF _).below (Nat.le_refl _) fun k hk e => by omega); have HBf := Lib.hid hbf; clear hR hF hs hbf))
                  have HRf2 : Hid (Row 40 wf wr.heap.size (tmC x.a)) := Lib.hid (by have h := HRf.out; rwa [List.nil_append, List.append_nil] at h)
                  have hWf := rowOn HWq.out HBf.out
                  have HWf := Lib.hid hWf
                  have hqf := on HQ.out HBf.out
                  have hzf := HQ.out.size
                  have hgf : g9 < wr.heap.size := Nat.lt_of_lt_of_le hgo hzf
                  generalize wr.heap.size = gf at *
                  have c4 : wf.cell? ⟨g9, 4, none⟩ = some (.string (bs x.a.v)) := hWf.cell 4
                  have HRB : Hid (wf.rangeAt g9 8 (tmC x.b)) := Lib.hid fun j u hj => (HWf.out.cell (8 + j)).trans (by match j, hj with | 0, h => exact h | 1, h => exact h | 2, h => exact h | 3, h => exact h | n + 4, h => simp [tmC] at h)
                  clear hWf HBf HRf
                  go_upto_region 30 with (first
                    | (refine wpList_load_mid rfl 40 (.tmp 127) rfl g9 8 rfl (tmC x.b) _ HRB.out Try.underlying40 rfl (by kernel_rfl) ?_)
                    | (refine wpList_storeR rfl 40 (.tmp 13) (.tmp 128) rfl gf 0 rfl (.agg (tmC x.b).toArray) rfl (tmC x.b) rfl (pre := []) (old := tmC x.a) (post := []) (by rw [List.nil_append, List.append_nil]; exact HRf2.out) rfl rfl (by kernel_rfl) rfl ?_; intro wh hR hF hs; have HRh := Lib.hid hR; have HFh := Lib.hid (hF wf.heap.size); have HZh := Lib.hid hs; clear hR hF hs))
                  have hWh := Row.fr HWf.out HFh.out (Nat.lt_trans hgf (Array.getElem?_eq_some_iff.1 HRf2.out).1) (by omega)
                  have hrh : Row 40 wh gf (tmC x.b) := by have h := HRh.out; rwa [List.nil_append, List.append_nil] at h
                  have hqh : Below wo.heap.size wo wh := hqf.trans (HFh.out.below hqf.size (fun k hk e => by omega))
                  have t0 : wh.cell? ⟨gf, 0, none⟩ = some (.string (bs x.b.v)) := hrh.cell 0
                  have d3 : wh.cell? ⟨g9, 3, none⟩ = some (.string (bs x.o)) := hWh.cell 3
                  have d4 : wh.cell? ⟨g9, 4, none⟩ = some (.string (bs x.a.v)) := hWh.cell 4
                  have d8 : wh.cell? ⟨g9, 8, none⟩ = some (.string (bs x.b.v)) := hWh.cell 8
                  clear hWh hrh HFh HRh HRf2 HWf HZh hqf c4
                  go_wp2
                  go_roundw
                  case rel => exact ⟨q + 1, by go_num, by omega, hqh⟩
                  case measure => simp [intOf]; omega
                · have fz : ((bs x.b.v).toList == []) = false := by rw [bsl, beq_eq_false_iff_ne]; exact hz
                  have HE := Lib.hid (decide_eq_true (n4.resolve_left hz))
                  clear n4 hz
                  have HD := Lib.hid hd; clear hd
                  go_upto_region 28 with (first
                    | (go_at_call 25; refine (HIN.out _ v hq).mono ?_; rw [HD.out]; rintro e w3 ⟨rfl, rfl⟩)
                    | (refine wpList_load_mid rfl 40 (.tmp 120) rfl g9 4 rfl (tmC x.a) _ HRA.out Try.underlying40 rfl (by kernel_rfl) ?_)
                    | (refine wpList_storeR rfl 40 (.tmp 13) (.tmp 121) rfl wr.heap.size 0 rfl (.agg (tmC x.a).toArray) rfl (tmC x.a) rfl (pre := []) (old := tz) (post := []) (row_new wr tz) rfl rfl (by kernel_rfl) rfl ?_; intro wf hR hF hs; have HRf := Lib.hid hR; have hbf : Below wr.heap.size wr wf := ((Below.refl _ _).alloc (Nat.le_refl _) _).trans ((hF _).below (Nat.le_refl _) fun k hk e => by omega); have HBf := Lib.hid hbf; clear hR hF hs hbf))
                  have HRf2 : Hid (Row 40 wf wr.heap.size (tmC x.a)) := Lib.hid (by have h := HRf.out; rwa [List.nil_append, List.append_nil] at h)
                  have hWf := rowOn HWq.out HBf.out
                  have HWf := Lib.hid hWf
                  have hqf := on HQ.out HBf.out
                  have hzf := HQ.out.size
                  have hgf : g9 < wr.heap.size := Nat.lt_of_lt_of_le hgo hzf
                  generalize wr.heap.size = gf at *
                  have c4 : wf.cell? ⟨g9, 4, none⟩ = some (.string (bs x.a.v)) := hWf.cell 4
                  have HRB : Hid (wf.rangeAt g9 8 (tmC x.b)) := Lib.hid fun j u hj => (HWf.out.cell (8 + j)).trans (by match j, hj with | 0, h => exact h | 1, h => exact h | 2, h => exact h | 3, h => exact h | n + 4, h => simp [tmC] at h)
                  clear hWf HBf HRf
                  go_upto_region 30 with (first
                    | (refine wpList_load_mid rfl 40 (.tmp 127) rfl g9 8 rfl (tmC x.b) _ HRB.out Try.underlying40 rfl (by kernel_rfl) ?_)
                    | (refine wpList_storeR rfl 40 (.tmp 13) (.tmp 128) rfl gf 0 rfl (.agg (tmC x.b).toArray) rfl (tmC x.b) rfl (pre := []) (old := tmC x.a) (post := []) (by rw [List.nil_append, List.append_nil]; exact HRf2.out) rfl rfl (by kernel_rfl) rfl ?_; intro wh hR hF hs; have HRh := Lib.hid hR; have HFh := Lib.hid (hF wf.heap.size); have HZh := Lib.hid hs; clear hR hF hs))
                  have hWh := Row.fr HWf.out HFh.out (Nat.lt_trans hgf (Array.getElem?_eq_some_iff.1 HRf2.out).1) (by omega)
                  have hrh : Row 40 wh gf (tmC x.b) := by have h := HRh.out; rwa [List.nil_append, List.append_nil] at h
                  have hqh : Below wo.heap.size wo wh := hqf.trans (HFh.out.below hqf.size (fun k hk e => by omega))
                  have t0 : wh.cell? ⟨gf, 0, none⟩ = some (.string (bs x.b.v)) := hrh.cell 0
                  have d3 : wh.cell? ⟨g9, 3, none⟩ = some (.string (bs x.o)) := hWh.cell 3
                  have d4 : wh.cell? ⟨g9, 4, none⟩ = some (.string (bs x.a.v)) := hWh.cell 4
                  have d8 : wh.cell? ⟨g9, 8, none⟩ = some (.string (bs x.b.v)) := hWh.cell 8
                  clear hWh hrh HFh HRh HRf2 HWf HZh hqf c4
                  go_wp2_with (go_at_call 25; refine (HIN.out _ x.b.v hqh).mono ?_; rw [HE.out]; rintro e w3 ⟨rfl, rfl⟩)
                  go_roundw
                  case rel => exact ⟨q + 1, by go_num, by omega, hqh⟩
                  case measure => simp [intOf]; omega
              have f1 : ((bs x.a.v).toList == (bs v).toList) = false := by rw [bs_eq]; simp [hp]
              by_cases hp2 : x.b.v = v
              · obtain ⟨n3, n4⟩ := n2 hp2
                have f2 : ((bs x.b.v).toList == (bs v).toList) = true := by rw [bs_eq]; simp [hp2]
                have fo : ((bs x.o).toList == [61]) = true := by rw [bsl, n3]; rfl
                clear n1 n2 n3 hp hp2
                by_cases hz : x.a.v = []
                · have fz : ((bs x.a.v).toList == []) = true := by rw [bsl, hz]; rfl
                  clear n4 hz
                  have HD := Lib.hid hd; clear hd
                  go_upto_region 28 with (first
                    | (go_at_call 25; refine (HIN.out _ v hq).mono ?_; rw [HD.out]; rintro e w3 ⟨rfl, rfl⟩)
                    | (refine wpList_load_mid rfl 40 (.tmp 120) rfl g9 4 rfl (tmC x.a) _ HRA.out Try.underlying40 rfl (by kernel_rfl) ?_)
                    | (refine wpList_storeR rfl 40 (.tmp 13) (.tmp 121) rfl wr.heap.size 0 rfl (.agg (tmC x.a).toArray) rfl (tmC x.a) rfl (pre := []) (old := tz) (post := []) (row_new wr tz) rfl rfl (by kernel_rfl) rfl ?_; intro wf hR hF hs; have HRf := Lib.hid hR; have hbf : Below wr.heap.size wr wf := ((Below.refl _ _).alloc (Nat.le_refl _) _).trans ((hF _).below (Nat.le_refl _) fun k hk e => by omega); have HBf := Lib.hid hbf; clear hR hF hs hbf))
                  have HRf2 : Hid (Row 40 wf wr.heap.size (tmC x.a)) := Lib.hid (by have h := HRf.out; rwa [List.nil_append, List.append_nil] at h)
                  have hWf := rowOn HWq.out HBf.out
                  have HWf := Lib.hid hWf
                  have hqf := on HQ.out HBf.out
                  have hzf := HQ.out.size
                  have hgf : g9 < wr.heap.size := Nat.lt_of_lt_of_le hgo hzf
                  generalize wr.heap.size = gf at *
                  have c4 : wf.cell? ⟨g9, 4, none⟩ = some (.string (bs x.a.v)) := hWf.cell 4
                  have d3 : wf.cell? ⟨g9, 3, none⟩ = some (.string (bs x.o)) := hWf.cell 3
                  have d8 : wf.cell? ⟨g9, 8, none⟩ = some (.string (bs x.b.v)) := hWf.cell 8
                  have t0 : wf.cell? ⟨gf, 0, none⟩ = some (.string (bs x.a.v)) := HRf2.out.cell 0
                  clear hWf HBf HRf HRf2 HWf
                  go_wp2
                  go_roundw
                  case rel => exact ⟨q + 1, by go_num, by omega, hqf⟩
                  case measure => simp [intOf]; omega
                · have fz : ((bs x.a.v).toList == []) = false := by rw [bsl, beq_eq_false_iff_ne]; exact hz
                  have HE := Lib.hid (decide_eq_true (n4.resolve_left hz))
                  clear n4 hz
                  have HD := Lib.hid hd; clear hd
                  go_upto_region 28 with (first
                    | (go_at_call 25; refine (HIN.out _ v hq).mono ?_; rw [HD.out]; rintro e w3 ⟨rfl, rfl⟩)
                    | (refine wpList_load_mid rfl 40 (.tmp 120) rfl g9 4 rfl (tmC x.a) _ HRA.out Try.underlying40 rfl (by kernel_rfl) ?_)
                    | (refine wpList_storeR rfl 40 (.tmp 13) (.tmp 121) rfl wr.heap.size 0 rfl (.agg (tmC x.a).toArray) rfl (tmC x.a) rfl (pre := []) (old := tz) (post := []) (row_new wr tz) rfl rfl (by kernel_rfl) rfl ?_; intro wf hR hF hs; have HRf := Lib.hid hR; have hbf : Below wr.heap.size wr wf := ((Below.refl _ _).alloc (Nat.le_refl _) _).trans ((hF _).below (Nat.le_refl _) fun k hk e => by omega); have HBf := Lib.hid hbf; clear hR hF hs hbf))
                  have HRf2 : Hid (Row 40 wf wr.heap.size (tmC x.a)) := Lib.hid (by have h := HRf.out; rwa [List.nil_append, List.append_nil] at h)
                  have hWf := rowOn HWq.out HBf.out
                  have HWf := Lib.hid hWf
                  have hqf := on HQ.out HBf.out
                  have hzf := HQ.out.size
                  have hgf : g9 < wr.heap.size := Nat.lt_of_lt_of_le hgo hzf
                  generalize wr.heap.size = gf at *
                  have c4 : wf.cell? ⟨g9, 4, none⟩ = some (.string (bs x.a.v)) := hWf.cell 4
                  have d3 : wf.cell? ⟨g9, 3, none⟩ = some (.string (bs x.o)) := hWf.cell 3
                  have d8 : wf.cell? ⟨g9, 8, none⟩ = some (.string (bs x.b.v)) := hWf.cell 8
                  have t0 : wf.cell? ⟨gf, 0, none⟩ = some (.string (bs x.a.v)) := HRf2.out.cell 0
                  clear hWf HBf HRf HRf2 HWf
                  go_wp2_with (go_at_call 25; refine (HIN.out _ x.a.v hqf).mono ?_; rw [HE.out]; rintro e w3 ⟨rfl, rfl⟩)
                  go_roundw
                  case rel => exact ⟨q + 1, by go_num, by omega, hqf⟩
                  case measure => simp [intOf]; omega
              · have f2 : ((bs x.b.v).toList == (bs v).toList) = false := by rw [bs_eq]; simp [hp2]
                clear n1 n2 hp hp2
                have HD := Lib.hid hd; clear hd
                go_upto_region 28 with (first
                  | (go_at_call 25; refine (HIN.out _ v hq).mono ?_; rw [HD.out]; rintro e w3 ⟨rfl, rfl⟩)
                  | (refine wpList_load_mid rfl 40 (.tmp 120) rfl g9 4 rfl (tmC x.a) _ HRA.out Try.underlying40 rfl (by kernel_rfl) ?_)
                  | (refine wpList_storeR rfl 40 (.tmp 13) (.tmp 121) rfl wr.heap.size 0 rfl (.agg (tmC x.a).toArray) rfl (tmC x.a) rfl (pre := []) (old := tz) (post := []) (row_new wr tz) rfl rfl (by kernel_rfl) rfl ?_; intro wf hR hF hs; have HRf := Lib.hid hR; have hbf : Below wr.heap.size wr wf := ((Below.refl _ _).alloc (Nat.le_refl _) _).trans ((hF _).below (Nat.le_refl _) fun k hk e => by omega); have HBf := Lib.hid hbf; clear hR hF hs hbf))
                have HRf2 : Hid (Row 40 wf wr.heap.size (tmC x.a)) := Lib.hid (by have h := HRf.out; rwa [List.nil_append, List.append_nil] at h)
                have hWf := rowOn HWq.out HBf.out
                have HWf := Lib.hid hWf
                have hqf := on HQ.out HBf.out
                have hzf := HQ.out.size
                have hgf : g9 < wr.heap.size := Nat.lt_of_lt_of_le hgo hzf
                generalize wr.heap.size = gf at *
                have c4 : wf.cell? ⟨g9, 4, none⟩ = some (.string (bs x.a.v)) := hWf.cell 4
                have d3 : wf.cell? ⟨g9, 3, none⟩ = some (.string (bs x.o)) := hWf.cell 3
                have d8 : wf.cell? ⟨g9, 8, none⟩ = some (.string (bs x.b.v)) := hWf.cell 8
                have t0 : wf.cell? ⟨gf, 0, none⟩ = some (.string (bs x.a.v)) := HRf2.out.cell 0
                clear hWf HBf HRf HRf2 HWf
                go_wp2
                go_roundw
                case rel => exact ⟨q + 1, by go_num, by omega, hqf⟩
                case measure => simp [intOf]; omega
          · have e2 : (x.k == 2) = false := by rw [beq_eq_false_iff_ne]; exact h2
            have e3 : (x.k == 3) = false := by rw [beq_eq_false_iff_ne]; exact h3
            have e4 : (x.k == 4) = false := by rw [beq_eq_false_iff_ne]; exact h4
            obtain ⟨D, hD⟩ : ∃ D, decide (v ∈ hvS body l k) = D := ⟨_, rfl⟩
            have HD := Lib.hid hD; clear hD h2 h3 h4
            go_wp2_with (go_at_call 25; refine (HIN.out _ v hq).mono ?_; rw [HD.out]; rintro e w3 ⟨rfl, rfl⟩)
            go_roundw
            case rel => exact ⟨q + 1, by go_num, by omega, HQ.out⟩
            case measure => simp [intOf]; omega
        · obtain rfl : q = vs.length := by omega
          have HSq := Lib.hid (HSo.out.on hq)
          have HWq := Lib.hid (rowOn HWo.out hq)
          have HBq := Lib.hid (on HBo.out hq)
          have hnl : (namesL (hvS body l k)).length ≤ 100000 := by
            have n1 := namesL_len (hvS body l k)
            have n2 := flat_len (f := vsAt vsL body) (k := 1003) (l.take k) (fun j hj => by
              unfold vsAt
              cases e : body[j]? with
              | none => simp
              | some y =>
                have n4 := vsT_len (tmL y)
                have n5 := fewB_each HFB.out y (List.mem_of_getElem? e)
                simp only [vsL, tmL, List.length_append, List.length_cons, List.length_nil] at n4 ⊢
                omega)
            unfold hvS at n1 ⊢
            rw [List.length_take] at n2
            have : min k l.length * 1003 ≤ 13 * 1003 := Nat.mul_le_mul_right _ (by omega)
            omega
          have hnm : NmOk (namesL (hvS body l k)) := fun s hs => by
            rw [namesL_mem] at hs
            obtain ⟨j, _, y, hy, hyv⟩ := flat_mem.1 hs
            exact vsL_ok (HK0.out y (List.mem_of_getElem? hy)).2.1 s hyv
          have HBN := Lib.hid (binds_any x A c (namesL (hvS body l k)) wr (HX.out.1.on HBq.out) HX.out.2.1 HX3.out (RdX.on HRNo.out hq) hnm hnl)
          rw [HST.out] at HBN
          have HRG9 : Hid (wr.rangeAt g9 0 (ltIC x)) := Lib.hid fun j v hj => by rw [Nat.zero_add]; exact (HWq.out.cell j).trans hj
          clear hnl hnm hq
          go_wp2_with (first
            | (refine wpList_load_mid rfl 43 (.tmp 9) rfl g9 0 rfl (ltIC x) _ HRG9.out Try.underlying43 rfl (by kernel_rfl) ?_)
            | (go_at_call 16; refine HBN.out.mono ?_; rintro e w5 ⟨A5, c5, rfl, hO5, hB5⟩; have HO5 := Lib.hid hO5; have HB5 := Lib.hid hB5; clear hO5 hB5))
          go_roundw
          case rel =>
            have hS5 := HSq.out.on HB5.out
            have z1 := rowIs_lt HSq.out.sel
            exact ⟨k + 1, by go_num, by omega, A5, c5, rfl, ⟨hS5.be, hS5.sel, own_less HO5.out (by omega), hS5.gz⟩⟩
          case measure => simp [intOf]; omega
    · obtain rfl : k = l.length := by omega
      have hee : namesL (hvS body l l.length) = namesL U := by
        rw [HU.out]; unfold hvS; rw [List.take_length]; simp
      have hrh : RdN wr A (namesL U) := hee ▸ HS.out.own.rd
      have hru : RdN wr B7 (namesL U) := RdX.on HUB.out (by rw [hgz]; have h := HS.out.be; rwa [hgz] at h)
      have HSM := Lib.hid (same11_yes A B7 c d7 (namesL U) wr hrh hru)
      have HBz := Lib.hid (on HWZ.out (by rw [hgz]; have h := HS.out.be; rwa [hgz] at h))
      rw [hee]
      clear hee hrh hru
      go_wp2_with (go_at_call 13; refine HSM.out.mono ?_; rintro e w5 ⟨rfl, h'⟩; have HB5 := Lib.hid h'; clear h')
      go_ret
      exact ⟨rfl, on HBz.out HB5.out⟩
theorem walk (B : Option Addr) (d : Nat) (body : List LtI) (w : World) (r0 : RdX 17 ltIC w B body) (k0 : ∀ x ∈ body, LtOk w x) : Calls Try.prog 5 #[.slice B body.length d] w fun e w' => e = .returned (.bool true) ∧ Below w.heap.size w w' := by
  cases h1 : ordL vsL readyL body [] with
  | none => exact walk_none B d body w r0 k0 h1
  | some r => exact walk_some B d body w r0 k0 r.1 r.2 h1

theorem own : ownKnob Try.prog.godebug = none := by kernel_rfl

set_option maxRecDepth 100000 in
theorem lifted (os : Os) (started : os.Started) (H : Type) (enc : TypeId × Value → H) :
    ReturnsInHanded {} Try.checked os 5 .any (Rows.safeReadySpec.pre6 enc Try.prog Try.f5 Rows.safeReadyRow.domain false) (Rows.safeReadySpec.post enc Try.prog Try.f5 false true false false) := by
  refine returnsInHanded_of_change (C := Try.checked) own started (by kernel_rfl) Try.func5
    (ChangeSpec.witness6 (enc := enc) (C := Try.checked) false ⟨#[], #[.slice none 0 0], []⟩ 8 (by kernel_rfl) (by kernel_rfl) (by kernel_rfl) (by kernel_rfl)) ?_
  intro W base args ds gs before hval0 hW hcnd _
  have hval : ∀ (j : Nat) t v, Try.f5.params[j]? = some t → args[j]? = some v → Value.okWide Try.prog W .any base t v := hval0
  have hW' := hW
  obtain ⟨p, q, hA0, hV, rfl, hfz, hnd⟩ := hW
  have hA : DataW.TrodAll enc Try.prog W 0 (fun _ => true) true Try.f5.params.toList args.toList ds p := hA0
  have hAk := hA
  rw [Try.params5] at hA hval
  obtain ⟨v0, vs0, d0, ds0, p0, q0, hargs, rfl, rfl, h0, r0⟩ := trodAll_cons hA
  obtain ⟨rfl, rfl, rfl⟩ := trodAll_nil r0
  obtain rfl : args = #[v0] := by cases args; simp_all
  obtain ⟨rfl, rfl⟩ := trodVars_none hV
  obtain ⟨A0, c0, l0, rfl, r0', k0'⟩ := open_lits (okWide_slice Try.underlying22 (hval 0 22 v0 rfl rfl)) h0
  clear hA0 hval0
  refine (walk A0 c0 l0 W r0' k0').mono fun e W' ⟨he, hg⟩ => ?_
  subst he
  refine ⟨_, rfl, post_old hW' (by simpa using hAk) (by rw [Try.params5]; decide) (fun _ _ _ => (trodAll_cons_mk (shut_bool Try.underlying4 _) trodAll_mk0)) rfl (fun _ => rfl) hg⟩

theorem proved : Rows.SafeReadySaid :=
  OpenClaim.holds_of_wide 5 Try.f5 rfl rfl rfl rfl rfl rfl rfl ⟨rfl, rfl, rfl, rfl, rfl⟩ rfl rfl rfl rfl rfl (by kernel_rfl) Try.func5 (by kernel_rfl)
    (of_decide_eq_true (by kernel_rfl)) (by unfold Func.isWrapper; first | (rw [if_pos (by decide +kernel)]; kernel_rfl) | (rw [if_neg (by decide +kernel)]; exact ⟨rfl, rfl⟩))
    (fun os started H enc _ => lifted os started H enc)
#print axioms proved
end Go.Proofs.Ytahljmddnfldlaa.safeReady

/-
  The document's own relation (layer 5): Uses, Find.
-/
import Derived.Test.YtpmkhpbhimmeiaaGreatRefRelA
import Derived.Test.YtpmkhpbhimmeiaaGreatTupRef
import Derived.Test.YtpmkhpbhimmeiaaGreatRelB
import Derived.Test.YtpmkhpbhimmeiaaGreatTupRefB
namespace Go.Proofs.YtpmkhpbhimmeiaaGreat
open Go.RowKit FloM ValM Go.Shelf
set_option linter.unusedVariables false
set_option linter.unusedSimpArgs false
theorem lead_dist {n : Nat} {cols p : List Int} (hp : goodP n p = true) (h : leadL cols p = cols.length) : distB n cols = true := by
  obtain ⟨h1, h2⟩ := goodP_iff.1 hp
  obtain ⟨q1, q2⟩ := perm_iff.1 h2
  have hl := lead_le cols p
  have hin := lead_all cols p cols.length (by omega)
  have hs := sub_full (p.take cols.length) cols (q2.sublist (List.take_sublist _ _)) hin (by rw [List.length_take]; omega)
  exact distB_iff.2 ⟨fun x hx => by rw [← h1]; exact q1 x (List.mem_of_mem_take (hs.2 x hx)), hs.1⟩
theorem lead_fits {n : Nat} {cols p : List Int} (hp : goodP n p = true) (hl : cols.length ≤ p.length) : leadL cols p = cols.length ↔ ∀ x ∈ p.take cols.length, x ∈ cols := by
  obtain ⟨h1, h2⟩ := goodP_iff.1 hp
  obtain ⟨q1, q2⟩ := perm_iff.1 h2
  constructor
  · intro h; exact lead_all cols p _ (by omega)
  · intro h
    refine lead_stop h hl (fun x hx hc => ?_)
    have hs := sub_full (p.take cols.length) cols (q2.sublist (List.take_sublist _ _)) h (by rw [List.length_take]; omega)
    have hm := hs.2 x hc
    rw [split_take hx, List.nodup_append] at q2
    exact q2.2.2 x hm x (List.mem_cons_self ..) rfl
theorem dist_len {n : Nat} {cols : List Int} (h : distB n cols = true) : cols.length ≤ n := by
  obtain ⟨h1, h2⟩ := distB_iff.1 h
  apply Nat.le_of_not_lt
  intro hlt
  have hs := sub_full (cols.take n) (upto n) (h2.sublist (List.take_sublist _ _)) (fun x hx => upto_mem.2 (h1 x (List.mem_of_mem_take hx))) (by rw [upto_len, List.length_take]; omega)
  have hx := List.getElem?_eq_getElem hlt
  have hm := hs.2 _ (upto_mem.2 (h1 _ (List.mem_of_getElem? hx)))
  rw [split_take hx, List.nodup_append] at h2
  exact h2.2.2 _ hm _ (List.mem_cons_self ..) rfl
theorem uses_bad {n : Nat} {cols : List Int} {ps : List (List Int)} {k : Int} (hg : ∀ p ∈ ps, goodP n p = true) (hd : distB n cols = false) (h : UsesR cols ps k) : k = -1 := by
  rcases h with ⟨rfl, _⟩ | ⟨i, rfl, hi, ⟨p, hp, hl⟩, _⟩
  · rfl
  · have := lead_dist (hg p (List.mem_of_getElem? hp)) hl
    rw [hd] at this; cases this
theorem uses_at {cols : List Int} {ps : List (List Int)} {k : Int} {i : Nat} {p : List Int} (h : UsesR cols ps k) (hp : ps[i]? = some p) (hl : leadL cols p = cols.length) (hn : ∀ q ∈ ps.take i, leadL cols q ≠ cols.length) : k = (i : Int) :=
  uses_one h (.inr ⟨i, rfl, (List.getElem?_eq_some_iff.1 hp).1, ⟨p, hp, hl⟩, hn⟩)
set_option maxRecDepth 20000 in
set_option maxHeartbeats 8000000 in
theorem refUses_any {X : Nat → Prop} {rb tb n pc : Nat} {PP : Option Addr} {ps : List IS} {N : List (List V)} (C : Option Addr) (cc : Nat) (cols : List Int) (w : World) (h : RefQ X w rb tb n PP pc ps N) (hg : ∀ p ∈ ps, goodP n p.l = true) (hc : RdI w C cols) (lc : cols.length ≤ 1000) (hcap : cols.length ≤ cc) (lp : ps.length ≤ 1000) (hn : n ≤ 8) :
    Calls Tryz.prog 21 #[.pointer (some ⟨rb, 0, none⟩), .slice C cols.length cc] w fun e w' => (∃ k, e = .returned (.int .i64 k) ∧ UsesR cols (ps.map IS.l) k) ∧ Below w.heap.size w w' := by
  have HCO := Lib.hid (refColumns_any C cc cols w h hc lc hcap)
  have hrl := h.lt
  have HR1 := Lib.hid h.cells.2
  have HRP := Lib.hid h.rp
  have HC := Lib.hid hc; have HG := Lib.hid hg
  clear h hc hg
  cases hd : distB n cols with
  | false =>
    rw [hd] at HCO
    have HU : Hid (UsesR cols (ps.map IS.l) (-1)) := Lib.hid (.inl ⟨rfl, fun p hp e => by
      obtain ⟨q, hq, rfl⟩ := List.mem_map.1 hp
      rw [lead_dist (HG.out q hq) e] at hd; cases hd⟩)
    clear hd
    go_enter Tryz.func21, Tryz.ntmps21
    go_wp2_with (go_at_call 52; refine HCO.out.mono ?_; rintro e w1 ⟨rfl, hb⟩)
    go_ret
    exact ⟨⟨-1, rfl, HU.out⟩, hb⟩
  | true =>
    rw [hd] at HCO
    have hdl := dist_len hd
    clear hd
    go_enter Tryz.func21, Tryz.ntmps21
    go_wp2_with (go_at_call 52; refine HCO.out.mono ?_; rintro e w1 ⟨rfl, hb⟩; have r1 := (keep hb _ 1 hrl).trans HR1.out)
    have hrl1 := Nat.lt_of_lt_of_le hrl hb.size
    have HR2 := Lib.hid r1
    have HRP1 := Lib.hid (HRP.out.on hb); have HC1 := Lib.hid (HC.out.on hb)
    go_loopw [17] (fun i wr => ∃ k : Nat, i = .int .i64 (k : Nat) ∧ k ≤ ps.length ∧ (∀ q ∈ (ps.map IS.l).take k, leadL cols q ≠ cols.length) ∧ wr = w1) (fun i _ => ps.length - (intOf i).toNat)
    case atStart => exact ⟨0, rfl, Nat.zero_le _, by simp, rfl⟩
    case round =>
      obtain ⟨k, rfl, hk, hno, rfl⟩ := hrel
      have HNO := Lib.hid hno; clear hno
      by_cases hlt : k < ps.length
      · obtain ⟨p, hp⟩ : ∃ p, ps[k]? = some p := ⟨_, List.getElem?_eq_getElem hlt⟩
        have hpm := List.mem_of_getElem? hp
        obtain ⟨pb, po, rfl, hpb, prow⟩ := HRP1.out.row (by omega)
        have cp := prow k p hp
        have HPI := Lib.hid (HRP1.out.each p hpm).1
        have HGP := Lib.hid (HG.out p hpm)
        have hpn : p.l.length = n := (goodP_iff.1 HGP.out).1
        have HPN := Lib.hid hpn
        have HPK := Lib.hid (show (ps.map IS.l)[k]? = some p.l by rw [List.getElem?_map, hp]; rfl)
        clear prow hp hpm hpn
        go_wp2
        go_loopw [6, 22] (fun f j wr2 => ∃ (m : Nat) (bf : Bool), j = .int .i64 (m : Nat) ∧ f = .bool bf ∧ m ≤ cols.length ∧ (bf = true ↔ ∀ x ∈ p.l.take m, x ∈ cols) ∧ wr2 = wr) (fun _ j _ => cols.length - (intOf j).toNat)
        case atStart => exact ⟨0, true, rfl, rfl, Nat.zero_le _, by simp, rfl⟩
        case round =>
          obtain ⟨m, bf, rfl, rfl, hm, hbf, rfl⟩ := hrel
          by_cases hlm : m < cols.length
          · obtain ⟨y, hy⟩ : ∃ y, p.l[m]? = some y := ⟨_, List.getElem?_eq_getElem (by rw [HPN.out]; omega)⟩
            have HY := Lib.hid hy
            by_cases hA : ∀ x ∈ p.l.take m, x ∈ cols
            rotate_left
            · obtain rfl : bf = false := by
                cases bf with
                | false => rfl
                | true => exact absurd (hbf.1 rfl) hA
              have HNA := Lib.hid hA
              clear hy hbf hA
              go_wp2
              go_roundw
              case rel => exact ⟨m + 1, false, by go_num, rfl, by omega, ⟨fun h => (by cases h), fun h => absurd (fun x hx => h x (by rw [take_snoc' HY.out]; exact List.mem_append_left _ hx)) HNA.out⟩, by first | rfl | trivial⟩
              case measure => simp [intOf]; omega
            · obtain rfl : bf = true := hbf.2 hA
              have HYA := Lib.hid hA
              clear hbf hA
              obtain ⟨yb, yo, e, hyb, cy⟩ := HPI.out m y hy
              rw [e] at cp
              have HIN := Lib.hid (refIn_any C cc cols y _ HC1.out lc)
              have hln : m < p.l.length := by rw [HPN.out]; omega
              clear hy
              go_wp2_with (go_at_call 57; refine HIN.out.mono ?_; rintro e w4 ⟨rfl, rfl⟩)
              go_roundw
              case rel => exact ⟨m + 1, decide (y ∈ cols), by go_num, rfl, by omega, by
                rw [decide_eq_true_eq, take_snoc' HY.out]
                refine ⟨fun h x hx => ?_, fun h => h y (by simp)⟩
                rw [List.mem_append, List.mem_singleton] at hx
                rcases hx with hx | rfl
                · exact HYA.out x hx
                · exact h, by first | rfl | trivial⟩
              case measure => simp [intOf]; omega
          · obtain rfl : m = cols.length := by omega
            have hlf := lead_fits (cols := cols) HGP.out (by rw [HPN.out]; exact hdl)
            by_cases hA : ∀ x ∈ p.l.take cols.length, x ∈ cols
            rotate_left
            · obtain rfl : bf = false := by
                cases bf with
                | false => rfl
                | true => exact absurd (hbf.1 rfl) hA
              have HF : Hid (leadL cols p.l ≠ cols.length) := Lib.hid fun e => hA (hlf.1 e)
              clear hlf hbf hA
              go_wp2
              go_roundw
              case rel => exact ⟨k + 1, by go_num, by omega, by
                rw [take_snoc' HPK.out]
                intro q hq
                rw [List.mem_append, List.mem_singleton] at hq
                rcases hq with hq | rfl
                · exact HNO.out q hq
                · exact HF.out, by first | rfl | trivial⟩
              case measure => simp [intOf]; omega
            · obtain rfl : bf = true := hbf.2 hA
              have HF := Lib.hid (hlf.2 hA)
              clear hlf hbf hA
              go_wp2
              go_ret
              exact ⟨⟨_, rfl, .inr ⟨k, rfl, by rw [List.length_map]; exact hlt, ⟨p.l, HPK.out, HF.out⟩, HNO.out⟩⟩, hb⟩
      · obtain rfl : k = ps.length := by omega
        go_wp2
        go_ret
        have h := HNO.out
        rw [List.take_of_length_le (by simp)] at h
        exact ⟨⟨-1, rfl, .inl ⟨rfl, h⟩⟩, hb⟩
end Go.Proofs.YtpmkhpbhimmeiaaGreat
/-
  The document's own relation (layer 5): Find.
-/
namespace Go.Proofs.YtpmkhpbhimmeiaaGreat
open Go.RowKit FloM ValM Go.Shelf
set_option linter.unusedVariables false
set_option linter.unusedSimpArgs false
theorem found_snoc {cols : List Int} {vals : List V} {M : List (List V)} {k : Nat} {x : List V} (hx : M[k]? = some x) : foundL cols vals (M.take (k + 1)) = foundL cols vals (M.take k) ++ (if ordV (pickL x cols) vals = 0 then [x] else []) := by
  unfold foundL
  rw [take_snoc' hx, List.filter_append]
  congr 1
  by_cases h : ordV (pickL x cols) vals = 0
  · rw [if_pos h]; simp [h]
  · rw [if_neg h]; simp [h]
def FndRel (w : World) (cols : List Int) (vals : List V) (xs : List Sl) (out i : Value) (wr : World) : Prop :=
  ∃ (k : Nat) (ys : List Sl), i = .int .i64 (k : Nat) ∧ k ≤ xs.length ∧ Below w.heap.size w wr ∧ lsOf ys = foundL cols vals ((lsOf xs).take k) ∧ (∀ y ∈ ys, y ∈ xs) ∧
    ∃ Ao co, out = .slice Ao ys.length co ∧ wr.ownsRow w.heap.size 25 1 (.slice Ao ys.length co) ys.length (ys.map Sl.val)
set_option maxRecDepth 20000 in
set_option maxHeartbeats 8000000 in
theorem refFindQ_any {X : Nat → Prop} {rb tb n pc : Nat} {PP : Option Addr} {ps : List IS} {N : List (List V)} (C A : Option Addr) (cc ca : Nat) (cols : List Int) (vals : List V) (w : World) (h : RefQ X w rb tb n PP pc ps N) (hc : RdI w C cols) (lc : cols.length ≤ 1000) (hcap : cols.length ≤ cc) (hv : RdV w A vals) (lv : vals.length ≤ 1000) (hN : N.length ≤ 100000) (hNl : ∀ x ∈ N, x.length ≤ 1000) :
    Calls Tryz.prog 19 #[.pointer (some ⟨rb, 0, none⟩), .slice C cols.length cc, .slice A vals.length ca] w (FindQ (if cols.length = vals.length ∧ distB n cols = true then foundL cols vals N else []) w) := by
  have HCO := Lib.hid (refColumns_any C cc cols w h hc lc hcap)
  have hrl := h.lt
  have HR0 := Lib.hid h.cells.1
  obtain ⟨A8, c8, xs, hT, t1, htl⟩ := h.t.row
  have HT := Lib.hid hT; have HT1 := Lib.hid t1
  have HC := Lib.hid hc; have HV := Lib.hid hv; have HNL := Lib.hid hNl
  obtain ⟨i0, hi0, hz0, hz1, hz2⟩ := info_parts info_tup
  have HI := Lib.hid (And.intro hi0 (And.intro hz0 (And.intro hz1 hz2)))
  clear h hc hv hT t1 hNl hi0 hz0 hz1 hz2
  by_cases hl : cols.length = vals.length
  · cases hd : distB n cols with
    | false =>
      rw [hd] at HCO
      rw [if_neg (fun e => by cases e.2)]
      have hln : ((cols.length : Int) != (vals.length : Int)) = false := by rw [hl]; simp
      clear hl hd
      go_enter Tryz.func19, Tryz.ntmps19
      go_wp2_with (go_at_call 52; refine HCO.out.mono ?_; rintro e w1 ⟨rfl, hb⟩)
      go_ret
      exact ⟨none, 0, [], rfl, RdL.nil, rfl, hb⟩
    | true =>
      rw [hd] at HCO
      rw [if_pos ⟨hl, rfl⟩]
      have hln : ((cols.length : Int) != (vals.length : Int)) = false := by rw [hl]; simp
      clear hl hd
      have hxl := HT.out.len
      have HXL := Lib.hid hxl
      clear hxl
      go_enter Tryz.func19, Tryz.ntmps19
      go_wp2_with (go_at_call 52; refine HCO.out.mono ?_; rintro e w1 ⟨rfl, hb⟩; have r0 := (keep hb _ 0 hrl).trans HR0.out; have t1 := (keep hb _ 1 htl).trans HT1.out)
      go_loopw [7, 28] (fun out i wr => FndRel w cols vals xs out i wr) (fun _ i _ => N.length - (intOf i).toNat)
      case atStart => exact ⟨0, [], rfl, Nat.zero_le _, hb, by simp [lsOf, foundL], fun y hy => (by cases hy), none, 0, rfl, own_nil w1 _ _ _⟩
      case round =>
        clear hb r0 t1
        obtain ⟨k, ys, rfl, hk, hB, hys, hyx, Ao, co, rfl, hown⟩ := hrel
        have HYS := Lib.hid hys; have HYX := Lib.hid hyx; have HO := Lib.hid hown
        have hyl : ys.length ≤ k := by
          have h1 := congrArg List.length hys
          have h2 : (foundL cols vals ((lsOf xs).take k)).length ≤ ((lsOf xs).take k).length := List.length_filter_le _ _
          rw [← h1, List.length_take] at h2
          simp [lsOf] at h2; omega
        clear hys hyx hown
        have r0 := (keep hB _ 0 hrl).trans HR0.out
        have t1 := (keep hB _ 1 htl).trans HT1.out
        have hkN : k ≤ N.length := by rw [← HXL.out]; exact hk
        by_cases hlt : k < N.length
        · obtain ⟨x, hx⟩ : ∃ x, xs[k]? = some x := ⟨_, List.getElem?_eq_getElem (show k < xs.length by rw [HXL.out]; exact hlt)⟩
          obtain ⟨xb, xo, rfl, hxb, cx⟩ := (HT.out.rd.on hB).at_ hx
          have hxe := HT.out.rd.each x (List.mem_of_getElem? hx)
          have hx1 : x.l.length ≤ 1000 := HNL.out _ (by rw [← HT.out.e]; exact List.mem_map_of_mem (List.mem_of_getElem? hx))
          have HPK := Lib.hid (refPick_any x.A C x.c cc x.l cols wr (hxe.1.on hB) (HC.out.on hB) hx1 lc)
          have HNX := Lib.hid (show (lsOf xs)[k]? = some x.l by simp [lsOf, hx])
          have HX := Lib.hid hx
          have hpl : (pickL x.l cols).length ≤ 1000 := Nat.le_trans (List.length_filterMap_le _ _) lc
          clear hx hxe
          have hrl2 := Nat.lt_of_lt_of_le hrl hB.size
          have htl2 := Nat.lt_of_lt_of_le htl hB.size
          obtain ⟨z, hz⟩ : ∃ z, ordV (pickL x.l cols) vals = z := ⟨_, rfl⟩
          have HZ := Lib.hid hz
          clear hz
          by_cases hz0 : z = 0
          · subst hz0
            obtain ⟨hi0, hz0, hz1, hz2⟩ := HI.out
            go_wp2_with (first
              | (go_at_call 53; refine HPK.out.mono ?_; rintro e w4 ⟨Ap, cp4, rfl, hr4, _, hb4⟩)
              | (go_at_call 42; refine (refOrder_any Ap A cp4 ca (pickL x.l cols) vals w4 hr4 (HV.out.on (on hB hb4)) (by unfold maxLen; omega) (by unfold maxLen; omega)).mono ?_; rw [HZ.out]; rintro e w5 ⟨rfl, hb5⟩; have h5 := on hb4 hb5; have r5 := (keep h5 _ 0 hrl2).trans r0; have t5 := (keep h5 _ 1 htl2).trans t1; have cx5 := (keep h5 _ _ hxb).trans cx; have HO5 := Lib.hid (own_on HO.out h5))
              | (at_builtin; refine wpList_append_own _ rfl (.tmp 46) (.tmp 57) _ rfl w.heap.size 25 i0 (.slice none 0 0) 1 24 Tryz.underlying23 hi0 hz0 hz1 hz2 rfl (by omega) (.slice Ao ys.length co) ys.length (ys.map Sl.val) rfl (own_on HO5.out ((Below.refl _ _).alloc (Nat.le_refl _) _)) ⟨w5.heap.size, 0, none⟩ 1 1 [.slice x.A x.l.length x.c] rfl (by simp) (news_one w5 #[.slice x.A x.l.length x.c] _) (by simp [Value.oneCell']) (by unfold maxLen; omega) (by omega) (by have := hB.size; have := h5.size; simp; omega) ?_; intro v' w6 ho6 hg6 _; obtain ⟨A2, c2, rfl⟩ := own_form ho6))
            go_roundw
            case rel =>
              have hb6 : Below w.heap.size w (w5.alloc (.cells #[.slice x.A x.l.length x.c] 25)) := on (on hB h5) ((Below.refl _ _).alloc (Nat.le_refl _) _)
              have hln2 : (ys ++ [x]).length = ys.length + 1 := by simp
              refine ⟨k + 1, ys ++ [x], by go_num, by rw [HXL.out]; omega, hb6.grown hg6 hb6.size (own_base HO5.out), ?_, fun y hy => ?_, A2, c2, by rw [hln2], ?_⟩
              · rw [found_snoc HNX.out, if_pos HZ.out, ← HYS.out]; simp [lsOf]
              · rw [List.mem_append, List.mem_singleton] at hy
                rcases hy with hy | rfl
                · exact HYX.out y hy
                · exact List.mem_of_getElem? HX.out
              · rw [hln2, List.map_append]
                simpa [Sl.val] using ho6
            case measure => simp [intOf]; omega
          · have hzn : (z == 0) = false := by rw [beq_eq_false_iff_ne]; exact hz0
            go_wp2_with (first
              | (go_at_call 53; refine HPK.out.mono ?_; rintro e w4 ⟨Ap, cp4, rfl, hr4, _, hb4⟩)
              | (go_at_call 42; refine (refOrder_any Ap A cp4 ca (pickL x.l cols) vals w4 hr4 (HV.out.on (on hB hb4)) (by unfold maxLen; omega) (by unfold maxLen; omega)).mono ?_; rw [HZ.out]; rintro e w5 ⟨rfl, hb5⟩; have h5 := on hb4 hb5))
            go_roundw
            case rel =>
              refine ⟨k + 1, ys, by go_num, by rw [HXL.out]; omega, on hB h5, ?_, HYX.out, Ao, co, rfl, own_on HO.out h5⟩
              rw [found_snoc HNX.out, if_neg (by rw [HZ.out]; exact hz0), ← HYS.out, List.append_nil]
            case measure => simp [intOf]; omega
        · obtain rfl : k = N.length := by omega
          go_wp2
          go_ret
          have e1 := HYS.out
          rw [List.take_of_length_le (by simp [lsOf, HXL.out]), HT.out.e] at e1
          have e2 : ys.length = (foundL cols vals N).length := by rw [← e1]; simp [lsOf]
          refine ⟨Ao, co, ys, by rw [e2]; rfl, ⟨own_rdC HO.out, fun y hy => ?_⟩, e1, hB⟩
          have := HT.out.rd.each y (HYX.out y hy)
          exact ⟨this.1.on hB, this.2⟩
  · rw [if_neg (fun e => hl e.1)]
    have hln : ((cols.length : Int) != (vals.length : Int)) = true := by rw [bne_iff_ne]; omega
    clear hl
    go_enter Tryz.func19, Tryz.ntmps19
    go_wp2
    go_ret
    exact ⟨none, 0, [], rfl, RdL.nil, rfl, Below.refl _ _⟩
end Go.Proofs.YtpmkhpbhimmeiaaGreat
/-
  Package rel, for the laws: the document's own plain permutation.
-/
namespace Go.Proofs.YtpmkhpbhimmeiaaGreat
open Go.RowKit FloM ValM Go.Shelf
set_option linter.unusedVariables false
set_option linter.unusedSimpArgs false
/-! ### The document's own plain permutation -/
def PlainRel (w0 : World) (n : Nat) (out i : Value) (wr : World) : Prop := ∃ k : Nat, i = .int .i64 (k : Nat) ∧ k ≤ n ∧ Below w0.heap.size w0 wr ∧ ∃ A c, out = .slice A k c ∧ wr.ownsRow w0.heap.size 3 1 (.slice A k c) k (icells (upto k))
set_option maxRecDepth 20000 in
set_option maxHeartbeats 4000000 in
theorem plain_any (n : Nat) (w : World) (hn : n ≤ 1000) : Calls Tryz.prog 39 #[.int .i64 (n : Int)] w fun e w' => ∃ A c, e = .returned (.slice A n c) ∧ RdI w' A (upto n) ∧ (∀ b o, A = some ⟨b, o, none⟩ → w.heap.size ≤ b) ∧ Below w.heap.size w w' := by
  obtain ⟨i0, hi0, hz0, hz1, hz2⟩ := info_parts info_int
  have HI0 := Lib.hid hi0; have HZ0 := Lib.hid hz0; have HZ1 := Lib.hid hz1; have HZ2 := Lib.hid hz2
  clear hi0 hz0 hz1 hz2
  go_enter Tryz.func39, Tryz.ntmps39
  go_wp2
  go_loopw [3, 4] (fun out i wr => PlainRel w n out i wr) (fun _ i _ => n - (intOf i).toNat)
  case atStart => exact ⟨0, rfl, Nat.zero_le _, Below.refl _ _, none, 0, rfl, own_nil w _ _ _⟩
  case round =>
    obtain ⟨k, rfl, hk, hB, Ap, cp, rfl, hown⟩ := hrel
    have HO := Lib.hid hown; clear hown
    by_cases hlt : k < n
    · go_wp2_with (first | (at_builtin; refine wpList_append_own _ rfl (.tmp 10) (.tmp 12) _ rfl w.heap.size 3 i0 (.int .i64 0) 1 8 Tryz.underlying24 HI0.out HZ0.out HZ1.out HZ2.out rfl (by omega) (.slice Ap k cp) k (icells (upto k)) rfl (own_on HO.out ((Below.refl _ _).alloc (Nat.le_refl _) _)) ⟨wr.heap.size, 0, none⟩ 1 1 [.int .i64 (k : Int)] rfl (by simp) (news_one wr #[.int .i64 (k : Int)] _) (by simp [Value.oneCell']) (by unfold maxLen; omega) (by omega) (by have := hB.size; simp; omega) ?_; intro v' w' ho' hg' _; obtain ⟨A2, c2, rfl⟩ := own_form ho'))
      go_roundw
      case rel =>
        have hb3 : Below w.heap.size w (wr.alloc (.cells #[.int .i64 (k : Int)] 3)) := on hB ((Below.refl _ _).alloc (Nat.le_refl _) _)
        refine ⟨k + 1, by go_num, by omega, hb3.grown hg' hb3.size (own_base HO.out), A2, c2, rfl, ?_⟩
        rw [upto_snoc]
        simpa [icells] using ho'
      case measure => simp [intOf]; omega
    · obtain rfl : k = n := by omega
      go_wp2
      go_ret
      exact ⟨Ap, cp, rfl, own_rdI HO.out, own_adr HO.out, hB⟩
end Go.Proofs.YtpmkhpbhimmeiaaGreat
/-
  The document's own relation (layer 5): New.
-/
namespace Go.Proofs.YtpmkhpbhimmeiaaGreat
open Go.RowKit FloM ValM Go.Shelf
set_option linter.unusedVariables false
set_option linter.unusedSimpArgs false
section
variable {P : Program}
/-- An append in a region that draws its order, of what lies anywhere (nil and nothing too), in elements of one cell. -/
theorem step_appC {w : World} {ops : Array Oper} {o : Oper} {a : Act} {K : Act → World → Prop} {Q : Exit → Act → World → Prop} {E' : Prop} (hgd : o.guard = none) (s x : Operand) (t : TypeId)
    (ho : o.op = .call { callee := .builtin .append, args := #[s, x], argTypes := #[t, t] })
    (base : Nat) (E : TypeId) (i0 : TypeInfo) (z : Value) (bytes : Nat) (ht : P.underlying t = some (.slice E)) (hi : P.info? E = some i0) (hz : i0.zero = some z) (hs : i0.size = 1) (hb : i0.bytes = bytes) (hzs : z.cells.size = 1) (hby : bytes ≤ 32)
    (A' : Option Addr) (n c' : Nat) (xs : List Value) (hsv : a.eval s = .slice A' n c') (hown : w.ownsRow base E 1 (.slice A' n c') n xs) (A : Option Addr) (c m : Nat) (l : List Value) (hm : l.length = m) (hx : a.eval x = .slice A m c) (hr : RdC w A l) (h1 : ∀ u ∈ l, u.oneCell' = true) (hn : n + m ≤ 1000000) (hbase : base ≤ w.heap.size)
    (h : ∀ A2 c2 w', w'.ownsRow base E 1 (.slice A2 (n + m) c2) (n + m) (xs ++ l) → w.grownBy w' (Value.slice A' n c').ownBlock → K (a.put o.dst (.slice A2 (n + m) c2)) w') :
    if Region.wanted o (yielded ops a.tmps) = true then Oper.wp P o a w K Q else E' := by
  have hw : Region.wanted o (yielded ops a.tmps) = true := by simp [Region.wanted, hgd]
  rw [if_pos hw]
  subst hm
  obtain ⟨v', w', hrun, h2, h3, h4⟩ := run_appC (P := P) w base t o.type E i0 z bytes ht hi hz hs hb hzs hby _ n xs hown A c l hr h1 hn hbase
  obtain ⟨A2, c2, rfl⟩ := own_form h2
  unfold Oper.wp execOp
  simp only [ho, resolve, invoke, builtin, Sem.run_bind, Sem.run_pure, Result.andThen_ok, List.map_toArray, List.map_cons, List.map_nil, hsv, hx, hrun]
  exact h A2 c2 w' h2 h3
end
theorem info_islice : (Tryz.prog.info? 24).map (fun i => (i.zero, i.size, i.bytes)) = some (some (.slice none 0 0), 1, 24) := by kernel_rfl
/-- The copies so far. -/
structure NQ (w : World) (rb tb n : Nat) (qs : List IS) (PP : Option Addr) (pc : Nat) (W : World) : Prop where
  rcd : W.heap[rb]? = some (.cells #[.pointer (some ⟨tb, 0, none⟩), .slice PP qs.length pc] 39 (0, 0))
  own : W.ownsRow (rb + 1) 24 1 (.slice PP qs.length pc) qs.length (qs.map IS.val)
  each : ∀ q ∈ qs, RdI W q.A q.l ∧ q.l.length ≤ maxLen ∧ ∀ a, q.A = some a → rb < a.block ∧ ∃ cs z, W.heap[a.block]? = some (.cells cs 3 z)
  b : Below rb w W
section
variable {w W W' : World} {rb tb n pc : Nat} {qs : List IS} {PP : Option Addr}
theorem NQ.lt (h : NQ w rb tb n qs PP pc W) : rb < W.heap.size := (Array.getElem?_eq_some_iff.1 h.rcd).1
theorem NQ.on (h : NQ w rb tb n qs PP pc W) (hb : Below W.heap.size W W') : NQ w rb tb n qs PP pc W' :=
  ⟨(hb.block _ h.lt).trans h.rcd, own_on h.own hb, fun q hq => ⟨(h.each q hq).1.on hb, (h.each q hq).2.1, fun a ha => by
    obtain ⟨h1, cs, z, hc⟩ := (h.each q hq).2.2 a ha
    exact ⟨h1, cs, z, (hb.block _ (Array.getElem?_eq_some_iff.1 hc).1).trans hc⟩⟩, h.b.trans (hb.mono (Nat.le_of_lt h.lt))⟩
/-- Behind the append of one more, and the store into the record. -/
theorem NQ.next {W2 : World} {q : IS} {A3 : Option Addr} {c3 : Nat} (h : NQ w rb tb n qs PP pc W) (hq : RdI W q.A q.l ∧ q.l.length ≤ maxLen ∧ ∀ a, q.A = some a → rb < a.block ∧ ∃ cs z, W.heap[a.block]? = some (.cells cs 3 z))
    (ho : W2.ownsRow (rb + 1) 24 1 (.slice A3 (qs.length + 1) c3) (qs.length + 1) (qs.map IS.val ++ [q.val])) (hg : (W.alloc (.cells #[q.val] 24)).grownBy W2 (Value.slice PP qs.length pc).ownBlock) :
    NQ w rb tb n (qs ++ [q]) A3 c3 (W2.setCell ⟨rb, 1, none⟩ (.slice A3 (qs.length + 1) c3)) ∧ W2.cell? ⟨rb, 1, none⟩ = some (.slice PP qs.length pc) ∧ W2.frozen? ⟨rb, 1, none⟩ = false := by
  have hlt := h.lt
  have hrow : ∀ k, (Value.slice PP qs.length pc).ownBlock = some k → rb + 1 ≤ k ∧ ∃ cs, W.heap[k]? = some (.cells cs 24 (0, 0)) := fun k hk => by
    refine ⟨own_base h.own k hk, ?_⟩
    rcases h.own.2 with ⟨e, _⟩ | ⟨g, cap, cur, e, hbg, hgg, _⟩
    · rw [e] at hk; simp [Value.ownBlock] at hk
    · rw [e] at hk
      have hgk : g = k := by simpa [Value.ownBlock] using hk
      subst hgk
      exact ⟨cur, hgg⟩
  have same : ∀ (k : Nat) (o : Obj), W.heap[k]? = some o → (Value.slice PP qs.length pc).ownBlock ≠ some k → W2.heap[k]? = some o := fun k o hk hr => by
    have hkl := (Array.getElem?_eq_some_iff.1 hk).1
    rw [hg.block k (by simp; omega) (fun e => hr e.symm), Below.heap_alloc _ _ _ hkl]; exact hk
  have hrb2 := same rb _ h.rcd (fun e => by have := (hrow _ e).1; omega)
  have hs2 : W.heap.size ≤ W2.heap.size := by have := hg.size; simp at this; omega
  have each' : ∀ q : IS, (RdI W q.A q.l ∧ q.l.length ≤ maxLen ∧ ∀ a, q.A = some a → rb < a.block ∧ ∃ cs z, W.heap[a.block]? = some (.cells cs 3 z)) → (RdI (W2.setCell ⟨rb, 1, none⟩ (.slice A3 (qs.length + 1) c3)) q.A q.l ∧ q.l.length ≤ maxLen ∧ ∀ a, q.A = some a → rb < a.block ∧ ∃ cs z, (W2.setCell ⟨rb, 1, none⟩ (.slice A3 (qs.length + 1) c3)).heap[a.block]? = some (.cells cs 3 z)) := fun q ⟨h1, h2, h3⟩ => by
    have blkq : ∀ a, q.A = some a → (W2.setCell ⟨rb, 1, none⟩ (.slice A3 (qs.length + 1) c3)).heap[a.block]? = W.heap[a.block]? := fun a ha => by
      obtain ⟨hlt', cs, z, hc⟩ := h3 a ha
      rw [Below.heap_setCell _ _ _ _ (by simp; omega)]
      exact (same _ _ hc (fun e => by obtain ⟨_, ds, hd⟩ := hrow _ e; rw [hd] at hc; cases hc)).trans hc.symm
    refine ⟨fun i x hx => ?_, h2, fun a ha => ?_⟩
    · obtain ⟨b, o, e, hl, hc⟩ := h1 i x hx
      have hb' := blkq _ e
      have cc : ∀ o', (W2.setCell ⟨rb, 1, none⟩ (.slice A3 (qs.length + 1) c3)).cell? ⟨b, o', none⟩ = W.cell? ⟨b, o', none⟩ := fun o' => World.cell?_of_block (w := W) hb'
      exact ⟨b, o, e, by simp [World.setCell]; omega, (cc _).trans hc⟩
    · obtain ⟨hlt', cs, z, hc⟩ := h3 a ha
      exact ⟨hlt', cs, z, (blkq a ha).trans hc⟩
  have hl1 : (qs ++ [q]).length = qs.length + 1 := by simp
  refine ⟨⟨?_, ?_, fun q' hq' => ?_, ?_⟩, (cell2 hrb2).2, by simp [World.frozen?, hrb2]⟩
  · have := heap_set' (o := 1) (cs := [.pointer (some ⟨tb, 0, none⟩), .slice PP qs.length pc]) (.slice A3 (qs.length + 1) c3) (by simpa using hrb2)
    rw [hl1]; simpa using this
  · rw [hl1, List.map_append]
    exact ownsRow_setCell_below ho (by simp) _
  · rw [List.mem_append, List.mem_singleton] at hq'
    rcases hq' with hq' | rfl
    · exact each' q' (h.each q' hq')
    · exact each' _ hq
  · have h1 : Below rb w (W.alloc (.cells #[q.val] 24)) := h.b.alloc (by omega) _
    exact (h1.grown hg (by simp; omega) (fun k hk => by have := (hrow k hk).1; omega)).setCell (by simp) _
end
/-- What New hands back. -/
structure NewQ (w : World) (n : Nat) (ls : List (List Int)) (rb tb pc : Nat) (PP : Option Addr) (qs : List IS) (w' : World) : Prop where
  ls : qs.map IS.l = ls
  rcd : w'.heap[rb]? = some (.cells #[.pointer (some ⟨tb, 0, none⟩), .slice PP qs.length pc] 39 (0, 0))
  rp : RdP w' PP qs
  t : ∀ X : Nat → Prop, X tb → (∀ k, X k → k < w.heap.size ∨ k = tb) → RefS X w' tb (upto n) []
  far : w.heap.size ≤ tb
  lt : tb < rb
  own : ∀ a, PP = some a → rb < a.block
  each : ∀ q ∈ qs, ∀ a, q.A = some a → rb < a.block
  b : Below w.heap.size w w'
set_option maxHeartbeats 2000000 in
theorem refNewQ_out (n : Int) (v : Value) (w : World) (h : n < 0 ∨ 8 < n) : Calls Tryz.prog 9 #[.int .i64 n, v] w fun e w' => e = .returned (.pointer none) ∧ w = w' := by
  rcases h with h | h
  · go_enter Tryz.func9, Tryz.ntmps9
    go_wp2
    go_ret
    exact ⟨rfl, rfl⟩
  · have h0 : ¬ n < 0 := by omega
    go_enter Tryz.func9, Tryz.ntmps9
    go_wp2
    go_ret
    exact ⟨rfl, rfl⟩
set_option maxRecDepth 20000 in
set_option maxHeartbeats 8000000 in
theorem refNewQ_any (A : Option Addr) (c n : Nat) (ps : List IS) (w : World) (hn : n ≤ 8) (h : RdP w A ps) (hm : ps.length ≤ 1000) (hl : ∀ p ∈ ps, p.l.length ≤ 1000) :
    Calls Tryz.prog 9 #[.int .i64 (n : Int), .slice A ps.length c] w fun e w' => ((∃ p ∈ ps, goodP n p.l = false) ∧ e = .returned (.pointer none) ∧ Below w.heap.size w w') ∨ ((∀ p ∈ ps, goodP n p.l = true) ∧ ∃ rb tb pc PP qs, e = .returned (.pointer (some ⟨rb, 0, none⟩)) ∧ NewQ w n (ps.map IS.l) rb tb pc PP qs w') := by
  have hn0 : ¬ (n : Int) < 0 := by omega
  have hn8 : ¬ 8 < (n : Int) := by omega
  have H := Lib.hid h; have HL := Lib.hid hl
  clear h hl
  go_enter Tryz.func9, Tryz.ntmps9
  go_wp2
  go_loopw [16] (fun v wr => ∃ k : Nat, v = .int .i64 (k : Nat) ∧ k ≤ ps.length ∧ (∀ p ∈ ps.take k, goodP n p.l = true) ∧ wr = w) (fun v _ => ps.length - (intOf v).toNat)
  case atStart => exact ⟨0, rfl, Nat.zero_le _, by simp, rfl⟩
  case round =>
    obtain ⟨k, rfl, hk, hg, rfl⟩ := hrel
    have HG := Lib.hid hg; clear hg
    by_cases hlt : k < ps.length
    · obtain ⟨p, hp⟩ : ∃ p, ps[k]? = some p := ⟨_, List.getElem?_eq_getElem hlt⟩
      have hpm := List.mem_of_getElem? hp
      obtain ⟨pb, po, rfl, hpb, prow⟩ := H.out.row (by omega)
      have cp := prow k p hp
      have HPE := Lib.hid (refPerm_any p.A p.c p.l wr (H.out.each p hpm).1 (HL.out p hpm))
      have hpl := HL.out p hpm
      have HP := Lib.hid hp; have HPM := Lib.hid hpm
      clear prow hp hpm
      cases hpb' : permB p.l with
      | false =>
        rw [hpb'] at HPE
        have HBAD : Hid (goodP n p.l = false) := Lib.hid (by unfold goodP; rw [hpb']; simp)
        clear hpb'
        go_wp2_with (go_at_call 37; refine HPE.out.mono ?_; rintro e w4 ⟨rfl, rfl⟩)
        go_ret
        exact .inl ⟨⟨p, HPM.out, HBAD.out⟩, rfl, Below.refl _ _⟩
      | true =>
        rw [hpb'] at HPE
        by_cases hln : p.l.length = n
        · have HOK : Hid (goodP n p.l = true) := Lib.hid (goodP_iff.2 ⟨hln, hpb'⟩)
          have hlb : ((p.l.length : Int) != (n : Int)) = false := by rw [hln]; simp
          clear hpb' hln
          go_wp2_with (go_at_call 37; refine HPE.out.mono ?_; rintro e w4 ⟨rfl, rfl⟩)
          go_roundw
          case rel => exact ⟨k + 1, by go_num, by omega, by
            rw [take_snoc' HP.out]
            intro q hq
            rw [List.mem_append, List.mem_singleton] at hq
            rcases hq with hq | rfl
            · exact HG.out q hq
            · exact HOK.out, by first | rfl | trivial⟩
          case measure => simp [intOf]; omega
        · have HBAD : Hid (goodP n p.l = false) := Lib.hid (by unfold goodP; rw [decide_eq_false hln]; simp)
          have hlb : ((p.l.length : Int) != (n : Int)) = true := by rw [bne_iff_ne]; omega
          clear hpb' hln
          go_wp2_with (go_at_call 37; refine HPE.out.mono ?_; rintro e w4 ⟨rfl, rfl⟩)
          go_ret
          exact .inl ⟨⟨p, HPM.out, HBAD.out⟩, rfl, Below.refl _ _⟩
    · obtain rfl : k = ps.length := by omega
      have hga := HG.out
      rw [List.take_of_length_le (Nat.le_refl _)] at hga
      have HGA := Lib.hid hga
      clear hga HG
      obtain ⟨w0, rfl⟩ : ∃ w0, w0 = wr := ⟨_, rfl⟩
      have HPL := Lib.hid (plain_any n w0 (by omega))
      go_wp2_with (first
        | (go_at_call 39; refine HPL.out.mono ?_; rintro e w4 ⟨Ap, cp, rfl, hr4, _, hb4⟩; have HB4 := Lib.hid hb4; have hnw := refNew_any Ap cp (upto n) w4 hr4 (by rw [upto_len]; exact hn) (upto_perm n); rw [upto_len] at hnw; have HNW := Lib.hid hnw; clear hb4 hr4 hnw)
        | (go_at_call 38; refine HNW.out.mono ?_; rintro e w5 ⟨tb, P, cpt, rfl, N⟩; have HN := Lib.hid N; clear N))
      have h0 : NQ w5 w5.heap.size tb n [] none 0 (w5.alloc (.cells #[.pointer (some ⟨tb, 0, none⟩), .slice none 0 0] 39)) := ⟨heap_alloc_new _ _, own_nil _ _ _ _, (fun q hq => by cases hq), (Below.refl _ _).alloc (Nat.le_refl _) _⟩
      have H0 := Lib.hid h0
      clear h0
      generalize hrb : w5.heap.size = rb at H0 ⊢
      have HRB := Lib.hid hrb; clear hrb
      go_loopw [42] (fun v wr2 => ∃ (k : Nat) (qs : List IS) (PP : Option Addr) (pc : Nat), v = .int .i64 (k : Nat) ∧ k ≤ ps.length ∧ qs.map IS.l = (ps.map IS.l).take k ∧ NQ w5 rb tb n qs PP pc wr2) (fun v _ => ps.length - (intOf v).toNat)
      case atStart => exact ⟨0, [], none, 0, rfl, Nat.zero_le _, by simp, H0.out⟩
      case round =>
        clear H0
        obtain ⟨k, qs, PP, pc, rfl, hk2, hqs, hI⟩ := hrel
        have HI := Lib.hid hI; have HQS := Lib.hid hqs
        have hql : qs.length = k := by have := congrArg List.length hqs; simpa [Nat.min_eq_left hk2] using this
        have hW : Below w0.heap.size w0 wr := on HB4.out (on HN.out.b (by rw [HRB.out]; exact hI.b))
        have hqb : qs.length ≤ 1000 := by omega
        clear hI hqs hql
        by_cases hlt2 : k < ps.length
        · obtain ⟨p, hp⟩ : ∃ p, ps[k]? = some p := ⟨_, List.getElem?_eq_getElem hlt2⟩
          obtain ⟨pb, po, rfl, hpb, prow⟩ := (H.out.on hW).row (by omega)
          have cp := prow k p hp
          have hPI := ((H.out.on hW).each p (List.mem_of_getElem? hp)).1
          have HPI := Lib.hid hPI
          have hpl := HL.out p (List.mem_of_getElem? hp)
          have HP := Lib.hid (show (ps.map IS.l)[k]? = some p.l by rw [List.getElem?_map, hp]; rfl)
          have hrl := HI.out.lt
          have e1 := (cell2 HI.out.rcd).2
          have hal : ∀ o, Below wr.heap.size wr (wr.alloc o).drew := fun o => ((Below.refl _ _).alloc (Nat.le_refl _) o).drew
          have e1a : ∀ o : Obj, (wr.alloc o).cell? ⟨rb, 1, none⟩ = some (.slice PP qs.length pc) := fun o => (keep ((Below.refl _ _).alloc (Nat.le_refl _) o) rb 1 hrl).trans e1
          have cpa : ∀ o : Obj, (wr.alloc o).cell? ⟨pb, po + k, none⟩ = some (.slice p.A p.l.length p.c) := fun o => (keep ((Below.refl _ _).alloc (Nat.le_refl _) o) pb _ hpb).trans cp
          obtain ⟨i1, hi1, hz1, hs1, hb1⟩ := info_parts info_int
          obtain ⟨i2, hi2, hz2, hs2, hb2⟩ := info_parts info_islice
          have HAL := Lib.hid hal
          clear prow hp hPI hW
          go_wp2_with fail
          go_region_law (first
            | (refine step_appC rfl (.tmp 50) (.tmp 54) 24 rfl wr.heap.size 3 i1 (.int .i64 0) 8 Tryz.underlying24 hi1 hz1 hs1 hb1 rfl (by omega) (some ⟨wr.heap.size, 0, none⟩) 0 0 [] (by simp [Act.eval, Act.put]) ?_ p.A p.c p.l.length (icells p.l) (by simp [icells]) (by simp [Act.eval, Act.put]) ?_ ?_ (by omega) ?_ ?_; (exact own_on (own_made1 wr 3) (Below.refl _ _).drew); (exact rdI_rdC (HPI.out.on (HAL.out _))); (intro u hu; simp only [icells, List.mem_map] at hu; obtain ⟨x, _, rfl⟩ := hu; rfl); (simp [heap_dr]); intro A2 c2 u1 ho1 hg1; have hB1 : Below wr.heap.size wr u1 := (HAL.out _).grown hg1 (HAL.out _).size (fun j hj => by simp [Value.ownBlock] at hj; omega); have hNI := Lib.hid (HI.out.on hB1); have e1b : ∀ o : Obj, (u1.alloc o).cell? ⟨rb, 1, none⟩ = some (.slice PP qs.length pc) := (fun o => (keep (on hB1 ((Below.refl _ _).alloc (Nat.le_refl _) o)) rb 1 hrl).trans e1); have e1c : u1.cell? ⟨rb, 1, none⟩ = some (.slice PP qs.length pc) := (keep hB1 rb 1 hrl).trans e1; rw [Nat.zero_add, List.nil_append] at ho1; have HO1 := Lib.hid ho1; have HB1 := Lib.hid hB1; clear ho1 hg1 hB1; simp only [Nat.zero_add])
            | (refine step_appC rfl (.tmp 49) (.tmp 56) 22 rfl (rb + 1) 24 i2 (.slice none 0 0) 24 Tryz.underlying22 hi2 hz2 hs2 hb2 rfl (by omega) PP qs.length pc (qs.map IS.val) (by simp [Act.eval, Act.put]) ?_ (some ⟨u1.heap.size, 0, none⟩) 1 1 [.slice A2 p.l.length c2] rfl (by simp [Act.eval, Act.put]) ?_ ?_ (by omega) ?_ ?_; (exact own_on hNI.out.own ((Below.refl _ _).alloc (Nat.le_refl _) _)); (exact rdC_row u1 [.slice A2 p.l.length c2] 24); (intro u hu; simp at hu; subst hu; rfl); (have := hNI.out.lt; simp; omega); intro A3 c3 u2 ho2 hg2; have hq := hNI.out.next (q := ⟨A2, c2, p.l⟩) ⟨own_rdI HO1.out, (by show p.l.length ≤ maxLen; unfold maxLen; omega), fun a ha => ⟨by have := own_base HO1.out a.block (by subst ha; rfl); omega, own_ty HO1.out a ha⟩⟩ ho2 hg2; have e3 := hq.2.1; have f3 := hq.2.2; have HQ := Lib.hid hq.1; clear hq ho2 hg2))
          all_goals
            go_wp2
            go_roundw
            case rel => exact ⟨k + 1, qs ++ [⟨A2, c2, p.l⟩], A3, c3, by go_num, by omega, by rw [take_snoc' HP.out, List.map_append, HQS.out]; rfl, HQ.out⟩
            case measure => simp [intOf]; omega
        · obtain rfl : k = ps.length := by omega
          go_wp2
          go_ret
          have hl2 := HQS.out
          rw [List.take_of_length_le (by simp)] at hl2
          have hN := HN.out
          have hrbq := HRB.out
          have hsW := HB4.out.size
          have hf := hN.fresh
          have ht := hN.lt
          refine .inr ⟨HGA.out, rb, tb, pc, PP, qs, rfl, hl2, HI.out.rcd, ⟨own_rdC HI.out.own, fun q hq => ⟨(HI.out.each q hq).1, (HI.out.each q hq).2.1⟩⟩, fun X hX hXs => RefS.start hN (by rw [hrbq]; exact HI.out.b) hX (fun a ha e => ?_) (upto_perm n) (by rw [upto_len]; exact hn), by omega, by omega, fun a ha => ?_, fun q hq a ha => (HI.out.each q hq).2.2 a ha |>.1, hW⟩
          · have := hN.row a ha; have := hXs _ e; omega
          · have := own_base HI.out.own a.block (by subst ha; rfl); omega
end Go.Proofs.YtpmkhpbhimmeiaaGreat
/-
  A relation beside the document's own.
-/
namespace Go.Proofs.YtpmkhpbhimmeiaaGreat
open Go.RowKit FloM ValM Go.Shelf
set_option linter.unusedVariables false
set_option linter.unusedSimpArgs false
section
variable {X Z : Nat → Prop} {W W' : World} {rb tb n pc : Nat} {PP : Option Addr} {qs : List IS} {N N' : List (List V)}
/-- Other trees of X were written. -/
theorem RefQ.onF (h : RefQ X W rb tb n PP pc qs N) (hF : Fr Z W.heap.size W W') (hZ : ∀ k, Z k → X k) (ht : ¬ Z tb) : RefQ X W' rb tb n PP pc qs N :=
  have hX : Fr X W.heap.size W W' := hF.sub fun k _ hk => hZ k hk
  ⟨(hF.block _ h.lt (fun hz => h.rX (hZ _ hz))).trans h.rcd, h.t.onF hX (hF.block _ h.t.lt ht), ⟨h.rp.rd.onF (fun a ha => h.offP a ha) hX, fun q hq => ⟨(h.rp.each q hq).1.onF (fun a ha => h.offE q hq a ha) hX, (h.rp.each q hq).2⟩⟩, h.rX, h.offP, h.offE⟩
/-- Its own tree was written. -/
theorem RefQ.put (h : RefQ X W rb tb n PP pc qs N) (ht : RefS X W' tb (upto n) N') (hF : Fr (· = tb) W.heap.size W W') (hX : X tb) : RefQ X W' rb tb n PP pc qs N' :=
  have hF' : Fr X W.heap.size W W' := hF.sub fun k _ hk => by subst hk; exact hX
  ⟨(hF.block _ h.lt (fun e => h.rX (by rw [e]; exact hX))).trans h.rcd, ht, ⟨h.rp.rd.onF (fun a ha => h.offP a ha) hF', fun q hq => ⟨(h.rp.each q hq).1.onF (fun a ha => h.offE q hq a ha) hF', (h.rp.each q hq).2⟩⟩, h.rX, h.offP, h.offE⟩
end
structure PlayQ (w : World) (r n g0 : Nat) (gs : List Nat) (ps : List (List Int)) (rb tb pc : Nat) (PP : Option Addr) (qs : List IS) (H N : List (List V)) (W : World) : Prop where
  s : RelS (fun k => (k = g0 ∨ k ∈ gs) ∨ k = tb) W r n g0 gs ps H
  q : RefQ (fun k => (k = g0 ∨ k ∈ gs) ∨ k = tb) W rb tb n PP pc qs N
  d : ¬ (tb = g0 ∨ tb ∈ gs)
  bw : Below w.heap.size w W
  x0 : ∀ k, ((k = g0 ∨ k ∈ gs) ∨ k = tb) → w.heap.size ≤ k
section
variable {w W W' : World} {r n g0 rb tb pc : Nat} {gs : List Nat} {ps : List (List Int)} {PP : Option Addr} {qs : List IS} {H H' N N' : List (List V)}
theorem PlayQ.x1 (h : PlayQ w r n g0 gs ps rb tb pc PP qs H N W) : ∀ k, ((k = g0 ∨ k ∈ gs) ∨ k = tb) → k < W.heap.size := fun k hk => by
  rcases hk with hk | rfl
  · exact RelG.x_lt h.s k hk
  · exact h.q.t.lt
theorem PlayQ.on (h : PlayQ w r n g0 gs ps rb tb pc PP qs H N W) (hb : Below W.heap.size W W') : PlayQ w r n g0 gs ps rb tb pc PP qs H N W' :=
  ⟨RelG.on h.s hb, h.q.on hb, h.d, h.bw.trans (hb.mono h.bw.size), h.x0⟩
theorem PlayQ.start {w0 w1 w2 : World} (hb : Below w.heap.size w w0) (N1 : NewS w0 n ps r g0 gs w1) (N2 : NewQ w1 n ps rb tb pc PP qs w2) : PlayQ w r n g0 gs ps rb tb pc PP qs [] [] w2 := by
  have hlt : ∀ k, (k = g0 ∨ k ∈ gs) → k < w1.heap.size := RelG.x_lt N1.s
  have hf := N2.far; have ht := N2.lt
  have hx : ∀ k, ((k = g0 ∨ k ∈ gs) ∨ k = tb) → k ≤ tb := fun k hk => by
    rcases hk with hk | rfl
    · have := hlt k hk; omega
    · exact Nat.le_refl _
  refine ⟨RelG.on (RelG.more (X := fun k => k = g0 ∨ k ∈ gs) (fun k hk => .inl hk) (fun k hk => hk.imp_right fun e => by omega) N1.s) N2.b, ⟨N2.rcd, N2.t _ (.inr rfl) (fun k hk => hk.imp_left (hlt k)), N2.rp, fun e => by have := hx _ e; omega, fun a ha e => by have := hx _ e; have := N2.own a ha; omega, fun q hq a ha e => by have := hx _ e; have := N2.each q hq a ha; omega⟩, fun e => by have := hlt _ e; omega, (hb.trans (N1.b.mono hb.size)).trans (N2.b.mono (Nat.le_trans hb.size N1.b.size)), fun k hk => ?_⟩
  rcases hk with hk | rfl
  · exact Nat.le_trans hb.size (N1.x0 k hk)
  · exact Nat.le_trans hb.size (Nat.le_trans N1.b.size hf)
theorem PlayQ.put1 {A : Option Addr} {ca : Nat} {x : List V} (h : PlayQ w r n g0 gs ps rb tb pc PP qs H N W) (hr : RdV w A x) (hl : H.length < 100000) :
    Calls Tryz.prog 10 #[.pointer (some ⟨r, 0, none⟩), .slice A x.length ca] W fun e w' => e = .returned (.tuple #[.bool (putB (upto n) x (puts (upto n) H)), .int .i64 (putE (upto n) x)]) ∧ PlayQ w r n g0 gs ps rb tb pc PP qs (H ++ [x]) N w' :=
  (relPutS_any A ca x W h.s (hr.on h.bw) (off_old hr fun k hk => h.x0 k (.inl hk)) h.x1 hl).mono (by
    rintro e w' ⟨rfl, hs, hF⟩
    exact ⟨rfl, hs, h.q.onF hF (fun k hk => .inl hk) h.d, h.d, h.bw.trans (hF.below h.bw.size fun k hk hx => by have := h.x0 k (.inl hx); omega), h.x0⟩)
theorem PlayQ.put2 {A : Option Addr} {ca : Nat} {x : List V} (h : PlayQ w r n g0 gs ps rb tb pc PP qs H N W) (hr : RdV w A x) (hl : N.length ≤ 100000) :
    Calls Tryz.prog 11 #[.pointer (some ⟨tb, 0, none⟩), .slice A x.length ca] W fun e w' => e = .returned (.tuple #[.bool (putB (upto n) x N), .int .i64 (putE (upto n) x)]) ∧ PlayQ w r n g0 gs ps rb tb pc PP qs H (putM (upto n) x N) w' :=
  (refPut_any A ca x W h.q.t (hr.on h.bw) hl h.x1).mono (by
    rintro e w' ⟨rfl, hs, hF⟩
    exact ⟨rfl, RelG.onF h.s hF (fun k hk => .inr hk) (fun k hk hx => h.d (hk ▸ hx)), h.q.put hs hF (.inr rfl), h.d, h.bw.trans (hF.below h.bw.size fun k hk hx => by have := h.x0 k (.inr hx); omega), h.x0⟩)
end
end Go.Proofs.YtpmkhpbhimmeiaaGreat

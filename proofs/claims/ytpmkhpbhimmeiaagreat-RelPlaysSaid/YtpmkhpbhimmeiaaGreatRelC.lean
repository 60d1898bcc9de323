/-
  Package rel: contracts of clone and Copy, and of the calls of a nil relation.
-/
import Derived.Test.YtpmkhpbhimmeiaaGreatRelA
import Derived.Test.YtpmkhpbhimmeiaaGreatBtMerge
namespace Go.Proofs.YtpmkhpbhimmeiaaGreat
open Go.RowKit FloM ValM Go.Shelf
set_option linter.unusedVariables false
set_option linter.unusedSimpArgs false
theorem puts_again {p : List Int} (hp : permB p = true) (H : List (List V)) : mergeM p [] (puts p H) = puts p H := by
  show puts p (puts p H) = puts p H
  refine sort_ext (puts_fit p _).sort (puts_fit p H).sort fun x => ?_
  rw [puts_mem hp, puts_mem hp]
  exact ⟨fun h => h.1, fun h => ⟨h, h.2⟩⟩
theorem results_cell1 {fn : Func} {p : Tmp} (h : fn.results = #[.cell p 72]) (tmps : Array Value) (w : World) (g : Nat) (a b : Value) (t : TypeId) (z : Nat × Nat) (hp : tmps.getD p undef = .pointer (some ⟨g, 0, none⟩)) (hg : w.heap[g]? = some (.cells #[a, b] t z)) : (results fn tmps).run Tryz.prog w = .ok (.agg #[a, b]) w :=
  results_cell_row h tmps w g t #[a, b] z _ hp hg Tryz.underlying72 rfl (by kernel_rfl)
theorem IdxC.lt {p : List Int} {w w' : World} {g cp : Nat} {P : Option Addr} (h : IdxC p w w' g P cp) : g < w'.heap.size := (h.t (· = g) rfl (fun k hk => .inr (.inl hk))).lt
theorem FitS.short {p : List Int} {M : List (List V)} (h : FitS p M) (hp : p.length ≤ 1000) : ∀ x ∈ M, x.length ≤ 1000 := fun x hx => by rw [h.lens x hx]; exact hp
/-- What Merge does inside clone, in the world where the new index has been laid. -/
theorem clone_merge {Y : Nat → Prop} {g cp g1 cp1 : Nat} {P P1 : Option Addr} {p : List Int} {M : List (List V)} {w w0 w1 : World} (hi : IdxAt Y w g P cp p M) (hY : ∀ k, Y k → k < w.heap.size) (hM : M.length < 100000) (hsz : w0.heap.size = w.heap.size + 2) (h0 : Below w.heap.size w w0) (hc : IdxC p w0 w1 g1 P1 cp1) (o : Obj) :
    Calls Tryz.prog 141 #[.pointer (some ⟨g1, 0, none⟩), .pointer (some ⟨g, 0, none⟩)] (w1.alloc o) fun e w' => ∃ c : Nat, e = .returned (.int .i64 (c : Nat)) ∧ TreeS (fun k => (Y k ∨ k = g1) ∨ k = w.heap.size + 1) w' g1 p (mergeM p [] M) ∧ Fr (· = g1) (w1.alloc o).heap.size (w1.alloc o) w' := by
  have ha : Below w1.heap.size w1 (w1.alloc o) := (Below.refl _ _).alloc (Nat.le_refl _) _
  have hf := hc.fresh
  have h1 := hc.b.size
  have hgl : g1 < w1.heap.size := (hc.t (· = g1) rfl (fun k hk => .inr (.inl hk))).lt
  have hx : ∀ k, ((Y k ∨ k = g1) ∨ k = w.heap.size + 1) → k < (w1.alloc o).heap.size := fun k hk => by
    rw [World.size_alloc]
    rcases hk with (hk | rfl) | rfl
    · have := hY k hk; omega
    · omega
    · omega
  have ht : TreeS (fun k => (Y k ∨ k = g1) ∨ k = w.heap.size + 1) (w1.alloc o) g1 p [] := (hc.t _ (.inl (.inr rfl)) fun k hk => by
    rcases hk with (hk | rfl) | rfl
    · exact .inl (by have := hY k hk; omega)
    · exact .inr (.inl rfl)
    · exact .inl (by omega)).on ha
  have hs : ∀ W, Below (w1.alloc o).heap.size (w1.alloc o) W → (w1.alloc o).heap.size + 1 < W.heap.size → TreeS (fun k => ((Y k ∨ k = g1) ∨ k = w.heap.size + 1) ∨ k = (w1.alloc o).heap.size + 1) W g p M := fun W hW _ => by
    have hs1 := World.size_alloc w1 o
    have hb : Below w.heap.size w w1 := h0.trans (hc.b.mono h0.size)
    have hb2 : Below w.heap.size w W := (hb.trans (ha.mono hb.size)).trans (hW.mono (by omega))
    refine (hi.t.more (fun k hk => .inl (.inl (.inl hk))) fun k hk => ?_).on hb2
    rcases hk with ((hk | rfl) | rfl) | rfl
    · exact .inl hk
    · exact .inr (by omega)
    · exact .inr (by omega)
    · exact .inr (by omega)
  refine (merge_any (M2 := M) (some ⟨g, 0, none⟩) (w1.alloc o) ht hx (by simpa using hM) (hi.t.fit.short (by have := hi.t.few; omega)) fun W hW hlt => allS_any W (hs W hW hlt) fun k hk => ?_).mono ?_
  · rcases hk with hk | rfl
    · have := hx k hk; have := hW.size; omega
    · exact hlt
  · rintro e w' ⟨c, rfl, _, ht', hF⟩
    exact ⟨c, rfl, ht', hF⟩
set_option maxHeartbeats 4000000 in
theorem clone_any {Y : Nat → Prop} {g cp : Nat} {P : Option Addr} {p : List Int} {M : List (List V)} (w : World) (hi : IdxAt Y w g P cp p M) (hY : ∀ k, Y k → k < w.heap.size) (hM : M.length < 100000) :
    Calls Tryz.prog 140 #[.agg #[.pointer (some ⟨g, 0, none⟩), .slice P p.length cp]] w fun e w' => ∃ g' P' cp', e = .returned (.agg #[.pointer (some ⟨g', 0, none⟩), .slice P' p.length cp']) ∧ IdxM Y p (mergeM p [] M) w w' g' P' cp' := by
  have hl8 := hi.t.few
  have hpb := hi.t.perm
  have h0 : Below w.heap.size w ((w.alloc (.cells #[.pointer (some ⟨g, 0, none⟩), .slice P p.length cp] 72)).alloc (.cells #[.pointer none, .slice none 0 0] 72)) := ((Below.refl _ _).alloc (Nat.le_refl _) _).alloc (by simp) _
  have HN := Lib.hid (newIndex_any P cp p _ (hi.rp.on h0) hl8 hpb)
  have hb1 : ((w.alloc (.cells #[.pointer (some ⟨g, 0, none⟩), .slice P p.length cp] 72)).alloc (.cells #[.pointer none, .slice none 0 0] 72)).heap[w.heap.size]? = some (.cells #[.pointer (some ⟨g, 0, none⟩), .slice P p.length cp] 72 (0, 0)) :=
    (Below.heap_alloc _ _ _ (by simp)).trans (heap_alloc_new w _)
  have hb2 : ((w.alloc (.cells #[.pointer (some ⟨g, 0, none⟩), .slice P p.length cp] 72)).alloc (.cells #[.pointer none, .slice none 0 0] 72)).heap[w.heap.size + 1]? = some (.cells #[.pointer none, .slice none 0 0] 72 (0, 0)) := by
    have := heap_alloc_new (w.alloc (.cells #[.pointer (some ⟨g, 0, none⟩), .slice P p.length cp] 72)) (.cells #[.pointer none, .slice none 0 0] 72)
    rw [World.size_alloc] at this; exact this
  have HB1 := Lib.hid hb1; have HB2 := Lib.hid hb2; have HM := Lib.hid hM; have HI := Lib.hid hi; have HY := Lib.hid hY; have H0 := Lib.hid h0
  clear hM hi hY hb1 hb2 h0
  have hsz : ((w.alloc (.cells #[.pointer (some ⟨g, 0, none⟩), .slice P p.length cp] 72)).alloc (.cells #[.pointer none, .slice none 0 0] 72)).heap.size = w.heap.size + 2 := by simp
  have HSZ := Lib.hid hsz; clear hsz
  go_enter Tryz.func140, Tryz.ntmps140
  go_wp2_with (first
    | (go_at_call 35; refine HN.out.mono ?_; rintro e w1 ⟨g1, P1, cp1, rfl, hc⟩; have hl2 : w.heap.size + 2 ≤ w1.heap.size := (by have := hc.b.size; have := HSZ.out; omega); have hl1 : w.heap.size < w1.heap.size := (by omega); have hq := (hc.b.block _ (by have := HSZ.out; omega)).trans HB1.out; obtain ⟨q0, q1⟩ := cell2 hq; have hq2 := (hc.b.block _ (by have := HSZ.out; omega)).trans HB2.out; have HQ := Lib.hid hq; have HQ2 := Lib.hid hq2; have HC := Lib.hid hc; have HMG := Lib.hid (clone_merge (Y := Y) HI.out HY.out HM.out HSZ.out H0.out hc (.cells #[.pointer (some ⟨g1, 0, none⟩), .slice P1 p.length cp1] 72)); clear hq hq2 hc)
    | (go_at_call 141; refine HMG.out.mono ?_; rintro e w2 ⟨c, rfl, ht2, hF2⟩; have hr3 : w2.heap[w1.heap.size]? = some (.cells #[.pointer (some ⟨g1, 0, none⟩), .slice P1 p.length cp1] 72 (0, 0)) := ((hF2.block _ (by simp) (by have := HC.out.lt; omega)).trans (heap_alloc_new w1 _)); obtain ⟨q2, q3⟩ := cell2 hr3; have hr2 : w2.heap[w.heap.size + 1]? = some (.cells #[.pointer none, .slice none 0 0] 72 (0, 0)) := ((hF2.block _ (by simp; omega) (by have := HC.out.fresh; have := HSZ.out; omega)).trans ((Below.heap_alloc _ _ _ (by omega)).trans HQ2.out)); obtain ⟨q4, q5⟩ := cell2 hr2; have f4 : w2.frozen? ⟨w.heap.size + 1, 0, none⟩ = false := (by simp [World.frozen?, hr2]); have f5 : w2.frozen? ⟨w.heap.size + 1, 1, none⟩ = false := (by simp [World.frozen?, hr2]); have HR2 := Lib.hid hr2; have HT2 := Lib.hid ht2; have HF2 := Lib.hid hF2; clear hr2 hr3 ht2 hF2))
  refine bodyPost_ret (results_cell1 rfl _ _ (w.heap.size + 1) _ _ _ _ rfl (store2 HR2.out _ _)) rfl ?_
  refine ⟨g1, P1, cp1, rfl, ?_⟩
  have hc := HC.out
  have hfr := hc.fresh
  have hgl := hc.lt
  have hsz := HSZ.out
  rw [hsz] at hfr
  have ha : Below w1.heap.size w1 (w1.alloc (.cells #[.pointer (some ⟨g1, 0, none⟩), .slice P1 p.length cp1] 72)) := (Below.refl _ _).alloc (Nat.le_refl _) _
  have hs2 := HF2.out.size
  rw [World.size_alloc] at hs2
  have hF : Fr (· = w.heap.size + 1) w2.heap.size w2 ((w2.setCell ⟨w.heap.size + 1, 0, none⟩ (.pointer (some ⟨g1, 0, none⟩))).setCell ⟨w.heap.size + 1, 1, none⟩ (.slice P1 p.length cp1)) := (fr_set w2 _ 0 _ _).trans (fr_set _ _ 1 _ _)
  have hb1 : Below w.heap.size w w1 := H0.out.trans (hc.b.mono H0.out.size)
  have hb2 : Below w.heap.size w w2 := (hb1.trans (ha.mono hb1.size)).trans (HF2.out.below (by rw [World.size_alloc]; omega) fun k hk e => by omega)
  refine ⟨(HT2.out.onF (hF.sub fun k _ hk => .inr hk) (hF.block _ (by omega) (by omega))).sub (X := fun k => Y k ∨ k = g1) (fun k hk => .inl hk) (.inr rfl), by omega, ?_, fun a h => ?_, hc.cap, hc.capm, hb2.trans (hF.below hb2.size fun k hk e => by omega)⟩
  · refine RdI.onF (RdI.onF (hc.rp.on ha) (fun a h e => ?_) HF2.out) (fun a h e => ?_) hF
    · have := hc.row a h; omega
    · have := hc.row a h; omega
  · have := hc.row a h
    have := hF.size
    exact ⟨by omega, by omega, by omega⟩
/-! ### Copy -/
theorem clone_puts {Y : Nat → Prop} {g cp : Nat} {P : Option Addr} {p : List Int} {H : List (List V)} (w : World) (hi : IdxAt Y w g P cp p (puts p H)) (hY : ∀ k, Y k → k < w.heap.size) (hH : H.length < 100000) :
    Calls Tryz.prog 140 #[.agg #[.pointer (some ⟨g, 0, none⟩), .slice P p.length cp]] w fun e w' => ∃ g' P' cp', e = .returned (.agg #[.pointer (some ⟨g', 0, none⟩), .slice P' p.length cp']) ∧ IdxM Y p (puts p H) w w' g' P' cp' := by
  have := clone_any w hi hY (Nat.lt_of_le_of_lt (puts_len p H) hH)
  rwa [puts_again hi.t.perm] at this
section
variable {X : Nat → Prop} {w : World} {r n g0 : Nat} {gs : List Nat} {ps : List (List Int)} {H : List (List V)}
set_option maxRecDepth 20000 in
set_option maxHeartbeats 8000000 in
theorem relCopy_any (w : World) (h : RelS X w r n g0 gs ps H) (hX : ∀ k, X k → k < w.heap.size) (hH : H.length < 100000) :
    Calls Tryz.prog 139 #[.pointer (some ⟨r, 0, none⟩)] w fun e w' => ∃ r' g0' gs', e = .returned (.pointer (some ⟨r', 0, none⟩)) ∧ NewZ X w n ps H r' g0' gs' w' := by
  have hn8 := RelG.few h
  have hmany := RelG.many h
  have hrl := RelG.lt h
  have HS := Lib.hid h; have HX := Lib.hid hX; have HLN := Lib.hid (RelG.lens h)
  obtain ⟨P0, c0, I0, ci0, hrec, hi0, _⟩ := h.cells
  obtain ⟨a0, a1, a2⟩ := cell3 hrec
  have hpl : (upto n).length = n := upto_len n
  have hCL := clone_puts w hi0 hX hH
  rw [hpl] at hCL
  have HCL := Lib.hid hCL; have HREC := Lib.hid hrec
  obtain ⟨i0, hi0', hz0, hz1, hz2⟩ := info_parts info_ix
  have HI0 := Lib.hid (And.intro hi0' (And.intro hz0 (And.intro hz1 hz2)))
  clear h hX hi0 hCL hrec hpl hi0' hz0 hz1 hz2
  go_enter Tryz.func139, Tryz.ntmps139
  go_wp2_with (go_at_call 140; refine HCL.out.mono ?_; rintro e w2 ⟨g1, P1, cp1, rfl, hc⟩; have ar2 := (keep hc.b r 2 hrl).trans a2; have hrl2 : r < w2.heap.size := Nat.lt_of_lt_of_le hrl hc.b.size; have HST := Lib.hid (NewI.start0 HX.out hc); clear hc)
  generalize hr1 : w2.heap.size = r1 at HST ⊢
  have HPS := HLN
  clear HCL hrl2 ar2
  go_loopw [20] (fun v wr => ∃ (k : Nat) (es : List Ix) (I : Option Addr) (ci : Nat) (Y : Nat → Prop), v = .int .i64 (k : Nat) ∧ k ≤ ps.length ∧ es.map Ix.p = ps.take k ∧ NewI Y w r1 n g1 (puts (upto n) H) es wr I ci ∧ (∀ k, X k → Y k) ∧ (∀ k, Y k → X k ∨ w.heap.size ≤ k) ∧ (∀ e ∈ es, e.M = puts e.p H)) (fun v _ => ps.length - (intOf v).toNat)
  case atStart =>
    have hgw := HST.out.gw; have hrn := HST.out.rn
    exact ⟨0, [], none, 0, _, rfl, Nat.zero_le _, by simp, HST.out, (fun k hk => .inl (.inl hk)), (fun k hk => by
      rcases hk with (hk | rfl) | rfl
      · exact .inl hk
      · exact .inr hgw
      · exact .inr hrn), (fun e he => by cases he)⟩
  case round =>
    clear HST hr1
    obtain ⟨k, es, I, ci, Y, rfl, hk, hps, hI, hXY, hYX, hM⟩ := hrel
    have HI := Lib.hid hI; have HPE := Lib.hid hps; have HXY := Lib.hid hXY; have HYX := Lib.hid hYX; have HM := Lib.hid hM
    have hel : es.length = k := by have := congrArg List.length hps; simpa [Nat.min_eq_left hk] using this
    have HEL := Lib.hid hel
    have hel1 : es.length ≤ 1000 := by omega
    clear hI hps hXY hYX hM hel
    by_cases hlt : k < ps.length
    · have hp := List.getElem?_eq_getElem hlt
      have hd : ps.getD k [] = ps[k] := by simp [List.getD, hp]
      generalize ps[k] = p at hp hd
      obtain ⟨g, P, cp, hg, hs⟩ := RelG.at_ HS.out a2 hp
      rw [hd] at hs
      obtain ⟨b, o, rfl, hbl, hxb, c0', c1'⟩ := hs.row
      have d0 := (keep HI.out.b _ _ hbl).trans c0'
      have d1 := (keep HI.out.b _ _ hbl).trans c1'
      have HIX := Lib.hid hs.idx
      have HPP := Lib.hid hp
      have HLNP := Lib.hid (HPS.out p (List.mem_of_getElem? hp))
      obtain ⟨P0', c0'', hrec1, _, _, _, _, hyl, _⟩ := HI.out.rcd
      have hrl1 := (Array.getElem?_eq_some_iff.1 hrec1).1
      have e2 := (cell3 hrec1).2.2
      have e2a : ∀ o : Obj, (wr.alloc o).cell? ⟨r1, 2, none⟩ = some (.slice I es.length ci) := fun o => (keep ((Below.refl _ _).alloc (Nat.le_refl _) o) r1 2 hrl1).trans e2
      have HE2 := Lib.hid e2
      have HYL := Lib.hid hyl
      have HCK : Hid (∀ W, Below wr.heap.size wr W → Calls Tryz.prog 140 #[.agg #[.pointer (some ⟨g, 0, none⟩), .slice P p.length cp]] W fun e w' => ∃ g' P' cp', e = .returned (.agg #[.pointer (some ⟨g', 0, none⟩), .slice P' p.length cp']) ∧ IdxM Y p (puts p H) wr w' g' P' cp') := Lib.hid fun W hW => (clone_puts W ((HIX.out.more HXY.out HYX.out).on (on HI.out.b hW)) (fun k hk => Nat.lt_of_lt_of_le (HYL.out k hk) hW.size) hH).mono (by
        rintro e w' ⟨g', P', cp', rfl, hc⟩
        exact ⟨g', P', cp', rfl, hc.base hW⟩)
      obtain ⟨yi0, yz0, yz1, yz2⟩ := HI0.out
      clear hs hp hd hg c0' c1' hrec1 hyl
      go_wp2_with fail
      go_region_law (first
        | (refine step_append_lies _ rfl (.tmp 28) (.tmp 31) 76 rfl (r1 + 1) 72 i0 _ 2 32 Tryz.underlying76 yi0 yz0 yz1 yz2 rfl (by decide) (.slice I es.length ci) es.length (ixCells es) (by simp [Act.eval, Act.put]) ?_ ⟨w5.heap.size, 0, none⟩ 1 1 (Ix.mk g5 P5 cp5 p (puts p H)).cells (by simp [Act.eval, Act.put]) rfl ?_ ?_ (by decide) ?_ ?_ ?_ (w5.heap.size + 1) (by simp) ?_; (exact own_on HI.out.own (on HC5.out.b ((Below.refl _ _).alloc (Nat.le_refl _) _))); (exact news_one w5 #[.pointer (some ⟨g5, 0, none⟩), .slice P5 p.length cp5] _); (intro u hu; simp only [Ix.cells, List.mem_cons, List.not_mem_nil, or_false] at hu; rcases hu with rfl | rfl <;> rfl); (unfold maxLen; omega); omega; (have := HC5.out.b.size; simp; omega); intro g3 c3 w8 ho3 hg3 hor3 hlt3; have hq := NewI.next HI.out HC5.out HLNP.out ((Below.refl _ _).alloc (Nat.le_refl _) _) ho3 hg3 (by simpa using hor3) hlt3; have e3 := hq.1.1; have f3 := hq.1.2; have HQ := Lib.hid hq.2; clear hq ho3 hg3 hor3 hlt3)
        | (go_simp; go_at_call 140; refine (HCK.out _ ?_).mono ?_; (exact ((Below.refl _ _).alloc (Nat.le_refl _) _).drew); rintro e' w5 ⟨g5, P5, cp5, rfl, hc5⟩; have HC5 := Lib.hid hc5; have e5 : w5.cell? ⟨r1, 2, none⟩ = some (.slice I es.length ci) := (keep hc5.b r1 2 hrl1).trans HE2.out; have e5a : ∀ o : Obj, (w5.alloc o).cell? ⟨r1, 2, none⟩ = some (.slice I es.length ci) := (fun o => (keep (on hc5.b ((Below.refl _ _).alloc (Nat.le_refl _) o)) r1 2 hrl1).trans HE2.out); clear hc5; dsimp only))
      all_goals
        go_wp2
        go_roundw
        case rel =>
          refine ⟨k + 1, es ++ [Ix.mk g5 P5 cp5 p (puts p H)], some ⟨g3, 0, none⟩, c3, _, by go_num, by omega, ?_, HQ.out, (fun j hj => .inl (HXY.out j hj)), (fun j hj => ?_), (fun e he => ?_)⟩
          · rw [take_snoc' HPP.out, List.map_append, HPE.out]; rfl
          · have h0 := HI.out.b.size
            have h5 := HC5.out.b.size
            rcases hj with hj | rfl | rfl
            · exact HYX.out j hj
            · exact .inr (by have := HC5.out.fresh; omega)
            · exact .inr (by have h9 : r1 + 1 ≤ j := own_base HQ.out.own j rfl; have := HI.out.rn; omega)
          · rw [List.mem_append, List.mem_singleton] at he
            rcases he with he | rfl
            · exact HM.out e he
            · rfl
        case measure => simp [intOf]; omega
    · obtain rfl : k = ps.length := by omega
      go_wp2
      go_ret
      have h1 := HPE.out
      rw [List.take_of_length_le (Nat.le_refl _)] at h1
      refine ⟨r1, g1, es.map Ix.g, rfl, ?_, HI.out.b, HI.out.rn, fun k hk => ?_⟩
      · rw [← h1]
        refine RelG.same (HI.out.done (Z := X) (fun k hk => ⟨HX.out k hk, HXY.out k hk⟩) hn8 hel1) fun j hj => ?_
        rw [List.length_map] at hj
        have he := List.getElem?_eq_getElem hj
        have := HM.out _ (List.getElem_mem hj)
        show (es.map Ix.M).getD j [] = puts ((es.map Ix.p).getD j []) H
        simp [List.getD, he, this]
      · rcases hk with rfl | hk
        · exact HI.out.gw
        · obtain ⟨e, he, rfl⟩ := List.mem_map.1 hk; exact HI.out.ge e he
end
/-! ### A nil relation -/
set_option maxHeartbeats 1000000 in
theorem relPut_nil (v : Value) (w : World) : Calls Tryz.prog 10 #[.pointer none, v] w fun e w' => e = .returned (.tuple #[.bool false, .int .i64 1]) ∧ w = w' := by
  go_enter Tryz.func10, Tryz.ntmps10
  go_wp2
  go_ret2
  exact ⟨rfl, rfl⟩
set_option maxHeartbeats 1000000 in
theorem relHas_nil (v : Value) (w : World) : Calls Tryz.prog 13 #[.pointer none, v] w fun e w' => e = .returned (.bool false) ∧ w = w' := by
  go_enter Tryz.func13, Tryz.ntmps13
  go_wp2
  go_ret
  exact ⟨rfl, rfl⟩
set_option maxHeartbeats 1000000 in
theorem relLen_nil (w : World) : Calls Tryz.prog 12 #[.pointer none] w fun e w' => e = .returned (.int .i64 0) ∧ w = w' := by
  go_enter Tryz.func12, Tryz.ntmps12
  go_wp2
  go_ret
  exact ⟨rfl, rfl⟩
set_option maxHeartbeats 1000000 in
theorem relArity_nil (w : World) : Calls Tryz.prog 15 #[.pointer none] w fun e w' => e = .returned (.int .i64 0) ∧ w = w' := by
  go_enter Tryz.func15, Tryz.ntmps15
  go_wp2
  go_ret
  exact ⟨rfl, rfl⟩
set_option maxHeartbeats 1000000 in
theorem relAll_nil (w : World) : Calls Tryz.prog 17 #[.pointer none] w fun e w' => e = .returned (.slice none 0 0) ∧ w = w' := by
  go_enter Tryz.func17, Tryz.ntmps17
  go_wp2
  go_ret
  exact ⟨rfl, rfl⟩
set_option maxHeartbeats 1000000 in
theorem relCopy_nil (w : World) : Calls Tryz.prog 139 #[.pointer none] w fun e w' => e = .returned (.pointer none) ∧ w = w' := by
  go_enter Tryz.func139, Tryz.ntmps139
  go_wp2
  go_ret
  exact ⟨rfl, rfl⟩
/-! ### A relation by its blocks -/
/-- A relation's blocks, and its permutations. -/
structure RI where
  r : Nat
  g0 : Nat
  gs : List Nat
  ps : List (List Int)
def RI.x (a : RI) (k : Nat) : Prop := k = a.g0 ∨ k ∈ a.gs
def RI.at_ (X : Nat → Prop) (W : World) (n : Nat) (a : RI) (H : List (List V)) : Prop := RelS X W a.r n a.g0 a.gs a.ps H
section
variable {w W W' : World} {n : Nat} {a : RI}
theorem RI.at_.lt {X : Nat → Prop} {H : List (List V)} (h : a.at_ X W n H) : ∀ k, a.x k → k < W.heap.size := RelG.x_lt h
theorem fr_below {Z : Nat → Prop} (h : Below w.heap.size w W) (hF : Fr Z W.heap.size W W') (hz : ∀ k, Z k → w.heap.size ≤ k) : Below w.heap.size w W' := h.trans (hF.below h.size fun k hk hx => by have := hz k hx; omega)
end
end Go.Proofs.YtpmkhpbhimmeiaaGreat

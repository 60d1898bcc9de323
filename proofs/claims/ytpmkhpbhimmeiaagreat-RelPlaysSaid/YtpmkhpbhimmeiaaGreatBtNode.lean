/-
  Contracts of a node's exchange and with, at any node.
-/
import Derived.Test.YtpmkhpbhimmeiaaGreatBtExchB
import Derived.Test.YtpmkhpbhimmeiaaGreatBtMath
namespace Go.Proofs.YtpmkhpbhimmeiaaGreat
open Go.RowKit FloM ValM
set_option linter.unusedVariables false
set_option linter.unusedSimpArgs false

theorem vals_one (ks : List Nd) : ∀ u ∈ ks.map Nd.val, u.oneCell' = true := fun u hu => by
  rw [List.mem_map] at hu; obtain ⟨t, _, rfl⟩ := hu; rfl
theorem IsN.leafOf {X : Nat → Prop} {w : World} {b : Nat} {ts : List Sl} {At Ak : Option Addr} {ct ck : Nat} (h : NodeAt X w b ts [] At ct Ak ck) : IsN X w 0 (.mk b ts []) := ⟨⟨At, ct, Ak, ck, h⟩, rfl⟩
theorem IsN.nodeOf {X : Nat → Prop} {w : World} {k b : Nat} {ts : List Sl} {ks : List Nd} {At Ak : Option Addr} {ct ck : Nat} (h : NodeAt X w b ts (ks.map Nd.val) At ct Ak ck) (hl : ks.length = ts.length + 1) (hk : ∀ t ∈ ks, IsN X w k t ∧ 3 ≤ t.ts.length ∧ t.ts.length ≤ 6) : IsN X w (k + 1) (.mk b ts ks) := ⟨⟨At, ct, Ak, ck, h⟩, hl, hk⟩
def ExchN (X : Nat → Prop) (k b : Nat) (ts : List Sl) (ks : List Nd) (i : Nat) (u : Nd) (w : World) (e : Ending) (w' : World) : Prop := ∃ d ts2 ks2, e = .returned (ptrV d) ∧ IsN X w' (k + 1) (.mk d ts2 ks2) ∧ Below w.heap.size w w' ∧ ts.length ≤ ts2.length ∧ ts2.length ≤ ts.length + 1 ∧
  flat (k + 1) (.mk d ts2 ks2) = headF k (.mk b ts ks) i ++ flat k u ++ tailF k (.mk b ts ks) i
theorem exch_any {X : Nat → Prop} {k b : Nat} {ts : List Sl} {ks : List Nd} {u : Nd} (i : Nat) (w : World) (h : IsN X w (k + 1) (.mk b ts ks)) (hu : IsN X w k u) (hi : i ≤ ts.length) (h3 : 3 ≤ u.ts.length) (h7 : u.ts.length ≤ 7) (hn1 : 1 ≤ ts.length) (hn2 : ts.length ≤ 6) (hX : ∀ k, X k → k < w.heap.size) :
    Calls Tryz.prog 81 #[.pointer (some ⟨b, 0, none⟩), .int .i64 (i : Int), u.val] w (ExchN X k b ts ks i u w) := by
  obtain ⟨At, ct, Ak, ck, hN⟩ := h.node
  replace hN : NodeAt X w b ts (ks.map Nd.val) At ct Ak ck := hN
  obtain ⟨Bt, dt, Bk, dk, hN'⟩ := hu.node
  obtain ⟨hl, hks⟩ := h.succ
  have hkl : i < (ks.map Nd.val).length := by simp; omega
  by_cases h6 : u.ts.length ≤ 6
  · refine (exch_small i w hN hN' hkl h6 (by simp; omega) (vals_one _) hX).mono ?_
    rintro e w' ⟨d, A1, c1, A2, c2, rfl, hD, hB⟩
    refine ⟨d, ts, ks.set i u, rfl, IsN.nodeOf (by rw [List.map_set]; exact hD) (by simpa using hl) (fun t ht => ?_), hB, Nat.le_refl _, by omega, flat_set u hl hi⟩
    rcases List.mem_or_eq_of_mem_set ht with ht | rfl
    · exact ⟨(hks t ht).1.on hB, (hks t ht).2⟩
    · exact ⟨hu.on hB, h3, h6⟩
  · have h7' : u.ts.length = 7 := by omega
    have h8 : u.ks.map Nd.val = [] ∨ (u.ks.map Nd.val).length = 8 := by
      obtain ⟨c, us, vs⟩ := u
      cases k with
      | zero => left; rw [show (Nd.mk c us vs).ks = [] from hu.zero]; rfl
      | succ k => right; have := hu.succ.1; simp only [Nd.ks, Nd.ts, List.length_map] at *; omega
    refine (exch_big i w hN hN' hi (by simpa using hl) h7' h8 hn1 (by omega) (vals_one _) hX).mono ?_
    rintro e w' ⟨d, bl, br, x, A1, A2, A3, A4, B1, B2, c1, c2, c3, c4, d1, d2, rfl, hx, hL, hR, hD, hB⟩
    obtain ⟨c, us, vs⟩ := u
    simp only [Nd.ts, Nd.ks] at h3 h7 h6 h7' h8 hx hL hR
    refine ⟨d, ts.take i ++ x :: ts.drop i, ks.take i ++ .mk bl (us.take 3) (vs.take 4) :: .mk br (us.drop 4) (vs.drop 4) :: ks.drop (i + 1), rfl, IsN.nodeOf (At := B1) (ct := d1) (Ak := B2) (ck := d2) ?_ ?_ ?_, hB, by simp; omega, by simp; omega, ?_⟩
    · have e : (ks.take i ++ Nd.mk bl (us.take 3) (vs.take 4) :: Nd.mk br (us.drop 4) (vs.drop 4) :: ks.drop (i + 1)).map Nd.val = (ks.map Nd.val).take i ++ ptrV bl :: ptrV br :: (ks.map Nd.val).drop (i + 1) := by
        simp [List.map_take, List.map_drop, Nd.val, Nd.ptr, Nd.b, ptrV]
      rw [e]; exact hD
    · simp; omega
    · have hLR : IsN X w' k (.mk bl (us.take 3) (vs.take 4)) ∧ IsN X w' k (.mk br (us.drop 4) (vs.drop 4)) := by
        cases k with
        | zero =>
          have hv : vs = [] := hu.zero
          subst hv
          exact ⟨IsN.leafOf hL, IsN.leafOf hR⟩
        | succ k =>
          obtain ⟨hul, huk⟩ := hu.succ
          refine ⟨IsN.nodeOf (by rw [List.map_take]; exact hL) (by simp; omega) (fun t ht => ?_), IsN.nodeOf (by rw [List.map_drop]; exact hR) (by simp; omega) (fun t ht => ?_)⟩
          · have := huk t (List.mem_of_mem_take ht); exact ⟨this.1.on hB, this.2⟩
          · have := huk t (List.mem_of_mem_drop ht); exact ⟨this.1.on hB, this.2⟩
      intro t ht
      rw [List.mem_append, List.mem_cons, List.mem_cons] at ht
      rcases ht with ht | rfl | rfl | ht
      · have := hks t (List.mem_of_mem_take ht); exact ⟨this.1.on hB, this.2⟩
      · exact ⟨hLR.1, by simp [Nd.ts]; omega, by simp [Nd.ts]; omega⟩
      · exact ⟨hLR.2, by simp [Nd.ts]; omega, by simp [Nd.ts]; omega⟩
      · have := hks t (List.mem_of_mem_drop ht); exact ⟨this.1.on hB, this.2⟩
    · rw [flat_ins _ _ x hl hi, ← flat_cut hu.sh hx]

/-! ### with -/
/-- L1 is less, L2 greater, y comes in between. -/
structure InsP (p : List Int) (a : List V) (y : Sl) (L L' L1 L2 : List Sl) : Prop where
  old : L = L1 ++ L2
  new : L' = L1 ++ y :: L2
  val : y.l = a
  less : ∀ z ∈ L1, cmpC p z.l a = -1
  more : ∀ z ∈ L2, cmpC p z.l a = 1
def WithN (X : Nat → Prop) (k : Nat) (t : Nd) (a : List V) (p : List Int) (w : World) (e : Ending) (w' : World) : Prop := Below w.heap.size w w' ∧
  ((e = .returned (.tuple #[t.val, .bool false]) ∧ ∃ z ∈ flat k t, cmpC p z.l a = 0) ∨
   (∃ t' y L1 L2, e = .returned (.tuple #[t'.val, .bool true]) ∧ IsN X w' k t' ∧ t.ts.length ≤ t'.ts.length ∧ t'.ts.length ≤ t.ts.length + 1 ∧ InsP p a y (flat k t) (flat k t') L1 L2))
theorem with_zero {X : Nat → Prop} (t : Nd) (A P : Option Addr) (ca cp : Nat) (a : List V) (p : List Int) (w : World) (h : IsN X w 0 t) (ha : RdV w A a) (hp : RdI w P p) (la : a.length ≤ 1000) (lp : p.length ≤ 1000) (lt : ∀ x ∈ flat 0 t, x.l.length ≤ 1000) (hn1 : 1 ≤ t.ts.length) (hn2 : t.ts.length ≤ 6) (hs : Sorted p (flat 0 t)) (hX : ∀ k, X k → k < w.heap.size) :
    Calls Tryz.prog 64 #[t.val, .slice A a.length ca, .slice P p.length cp] w (WithN X 0 t a p w) := by
  obtain ⟨b, ts, ks⟩ := t
  obtain ⟨At, ct, Ak, ck, hN⟩ := h.node
  replace hN : NodeAt X w b ts (ks.map Nd.val) At ct Ak ck := hN
  obtain rfl := h.zero
  refine (with_leaf A P ca cp a p w hN ha hp la lp lt hn1 (by simp only [Nd.ts] at hn2; exact Nat.le_trans hn2 (by omega)) hX).mono ?_
  rintro e w' ⟨k, f, hpl, hB, ⟨rfl, rfl⟩ | ⟨rfl, d, y, Bt, dt, Bk, dk, rfl, hy, hD⟩⟩
  · obtain ⟨x, hx, h0⟩ := hpl.found rfl
    exact ⟨hB, .inl ⟨rfl, x, List.mem_of_getElem? hx, h0⟩⟩
  · have hk := hpl.le
    refine ⟨hB, .inr ⟨.mk d (ts.take k ++ y :: ts.drop k) [], y, ts.take k, ts.drop k, rfl, IsN.leafOf hD, by simp [Nd.ts]; omega, by simp [Nd.ts]; omega, (List.take_append_drop k ts).symm, rfl, hy, hpl.less, ?_⟩⟩
    cases hx : ts[k]? with
    | none => rw [List.drop_of_length_le (List.getElem?_eq_none_iff.1 hx)]; intro z hz; cases hz
    | some x =>
      rw [drop_at hx]
      refine sorted_tail ?_ (hpl.not rfl x hx)
      rw [← drop_at hx]
      exact (List.pairwise_append.1 (by rw [List.take_append_drop]; exact hs : List.Pairwise _ (ts.take k ++ ts.drop k))).2.1

theorem sorted_mid {p : List Int} {A B C : List Sl} (h : Sorted p (A ++ B ++ C)) : Sorted p B := (List.pairwise_append.1 (List.pairwise_append.1 h).1).2.1
set_option maxRecDepth 10000 in
set_option maxHeartbeats 8000000 in
theorem with_succ {X : Nat → Prop} {k : Nat} (A P : Option Addr) (ca cp : Nat) (a : List V) (p : List Int) (la : a.length ≤ 1000) (lp : p.length ≤ 1000)
    (ih : ∀ (u : Nd) (w : World), IsN X w k u → RdV w A a → RdI w P p → (∀ x ∈ flat k u, x.l.length ≤ 1000) → 1 ≤ u.ts.length → u.ts.length ≤ 6 → Sorted p (flat k u) → (∀ k, X k → k < w.heap.size) →
      Calls Tryz.prog 64 #[u.val, .slice A a.length ca, .slice P p.length cp] w (WithN X k u a p w))
    (t : Nd) (w : World) (h : IsN X w (k + 1) t) (ha : RdV w A a) (hp : RdI w P p) (lt : ∀ x ∈ flat (k + 1) t, x.l.length ≤ 1000) (hn1 : 1 ≤ t.ts.length) (hn2 : t.ts.length ≤ 6) (hs : Sorted p (flat (k + 1) t)) (hX : ∀ k, X k → k < w.heap.size) :
    Calls Tryz.prog 64 #[t.val, .slice A a.length ca, .slice P p.length cp] w (WithN X (k + 1) t a p w) := by
  obtain ⟨b, ts, ks⟩ := t
  obtain ⟨At, ct, Ak, ck, hN⟩ := h.node
  replace hN : NodeAt X w b ts (ks.map Nd.val) At ct Ak ck := hN
  replace hn1 : 1 ≤ ts.length := hn1
  replace hn2 : ts.length ≤ 6 := hn2
  obtain ⟨hl, hks⟩ := h.succ
  have hts : ∀ x ∈ ts, x.l.length ≤ 1000 := fun x hx => lt x (by
    obtain ⟨i, hi⟩ := List.getElem?_of_mem hx
    rw [flat_succ]; simp only [Nd.ts, Nd.ks]
    rw [weave_cut i _ _ x (by simpa using hl) hi]; simp)
  have HN := Lib.hid hN; clear hN
  have HH := Lib.hid h; clear h
  have HA := Lib.hid ha; have HP := Lib.hid hp; have HX := Lib.hid hX; clear ha hp hX
  have HLT := Lib.hid lt; have HTS := Lib.hid hts; have HS := Lib.hid hs; have HK := Lib.hid hks; have HI := Lib.hid ih; have HL := Lib.hid hl
  clear lt hts hs hks ih hl
  unfold Nd.val Nd.ptr Nd.b
  go_enter Tryz.func64, Tryz.ntmps64
  go_wp2_with (first
    | (go_at_call 67; refine (place_any A P ca cp a p _ HN.out HA.out HP.out la lp HTS.out).mono ?_; rintro e w1 ⟨i, f, rfl, hpl, hb⟩; have hil := hpl.le; replace hpl := Lib.hid hpl; have hiu : i < ks.length := (by rw [HL.out]; omega); obtain ⟨u, hu⟩ : ∃ u, ks[i]? = some u := ⟨_, List.getElem?_eq_getElem hiu⟩; have hkv : (ks.map Nd.val)[i]? = some (.pointer (some ⟨u.b, 0, none⟩)) := (by rw [List.getElem?_map, hu]; rfl); have HU := Lib.hid hu; have HKV := Lib.hid hkv; clear hu hkv hiu; cases f)
    | (go_at_call 68; refine (kid_some i _ _ (HN.out.on hb) HKV.out).mono ?_; rintro e w2 ⟨rfl, rfl⟩)
    | (go_at_call 64; refine (HI.out u _ ((HK.out u (List.mem_of_getElem? HU.out)).1.on hb) (HA.out.on hb) (HP.out.on hb) ?_ ?_ ?_ ?_ ?_).mono ?_; (exact fun x hx => HLT.out x (by rw [flat_at (t := .mk b ts ks) HL.out HU.out]; simp [hx])); (have := (HK.out u (List.mem_of_getElem? HU.out)).2; omega); (have := (HK.out u (List.mem_of_getElem? HU.out)).2; omega); (have hq := HS.out; rw [flat_at (t := .mk b ts ks) HL.out HU.out] at hq; exact sorted_mid hq); (exact fun z hz => Nat.lt_of_lt_of_le (HX.out z hz) hb.size); rintro e w2 ⟨hb2, ⟨rfl, hz⟩ | ⟨u', y, L1, L2, rfl, hu', hu1, hu2, hin⟩⟩)
    | (go_at_call 81; refine (exch_any i _ ((HH.out.on hb).on hb2) hu' hil ?_ ?_ hn1 hn2 ?_).mono ?_; (have := (HK.out u (List.mem_of_getElem? HU.out)).2; omega); (have := (HK.out u (List.mem_of_getElem? HU.out)).2; omega); (exact fun z hz => Nat.lt_of_lt_of_le (HX.out z hz) (Nat.le_trans hb.size hb2.size)); rintro e w3 ⟨d, ts2, ks2, rfl, hD, hb3, hd1, hd2, hfl⟩)
    )
  · go_ret2
    obtain ⟨z, hz, h0⟩ := hz
    exact ⟨on hb hb2, .inl ⟨rfl, z, by rw [flat_at (t := .mk b ts ks) HL.out HU.out]; simp [hz], h0⟩⟩
  · go_ret2
    refine ⟨on (on hb hb2) hb3, .inr ⟨.mk d ts2 ks2, y, headF k (.mk b ts ks) i ++ L1, L2 ++ tailF k (.mk b ts ks) i, rfl, hD, hd1, hd2, ?_⟩⟩
    have hsd := place_sides HL.out HU.out HS.out hpl.out
    refine ⟨?_, ?_, hin.val, fun z hz => ?_, fun z hz => ?_⟩
    · rw [flat_at (t := .mk b ts ks) HL.out HU.out, hin.old]; simp
    · rw [hfl, hin.new]; simp
    · rcases List.mem_append.1 hz with hz | hz
      · exact hsd.1 z hz
      · exact hin.less z hz
    · rcases List.mem_append.1 hz with hz | hz
      · exact hin.more z hz
      · exact hsd.2 z hz
  · go_ret2
    obtain ⟨x, hx, h0⟩ := hpl.out.found rfl
    refine ⟨hb, .inl ⟨rfl, x, ?_, h0⟩⟩
    rw [flat_succ]; simp only [Nd.ts, Nd.ks]
    rw [weave_cut i _ _ x (by simpa using HL.out) hx]; simp
theorem with_any {X : Nat → Prop} (A P : Option Addr) (ca cp : Nat) (a : List V) (p : List Int) (la : a.length ≤ 1000) (lp : p.length ≤ 1000) : ∀ (k : Nat) (t : Nd) (w : World), IsN X w k t → RdV w A a → RdI w P p → (∀ x ∈ flat k t, x.l.length ≤ 1000) → 1 ≤ t.ts.length → t.ts.length ≤ 6 → Sorted p (flat k t) → (∀ k, X k → k < w.heap.size) →
      Calls Tryz.prog 64 #[t.val, .slice A a.length ca, .slice P p.length cp] w (WithN X k t a p w)
  | 0, t, w, h, ha, hp, lt, h1, h2, hs, hX => with_zero t A P ca cp a p w h ha hp la lp lt h1 h2 hs hX
  | k + 1, t, w, h, ha, hp, lt, h1, h2, hs, hX => with_succ A P ca cp a p la lp (fun u w' => with_any A P ca cp a p la lp k u w') t w h ha hp lt h1 h2 hs hX
end Go.Proofs.YtpmkhpbhimmeiaaGreat

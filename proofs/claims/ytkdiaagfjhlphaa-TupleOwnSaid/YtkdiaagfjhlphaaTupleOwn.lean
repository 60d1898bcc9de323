/-
  TupleOwn (layer 3, tuple): for every t, cols and x the call returns true: what is picked is memory of its own, and numbers that are too great, or below 0, pick nothing. No condition.
-/
import Derived.Test.YtkdiaagfjhlphaaRows
import Derived.Test.YtkdiaagfjhlphaaTupPick
import Derived.Test.YtkdiaagfjhlphaaTupApp
import Derived.Test.YtkdiaagfjhlphaaTupSame
import Derived.Test.YtkdiaagfjhlphaaTupOpen
import Derived.Test.YtkdiaagfjhlphaaTupAwake
import Derived.WalkKit
import Derived.ProofKit
import Derived.OpenShut
namespace Go.Proofs.Ytkdiaagfjhlphaa.tupleOwn
open Go.ChangeShapes Go.WideShapes Go.ChangeAt Go.RowKit FloM ValM
set_option linter.unusedVariables false
/-- The block of 'given': n values from its start on, none frozen; it lies behind lo and ahead of hi. -/
def GivenOk (wr : World) (A : Option Addr) (n lo hi : Nat) : Prop := n = 0 ∨ ∃ g, A = some ⟨g, 0, none⟩ ∧ lo < g ∧ g < hi ∧ ∃ m f, n * 3 ≤ m ∧ wr.rowIs g 38 m f
theorem given_own {w : World} {A : Option Addr} {c lo hi : Nat} {l : List V} {B : Nat} (h : w.ownsRow B 38 3 (.slice A l.length c) l.length (vcells l)) (hlo : lo < B) (hhi : w.heap.size ≤ hi) : GivenOk w A l.length lo hi := by
  rcases Nat.eq_zero_or_pos l.length with e | e
  · exact .inl e
  · refine .inr ?_
    obtain ⟨g', cap', hv', hb', hlt'⟩ := h.form e
    rcases h.2 with ⟨_, h0⟩ | ⟨g, cap, cur, hv, hbg, hg, hnc, _, hcs, _⟩
    · omega
    · injection hv with hA _ hc
      subst hA
      injection hv' with hA' _ _
      injection hA' with hA'
      injection hA' with e1 _ _
      subst e1
      exact ⟨g, rfl, by omega, by omega, cap * 3, fun i => cur.getD i .nilIface, by omega, cur, hg, hcs, fun i hi => by
        have hi' : i < cur.size := by omega
        simp [Array.getD, hi']⟩
theorem given_on {w w' : World} {A : Option Addr} {n lo hi : Nat} (h : GivenOk w A n lo hi) (hw : hi ≤ w.heap.size) (hb : Below w.heap.size w w') : GivenOk w' A n lo hi := by
  rcases h with e | ⟨g, e, h1, h2, m, f, h3, h4⟩
  · exact .inl e
  · exact .inr ⟨g, e, h1, h2, m, f, h3, h4.of_block (hb.block g (by omega))⟩
theorem rdV_far {w : World} {A : Option Addr} {l : List V} (h : RdV w A l) {p : Addr} (hp : ∀ b o, A = some ⟨b, o, none⟩ → b ≠ p.block) (u : Value) : RdV (w.setCell p u) A l := fun i v hv => by
  obtain ⟨b, o, e, hl, c0, c1, c2⟩ := h i v hv
  have hne := hp b o e
  have k : ∀ j, (w.setCell p u).cell? ⟨b, j, none⟩ = w.cell? ⟨b, j, none⟩ := fun j => World.cell?_of_block (Below.heap_setCell w p u b hne)
  exact ⟨b, o, e, by simpa [World.setCell] using hl, (k _).trans c0, (k _).trans c1, (k _).trans c2⟩
def OwnRel (w : World) (A0 Ap : Option Addr) (n hi : Nat) (got : List V) (k2 n2 : Int) (s2 : ByteArray) (i : Value) (wr : World) : Prop := ∃ k : Nat, i = .int .i64 (k : Nat) ∧ k ≤ n ∧ Below w.heap.size w wr ∧ RdV wr Ap got ∧ Row 38 wr w.heap.size [.int .i64 k2, .int .i64 n2, .string s2] ∧ GivenOk wr A0 n w.heap.size hi
def OwnRel2 (w : World) (Ap : Option Addr) (l0 : List V) (l1 : List Int) (many i : Value) (wr : World) : Prop := ∃ k j : Nat, i = .int .i64 (k : Nat) ∧ many = .int .i64 (j : Nat) ∧ k ≤ l1.length ∧ j = (pickL l0 (l1.take k)).length ∧ Below w.heap.size w wr ∧ RdV wr Ap (pickL l0 l1)
theorem pick_here {l0 : List V} {l1 : List Int} {k : Nat} {x : Int} {v : V} (h : l1[k]? = some x) (hv : col l0 x = some v) : (pickL l0 l1)[(pickL l0 (l1.take k)).length]? = some v := by
  have e : pickL l0 l1 = pickL l0 (l1.take k) ++ v :: pickL l0 (l1.drop (k + 1)) := by
    conv => lhs; rw [split_take h, pickL_app, pickL_take hv]
  rw [e, List.getElem?_append_right (Nat.le_refl _), Nat.sub_self]; rfl
set_option maxHeartbeats 8000000 in
theorem walk_no (A0 : Option Addr) (c0 : Nat) (l0 : List V) (A1 : Option Addr) (c1 : Nat) (l1 : List Int) (k2 n2 : Int) (s2 : ByteArray) (w : World) (h : 40 < l0.length ∨ l0.length ≤ 40 ∧ 40 < l1.length) :
    Calls Try.prog 8 #[.slice A0 l0.length c0, .slice A1 l1.length c1, .agg #[.int .i64 k2, .int .i64 n2, .string s2]] w fun e w' => e = .returned (.bool true) ∧ Below w.heap.size w w' := by
  have hB : Below w.heap.size w (w.alloc (.cells #[.int .i64 k2, .int .i64 n2, .string s2] 38)) := (Below.refl _ _).alloc (Nat.le_refl _) _
  rcases h with h | ⟨h0, h⟩
  · have h' : 40 < (l0.length : Int) := by omega
    go_enter Try.func8, Try.ntmps8
    go_wp2_with (go_at_call 10; refine (awake_any _).mono ?_; rintro e w1 ⟨rfl, h'⟩; (try replace HXr := Lib.hid (rowOn HXr.out h')); replace hB := on hB h'; clear h')
    go_ret
    exact ⟨rfl, hB⟩
  · have g0 : (l0.length : Int) ≤ 40 := by omega
    have h' : 40 < (l1.length : Int) := by omega
    go_enter Try.func8, Try.ntmps8
    go_wp2_with (go_at_call 10; refine (awake_any _).mono ?_; rintro e w1 ⟨rfl, h'⟩; (try replace HXr := Lib.hid (rowOn HXr.out h')); replace hB := on hB h'; clear h')
    go_ret
    exact ⟨rfl, hB⟩
set_option maxHeartbeats 8000000 in
theorem walk_yes (A0 : Option Addr) (c0 : Nat) (l0 : List V) (A1 : Option Addr) (c1 : Nat) (l1 : List Int) (k2 n2 : Int) (s2 : ByteArray) (w : World) (r0 : RdV w A0 l0) (m0 : l0.length ≤ maxLen) (r1 : RdI w A1 l1) (h0 : l0.length ≤ 40) (h1 : l1.length ≤ 40) :
    Calls Try.prog 8 #[.slice A0 l0.length c0, .slice A1 l1.length c1, .agg #[.int .i64 k2, .int .i64 n2, .string s2]] w fun e w' => e = .returned (.bool true) ∧ Below w.heap.size w w' := by
  have hB : Below w.heap.size w (w.alloc (.cells #[.int .i64 k2, .int .i64 n2, .string s2] 38)) := (Below.refl _ _).alloc (Nat.le_refl _) _
  have HXr := Lib.hid (row_new (t := 38) w [.int .i64 k2, .int .i64 n2, .string s2])
  have R0 := Lib.hid r0; have R1 := Lib.hid r1
  clear r0 r1
  have g0 : (l0.length : Int) ≤ 40 := by omega
  have g1 : (l1.length : Int) ≤ 40 := by omega
  go_enter Try.func8, Try.ntmps8
  go_wp2_with (first
    | (go_at_call 10; refine (awake_any _).mono ?_; rintro e w1 ⟨rfl, h'⟩; (try replace HXr := Lib.hid (rowOn HXr.out h')); replace hB := on hB h'; clear h')
    | (at_builtin; refine wpList_appV rfl (.tmp 25) (.tmp 26) rfl w1.heap.size (some ⟨w1.heap.size, 0, none⟩) 0 [] l0 l0 rfl rfl (own_made0 w1) A0 c0 rfl (R0.out.on (on hB ((Below.refl _ _).alloc (Nat.le_refl _) _))) (by simp; omega) (by simp) ?_; intro Ag cg u1 o1 gr1; have b1 : Below w1.heap.size w1 u1 := ((Below.refl w1.heap.size w1).alloc (Nat.le_refl _) (.cells #[] 38)).grown gr1 (by simp) (own_base (own_made0 w1)); have O1 := Lib.hid o1; have hlo : w.heap.size < w1.heap.size := HXr.out.lt; replace HXr := Lib.hid (rowOn HXr.out b1); replace hB := on hB b1; clear o1 gr1 b1)
    | (go_at_call 17; refine (pick_any Ag A1 cg c1 l0 l1 _ (own_rdV O1.out) (R1.out.on hB) m0 (by omega)).mono ?_; rintro e u2 ⟨Ap, cp, rfl, rp, hap, h'⟩; have G1 := Lib.hid (given_on (given_own (hi := u1.heap.size) O1.out hlo (Nat.le_refl _)) (Nat.le_refl _) h'); have RP := Lib.hid rp; have HAP := Lib.hid hap; replace HXr := Lib.hid (rowOn HXr.out h'); replace hB := on hB h'; clear rp hap h' O1))
  go_loopw [33] (fun i wr => OwnRel w Ag Ap l0.length u1.heap.size (pickL l0 l1) k2 n2 s2 i wr) (fun i _ => l0.length - (intOf i).toNat)
  case atStart => exact ⟨0, rfl, Nat.zero_le _, hB, RP.out, HXr.out, G1.out⟩
  case round =>
    clear hB RP HXr G1
    obtain ⟨k, rfl, hk, hB, rp, hx, hg⟩ := hrel
    have RP := Lib.hid rp; have HXr := Lib.hid hx; have HG := Lib.hid hg
    clear rp hx hg
    by_cases hlt : k < l0.length
    · obtain ⟨g, rfl, hg1, hg2, m, f, hm, hrow⟩ : ∃ g, Ag = some ⟨g, 0, none⟩ ∧ w.heap.size < g ∧ g < u1.heap.size ∧ ∃ m f, l0.length * 3 ≤ m ∧ wr.rowIs g 38 m f := by
        rcases HG.out with h | h
        · omega
        · exact h
      have x0 := HXr.out.cell 0
      have x1 := HXr.out.cell 1
      have x2 := HXr.out.cell 2
      have y0 := hrow.cell (i := k * 3) (by omega)
      have y1 := hrow.cell (i := k * 3 + 1) (by omega)
      have y2 := hrow.cell (i := k * 3 + 2) (by omega)
      have z0 := hrow.frozen (k * 3)
      have z1 := hrow.frozen (k * 3 + 1)
      have z2 := hrow.frozen (k * 3 + 2)
      simp only [List.getElem?_cons_zero, List.getElem?_cons_succ] at x0 x1 x2
      have HR := Lib.hid hrow; clear hrow
      go_wp2
      refine ⟨⟨k + 1, by go_num, by omega, ?_, ?_, ?_, ?_⟩, by simp [intOf]; omega⟩
      · exact ((hB.setCell (by simp; omega) _).setCell (by simp; omega) _).setCell (by simp; omega) _
      · have hne : ∀ b o, Ap = some ⟨b, o, none⟩ → b ≠ g := fun b o e => by have := HAP.out b o e; omega
        exact rdV_far (rdV_far (rdV_far RP.out hne _) hne _) hne _
      · exact ((HXr.out.far (p := ⟨g, k * 3, none⟩) (by simp; omega) _).far (p := ⟨g, k * 3 + 1, none⟩) (by simp; omega) _).far (p := ⟨g, k * 3 + 2, none⟩) (by simp; omega) _
      · exact .inr ⟨g, rfl, hg1, hg2, m, _, hm, ((HR.out.set (k * 3) _).set (k * 3 + 1) _).set (k * 3 + 2) _⟩
    · clear HXr HG
      go_wp2
      go_loopw [10, 43] (fun many i wx => OwnRel2 w Ap l0 l1 many i wx) (fun _ i _ => l1.length - (intOf i).toNat)
      case atStart => exact ⟨0, 0, rfl, rfl, Nat.zero_le _, rfl, hB, RP.out⟩
      case round =>
        clear hB RP
        obtain ⟨q, j, rfl, rfl, hq, hj, hB, rp⟩ := hrel
        have RP := Lib.hid rp; have HJ := Lib.hid hj
        have hj1 : j ≤ q := by rw [hj]; exact Nat.le_trans (pick_len _ _) (List.length_take_le _ _)
        clear rp hj
        by_cases hlq : q < l1.length
        · have hx := List.getElem?_eq_getElem hlq
          obtain ⟨b, o, rfl, hb, hc⟩ := (R1.out.on hB) q _ hx
          have HX := Lib.hid hx; clear hx
          generalize l1[q] = x at HX hc
          cases hr : inR l0.length x with
          | false =>
            have HR := Lib.hid hr
            have hno := inR_not.1 hr
            clear hr
            by_cases hx0 : 0 ≤ x
            · have hx1 : (l0.length : Int) ≤ x := by omega
              clear hno
              go_wp2
              exact ⟨⟨q + 1, j, by go_num, rfl, by omega, by rw [pick_snoc_none HX.out HR.out]; exact HJ.out, hB, RP.out⟩, by simp [intOf]; omega⟩
            · have hx1 : x < 0 := by omega
              clear hno hx0
              go_wp2
              exact ⟨⟨q + 1, j, by go_num, rfl, by omega, by rw [pick_snoc_none HX.out HR.out]; exact HJ.out, hB, RP.out⟩, by simp [intOf]; omega⟩
          | true =>
            obtain ⟨m, rfl⟩ := Int.eq_ofNat_of_zero_le (inR_iff.1 hr).1
            have hm : m < l0.length := by have := (inR_iff.1 hr).2; omega
            obtain ⟨⟨kv, nv, sv⟩, ev, el⟩ := col_some hr
            rw [Int.toNat_natCast] at ev
            have hh := pick_here HX.out el
            rw [← HJ.out] at hh
            have hjl : j < (pickL l0 l1).length := (List.getElem?_eq_some_iff.1 hh).1
            have HS := Lib.hid (show j + 1 = (pickL l0 (l1.take (q + 1))).length by rw [pick_snoc_some HX.out el, List.length_append, ← HJ.out]; rfl)
            obtain ⟨ab, ao, rfl, hal, a0, a1, a2⟩ := (R0.out.on hB) m _ ev
            obtain ⟨pb, po, rfl, hpl, p0, p1, p2⟩ := RP.out j _ hh
            simp only at a0 a1 a2 p0 p1 p2
            clear ev el hr hh
            go_wp2_with fail
            go_quiet (fail)
            all_goals
              go_wp2
              exact ⟨⟨q + 1, j + 1, by go_num, by go_num, by omega, HS.out, bel_draws hB _, RP.out.on (bel_draws (Below.refl _ _) _)⟩, by simp [intOf]; omega⟩
        · have hqe : q = l1.length := by omega
          subst hqe
          have hjj : j = (pickL l0 l1).length := by have := HJ.out; rwa [List.take_length] at this
          subst hjj
          go_wp2
          go_ret
          exact ⟨rfl, hB⟩
theorem walk (A0 : Option Addr) (c0 : Nat) (l0 : List V) (A1 : Option Addr) (c1 : Nat) (l1 : List Int) (k2 n2 : Int) (s2 : ByteArray) (w : World) (r0 : RdV w A0 l0) (k0 : OkL l0) (m0 : l0.length ≤ maxLen) (r1 : RdI w A1 l1) (q1 : l1.length ≤ c1) (m1 : l1.length ≤ maxLen) (z1 : A1 = none → c1 = 0) (wk2 : (Lit.int .i64 k2).wf = true) (wn2 : (Lit.int .i64 n2).wf = true) (ws2 : s2.size ≤ maxLen) :
    Calls Try.prog 8 #[.slice A0 l0.length c0, .slice A1 l1.length c1, .agg #[.int .i64 k2, .int .i64 n2, .string s2]] w fun e w' => e = .returned (.bool true) ∧ Below w.heap.size w w' := by
  by_cases h0 : l0.length ≤ 40
  · by_cases h1 : l1.length ≤ 40
    · exact walk_yes A0 c0 l0 A1 c1 l1 k2 n2 s2 w r0 m0 r1 h0 h1
    · exact walk_no A0 c0 l0 A1 c1 l1 k2 n2 s2 w (.inr ⟨h0, by omega⟩)
  · exact walk_no A0 c0 l0 A1 c1 l1 k2 n2 s2 w (.inl (by omega))

theorem own : ownKnob Try.prog.godebug = none := by kernel_rfl

set_option maxRecDepth 100000 in
theorem lifted (os : Os) (started : os.Started) (H : Type) (enc : TypeId × Value → H) :
    ReturnsInHanded {} Try.checked os 8 .any (Rows.tupleOwnSpec.pre6 enc Try.prog Try.f8 Rows.tupleOwnRow.domain false) (Rows.tupleOwnSpec.post enc Try.prog Try.f8 false true false false) := by
  refine returnsInHanded_of_change (C := Try.checked) own started (by kernel_rfl) Try.func8
    (ChangeSpec.witness6 (enc := enc) (C := Try.checked) false ⟨#[], #[.slice none 0 0, .slice none 0 0, .agg #[.int .i64 0, .int .i64 0, .string ByteArray.empty]], []⟩ 8 (by kernel_rfl) (by kernel_rfl) (by kernel_rfl) (by kernel_rfl)) ?_
  intro W base args ds gs before hval0 hW hcnd _
  have hval : ∀ (j : Nat) t v, Try.f8.params[j]? = some t → args[j]? = some v → Value.okWide Try.prog W .any base t v := hval0
  have hW' := hW
  obtain ⟨p, q, hA0, hV, rfl, hfz, hnd⟩ := hW
  have hA : DataW.TrodAll enc Try.prog W 0 (fun _ => true) true Try.f8.params.toList args.toList ds p := hA0
  have hAk := hA
  rw [Try.params8] at hA hval
  obtain ⟨v0, vs0, d0, ds0, p0, q0, hargs, rfl, rfl, h0, r0⟩ := trodAll_cons hA
  obtain ⟨v1, vs1, d1, ds1, p1, q1, rfl, rfl, rfl, h1, r1⟩ := trodAll_cons r0
  obtain ⟨v2, vs2, d2, ds2, p2, q2, rfl, rfl, rfl, h2, r2⟩ := trodAll_cons r1
  obtain ⟨rfl, rfl, rfl⟩ := trodAll_nil r2
  obtain rfl : args = #[v0, v1, v2] := by cases args; simp_all
  obtain ⟨rfl, rfl⟩ := trodVars_none hV
  obtain ⟨A0, c0, l0, rfl, r0', k0', m0'⟩ := open_vals (okWide_slice Try.underlying22 (hval 0 22 v0 rfl rfl)) h0
  obtain ⟨A1, c1, l1, rfl, r1', q1', m1', z1'⟩ := open_nums (okWide_slice Try.underlying23 (hval 1 23 v1 rfl rfl)) h1
  obtain ⟨k2, n2, s2, rfl, rfl, rfl, wk2, wn2, ws2⟩ := open_val (hval 2 38 v2 rfl rfl) h2
  clear hA0 hval0
  refine (walk A0 c0 l0 A1 c1 l1 k2 n2 s2 W r0' k0' m0' r1' q1' m1' z1' wk2 wn2 ws2).mono fun e W' ⟨he, hg⟩ => ?_
  subst he
  refine ⟨_, rfl, post_old hW' (by simpa using hAk) (by rw [Try.params8]; decide) (fun _ _ _ => (trodAll_cons_mk (shut_bool Try.underlying4 _) trodAll_mk0)) rfl (fun _ => rfl) hg⟩

theorem proved : Rows.TupleOwnSaid :=
  OpenClaim.holds_of_wide 8 Try.f8 rfl rfl rfl rfl rfl rfl rfl ⟨rfl, rfl, rfl, rfl, rfl⟩ rfl rfl rfl rfl rfl (by kernel_rfl) Try.func8 (by kernel_rfl)
    (of_decide_eq_true (by kernel_rfl)) (by unfold Func.isWrapper; first | (rw [if_pos (by decide +kernel)]; kernel_rfl) | (rw [if_neg (by decide +kernel)]; exact ⟨rfl, rfl⟩))
    (fun os started H enc _ => lifted os started H enc)
#print axioms proved
end Go.Proofs.Ytkdiaagfjhlphaa.tupleOwn

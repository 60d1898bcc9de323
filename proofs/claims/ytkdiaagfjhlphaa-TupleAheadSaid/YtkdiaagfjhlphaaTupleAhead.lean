/-
  TupleAhead (layer 3, tuple): for every t, a and b the call returns true: tuples that begin alike lie as what stands behind that does, and a beginning is ahead. No condition.
-/
import Derived.Test.YtkdiaagfjhlphaaRows
import Derived.Test.YtkdiaagfjhlphaaTupCmp
import Derived.Test.YtkdiaagfjhlphaaTupApp
import Derived.Test.YtkdiaagfjhlphaaTupPlain
import Derived.Test.YtkdiaagfjhlphaaTupUpto
import Derived.Test.YtkdiaagfjhlphaaTupOpen
import Derived.Test.YtkdiaagfjhlphaaTupAwake
import Derived.WalkKit
import Derived.ProofKit
import Derived.OpenShut
namespace Go.Proofs.Ytkdiaagfjhlphaa.tupleAhead
open Go.ChangeShapes Go.WideShapes Go.ChangeAt Go.RowKit FloM ValM
set_option linter.unusedVariables false
set_option maxHeartbeats 8000000 in
theorem walk_no (A0 : Option Addr) (c0 : Nat) (l0 : List V) (A1 : Option Addr) (c1 : Nat) (l1 : List V) (A2 : Option Addr) (c2 : Nat) (l2 : List V) (w : World) (h : 40 < l0.length ∨ l0.length ≤ 40 ∧ (40 < l1.length ∨ l1.length ≤ 40 ∧ 40 < l2.length)) :
    Calls Try.prog 9 #[.slice A0 l0.length c0, .slice A1 l1.length c1, .slice A2 l2.length c2] w fun e w' => e = .returned (.bool true) ∧ Below w.heap.size w w' := by
  have hB := Below.refl w.heap.size w
  rcases h with h | ⟨h0, h | ⟨h1, h⟩⟩
  · have h' : 40 < (l0.length : Int) := by omega
    go_enter Try.func9, Try.ntmps9
    go_wp2_with (go_at_call 10; refine (awake_any _).mono ?_; rintro e w1 ⟨rfl, h'⟩; replace hB := on hB h'; clear h')
    go_ret
    exact ⟨rfl, hB⟩
  · have g0 : (l0.length : Int) ≤ 40 := by omega
    have h' : 40 < (l1.length : Int) := by omega
    go_enter Try.func9, Try.ntmps9
    go_wp2_with (go_at_call 10; refine (awake_any _).mono ?_; rintro e w1 ⟨rfl, h'⟩; replace hB := on hB h'; clear h')
    go_ret
    exact ⟨rfl, hB⟩
  · have g0 : (l0.length : Int) ≤ 40 := by omega
    have g1 : (l1.length : Int) ≤ 40 := by omega
    have h' : 40 < (l2.length : Int) := by omega
    go_enter Try.func9, Try.ntmps9
    go_wp2_with (go_at_call 10; refine (awake_any _).mono ?_; rintro e w1 ⟨rfl, h'⟩; replace hB := on hB h'; clear h')
    go_ret
    exact ⟨rfl, hB⟩
theorem plain_max (a b : Nat) (w : World) (h : max a b ≤ 1000) : Calls Try.prog 24 #[.int .i64 (max (a : Int) (b : Int))] w (SaysL (upto (max a b)) w) := by
  have := plain_any (max a b) w h
  rwa [show ((max a b : Nat) : Int) = max (a : Int) (b : Int) by omega] at this
set_option maxHeartbeats 8000000 in
theorem walk_yes (A0 : Option Addr) (c0 : Nat) (l0 : List V) (A1 : Option Addr) (c1 : Nat) (l1 : List V) (A2 : Option Addr) (c2 : Nat) (l2 : List V) (w : World) (x y : List V) (r : Int) (r0 : RdV w A0 l0) (r1 : RdV w A1 l1) (r2 : RdV w A2 l2) (m0 : l0.length ≤ maxLen) (m1 : l1.length ≤ maxLen) (m2 : l2.length ≤ maxLen) (h0 : l0.length ≤ 40) (h1 : l1.length ≤ 40) (h2 : l2.length ≤ 40) (hx : l0 ++ l1 = x) (hy : l0 ++ l2 = y)
    (sx : x.length ≤ 80) (sy : y.length ≤ 80)
    (hxy : ordV (pickL x (upto (max x.length y.length))) (pickL y (upto (max x.length y.length))) = r) (hab : ordV (pickL l1 (upto (max l1.length l2.length))) (pickL l2 (upto (max l1.length l2.length))) = r) (htx : ordV (pickL l0 (upto (max x.length y.length))) (pickL x (upto (max x.length y.length))) = -(min (l1.length : Int) 1)) :
    Calls Try.prog 9 #[.slice A0 l0.length c0, .slice A1 l1.length c1, .slice A2 l2.length c2] w fun e w' => e = .returned (.bool true) ∧ Below w.heap.size w w' := by
  have hB := Below.refl w.heap.size w
  have R0 := Lib.hid r0; have R1 := Lib.hid r1; have R2 := Lib.hid r2
  clear r0 r1 r2
  have g0 : (l0.length : Int) ≤ 40 := by omega
  have g1 : (l1.length : Int) ≤ 40 := by omega
  have g2 : (l2.length : Int) ≤ 40 := by omega
  have mx : x.length ≤ maxLen := by unfold maxLen; omega
  have my : y.length ≤ maxLen := by unfold maxLen; omega
  have HX := Lib.hid hx; have HY := Lib.hid hy; clear hx hy
  have HXY := Lib.hid hxy; have HAB := Lib.hid hab; have HTX := Lib.hid htx; clear hxy hab htx
  have n1' : (x.length : Int) ≤ 80 := by omega
  have n2' : (y.length : Int) ≤ 80 := by omega
  have p0 : 0 ≤ min (l1.length : Int) 1 := by omega
  have p1 : min (l1.length : Int) 1 ≤ 1 := by omega
  go_enter Try.func9, Try.ntmps9
  go_wp2_with (first
    | (go_at_call 10; refine (awake_any _).mono ?_; rintro e w1 ⟨rfl, h'⟩; replace hB := on hB h'; clear h')
    | (at_builtin; refine wpList_appV rfl (.tmp 29) (.tmp 30) rfl w1.heap.size (some ⟨w1.heap.size, 0, none⟩) 0 [] l0 l0 rfl rfl (own_made0 w1) A0 c0 rfl (R0.out.on (on hB ((Below.refl _ _).alloc (Nat.le_refl _) _))) (by simp; omega) (by simp) ?_; intro Ap cp u1 o1 g1; have b1 : Below w1.heap.size w1 u1 := ((Below.refl w1.heap.size w1).alloc (Nat.le_refl _) (.cells #[] 38)).grown g1 (by simp) (own_base (own_made0 w1)); have O1 := Lib.hid o1; clear o1 g1)
    | (at_builtin; refine wpList_appV rfl (.tmp 31) (.tmp 32) rfl w1.heap.size Ap cp l0 l1 x HX.out rfl O1.out A1 c1 rfl (R1.out.on (on hB b1)) (by omega) b1.size ?_; intro Ax cx u2 o2 g2; have b2 : Below w1.heap.size w1 u2 := b1.grown g2 b1.size (own_base O1.out); have RX := Lib.hid (own_rdV o2); clear o2 g2 b1 O1; replace hB := on hB b2; clear b2)
    | (at_builtin; refine wpList_appV rfl (.tmp 34) (.tmp 35) rfl u2.heap.size (some ⟨u2.heap.size, 0, none⟩) 0 [] l0 l0 rfl rfl (own_made0 u2) A0 c0 rfl (R0.out.on (on hB ((Below.refl _ _).alloc (Nat.le_refl _) _))) (by simp; omega) (by simp) ?_; intro Aq cq u3 o3 g3; have b3 : Below u2.heap.size u2 u3 := ((Below.refl u2.heap.size u2).alloc (Nat.le_refl _) (.cells #[] 38)).grown g3 (by simp) (own_base (own_made0 u2)); have O3 := Lib.hid o3; clear o3 g3)
    | (at_builtin; refine wpList_appV rfl (.tmp 36) (.tmp 37) rfl u2.heap.size Aq cq l0 l2 y HY.out rfl O3.out A2 c2 rfl (R2.out.on (on hB b3)) (by omega) b3.size ?_; intro Ay cy u4 o4 g4; have b4 : Below u2.heap.size u2 u4 := b3.grown g4 b3.size (own_base O3.out); have RY := Lib.hid (own_rdV o4); clear o4 g4 b3 O3; replace RX := Lib.hid (RX.out.on b4); replace hB := on hB b4; clear b4)
    | (go_at_call 24; refine (plain_max _ _ _ (by omega)).mono ?_; rintro e w2 ⟨An, cn, rfl, rn, h'⟩; (try replace RX := Lib.hid (RX.out.on h')); (try replace RY := Lib.hid (RY.out.on h')); replace hB := on hB h'; clear h'; have RN := Lib.hid rn; clear rn)
    | (go_at_call 22; first | ((with_reducible refine (compareT_any Ax Ay An cx cy cn x y _ _ RX.out RY.out RN.out mx my (by rw [upto_len]; unfold maxLen; omega)).mono ?_); rintro e w2 ⟨rfl, h'⟩; rw [HXY.out]; (try replace RX := Lib.hid (RX.out.on h')); (try replace RY := Lib.hid (RY.out.on h')); replace hB := on hB h'; clear h') | ((with_reducible refine (compareT_any A1 A2 An c1 c2 cn l1 l2 _ _ (R1.out.on hB) (R2.out.on hB) RN.out m1 m2 (by rw [upto_len]; unfold maxLen; omega)).mono ?_); rintro e w2 ⟨rfl, h'⟩; rw [HAB.out]; (try replace RX := Lib.hid (RX.out.on h')); (try replace RY := Lib.hid (RY.out.on h')); replace hB := on hB h'; clear h') | ((with_reducible refine (compareT_any A0 Ax An c0 cx cn l0 x _ _ (R0.out.on hB) RX.out RN.out m0 mx (by rw [upto_len]; unfold maxLen; omega)).mono ?_); rintro e w2 ⟨rfl, h'⟩; rw [HTX.out]; (try replace RX := Lib.hid (RX.out.on h')); (try replace RY := Lib.hid (RY.out.on h')); replace hB := on hB h'; clear h')))
  go_ret
  exact ⟨rfl, hB⟩
theorem walk (A0 : Option Addr) (c0 : Nat) (l0 : List V) (A1 : Option Addr) (c1 : Nat) (l1 : List V) (A2 : Option Addr) (c2 : Nat) (l2 : List V) (w : World) (r0 : RdV w A0 l0) (k0 : OkL l0) (m0 : l0.length ≤ maxLen) (r1 : RdV w A1 l1) (k1 : OkL l1) (m1 : l1.length ≤ maxLen) (r2 : RdV w A2 l2) (k2 : OkL l2) (m2 : l2.length ≤ maxLen) :
    Calls Try.prog 9 #[.slice A0 l0.length c0, .slice A1 l1.length c1, .slice A2 l2.length c2] w fun e w' => e = .returned (.bool true) ∧ Below w.heap.size w w' := by
  by_cases h0 : l0.length ≤ 40
  · by_cases h1 : l1.length ≤ 40
    · by_cases h2 : l2.length ≤ 40
      · have hx : (l0 ++ l1).length = l0.length + l1.length := List.length_append
        have hy : (l0 ++ l2).length = l0.length + l2.length := List.length_append
        have hz : ordV l0 (l0 ++ l1) = -(min (l1.length : Int) 1) := by
          rw [ord_front]
          cases l1 with
          | nil => rfl
          | cons u v => rw [if_neg (by simp)]; simp only [List.length_cons]; omega
        exact walk_yes A0 c0 l0 A1 c1 l1 A2 c2 l2 w _ _ _ r0 r1 r2 m0 m1 m2 h0 h1 h2 rfl rfl (by omega) (by omega) (by rw [pick_upto _ _ (by omega), pick_upto _ _ (by omega), ord_behind]) (by rw [pick_upto _ _ (by omega), pick_upto _ _ (by omega)]) (by rw [pick_upto _ _ (by omega), pick_upto _ _ (by omega), hz])
      · exact walk_no A0 c0 l0 A1 c1 l1 A2 c2 l2 w (.inr ⟨h0, .inr ⟨h1, by omega⟩⟩)
    · exact walk_no A0 c0 l0 A1 c1 l1 A2 c2 l2 w (.inr ⟨h0, .inl (by omega)⟩)
  · exact walk_no A0 c0 l0 A1 c1 l1 A2 c2 l2 w (.inl (by omega))

theorem own : ownKnob Try.prog.godebug = none := by kernel_rfl

set_option maxRecDepth 100000 in
theorem lifted (os : Os) (started : os.Started) (H : Type) (enc : TypeId × Value → H) :
    ReturnsInHanded {} Try.checked os 9 .any (Rows.tupleAheadSpec.pre6 enc Try.prog Try.f9 Rows.tupleAheadRow.domain false) (Rows.tupleAheadSpec.post enc Try.prog Try.f9 false true false false) := by
  refine returnsInHanded_of_change (C := Try.checked) own started (by kernel_rfl) Try.func9
    (ChangeSpec.witness6 (enc := enc) (C := Try.checked) false ⟨#[], #[.slice none 0 0, .slice none 0 0, .slice none 0 0], []⟩ 8 (by kernel_rfl) (by kernel_rfl) (by kernel_rfl) (by kernel_rfl)) ?_
  intro W base args ds gs before hval0 hW hcnd _
  have hval : ∀ (j : Nat) t v, Try.f9.params[j]? = some t → args[j]? = some v → Value.okWide Try.prog W .any base t v := hval0
  have hW' := hW
  obtain ⟨p, q, hA0, hV, rfl, hfz, hnd⟩ := hW
  have hA : DataW.TrodAll enc Try.prog W 0 (fun _ => true) true Try.f9.params.toList args.toList ds p := hA0
  have hAk := hA
  rw [Try.params9] at hA hval
  obtain ⟨v0, vs0, d0, ds0, p0, q0, hargs, rfl, rfl, h0, r0⟩ := trodAll_cons hA
  obtain ⟨v1, vs1, d1, ds1, p1, q1, rfl, rfl, rfl, h1, r1⟩ := trodAll_cons r0
  obtain ⟨v2, vs2, d2, ds2, p2, q2, rfl, rfl, rfl, h2, r2⟩ := trodAll_cons r1
  obtain ⟨rfl, rfl, rfl⟩ := trodAll_nil r2
  obtain rfl : args = #[v0, v1, v2] := by cases args; simp_all
  obtain ⟨rfl, rfl⟩ := trodVars_none hV
  obtain ⟨A0, c0, l0, rfl, r0', k0', m0'⟩ := open_vals (okWide_slice Try.underlying22 (hval 0 22 v0 rfl rfl)) h0
  obtain ⟨A1, c1, l1, rfl, r1', k1', m1'⟩ := open_vals (okWide_slice Try.underlying22 (hval 1 22 v1 rfl rfl)) h1
  obtain ⟨A2, c2, l2, rfl, r2', k2', m2'⟩ := open_vals (okWide_slice Try.underlying22 (hval 2 22 v2 rfl rfl)) h2
  clear hA0 hval0
  refine (walk A0 c0 l0 A1 c1 l1 A2 c2 l2 W r0' k0' m0' r1' k1' m1' r2' k2' m2').mono fun e W' ⟨he, hg⟩ => ?_
  subst he
  refine ⟨_, rfl, post_old hW' (by simpa using hAk) (by rw [Try.params9]; decide) (fun _ _ _ => (trodAll_cons_mk (shut_bool Try.underlying4 _) trodAll_mk0)) rfl (fun _ => rfl) hg⟩

theorem proved : Rows.TupleAheadSaid :=
  OpenClaim.holds_of_wide 9 Try.f9 rfl rfl rfl rfl rfl rfl rfl ⟨rfl, rfl, rfl, rfl, rfl⟩ rfl rfl rfl rfl rfl (by kernel_rfl) Try.func9 (by kernel_rfl)
    (of_decide_eq_true (by kernel_rfl)) (by unfold Func.isWrapper; first | (rw [if_pos (by decide +kernel)]; kernel_rfl) | (rw [if_neg (by decide +kernel)]; exact ⟨rfl, rfl⟩))
    (fun os started H enc _ => lifted os started H enc)
#print axioms proved
end Go.Proofs.Ytkdiaagfjhlphaa.tupleAhead

/-
  TupleTells (layer 3, tuple): for every t, u and p the call returns true: whether numbers are a permutation, what undoes it, what is picked, and a tuple's text, is as the document says. No condition.
-/
import Derived.Test.YtkdiaagfjhlphaaRows
import Derived.Test.YtkdiaagfjhlphaaTupRef
import Derived.Test.YtkdiaagfjhlphaaTupRefB
import Derived.Test.YtkdiaagfjhlphaaTupPick
import Derived.Test.YtkdiaagfjhlphaaTupOrd
import Derived.Test.YtkdiaagfjhlphaaTupOpen
import Derived.Test.YtkdiaagfjhlphaaTupAwake
import Derived.WalkKit
import Derived.ProofKit
import Derived.OpenShut
namespace Go.Proofs.Ytkdiaagfjhlphaa.tupleTells
open Go.ChangeShapes Go.WideShapes Go.ChangeAt Go.RowKit FloM ValM
set_option linter.unusedVariables false
set_option maxHeartbeats 8000000 in
theorem walk_no (A0 : Option Addr) (c0 : Nat) (l0 : List V) (A1 : Option Addr) (c1 : Nat) (l1 : List V) (A2 : Option Addr) (c2 : Nat) (l2 : List Int) (w : World) (h : 40 < l0.length ∨ l0.length ≤ 40 ∧ (40 < l1.length ∨ l1.length ≤ 40 ∧ 40 < l2.length)) :
    Calls Try.prog 3 #[.slice A0 l0.length c0, .slice A1 l1.length c1, .slice A2 l2.length c2] w fun e w' => e = .returned (.bool true) ∧ Below w.heap.size w w' := by
  have hB := Below.refl w.heap.size w
  rcases h with h | ⟨h0, h | ⟨h1, h⟩⟩
  · have h' : 40 < (l0.length : Int) := by omega
    go_enter Try.func3, Try.ntmps3
    go_wp2_with (go_at_call 10; refine (awake_any _).mono ?_; rintro e w1 ⟨rfl, h'⟩; replace hB := on hB h'; clear h')
    go_ret
    exact ⟨rfl, hB⟩
  · have g0 : (l0.length : Int) ≤ 40 := by omega
    have h' : 40 < (l1.length : Int) := by omega
    go_enter Try.func3, Try.ntmps3
    go_wp2_with (go_at_call 10; refine (awake_any _).mono ?_; rintro e w1 ⟨rfl, h'⟩; replace hB := on hB h'; clear h')
    go_ret
    exact ⟨rfl, hB⟩
  · have g0 : (l0.length : Int) ≤ 40 := by omega
    have g1 : (l1.length : Int) ≤ 40 := by omega
    have h' : 40 < (l2.length : Int) := by omega
    go_enter Try.func3, Try.ntmps3
    go_wp2_with (go_at_call 10; refine (awake_any _).mono ?_; rintro e w1 ⟨rfl, h'⟩; replace hB := on hB h'; clear h')
    go_ret
    exact ⟨rfl, hB⟩
set_option maxHeartbeats 8000000 in
theorem walk_yes (A0 : Option Addr) (c0 : Nat) (l0 : List V) (A1 : Option Addr) (c1 : Nat) (l1 : List V) (A2 : Option Addr) (c2 : Nat) (l2 : List Int) (w : World) (b : Bool) (o : Int) (r0 : RdV w A0 l0) (k0 : OkL l0) (r1 : RdV w A1 l1) (r2 : RdI w A2 l2) (m0 : l0.length ≤ maxLen) (m1 : l1.length ≤ maxLen) (m2 : l2.length ≤ maxLen) (h0 : l0.length ≤ 40) (h1 : l1.length ≤ 40) (h2 : l2.length ≤ 40)
    (ho : ordV l0 l1 = o) (hs : decide (l0 = l1) = b) (hob : (o == 0) = b) :
    Calls Try.prog 3 #[.slice A0 l0.length c0, .slice A1 l1.length c1, .slice A2 l2.length c2] w fun e w' => e = .returned (.bool true) ∧ Below w.heap.size w w' := by
  have hB := Below.refl w.heap.size w
  have R0 := Lib.hid r0; have R1 := Lib.hid r1; have R2 := Lib.hid r2; have HK := Lib.hid k0
  clear r0 r1 r2 k0
  have g0 : (l0.length : Int) ≤ 40 := by omega
  have g1 : (l1.length : Int) ≤ 40 := by omega
  have g2 : (l2.length : Int) ≤ 40 := by omega
  have hq : (invL l2).length ≤ 1000 := by
    cases hp : permB l2 with
    | true => rw [inv_len hp]; omega
    | false => rw [inv_bad hp]; simp
  have mx : (pickL l0 l2).length ≤ maxLen := by have := pick_len l0 l2; unfold maxLen; omega
  have HOO := Lib.hid (ord_self (pickL l0 l2))
  have HO1 := Lib.hid ho; have HSS := Lib.hid hs
  clear ho hs
  go_enter Try.func3, Try.ntmps3
  go_wp2_with (first
    | (go_at_call 10; refine (awake_any _).mono ?_; rintro e w1 ⟨rfl, h'⟩; replace hB := on hB h'; clear h')
    | (go_at_call 11; refine (perm_any _ _ _ _ (R2.out.on hB) (by omega)).mono ?_; rintro e w2 ⟨rfl, h'⟩; (try replace RI := Lib.hid (RI.out.on h')); (try replace RX := Lib.hid (RX.out.on h')); replace hB := on hB h'; clear h')
    | (go_at_call 12; refine (refPerm_any _ _ _ _ (R2.out.on hB) (by omega)).mono ?_; rintro e w2 ⟨rfl, rfl⟩)
    | (go_at_call 14; refine (inverse_any _ _ _ _ (R2.out.on hB) (by omega)).mono ?_; rintro e w2 ⟨Ai, ci, rfl, r', h'⟩; (try replace RI := Lib.hid (RI.out.on h')); (try replace RX := Lib.hid (RX.out.on h')); replace hB := on hB h'; clear h'; have RI := Lib.hid r'; clear r')
    | (go_at_call 15; refine (refInverse_any _ _ _ _ (R2.out.on hB) (by omega)).mono ?_; rintro e w2 ⟨Aj, cj, rfl, r', h'⟩; (try replace RI := Lib.hid (RI.out.on h')); (try replace RX := Lib.hid (RX.out.on h')); replace hB := on hB h'; clear h'; have RJ := Lib.hid r'; clear r')
    | (go_at_call 13; refine (ints_any _ _ _ _ _ _ _ RI.out RJ.out hq hq).mono ?_; rintro e w2 ⟨rfl, h'⟩; rw [decide_eq_true (rfl : invL l2 = invL l2)]; (try replace RI := Lib.hid (RI.out.on h')); (try replace RX := Lib.hid (RX.out.on h')); replace hB := on hB h'; clear h')
    | (go_at_call 17; refine (pick_any _ _ _ _ _ _ _ (R0.out.on hB) (R2.out.on hB) m0 (by omega)).mono ?_; rintro e w2 ⟨Ax, cx, rfl, r', _, h'⟩; (try replace RI := Lib.hid (RI.out.on h')); (try replace RX := Lib.hid (RX.out.on h')); replace hB := on hB h'; clear h'; have RX := Lib.hid r'; clear r')
    | (go_at_call 18; refine (refPick_any _ _ _ _ _ _ _ (R0.out.on hB) (R2.out.on hB) (by omega) (by omega)).mono ?_; rintro e w2 ⟨Ay, cy, rfl, r', _, h'⟩; (try replace RI := Lib.hid (RI.out.on h')); (try replace RX := Lib.hid (RX.out.on h')); replace hB := on hB h'; clear h'; have RY := Lib.hid r'; clear r')
    | (go_at_call 16; first | ((with_reducible refine (refOrder_any Ax Ay cx cy (pickL l0 l2) (pickL l0 l2) _ RX.out RY.out mx mx).mono ?_); rintro e w2 ⟨rfl, h'⟩; rw [HOO.out]; (try replace RI := Lib.hid (RI.out.on h')); (try replace RX := Lib.hid (RX.out.on h')); replace hB := on hB h'; clear h') | ((with_reducible refine (refOrder_any A0 A1 c0 c1 l0 l1 _ (R0.out.on hB) (R1.out.on hB) m0 m1).mono ?_); rintro e w2 ⟨rfl, h'⟩; rw [HO1.out]; (try replace RI := Lib.hid (RI.out.on h')); (try replace RX := Lib.hid (RX.out.on h')); replace hB := on hB h'; clear h'))
    | (go_at_call 19; refine (textT_any _ _ _ _ (R0.out.on hB) HK.out (by omega)).mono ?_; rintro e w2 ⟨rfl, h'⟩; (try replace RI := Lib.hid (RI.out.on h')); (try replace RX := Lib.hid (RX.out.on h')); replace hB := on hB h'; clear h')
    | (go_at_call 20; refine (refTextT_any _ _ _ _ (R0.out.on hB) HK.out (by omega)).mono ?_; rintro e w2 ⟨rfl, h'⟩; (try replace RI := Lib.hid (RI.out.on h')); (try replace RX := Lib.hid (RX.out.on h')); replace hB := on hB h'; clear h')
    | (go_at_call 21; refine (same_any _ _ _ _ _ _ _ (R0.out.on hB) (R1.out.on hB) m0 m1).mono ?_; rintro e w2 ⟨rfl, h'⟩; rw [HSS.out]; (try replace RI := Lib.hid (RI.out.on h')); (try replace RX := Lib.hid (RX.out.on h')); replace hB := on hB h'; clear h'))
  go_ret
  exact ⟨rfl, hB⟩
theorem walk (A0 : Option Addr) (c0 : Nat) (l0 : List V) (A1 : Option Addr) (c1 : Nat) (l1 : List V) (A2 : Option Addr) (c2 : Nat) (l2 : List Int) (w : World) (r0 : RdV w A0 l0) (k0 : OkL l0) (m0 : l0.length ≤ maxLen) (r1 : RdV w A1 l1) (k1 : OkL l1) (m1 : l1.length ≤ maxLen) (r2 : RdI w A2 l2) (q2 : l2.length ≤ c2) (m2 : l2.length ≤ maxLen) (z2 : A2 = none → c2 = 0) :
    Calls Try.prog 3 #[.slice A0 l0.length c0, .slice A1 l1.length c1, .slice A2 l2.length c2] w fun e w' => e = .returned (.bool true) ∧ Below w.heap.size w w' := by
  by_cases h0 : l0.length ≤ 40
  · by_cases h1 : l1.length ≤ 40
    · by_cases h2 : l2.length ≤ 40
      · refine walk_yes A0 c0 l0 A1 c1 l1 A2 c2 l2 w _ _ r0 k0 r1 r2 m0 m1 m2 h0 h1 h2 rfl rfl ?_
        rw [Bool.eq_iff_iff, beq_iff_eq, decide_eq_true_eq]
        exact ord_zero l0 l1
      · exact walk_no A0 c0 l0 A1 c1 l1 A2 c2 l2 w (.inr ⟨h0, .inr ⟨h1, by omega⟩⟩)
    · exact walk_no A0 c0 l0 A1 c1 l1 A2 c2 l2 w (.inr ⟨h0, .inl (by omega)⟩)
  · exact walk_no A0 c0 l0 A1 c1 l1 A2 c2 l2 w (.inl (by omega))

theorem own : ownKnob Try.prog.godebug = none := by kernel_rfl

set_option maxRecDepth 100000 in
theorem lifted (os : Os) (started : os.Started) (H : Type) (enc : TypeId × Value → H) :
    ReturnsInHanded {} Try.checked os 3 .any (Rows.tupleTellsSpec.pre6 enc Try.prog Try.f3 Rows.tupleTellsRow.domain false) (Rows.tupleTellsSpec.post enc Try.prog Try.f3 false true false false) := by
  refine returnsInHanded_of_change (C := Try.checked) own started (by kernel_rfl) Try.func3
    (ChangeSpec.witness6 (enc := enc) (C := Try.checked) false ⟨#[], #[.slice none 0 0, .slice none 0 0, .slice none 0 0], []⟩ 8 (by kernel_rfl) (by kernel_rfl) (by kernel_rfl) (by kernel_rfl)) ?_
  intro W base args ds gs before hval0 hW hcnd _
  have hval : ∀ (j : Nat) t v, Try.f3.params[j]? = some t → args[j]? = some v → Value.okWide Try.prog W .any base t v := hval0
  have hW' := hW
  obtain ⟨p, q, hA0, hV, rfl, hfz, hnd⟩ := hW
  have hA : DataW.TrodAll enc Try.prog W 0 (fun _ => true) true Try.f3.params.toList args.toList ds p := hA0
  have hAk := hA
  rw [Try.params3] at hA hval
  obtain ⟨v0, vs0, d0, ds0, p0, q0, hargs, rfl, rfl, h0, r0⟩ := trodAll_cons hA
  obtain ⟨v1, vs1, d1, ds1, p1, q1, rfl, rfl, rfl, h1, r1⟩ := trodAll_cons r0
  obtain ⟨v2, vs2, d2, ds2, p2, q2, rfl, rfl, rfl, h2, r2⟩ := trodAll_cons r1
  obtain ⟨rfl, rfl, rfl⟩ := trodAll_nil r2
  obtain rfl : args = #[v0, v1, v2] := by cases args; simp_all
  obtain ⟨rfl, rfl⟩ := trodVars_none hV
  obtain ⟨A0, c0, l0, rfl, r0', k0', m0'⟩ := open_vals (okWide_slice Try.underlying22 (hval 0 22 v0 rfl rfl)) h0
  obtain ⟨A1, c1, l1, rfl, r1', k1', m1'⟩ := open_vals (okWide_slice Try.underlying22 (hval 1 22 v1 rfl rfl)) h1
  obtain ⟨A2, c2, l2, rfl, r2', q2', m2', z2'⟩ := open_nums (okWide_slice Try.underlying23 (hval 2 23 v2 rfl rfl)) h2
  clear hA0 hval0
  refine (walk A0 c0 l0 A1 c1 l1 A2 c2 l2 W r0' k0' m0' r1' k1' m1' r2' q2' m2' z2').mono fun e W' ⟨he, hg⟩ => ?_
  subst he
  refine ⟨_, rfl, post_old hW' (by simpa using hAk) (by rw [Try.params3]; decide) (fun _ _ _ => (trodAll_cons_mk (shut_bool Try.underlying4 _) trodAll_mk0)) rfl (fun _ => rfl) hg⟩

theorem proved : Rows.TupleTellsSaid :=
  OpenClaim.holds_of_wide 3 Try.f3 rfl rfl rfl rfl rfl rfl rfl ⟨rfl, rfl, rfl, rfl, rfl⟩ rfl rfl rfl rfl rfl (by kernel_rfl) Try.func3 (by kernel_rfl)
    (of_decide_eq_true (by kernel_rfl)) (by unfold Func.isWrapper; first | (rw [if_pos (by decide +kernel)]; kernel_rfl) | (rw [if_neg (by decide +kernel)]; exact ⟨rfl, rfl⟩))
    (fun os started H enc _ => lifted os started H enc)
#print axioms proved
end Go.Proofs.Ytkdiaagfjhlphaa.tupleTells

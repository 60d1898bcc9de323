/-
  TupleBack (layer 3, tuple): for every t and p the call returns true: what is picked by a permutation and then by its inverse is as it was, and the inverse's inverse is the permutation. No condition.
-/
import Derived.Test.YtkdiaagfjhlphaaRows
import Derived.Test.YtkdiaagfjhlphaaTupPick
import Derived.Test.YtkdiaagfjhlphaaTupPerm
import Derived.Test.YtkdiaagfjhlphaaTupSame
import Derived.Test.YtkdiaagfjhlphaaTupOrd
import Derived.Test.YtkdiaagfjhlphaaTupOpen
import Derived.Test.YtkdiaagfjhlphaaTupAwake
import Derived.WalkKit
import Derived.ProofKit
import Derived.OpenShut
namespace Go.Proofs.Ytkdiaagfjhlphaa.tupleBack
open Go.ChangeShapes Go.WideShapes Go.ChangeAt Go.RowKit FloM ValM
set_option linter.unusedVariables false
set_option maxHeartbeats 8000000 in
theorem walk_no (A0 : Option Addr) (c0 : Nat) (l0 : List V) (A1 : Option Addr) (c1 : Nat) (l1 : List Int) (w : World) (h : 40 < l1.length ∨ l1.length ≤ 40 ∧ 40 < l0.length) :
    Calls Try.prog 6 #[.slice A0 l0.length c0, .slice A1 l1.length c1] w fun e w' => e = .returned (.bool true) ∧ Below w.heap.size w w' := by
  have hB := Below.refl w.heap.size w
  rcases h with h | ⟨h, h2⟩
  · have h' : 40 < (l1.length : Int) := by omega
    go_enter Try.func6, Try.ntmps6
    go_wp2_with (go_at_call 10; refine (awake_any _).mono ?_; rintro e w1 ⟨rfl, h'⟩; replace hB := on hB h'; clear h')
    go_ret
    exact ⟨rfl, hB⟩
  · have h' : (l1.length : Int) ≤ 40 := by omega
    have h2' : 40 < (l0.length : Int) := by omega
    go_enter Try.func6, Try.ntmps6
    go_wp2_with (go_at_call 10; refine (awake_any _).mono ?_; rintro e w1 ⟨rfl, h'⟩; replace hB := on hB h'; clear h')
    go_ret
    exact ⟨rfl, hB⟩
set_option maxHeartbeats 8000000 in
theorem walk_bad (A0 : Option Addr) (c0 : Nat) (l0 : List V) (A1 : Option Addr) (c1 : Nat) (l1 : List Int) (w : World) (r1 : RdI w A1 l1) (h1 : l1.length ≤ 40) (h0 : l0.length ≤ 40) (hp : permB l1 = false) :
    Calls Try.prog 6 #[.slice A0 l0.length c0, .slice A1 l1.length c1] w fun e w' => e = .returned (.bool true) ∧ Below w.heap.size w w' := by
  have hB := Below.refl w.heap.size w
  have R1 := Lib.hid r1; clear r1
  have h1' : (l1.length : Int) ≤ 40 := by omega
  have h0' : (l0.length : Int) ≤ 40 := by omega
  have HQ0 := Lib.hid (show (invL l1).length = 0 by rw [inv_bad hp]; rfl)
  have HP := Lib.hid hp; clear hp
  go_enter Try.func6, Try.ntmps6
  go_wp2_with (first | (go_at_call 10; refine (awake_any _).mono ?_; rintro e w1 ⟨rfl, h'⟩; replace hB := on hB h'; clear h') | (go_at_call 14; ((with_reducible refine (inverse_any A1 c1 l1 _ (R1.out.on hB) (by omega)).mono ?_); rintro e w2 ⟨Aq, cq, rfl, r', h'⟩; rw [HQ0.out]; (try replace RQ := Lib.hid (RQ.out.on h')); (try replace RI := Lib.hid (RI.out.on h')); (try replace RX := Lib.hid (RX.out.on h')); (try replace RZ := Lib.hid (RZ.out.on h')); replace hB := on hB h'; clear h'; have RQ := Lib.hid r'; clear r')) | (go_at_call 11; ((with_reducible refine (perm_any A1 c1 l1 _ (R1.out.on hB) (by omega)).mono ?_); rintro e w2 ⟨rfl, h'⟩; rw [HP.out]; (try replace RQ := Lib.hid (RQ.out.on h')); (try replace RI := Lib.hid (RI.out.on h')); (try replace RX := Lib.hid (RX.out.on h')); (try replace RZ := Lib.hid (RZ.out.on h')); replace hB := on hB h'; clear h')))
  go_ret
  exact ⟨rfl, hB⟩
set_option maxHeartbeats 8000000 in
theorem walk_good (A0 : Option Addr) (c0 : Nat) (l0 : List V) (A1 : Option Addr) (c1 : Nat) (l1 : List Int) (w : World) (r0 : RdV w A0 l0) (m0 : l0.length ≤ maxLen) (r1 : RdI w A1 l1) (h1 : l1.length ≤ 40) (h0 : l0.length ≤ 40) (hp : permB l1 = true) :
    Calls Try.prog 6 #[.slice A0 l0.length c0, .slice A1 l1.length c1] w fun e w' => e = .returned (.bool true) ∧ Below w.heap.size w w' := by
  have hB := Below.refl w.heap.size w
  have R0 := Lib.hid r0; clear r0
  have R1 := Lib.hid r1; clear r1
  have h1' : (l1.length : Int) ≤ 40 := by omega
  have h0' : (l0.length : Int) ≤ 40 := by omega
  have hq : (invL l1).length ≤ 40 := by rw [inv_len hp]; exact h1
  have hqq : (invL (invL l1)).length ≤ 40 := by rw [inv_inv hp]; exact h1
  have HQ := Lib.hid (inv_perm hp)
  have HI := Lib.hid (show decide (invL (invL l1) = l1) = true by rw [inv_inv hp]; simp)
  by_cases hl : l0.length = l1.length
  · have f0 : ((l0.length : Int) != (l1.length : Int)) = false := by simp [hl]
    have HB1 := Lib.hid (show decide (pickL (pickL l0 l1) (invL l1) = l0) = true by rw [pick_back hp hl]; simp)
    have HB2 := Lib.hid (show decide (pickL (pickL l0 (invL l1)) l1 = l0) = true by rw [pick_forth hp hl]; simp)
    have mx : (pickL l0 l1).length ≤ maxLen := by have := pick_len l0 l1; unfold maxLen; omega
    have mz : (pickL l0 (invL l1)).length ≤ maxLen := by have := pick_len l0 (invL l1); unfold maxLen; omega
    have my : (pickL (pickL l0 l1) (invL l1)).length ≤ maxLen := by rw [pick_back hp hl]; exact m0
    have my2 : (pickL (pickL l0 (invL l1)) l1).length ≤ maxLen := by rw [pick_forth hp hl]; exact m0
    have HP := Lib.hid hp; clear hp hl
    go_enter Try.func6, Try.ntmps6
    go_wp2_with (first | (go_at_call 10; refine (awake_any _).mono ?_; rintro e w1 ⟨rfl, h'⟩; replace hB := on hB h'; clear h') | (go_at_call 14; first | ((with_reducible refine (inverse_any A1 c1 l1 _ (R1.out.on hB) (by omega)).mono ?_); rintro e w2 ⟨Aq, cq, rfl, r', h'⟩; (try replace RQ := Lib.hid (RQ.out.on h')); (try replace RI := Lib.hid (RI.out.on h')); (try replace RX := Lib.hid (RX.out.on h')); (try replace RZ := Lib.hid (RZ.out.on h')); replace hB := on hB h'; clear h'; have RQ := Lib.hid r'; clear r') | ((with_reducible refine (inverse_any Aq cq (invL l1) _ RQ.out (by omega)).mono ?_); rintro e w2 ⟨Ai, ci, rfl, r', h'⟩; (try replace RQ := Lib.hid (RQ.out.on h')); (try replace RI := Lib.hid (RI.out.on h')); (try replace RX := Lib.hid (RX.out.on h')); (try replace RZ := Lib.hid (RZ.out.on h')); replace hB := on hB h'; clear h'; have RI := Lib.hid r'; clear r')) | (go_at_call 11; first | ((with_reducible refine (perm_any A1 c1 l1 _ (R1.out.on hB) (by omega)).mono ?_); rintro e w2 ⟨rfl, h'⟩; rw [HP.out]; (try replace RQ := Lib.hid (RQ.out.on h')); (try replace RI := Lib.hid (RI.out.on h')); (try replace RX := Lib.hid (RX.out.on h')); (try replace RZ := Lib.hid (RZ.out.on h')); replace hB := on hB h'; clear h') | ((with_reducible refine (perm_any Aq cq (invL l1) _ RQ.out (by omega)).mono ?_); rintro e w2 ⟨rfl, h'⟩; rw [HQ.out]; (try replace RQ := Lib.hid (RQ.out.on h')); (try replace RI := Lib.hid (RI.out.on h')); (try replace RX := Lib.hid (RX.out.on h')); (try replace RZ := Lib.hid (RZ.out.on h')); replace hB := on hB h'; clear h')) | (go_at_call 13; refine (ints_any _ _ _ _ _ _ _ RI.out (R1.out.on hB) (by omega) (by omega)).mono ?_; rintro e w2 ⟨rfl, h'⟩; rw [HI.out]; (try replace RQ := Lib.hid (RQ.out.on h')); (try replace RI := Lib.hid (RI.out.on h')); (try replace RX := Lib.hid (RX.out.on h')); (try replace RZ := Lib.hid (RZ.out.on h')); replace hB := on hB h'; clear h') | (go_at_call 17; first | ((with_reducible refine (pick_any A0 A1 c0 c1 l0 l1 _ (R0.out.on hB) (R1.out.on hB) m0 (by omega)).mono ?_); rintro e w2 ⟨Ax, cx, rfl, r', _, h'⟩; (try replace RQ := Lib.hid (RQ.out.on h')); (try replace RI := Lib.hid (RI.out.on h')); (try replace RX := Lib.hid (RX.out.on h')); (try replace RZ := Lib.hid (RZ.out.on h')); replace hB := on hB h'; clear h'; have RX := Lib.hid r'; clear r') | ((with_reducible refine (pick_any Ax Aq cx cq (pickL l0 l1) (invL l1) _ RX.out RQ.out mx (by omega)).mono ?_); rintro e w2 ⟨Ay, cy, rfl, r', _, h'⟩; (try replace RQ := Lib.hid (RQ.out.on h')); (try replace RI := Lib.hid (RI.out.on h')); (try replace RX := Lib.hid (RX.out.on h')); (try replace RZ := Lib.hid (RZ.out.on h')); replace hB := on hB h'; clear h'; have RY := Lib.hid r'; clear r') | ((with_reducible refine (pick_any A0 Aq c0 cq l0 (invL l1) _ (R0.out.on hB) RQ.out m0 (by omega)).mono ?_); rintro e w2 ⟨Az, cz, rfl, r', _, h'⟩; (try replace RQ := Lib.hid (RQ.out.on h')); (try replace RI := Lib.hid (RI.out.on h')); (try replace RX := Lib.hid (RX.out.on h')); (try replace RZ := Lib.hid (RZ.out.on h')); replace hB := on hB h'; clear h'; have RZ := Lib.hid r'; clear r') | ((with_reducible refine (pick_any Az A1 cz c1 (pickL l0 (invL l1)) l1 _ RZ.out (R1.out.on hB) mz (by omega)).mono ?_); rintro e w2 ⟨Au, cu, rfl, r', _, h'⟩; (try replace RQ := Lib.hid (RQ.out.on h')); (try replace RI := Lib.hid (RI.out.on h')); (try replace RX := Lib.hid (RX.out.on h')); (try replace RZ := Lib.hid (RZ.out.on h')); replace hB := on hB h'; clear h'; have RU := Lib.hid r'; clear r')) | (go_at_call 21; first | ((with_reducible refine (same_any Ay A0 cy c0 _ l0 _ RY.out (R0.out.on hB) my m0).mono ?_); rintro e w2 ⟨rfl, h'⟩; rw [HB1.out]; (try replace RQ := Lib.hid (RQ.out.on h')); (try replace RI := Lib.hid (RI.out.on h')); (try replace RX := Lib.hid (RX.out.on h')); (try replace RZ := Lib.hid (RZ.out.on h')); replace hB := on hB h'; clear h') | ((with_reducible refine (same_any Au A0 cu c0 _ l0 _ RU.out (R0.out.on hB) my2 m0).mono ?_); rintro e w2 ⟨rfl, h'⟩; rw [HB2.out]; (try replace RQ := Lib.hid (RQ.out.on h')); (try replace RI := Lib.hid (RI.out.on h')); (try replace RX := Lib.hid (RX.out.on h')); (try replace RZ := Lib.hid (RZ.out.on h')); replace hB := on hB h'; clear h')))
    go_ret
    exact ⟨rfl, hB⟩
  · have f0 : ((l0.length : Int) != (l1.length : Int)) = true := by simp; omega
    have HB1 : Hid True := trivial
    have HP := Lib.hid hp; clear hp hl
    go_enter Try.func6, Try.ntmps6
    go_wp2_with (first | (go_at_call 10; refine (awake_any _).mono ?_; rintro e w1 ⟨rfl, h'⟩; replace hB := on hB h'; clear h') | (go_at_call 14; first | ((with_reducible refine (inverse_any A1 c1 l1 _ (R1.out.on hB) (by omega)).mono ?_); rintro e w2 ⟨Aq, cq, rfl, r', h'⟩; (try replace RQ := Lib.hid (RQ.out.on h')); (try replace RI := Lib.hid (RI.out.on h')); (try replace RX := Lib.hid (RX.out.on h')); (try replace RZ := Lib.hid (RZ.out.on h')); replace hB := on hB h'; clear h'; have RQ := Lib.hid r'; clear r') | ((with_reducible refine (inverse_any Aq cq (invL l1) _ RQ.out (by omega)).mono ?_); rintro e w2 ⟨Ai, ci, rfl, r', h'⟩; (try replace RQ := Lib.hid (RQ.out.on h')); (try replace RI := Lib.hid (RI.out.on h')); (try replace RX := Lib.hid (RX.out.on h')); (try replace RZ := Lib.hid (RZ.out.on h')); replace hB := on hB h'; clear h'; have RI := Lib.hid r'; clear r')) | (go_at_call 11; first | ((with_reducible refine (perm_any A1 c1 l1 _ (R1.out.on hB) (by omega)).mono ?_); rintro e w2 ⟨rfl, h'⟩; rw [HP.out]; (try replace RQ := Lib.hid (RQ.out.on h')); (try replace RI := Lib.hid (RI.out.on h')); (try replace RX := Lib.hid (RX.out.on h')); (try replace RZ := Lib.hid (RZ.out.on h')); replace hB := on hB h'; clear h') | ((with_reducible refine (perm_any Aq cq (invL l1) _ RQ.out (by omega)).mono ?_); rintro e w2 ⟨rfl, h'⟩; rw [HQ.out]; (try replace RQ := Lib.hid (RQ.out.on h')); (try replace RI := Lib.hid (RI.out.on h')); (try replace RX := Lib.hid (RX.out.on h')); (try replace RZ := Lib.hid (RZ.out.on h')); replace hB := on hB h'; clear h')) | (go_at_call 13; refine (ints_any _ _ _ _ _ _ _ RI.out (R1.out.on hB) (by omega) (by omega)).mono ?_; rintro e w2 ⟨rfl, h'⟩; rw [HI.out]; (try replace RQ := Lib.hid (RQ.out.on h')); (try replace RI := Lib.hid (RI.out.on h')); (try replace RX := Lib.hid (RX.out.on h')); (try replace RZ := Lib.hid (RZ.out.on h')); replace hB := on hB h'; clear h'))
    go_ret
    exact ⟨rfl, hB⟩
theorem walk (A0 : Option Addr) (c0 : Nat) (l0 : List V) (A1 : Option Addr) (c1 : Nat) (l1 : List Int) (w : World) (r0 : RdV w A0 l0) (k0 : OkL l0) (m0 : l0.length ≤ maxLen) (r1 : RdI w A1 l1) (q1 : l1.length ≤ c1) (m1 : l1.length ≤ maxLen) (z1 : A1 = none → c1 = 0) :
    Calls Try.prog 6 #[.slice A0 l0.length c0, .slice A1 l1.length c1] w fun e w' => e = .returned (.bool true) ∧ Below w.heap.size w w' := by
  by_cases h1 : l1.length ≤ 40
  · by_cases h0 : l0.length ≤ 40
    · cases hp : permB l1 with
      | true => exact walk_good A0 c0 l0 A1 c1 l1 w r0 m0 r1 h1 h0 hp
      | false => exact walk_bad A0 c0 l0 A1 c1 l1 w r1 h1 h0 hp
    · exact walk_no A0 c0 l0 A1 c1 l1 w (.inr ⟨h1, by omega⟩)
  · exact walk_no A0 c0 l0 A1 c1 l1 w (.inl (by omega))

theorem own : ownKnob Try.prog.godebug = none := by kernel_rfl

set_option maxRecDepth 100000 in
theorem lifted (os : Os) (started : os.Started) (H : Type) (enc : TypeId × Value → H) :
    ReturnsInHanded {} Try.checked os 6 .any (Rows.tupleBackSpec.pre6 enc Try.prog Try.f6 Rows.tupleBackRow.domain false) (Rows.tupleBackSpec.post enc Try.prog Try.f6 false true false false) := by
  refine returnsInHanded_of_change (C := Try.checked) own started (by kernel_rfl) Try.func6
    (ChangeSpec.witness6 (enc := enc) (C := Try.checked) false ⟨#[], #[.slice none 0 0, .slice none 0 0], []⟩ 8 (by kernel_rfl) (by kernel_rfl) (by kernel_rfl) (by kernel_rfl)) ?_
  intro W base args ds gs before hval0 hW hcnd _
  have hval : ∀ (j : Nat) t v, Try.f6.params[j]? = some t → args[j]? = some v → Value.okWide Try.prog W .any base t v := hval0
  have hW' := hW
  obtain ⟨p, q, hA0, hV, rfl, hfz, hnd⟩ := hW
  have hA : DataW.TrodAll enc Try.prog W 0 (fun _ => true) true Try.f6.params.toList args.toList ds p := hA0
  have hAk := hA
  rw [Try.params6] at hA hval
  obtain ⟨v0, vs0, d0, ds0, p0, q0, hargs, rfl, rfl, h0, r0⟩ := trodAll_cons hA
  obtain ⟨v1, vs1, d1, ds1, p1, q1, rfl, rfl, rfl, h1, r1⟩ := trodAll_cons r0
  obtain ⟨rfl, rfl, rfl⟩ := trodAll_nil r1
  obtain rfl : args = #[v0, v1] := by cases args; simp_all
  obtain ⟨rfl, rfl⟩ := trodVars_none hV
  obtain ⟨A0, c0, l0, rfl, r0', k0', m0'⟩ := open_vals (okWide_slice Try.underlying22 (hval 0 22 v0 rfl rfl)) h0
  obtain ⟨A1, c1, l1, rfl, r1', q1', m1', z1'⟩ := open_nums (okWide_slice Try.underlying23 (hval 1 23 v1 rfl rfl)) h1
  clear hA0 hval0
  refine (walk A0 c0 l0 A1 c1 l1 W r0' k0' m0' r1' q1' m1' z1').mono fun e W' ⟨he, hg⟩ => ?_
  subst he
  refine ⟨_, rfl, post_old hW' (by simpa using hAk) (by rw [Try.params6]; decide) (fun _ _ _ => (trodAll_cons_mk (shut_bool Try.underlying4 _) trodAll_mk0)) rfl (fun _ => rfl) hg⟩

theorem proved : Rows.TupleBackSaid :=
  OpenClaim.holds_of_wide 6 Try.f6 rfl rfl rfl rfl rfl rfl rfl ⟨rfl, rfl, rfl, rfl, rfl⟩ rfl rfl rfl rfl rfl (by kernel_rfl) Try.func6 (by kernel_rfl)
    (of_decide_eq_true (by kernel_rfl)) (by unfold Func.isWrapper; first | (rw [if_pos (by decide +kernel)]; kernel_rfl) | (rw [if_neg (by decide +kernel)]; exact ⟨rfl, rfl⟩))
    (fun os started H enc _ => lifted os started H enc)
#print axioms proved
end Go.Proofs.Ytkdiaagfjhlphaa.tupleBack

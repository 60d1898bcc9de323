/-
  TupleHead (layer 3, tuple): for every a, b, p and many the call returns true: tuples that are unlike by the first columns of a permutation lie as these do. No condition.
-/
import Derived.Test.YtkdiaagfjhlphaaRows
import Derived.Test.YtkdiaagfjhlphaaTupCmp
import Derived.Test.YtkdiaagfjhlphaaTupPerm
import Derived.Test.YtkdiaagfjhlphaaTupOrd
import Derived.Test.YtkdiaagfjhlphaaTupOpen
import Derived.Test.YtkdiaagfjhlphaaTupAwake
import Derived.WalkKit
import Derived.ProofKit
import Derived.OpenShut
namespace Go.Proofs.Ytkdiaagfjhlphaa.tupleHead
open Go.ChangeShapes Go.WideShapes Go.ChangeAt Go.RowKit FloM ValM
set_option linter.unusedVariables false
set_option maxHeartbeats 8000000 in
theorem walk_no (A0 : Option Addr) (c0 : Nat) (l0 : List V) (A1 : Option Addr) (c1 : Nat) (l1 : List V) (A2 : Option Addr) (c2 : Nat) (l2 : List Int) (a3 : Int) (w : World) (r2 : RdI w A2 l2)
    (h : 40 < l2.length ∨ l2.length ≤ 40 ∧ (l0.length ≠ l2.length ∨ l0.length = l2.length ∧ (l1.length ≠ l2.length ∨ l1.length = l2.length ∧ permB l2 = false))) :
    Calls Try.prog 7 #[.slice A0 l0.length c0, .slice A1 l1.length c1, .slice A2 l2.length c2, .int .u8 a3] w fun e w' => e = .returned (.bool true) ∧ Below w.heap.size w w' := by
  have hB := Below.refl w.heap.size w
  have R2 := Lib.hid r2; clear r2
  rcases h with h | ⟨h0, h | ⟨e1, h | ⟨e2, hp⟩⟩⟩
  · have h' : 40 < (l2.length : Int) := by omega
    have HP : Hid (permB l2 = permB l2) := rfl
    go_enter Try.func7, Try.ntmps7
    go_wp2_with (first | (go_at_call 10; refine (awake_any _).mono ?_; rintro e w1 ⟨rfl, h'⟩; replace hB := on hB h'; clear h') | (go_at_call 11; refine (perm_any _ _ _ _ (R2.out.on hB) (by omega)).mono ?_; rintro e w2 ⟨rfl, h'⟩; rw [HP.out]; replace hB := on hB h'; clear h'))
    go_ret
    exact ⟨rfl, hB⟩
  · have h' : (l2.length : Int) ≤ 40 := by omega
    have f0 : ((l0.length : Int) != (l2.length : Int)) = true := by simp; omega
    have HP : Hid (permB l2 = permB l2) := rfl
    clear h
    go_enter Try.func7, Try.ntmps7
    go_wp2_with (first | (go_at_call 10; refine (awake_any _).mono ?_; rintro e w1 ⟨rfl, h'⟩; replace hB := on hB h'; clear h') | (go_at_call 11; refine (perm_any _ _ _ _ (R2.out.on hB) (by omega)).mono ?_; rintro e w2 ⟨rfl, h'⟩; rw [HP.out]; replace hB := on hB h'; clear h'))
    go_ret
    exact ⟨rfl, hB⟩
  · have h' : (l2.length : Int) ≤ 40 := by omega
    have f0 : ((l0.length : Int) != (l2.length : Int)) = false := by simp [e1]
    have f1 : ((l1.length : Int) != (l2.length : Int)) = true := by simp; omega
    have HP : Hid (permB l2 = permB l2) := rfl
    clear h e1
    go_enter Try.func7, Try.ntmps7
    go_wp2_with (first | (go_at_call 10; refine (awake_any _).mono ?_; rintro e w1 ⟨rfl, h'⟩; replace hB := on hB h'; clear h') | (go_at_call 11; refine (perm_any _ _ _ _ (R2.out.on hB) (by omega)).mono ?_; rintro e w2 ⟨rfl, h'⟩; rw [HP.out]; replace hB := on hB h'; clear h'))
    go_ret
    exact ⟨rfl, hB⟩
  · have h' : (l2.length : Int) ≤ 40 := by omega
    have f0 : ((l0.length : Int) != (l2.length : Int)) = false := by simp [e1]
    have f1 : ((l1.length : Int) != (l2.length : Int)) = false := by simp [e2]
    have HP := Lib.hid hp
    clear hp e1 e2
    go_enter Try.func7, Try.ntmps7
    go_wp2_with (first | (go_at_call 10; refine (awake_any _).mono ?_; rintro e w1 ⟨rfl, h'⟩; replace hB := on hB h'; clear h') | (go_at_call 11; refine (perm_any _ _ _ _ (R2.out.on hB) (by omega)).mono ?_; rintro e w2 ⟨rfl, h'⟩; rw [HP.out]; replace hB := on hB h'; clear h'))
    go_ret
    exact ⟨rfl, hB⟩
set_option maxHeartbeats 8000000 in
theorem walk_yes (A0 : Option Addr) (c0 : Nat) (l0 : List V) (A1 : Option Addr) (c1 : Nat) (l1 : List V) (ad : Addr) (c2 : Nat) (l2 : List Int) (a3 : Int) (w : World) (r0 : RdV w A0 l0) (r1 : RdV w A1 l1) (r2 : RdI w (some ad) l2) (m0 : l0.length ≤ maxLen) (m1 : l1.length ≤ maxLen) (m2 : l2.length ≤ maxLen) (q2 : l2.length ≤ c2) (g0 : 0 ≤ a3) (g1 : a3 < 256)
    (h0 : l2.length ≤ 40) (e0 : l0.length = l2.length) (e1 : l1.length = l2.length) (hp : permB l2 = true) :
    Calls Try.prog 7 #[.slice A0 l0.length c0, .slice A1 l1.length c1, .slice (some ad) l2.length c2, .int .u8 a3] w fun e w' => e = .returned (.bool true) ∧ Below w.heap.size w w' := by
  have hB := Below.refl w.heap.size w
  have h' : (l2.length : Int) ≤ 40 := by omega
  have f0 : ((l0.length : Int) != (l2.length : Int)) = false := by simp [e0]
  have f1 : ((l1.length : Int) != (l2.length : Int)) = false := by simp [e1]
  obtain ⟨N, hN, hNl⟩ : ∃ N : Nat, a3 % ((l2.length : Int) + 1) = N ∧ N ≤ l2.length := by
    have h1 := Int.emod_nonneg a3 (show ((l2.length : Int) + 1) ≠ 0 by omega)
    have h2 := Int.emod_lt_of_pos a3 (show 0 < ((l2.length : Int) + 1) by omega)
    exact ⟨(a3 % ((l2.length : Int) + 1)).toNat, by omega, by omega⟩
  have hhd := pick_head (a := l0) (b := l1) (perm_in hp e0) (perm_in hp e1) N
  have g := ord_range (pickL l0 (l2.take N)) (pickL l1 (l2.take N))
  have gx := ord_range (pickL l0 l2) (pickL l1 l2)
  have hlen : (l2.take N).length = N := by rw [List.length_take]; omega
  have HP := Lib.hid hp; clear hp e0 e1
  have rt : RdI w (some ad) (l2.take N) := fun i x hx => r2 i x (by
    rw [List.getElem?_take] at hx
    split at hx
    · exact hx
    · cases hx)
  generalize hx : ordV (pickL l0 l2) (pickL l1 l2) = x at hhd gx
  have HX := Lib.hid hx; clear hx
  have hc : ∀ u, Below w.heap.size w u → Calls Try.prog 22 #[.slice A0 l0.length c0, .slice A1 l1.length c1, .slice (some ad) N c2] u (SaysI (ordV (pickL l0 (l2.take N)) (pickL l1 (l2.take N))) u) := fun u hu => by
    have := compareT_any A0 A1 (some ad) c0 c1 c2 l0 l1 (l2.take N) u (r0.on hu) (r1.on hu) (rt.on hu) m0 m1 (by rw [hlen]; unfold maxLen; omega)
    rwa [hlen] at this
  generalize ordV (pickL l0 (l2.take N)) (pickL l1 (l2.take N)) = y at hhd g hc
  generalize ordV (pickL l0 (l2.drop N)) (pickL l1 (l2.drop N)) = z at hhd
  have HH := Lib.hid hc; clear hc hlen rt
  have R0 := Lib.hid r0; have R1 := Lib.hid r1; have R2 := Lib.hid r2
  clear r0 r1 r2
  rcases g with rfl | rfl | rfl
  · rw [if_neg (by decide)] at hhd; subst hhd; clear gx
    go_enter Try.func7, Try.ntmps7
    go_wp2_with (first | (go_at_call 10; refine (awake_any _).mono ?_; rintro e w1 ⟨rfl, h'⟩; replace hB := on hB h'; clear h') | (go_at_call 11; refine (perm_any _ _ _ _ (R2.out.on hB) (by omega)).mono ?_; rintro e w2 ⟨rfl, h'⟩; rw [HP.out]; replace hB := on hB h'; clear h') | (go_at_call 22; first | ((with_reducible refine (compareT_any A0 A1 (some ad) c0 c1 c2 l0 l1 l2 _ (R0.out.on hB) (R1.out.on hB) (R2.out.on hB) m0 m1 m2).mono ?_); rintro e w2 ⟨rfl, h'⟩; rw [HX.out]; replace hB := on hB h'; clear h') | ((with_reducible refine (HH.out _ hB).mono ?_); rintro e w2 ⟨rfl, h'⟩; replace hB := on hB h'; clear h')))
    go_ret
    exact ⟨rfl, hB⟩
  · clear hhd
    rcases gx with rfl | rfl | rfl
    all_goals
      go_enter Try.func7, Try.ntmps7
      go_wp2_with (first | (go_at_call 10; refine (awake_any _).mono ?_; rintro e w1 ⟨rfl, h'⟩; replace hB := on hB h'; clear h') | (go_at_call 11; refine (perm_any _ _ _ _ (R2.out.on hB) (by omega)).mono ?_; rintro e w2 ⟨rfl, h'⟩; rw [HP.out]; replace hB := on hB h'; clear h') | (go_at_call 22; first | ((with_reducible refine (compareT_any A0 A1 (some ad) c0 c1 c2 l0 l1 l2 _ (R0.out.on hB) (R1.out.on hB) (R2.out.on hB) m0 m1 m2).mono ?_); rintro e w2 ⟨rfl, h'⟩; rw [HX.out]; replace hB := on hB h'; clear h') | ((with_reducible refine (HH.out _ hB).mono ?_); rintro e w2 ⟨rfl, h'⟩; replace hB := on hB h'; clear h')))
      go_ret
      exact ⟨rfl, hB⟩
  · rw [if_neg (by decide)] at hhd; subst hhd; clear gx
    go_enter Try.func7, Try.ntmps7
    go_wp2_with (first | (go_at_call 10; refine (awake_any _).mono ?_; rintro e w1 ⟨rfl, h'⟩; replace hB := on hB h'; clear h') | (go_at_call 11; refine (perm_any _ _ _ _ (R2.out.on hB) (by omega)).mono ?_; rintro e w2 ⟨rfl, h'⟩; rw [HP.out]; replace hB := on hB h'; clear h') | (go_at_call 22; first | ((with_reducible refine (compareT_any A0 A1 (some ad) c0 c1 c2 l0 l1 l2 _ (R0.out.on hB) (R1.out.on hB) (R2.out.on hB) m0 m1 m2).mono ?_); rintro e w2 ⟨rfl, h'⟩; rw [HX.out]; replace hB := on hB h'; clear h') | ((with_reducible refine (HH.out _ hB).mono ?_); rintro e w2 ⟨rfl, h'⟩; replace hB := on hB h'; clear h')))
    go_ret
    exact ⟨rfl, hB⟩
set_option maxHeartbeats 8000000 in
theorem walk_nil (A0 : Option Addr) (c0 : Nat) (A1 : Option Addr) (c1 : Nat) (a3 : Int) (w : World) (g0 : 0 ≤ a3) (g1 : a3 < 256) :
    Calls Try.prog 7 #[.slice A0 0 c0, .slice A1 0 c1, .slice none 0 0, .int .u8 a3] w fun e w' => e = .returned (.bool true) ∧ Below w.heap.size w w' := by
  have hB := Below.refl w.heap.size w
  have hN : a3 % 1 = 0 := by omega
  have HP := Lib.hid (show permB [] = true from rfl)
  have HX := Lib.hid (show ordV (pickL [] []) (pickL [] []) = 0 from rfl)
  go_enter Try.func7, Try.ntmps7
  go_wp2_with (first | (go_at_call 10; refine (awake_any _).mono ?_; rintro e w1 ⟨rfl, h'⟩; replace hB := on hB h'; clear h') | (go_at_call 11; refine (perm_any none 0 [] _ RdI.nil (by decide)).mono ?_; rintro e w2 ⟨rfl, h'⟩; rw [HP.out]; replace hB := on hB h'; clear h') | (go_at_call 22; refine (compareT_any A0 A1 none c0 c1 0 [] [] [] _ RdV.nil RdV.nil RdI.nil (by decide) (by decide) (by decide)).mono ?_; rintro e w2 ⟨rfl, h'⟩; rw [HX.out]; replace hB := on hB h'; clear h'))
  go_ret
  exact ⟨rfl, hB⟩
theorem walk (A0 : Option Addr) (c0 : Nat) (l0 : List V) (A1 : Option Addr) (c1 : Nat) (l1 : List V) (A2 : Option Addr) (c2 : Nat) (l2 : List Int) (a3 : Int) (w : World) (r0 : RdV w A0 l0) (k0 : OkL l0) (m0 : l0.length ≤ maxLen) (r1 : RdV w A1 l1) (k1 : OkL l1) (m1 : l1.length ≤ maxLen) (r2 : RdI w A2 l2) (q2 : l2.length ≤ c2) (m2 : l2.length ≤ maxLen) (z2 : A2 = none → c2 = 0) (w3 : (Lit.int .u8 a3).wf = true) :
    Calls Try.prog 7 #[.slice A0 l0.length c0, .slice A1 l1.length c1, .slice A2 l2.length c2, .int .u8 a3] w fun e w' => e = .returned (.bool true) ∧ Below w.heap.size w w' := by
  have g : 0 ≤ a3 ∧ a3 < 256 := by simp [Lit.wf, IntKind.min, IntKind.max, IntKind.bits, IntKind.signed] at w3; omega
  by_cases h : l2.length ≤ 40 ∧ l0.length = l2.length ∧ l1.length = l2.length ∧ permB l2 = true
  · cases A2 with
    | some ad => exact walk_yes A0 c0 l0 A1 c1 l1 ad c2 l2 a3 w r0 r1 r2 m0 m1 m2 q2 g.1 g.2 h.1 h.2.1 h.2.2.1 h.2.2.2
    | none =>
      have hc := z2 rfl
      subst hc
      have e2 : l2 = [] := by
        cases l2 with
        | nil => rfl
        | cons x r => obtain ⟨b, o, e, _⟩ := r2 0 x rfl; cases e
      subst e2
      obtain rfl : l0 = [] := List.eq_nil_of_length_eq_zero h.2.1
      obtain rfl : l1 = [] := List.eq_nil_of_length_eq_zero h.2.2.1
      exact walk_nil A0 c0 A1 c1 a3 w g.1 g.2
  · refine walk_no A0 c0 l0 A1 c1 l1 A2 c2 l2 a3 w r2 ?_
    cases hb : permB l2 <;> simp [hb] at h ⊢ <;> omega

theorem own : ownKnob Try.prog.godebug = none := by kernel_rfl

set_option maxRecDepth 100000 in
theorem lifted (os : Os) (started : os.Started) (H : Type) (enc : TypeId × Value → H) :
    ReturnsInHanded {} Try.checked os 7 .any (Rows.tupleHeadSpec.pre6 enc Try.prog Try.f7 Rows.tupleHeadRow.domain false) (Rows.tupleHeadSpec.post enc Try.prog Try.f7 false true false false) := by
  refine returnsInHanded_of_change (C := Try.checked) own started (by kernel_rfl) Try.func7
    (ChangeSpec.witness6 (enc := enc) (C := Try.checked) false ⟨#[], #[.slice none 0 0, .slice none 0 0, .slice none 0 0, .int .u8 0], []⟩ 8 (by kernel_rfl) (by kernel_rfl) (by kernel_rfl) (by kernel_rfl)) ?_
  intro W base args ds gs before hval0 hW hcnd _
  have hval : ∀ (j : Nat) t v, Try.f7.params[j]? = some t → args[j]? = some v → Value.okWide Try.prog W .any base t v := hval0
  have hW' := hW
  obtain ⟨p, q, hA0, hV, rfl, hfz, hnd⟩ := hW
  have hA : DataW.TrodAll enc Try.prog W 0 (fun _ => true) true Try.f7.params.toList args.toList ds p := hA0
  have hAk := hA
  rw [Try.params7] at hA hval
  obtain ⟨v0, vs0, d0, ds0, p0, q0, hargs, rfl, rfl, h0, r0⟩ := trodAll_cons hA
  obtain ⟨v1, vs1, d1, ds1, p1, q1, rfl, rfl, rfl, h1, r1⟩ := trodAll_cons r0
  obtain ⟨v2, vs2, d2, ds2, p2, q2, rfl, rfl, rfl, h2, r2⟩ := trodAll_cons r1
  obtain ⟨v3, vs3, d3, ds3, p3, q3, rfl, rfl, rfl, h3, r3⟩ := trodAll_cons r2
  obtain ⟨rfl, rfl, rfl⟩ := trodAll_nil r3
  obtain rfl : args = #[v0, v1, v2, v3] := by cases args; simp_all
  obtain ⟨rfl, rfl⟩ := trodVars_none hV
  obtain ⟨A0, c0, l0, rfl, r0', k0', m0'⟩ := open_vals (okWide_slice Try.underlying22 (hval 0 22 v0 rfl rfl)) h0
  obtain ⟨A1, c1, l1, rfl, r1', k1', m1'⟩ := open_vals (okWide_slice Try.underlying22 (hval 1 22 v1 rfl rfl)) h1
  obtain ⟨A2, c2, l2, rfl, r2', q2', m2', z2'⟩ := open_nums (okWide_slice Try.underlying23 (hval 2 23 v2 rfl rfl)) h2
  obtain ⟨a3, rfl, rfl, rfl, w3⟩ := open_int Try.underlying5 (hval 3 5 v3 rfl rfl) h3
  clear hA0 hval0
  refine (walk A0 c0 l0 A1 c1 l1 A2 c2 l2 a3 W r0' k0' m0' r1' k1' m1' r2' q2' m2' z2' w3).mono fun e W' ⟨he, hg⟩ => ?_
  subst he
  refine ⟨_, rfl, post_old hW' (by simpa using hAk) (by rw [Try.params7]; decide) (fun _ _ _ => (trodAll_cons_mk (shut_bool Try.underlying4 _) trodAll_mk0)) rfl (fun _ => rfl) hg⟩

theorem proved : Rows.TupleHeadSaid :=
  OpenClaim.holds_of_wide 7 Try.f7 rfl rfl rfl rfl rfl rfl rfl ⟨rfl, rfl, rfl, rfl, rfl⟩ rfl rfl rfl rfl rfl (by kernel_rfl) Try.func7 (by kernel_rfl)
    (of_decide_eq_true (by kernel_rfl)) (by unfold Func.isWrapper; first | (rw [if_pos (by decide +kernel)]; kernel_rfl) | (rw [if_neg (by decide +kernel)]; exact ⟨rfl, rfl⟩))
    (fun os started H enc _ => lifted os started H enc)
#print axioms proved
end Go.Proofs.Ytkdiaagfjhlphaa.tupleHead

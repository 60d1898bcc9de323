/-
  BtreeDeep (layer 4, btree): for every l and up the call returns true: no tuple lies deeper than may be, in whatever order they were put. No condition.
-/
import Derived.Test.YtdpflmbnomeaaaaRows
import Derived.Test.YtdpflmbnomeaaaaBtRef
import Derived.Test.YtdpflmbnomeaaaaBtOpen
import Derived.Test.YtdpflmbnomeaaaaBtAwake
import Derived.WalkKit
import Derived.ProofKit
import Derived.OpenShut
namespace Go.Proofs.Ytdpflmbnomeaaaa.btreeDeep
open Go.ChangeShapes Go.WideShapes Go.ChangeAt Go.RowKit FloM ValM
set_option linter.unusedVariables false
set_option linter.unusedSimpArgs false
def tup (n : Int) : List V := [⟨1, n, ByteArray.empty⟩]
structure DeepI (w : World) (g : Nat) (n k : Nat) (up : Bool) (M : List (List V)) (W : World) : Prop where
  t : TreeS (· = g) W g [0] M
  b : Below w.heap.size w W
  g0 : w.heap.size ≤ g
  le : M.length ≤ k
  kn : k ≤ n
  z : k = 0 ↔ M.length = 0
  u : up = true → M.length = k ∧ ∀ x ∈ M, ∃ j : Nat, j < k ∧ x = tup j
theorem tup_new {M : List (List V)} {k : Nat} (h : ∀ x ∈ M, ∃ j : Nat, j < k ∧ x = tup j) : inS [0] (tup k) M = false := by
  refine inS_not.2 fun z hz h0 => ?_
  obtain ⟨j, hj, rfl⟩ := h z hz
  rw [cmpC_zero (by decide) rfl rfl] at h0
  simp only [tup, List.cons.injEq, V.mk.injEq, and_true, true_and] at h0
  omega
theorem put_tup (n : Int) (M : List (List V)) : putM [0] (tup n) M = insS [0] (tup n) M := by unfold putM; rw [if_pos (show (tup n).length = ([0] : List Int).length from rfl)]
theorem ins_pos (p : List Int) (a : List V) : ∀ M : List (List V), 1 ≤ (insS p a M).length
  | [] => by simp [insS]
  | z :: M => by rw [insS]; split <;> (try split) <;> simp
theorem DeepI.next {w W W' : World} {g n k : Nat} {up : Bool} {M : List (List V)} {x : Int} {o : Obj} (h : DeepI w g n k up M W) (hk : k < n) (hx : up = true → x = (k : Int)) (ht : TreeS (· = g) W' g [0] (putM [0] (tup x) M)) (hF : Fr (· = g) (W.alloc o).heap.size (W.alloc o) W') :
    DeepI w g n (k + 1) up (putM [0] (tup x) M) W' := by
  have hb1 : Below w.heap.size w (W.alloc o) := h.b.alloc h.b.size o
  have hp := ins_pos [0] (tup x) M
  have hl := put_len [0] (tup x) M
  have hle := h.le
  rw [put_tup] at hl ⊢
  refine ⟨by rwa [put_tup] at ht, hb1.trans (hF.below hb1.size fun k hk e => by have := h.g0; omega), h.g0, by omega, by omega, by omega, fun hu => ?_⟩
  obtain ⟨e1, e2⟩ := h.u hu
  obtain rfl := hx hu
  have hn := tup_new e2
  refine ⟨by rw [ins_new_len _ _ _ hn]; omega, fun y hy => ?_⟩
  rcases (ins_mem hn).1 hy with rfl | hy
  · exact ⟨k, by omega, rfl⟩
  · obtain ⟨j, hj, e⟩ := e2 y hy; exact ⟨j, by omega, e⟩
theorem deep_pos {m : Nat} (h : m ≠ 0) : 1 ≤ deepestN m := by rw [deepestN, if_neg (by omega)]; omega
theorem deep_zero {m : Nat} : deepestN m = 0 ↔ m = 0 := by
  constructor
  · intro h; apply Classical.byContradiction; intro h2; have := deep_pos h2; omega
  · rintro rfl; rfl
theorem deep_small : ∀ m : Nat, deepestN m ≤ m + 1 := fun m => by
  have hlg : ∀ k : Nat, lg4 k ≤ k := fun k => by
    induction k using Nat.strongRecOn with
    | _ k ih =>
      rw [lg4]; split
      · omega
      · have := ih (k / 4) (by omega); omega
  unfold deepestN; split
  · omega
  · have := hlg ((m + 1) / 2); omega
set_option maxHeartbeats 4000000 in
theorem walk_long (A0 : Option Addr) (c0 : Nat) (l0 : List Int) (a1 : Bool) (w : World) (h : 600 < l0.length) :
    Calls Try.prog 4 #[.slice A0 l0.length c0, .bool a1] w fun e w' => e = .returned (.bool true) ∧ Below w.heap.size w w' := by
  have hB := Below.refl w.heap.size w
  have h' : 600 < (l0.length : Int) := by omega
  go_enter Try.func4, Try.ntmps4
  go_wp2_with (first | (go_at_call 15; refine (awake_any _).mono ?_; rintro e w1 ⟨rfl, h'⟩; replace hB := on hB h'; clear h'))
  go_ret
  exact ⟨rfl, hB⟩
set_option maxRecDepth 20000 in
set_option maxHeartbeats 8000000 in
theorem walk_yes (A0 : Option Addr) (c0 : Nat) (l0 : List Int) (a1 : Bool) (w : World) (r0 : RdJ w A0 l0) (h : l0.length ≤ 600) :
    Calls Try.prog 4 #[.slice A0 l0.length c0, .bool a1] w fun e w' => e = .returned (.bool true) ∧ Below w.heap.size w w' := by
  have hB := Below.refl w.heap.size w
  have h' : ¬ 600 < (l0.length : Int) := by omega
  have R0 := Lib.hid r0; clear r0
  go_enter Try.func4, Try.ntmps4
  go_wp2_with (first
    | (go_at_call 15; refine (awake_any _).mono ?_; rintro e w1 ⟨rfl, h'⟩; replace hB := on hB h'; clear h')
    | (go_at_call 17; refine (new_any (some ⟨w1.heap.size, 0, none⟩) 1 [0] _ (by decide) (rdI_new w1 [0] _) (by decide)).mono ?_; rintro e w2 ⟨g, P, cp, rfl, N⟩; have hT := Lib.hid (TreeS.one N (by decide) (by decide)); have hG : w.heap.size ≤ g := (by have h1 := hB.size; have h2 := N.fresh; simp at h2; omega); replace hB := hB.trans ((((Below.refl _ _).alloc (Nat.le_refl _) _).trans (N.b.mono (by simp))).mono hB.size); clear N))
  go_loopw [24] (fun v wr => ∃ (k : Nat) (M : List (List V)), v = .int .i64 (k : Nat) ∧ DeepI w g l0.length k a1 M wr) (fun v _ => l0.length - (intOf v).toNat)
  case atStart => exact ⟨0, [], rfl, hT.out, hB, hG, Nat.le_refl _, Nat.zero_le _, by simp, fun _ => ⟨rfl, fun x hx => by cases hx⟩⟩
  case round =>
    obtain ⟨k, M, rfl, hD⟩ := hrel
    clear hB hT hG
    have hle := hD.le
    have HD := Lib.hid hD; clear hD
    by_cases hlt : k < l0.length
    · have hx := List.getElem?_eq_getElem hlt
      generalize l0[k] = x at hx
      obtain ⟨⟨b, o, rfl, hb, hc⟩, hx1, hx2⟩ := (R0.out.on HD.out.b) k x hx
      clear hx
      cases a1
      · go_wp2_with (first
          | (go_at_call 19; refine (putS_any (some ⟨wr.heap.size, 0, none⟩) 1 (tup x) _ (HD.out.t.on ((Below.refl _ _).alloc (Nat.le_refl _) _)) (rdV_new wr (tup x) _) (by have := HD.out.kn; omega) (fun i hi => by subst hi; have := HD.out.t.lt; simp; omega)).mono ?_; rintro e w3 ⟨rfl, ht, hF⟩; have hE := Lib.hid (HD.out.next hlt (fun h => by cases h) ht hF); clear ht hF; obtain ⟨m, hm⟩ : ∃ m, (putM [0] (tup x) M).length = m := ⟨_, rfl⟩; have hm0 : m ≠ 0 := (by have := hE.out.z; omega); have hm1 : m ≤ 1000 := (by have := hE.out.le; have := hE.out.kn; omega); have hd1 : ¬ ((deepestN m : Nat) : Int) < 1 := (by have := deep_pos hm0; omega); replace hm := Lib.hid hm)
          | (go_at_call 29; refine (deepS_any _ hE.out.t).mono ?_; rw [hm.out]; rintro e w4 ⟨rfl, rfl⟩)
          | (go_at_call 21; refine (lenS_any _ hE.out.t).mono ?_; rw [hm.out]; rintro e w4 ⟨rfl, rfl⟩)
          | (go_at_call 30; refine (deepest_any m _ (by omega)).mono ?_; rintro e w4 ⟨rfl, rfl⟩))
        go_roundw
        case rel => exact ⟨k + 1, _, by go_num, hE.out⟩
        case measure => simp [intOf]; omega
      · go_wp2_with (first
          | (go_at_call 19; refine (putS_any (some ⟨wr.heap.size, 0, none⟩) 1 (tup k) _ (HD.out.t.on ((Below.refl _ _).alloc (Nat.le_refl _) _)) (rdV_new wr (tup k) _) (by have := HD.out.kn; omega) (fun i hi => by subst hi; have := HD.out.t.lt; simp; omega)).mono ?_; rintro e w3 ⟨rfl, ht, hF⟩; have hE := Lib.hid (HD.out.next hlt (fun _ => rfl) ht hF); clear ht hF; obtain ⟨m, hm⟩ : ∃ m, (putM [0] (tup k) M).length = m := ⟨_, rfl⟩; have hm0 : m ≠ 0 := (by have := hE.out.z; omega); have hm1 : m ≤ 1000 := (by have := hE.out.le; have := hE.out.kn; omega); have hd1 : ¬ ((deepestN m : Nat) : Int) < 1 := (by have := deep_pos hm0; omega); replace hm := Lib.hid hm)
          | (go_at_call 29; refine (deepS_any _ hE.out.t).mono ?_; rw [hm.out]; rintro e w4 ⟨rfl, rfl⟩)
          | (go_at_call 21; refine (lenS_any _ hE.out.t).mono ?_; rw [hm.out]; rintro e w4 ⟨rfl, rfl⟩)
          | (go_at_call 30; refine (deepest_any m _ (by omega)).mono ?_; rintro e w4 ⟨rfl, rfl⟩))
        go_roundw
        case rel => exact ⟨k + 1, _, by go_num, hE.out⟩
        case measure => simp [intOf]; omega
    · obtain rfl : k = l0.length := by have := HD.out.kn; omega
      obtain ⟨m, hm⟩ : ∃ m, M.length = m := ⟨_, rfl⟩
      have hz : (((deepestN m : Nat) : Int) == 0) = ((l0.length : Int) == 0) := by
        have h1 := HD.out.z; have h2 := deep_zero (m := m)
        rw [Bool.eq_iff_iff, beq_iff_eq, beq_iff_eq]; omega
      have hu : a1 = true → m = l0.length := fun h => by rw [← hm]; exact (HD.out.u h).1
      have HM := Lib.hid hm; clear hm
      cases a1
      · go_wp2_with (first
          | (go_at_call 29; refine (deepS_any _ HD.out.t).mono ?_; rw [HM.out]; rintro e w4 ⟨rfl, rfl⟩)
          | (go_at_call 21; refine (lenS_any _ HD.out.t).mono ?_; rw [HM.out]; rintro e w4 ⟨rfl, rfl⟩))
        go_ret
        exact ⟨rfl, HD.out.b⟩
      · have hm := hu rfl
        subst hm
        clear hu
        go_wp2_with (first
          | (go_at_call 29; refine (deepS_any _ HD.out.t).mono ?_; rw [HM.out]; rintro e w4 ⟨rfl, rfl⟩)
          | (go_at_call 21; refine (lenS_any _ HD.out.t).mono ?_; rw [HM.out]; rintro e w4 ⟨rfl, rfl⟩))
        go_ret
        exact ⟨rfl, HD.out.b⟩
theorem walk (A0 : Option Addr) (c0 : Nat) (l0 : List Int) (a1 : Bool) (w : World) (r0 : RdJ w A0 l0) (m0 : l0.length ≤ maxLen) :
    Calls Try.prog 4 #[.slice A0 l0.length c0, .bool a1] w fun e w' => e = .returned (.bool true) ∧ Below w.heap.size w w' := by
  rcases Nat.lt_or_ge 600 l0.length with h | h
  · exact walk_long A0 c0 l0 a1 w h
  · exact walk_yes A0 c0 l0 a1 w r0 h

theorem own : ownKnob Try.prog.godebug = none := by kernel_rfl

set_option maxRecDepth 100000 in
theorem lifted (os : Os) (started : os.Started) (H : Type) (enc : TypeId × Value → H) :
    ReturnsInHanded {} Try.checked os 4 .any (Rows.btreeDeepSpec.pre6 enc Try.prog Try.f4 Rows.btreeDeepRow.domain false) (Rows.btreeDeepSpec.post enc Try.prog Try.f4 false true false false) := by
  refine returnsInHanded_of_change (C := Try.checked) own started (by kernel_rfl) Try.func4
    (ChangeSpec.witness6 (enc := enc) (C := Try.checked) false ⟨#[], #[.slice none 0 0, .bool false], []⟩ 8 (by kernel_rfl) (by kernel_rfl) (by kernel_rfl) (by kernel_rfl)) ?_
  intro W base args ds gs before hval0 hW hcnd _
  have hval : ∀ (j : Nat) t v, Try.f4.params[j]? = some t → args[j]? = some v → Value.okWide Try.prog W .any base t v := hval0
  have hW' := hW
  obtain ⟨p, q, hA0, hV, rfl, hfz, hnd⟩ := hW
  have hA : DataW.TrodAll enc Try.prog W 0 (fun _ => true) true Try.f4.params.toList args.toList ds p := hA0
  have hAk := hA
  rw [Try.params4] at hA hval
  obtain ⟨v0, vs0, d0, ds0, p0, q0, hargs, rfl, rfl, h0, r0⟩ := trodAll_cons hA
  obtain ⟨v1, vs1, d1, ds1, p1, q1, rfl, rfl, rfl, h1, r1⟩ := trodAll_cons r0
  obtain ⟨rfl, rfl, rfl⟩ := trodAll_nil r1
  obtain rfl : args = #[v0, v1] := by cases args; simp_all
  obtain ⟨rfl, rfl⟩ := trodVars_none hV
  obtain ⟨A0, c0, l0, rfl, r0', m0'⟩ := open_i32s (okWide_slice Try.underlying49 (hval 0 49 v0 rfl rfl)) h0
  obtain ⟨a1, rfl, rfl, rfl⟩ := open_bool Try.underlying4 (hval 1 4 v1 rfl rfl) h1
  clear hA0 hval0
  refine (walk A0 c0 l0 a1 W r0' m0').mono fun e W' ⟨he, hg⟩ => ?_
  subst he
  refine ⟨_, rfl, post_old hW' (by simpa using hAk) (by rw [Try.params4]; decide) (fun _ _ _ => (trodAll_cons_mk (shut_bool Try.underlying4 _) trodAll_mk0)) rfl (fun _ => rfl) hg⟩

theorem proved : Rows.BtreeDeepSaid :=
  OpenClaim.holds_of_wide 4 Try.f4 rfl rfl rfl rfl rfl rfl rfl ⟨rfl, rfl, rfl, rfl, rfl⟩ rfl rfl rfl rfl rfl (by kernel_rfl) Try.func4 (by kernel_rfl)
    (of_decide_eq_true (by kernel_rfl)) (by unfold Func.isWrapper; first | (rw [if_pos (by decide +kernel)]; kernel_rfl) | (rw [if_neg (by decide +kernel)]; exact ⟨rfl, rfl⟩))
    (fun os started H enc _ => lifted os started H enc)
#print axioms proved
end Go.Proofs.Ytdpflmbnomeaaaa.btreeDeep

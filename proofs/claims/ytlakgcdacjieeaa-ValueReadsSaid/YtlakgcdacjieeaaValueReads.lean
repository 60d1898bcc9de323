/-
  ValueReads (layer 2, value): for every t the call returns true: t's value, or that there is none, is the document's. No condition.
-/
import Derived.Test.YtlakgcdacjieeaaRows
import Derived.Test.YtlakgcdacjieeaaValRefI
import Derived.Test.YtlakgcdacjieeaaValOpen
import Derived.WalkKit
import Derived.ProofKit
import Derived.OpenShut
namespace Go.Proofs.Ytlakgcdacjieeaa.valueReads
open Go.ChangeShapes Go.WideShapes Go.ChangeAt Go.RowKit FloM ValM
set_option linter.unusedVariables false
set_option maxHeartbeats 2000000 in
theorem walk_long (a0 : ByteArray) (w : World) (h : 100 < (a0.size : Int)) :
    Calls Try.prog 4 #[.string a0] w fun e w' => e = .returned (.bool true) ∧ Below w.heap.size w w' := by
  have hB := Below.refl w.heap.size w
  go_enter Try.func4, Try.ntmps4
  go_wp2_with (first
    | (go_at_call 10; refine (awake_any _).mono ?_; rintro e w1 ⟨rfl, h'⟩; have hs' := h'.size; (try simp at hs'); (try have hq' := Nat.lt_of_succ_le hs'); replace hB := nxt hB (by repeat (first | exact Below.refl _ _ | refine Below.setCell ?_ (by simp) _ | refine Below.alloc ?_ (by simp) _)) h'; have hc := keep h'; clear h')
    | (go_at_call 17; refine (text_go _ _ _ _ (by assumption) (by assumption) (by assumption)).mono ?_; rintro e w2 ⟨rfl, h'⟩; have hs' := h'.size; (try simp at hs'); (try have hq' := Nat.lt_of_succ_le hs'); replace hB := nxt hB (by repeat (first | exact Below.refl _ _ | refine Below.setCell ?_ (by simp) _ | refine Below.alloc ?_ (by simp) _)) h'; have hc := keep h'; clear h')
    | (go_at_call 13; refine (right_go _ _ _ _ (by assumption)).mono ?_; rintro e w3 ⟨rfl, h'⟩; have hs' := h'.size; (try simp at hs'); (try have hq' := Nat.lt_of_succ_le hs'); replace hB := nxt hB (by repeat (first | exact Below.refl _ _ | refine Below.setCell ?_ (by simp) _ | refine Below.alloc ?_ (by simp) _)) h'; have hc := keep h'; clear h')
    | (go_at_call 11; refine (name_any _ _ (by assumption)).mono ?_; rintro e w' ⟨rfl, rfl⟩)
    | (go_at_call 15; refine (compare_go _ _ _ _ _ _ _).mono ?_; rintro e w4 ⟨rfl, h'⟩; have hs' := h'.size; (try simp at hs'); (try have hq' := Nat.lt_of_succ_le hs'); replace hB := nxt hB (by repeat (first | exact Below.refl _ _ | refine Below.setCell ?_ (by simp) _ | refine Below.alloc ?_ (by simp) _)) h'; have hc := keep h'; clear h'))
  go_ret; exact ⟨rfl, on hB (by repeat (first | exact Below.refl _ _ | refine Below.setCell ?_ (by simp) _ | refine Below.alloc ?_ (by simp) _))⟩
set_option maxHeartbeats 2000000 in
theorem walk_some (a0 : ByteArray) (k n : Int) (s : ByteArray) (w : World) (ha : a0.size ≤ maxLen) (h : (a0.size : Int) ≤ 100) (hr : readV a0 = some ⟨k, n, s⟩) :
    Calls Try.prog 4 #[.string a0] w fun e w' => e = .returned (.bool true) ∧ Below w.heap.size w w' := by
  have HR := Lib.hid hr; clear hr
  have hB := Below.refl w.heap.size w
  go_enter Try.func4, Try.ntmps4
  go_wp2_with (first
    | (go_at_call 10; refine (awake_any _).mono ?_; rintro e w1 ⟨rfl, h'⟩; have hs' := h'.size; (try simp at hs'); (try have hq' := Nat.lt_of_succ_le hs'); replace hB := nxt hB (by repeat (first | exact Below.refl _ _ | refine Below.setCell ?_ (by simp) _ | refine Below.alloc ?_ (by simp) _)) h'; have hc := keep h'; clear h')
    | (go_at_call 17; refine (text_go _ _ _ _ (by assumption) (by assumption) (by assumption)).mono ?_; rintro e w2 ⟨rfl, h'⟩; have hs' := h'.size; (try simp at hs'); (try have hq' := Nat.lt_of_succ_le hs'); replace hB := nxt hB (by repeat (first | exact Below.refl _ _ | refine Below.setCell ?_ (by simp) _ | refine Below.alloc ?_ (by simp) _)) h'; have hc := keep h'; clear h')
    | (go_at_call 13; refine (right_go _ _ _ _ (by assumption)).mono ?_; rintro e w3 ⟨rfl, h'⟩; have hs' := h'.size; (try simp at hs'); (try have hq' := Nat.lt_of_succ_le hs'); replace hB := nxt hB (by repeat (first | exact Below.refl _ _ | refine Below.setCell ?_ (by simp) _ | refine Below.alloc ?_ (by simp) _)) h'; have hc := keep h'; clear h')
    | (go_at_call 11; refine (name_any _ _ (by assumption)).mono ?_; rintro e w' ⟨rfl, rfl⟩)
    | (go_at_call 15; refine (compare_go _ _ _ _ _ _ _).mono ?_; rintro e w4 ⟨rfl, h'⟩; have hs' := h'.size; (try simp at hs'); (try have hq' := Nat.lt_of_succ_le hs'); replace hB := nxt hB (by repeat (first | exact Below.refl _ _ | refine Below.setCell ?_ (by simp) _ | refine Below.alloc ?_ (by simp) _)) h'; have hc := keep h'; clear h')
    | (go_at_call 19; refine (read_go _ _ (by assumption)).mono ?_; intro e w5 h'; replace h' := read_some HR.out h'; obtain ⟨rfl, h'⟩ := h'; have hs' := h'.size; (try simp at hs'); (try have hq' := Nat.lt_of_succ_le hs'); replace hB := nxt hB (by repeat (first | exact Below.refl _ _ | refine Below.setCell ?_ (by simp) _ | refine Below.alloc ?_ (by simp) _)) h'; have hc := keep h'; clear h')
    | (go_at_call 20; refine (refRead_go _ _).mono ?_; intro e w6 h'; replace h' := read_some HR.out h'; obtain ⟨rfl, h'⟩ := h'; have hs' := h'.size; (try simp at hs'); (try have hq' := Nat.lt_of_succ_le hs'); replace hB := nxt hB (by repeat (first | exact Below.refl _ _ | refine Below.setCell ?_ (by simp) _ | refine Below.alloc ?_ (by simp) _)) h'; have hc := keep h'; clear h'))
  go_ret; exact ⟨rfl, on hB (by repeat (first | exact Below.refl _ _ | refine Below.setCell ?_ (by simp) _ | refine Below.alloc ?_ (by simp) _))⟩
set_option maxHeartbeats 2000000 in
theorem walk_none (a0 : ByteArray) (w : World) (ha : a0.size ≤ maxLen) (h : (a0.size : Int) ≤ 100) (hr : readV a0 = none) :
    Calls Try.prog 4 #[.string a0] w fun e w' => e = .returned (.bool true) ∧ Below w.heap.size w w' := by
  have HR := Lib.hid hr; clear hr
  have hB := Below.refl w.heap.size w
  go_enter Try.func4, Try.ntmps4
  go_wp2_with (first
    | (go_at_call 10; refine (awake_any _).mono ?_; rintro e w1 ⟨rfl, h'⟩; have hs' := h'.size; (try simp at hs'); (try have hq' := Nat.lt_of_succ_le hs'); replace hB := nxt hB (by repeat (first | exact Below.refl _ _ | refine Below.setCell ?_ (by simp) _ | refine Below.alloc ?_ (by simp) _)) h'; have hc := keep h'; clear h')
    | (go_at_call 17; refine (text_go _ _ _ _ (by assumption) (by assumption) (by assumption)).mono ?_; rintro e w2 ⟨rfl, h'⟩; have hs' := h'.size; (try simp at hs'); (try have hq' := Nat.lt_of_succ_le hs'); replace hB := nxt hB (by repeat (first | exact Below.refl _ _ | refine Below.setCell ?_ (by simp) _ | refine Below.alloc ?_ (by simp) _)) h'; have hc := keep h'; clear h')
    | (go_at_call 13; refine (right_go _ _ _ _ (by assumption)).mono ?_; rintro e w3 ⟨rfl, h'⟩; have hs' := h'.size; (try simp at hs'); (try have hq' := Nat.lt_of_succ_le hs'); replace hB := nxt hB (by repeat (first | exact Below.refl _ _ | refine Below.setCell ?_ (by simp) _ | refine Below.alloc ?_ (by simp) _)) h'; have hc := keep h'; clear h')
    | (go_at_call 11; refine (name_any _ _ (by assumption)).mono ?_; rintro e w' ⟨rfl, rfl⟩)
    | (go_at_call 15; refine (compare_go _ _ _ _ _ _ _).mono ?_; rintro e w4 ⟨rfl, h'⟩; have hs' := h'.size; (try simp at hs'); (try have hq' := Nat.lt_of_succ_le hs'); replace hB := nxt hB (by repeat (first | exact Below.refl _ _ | refine Below.setCell ?_ (by simp) _ | refine Below.alloc ?_ (by simp) _)) h'; have hc := keep h'; clear h')
    | (go_at_call 19; refine (read_go _ _ (by assumption)).mono ?_; intro e w5 h'; replace h' := read_no HR.out h'; obtain ⟨rfl, h'⟩ := h'; have hs' := h'.size; (try simp at hs'); (try have hq' := Nat.lt_of_succ_le hs'); replace hB := nxt hB (by repeat (first | exact Below.refl _ _ | refine Below.setCell ?_ (by simp) _ | refine Below.alloc ?_ (by simp) _)) h'; have hc := keep h'; clear h')
    | (go_at_call 20; refine (refRead_go _ _).mono ?_; intro e w6 h'; replace h' := read_no HR.out h'; obtain ⟨rfl, h'⟩ := h'; have hs' := h'.size; (try simp at hs'); (try have hq' := Nat.lt_of_succ_le hs'); replace hB := nxt hB (by repeat (first | exact Below.refl _ _ | refine Below.setCell ?_ (by simp) _ | refine Below.alloc ?_ (by simp) _)) h'; have hc := keep h'; clear h'))
  go_ret; exact ⟨rfl, on hB (by repeat (first | exact Below.refl _ _ | refine Below.setCell ?_ (by simp) _ | refine Below.alloc ?_ (by simp) _))⟩
theorem walk (a0 : ByteArray) (w0 : a0.size ≤ maxLen) (w : World) :
    Calls Try.prog 4 #[.string a0] w fun e w' => e = .returned (.bool true) ∧ Below w.heap.size w w' := by
  by_cases h : 100 < (a0.size : Int)
  · exact walk_long a0 w h
  · cases hr : readV a0 with
    | none => exact walk_none a0 w w0 (by omega) hr
    | some v => obtain ⟨k, n, s⟩ := v; exact walk_some a0 k n s w w0 (by omega) hr

theorem own : ownKnob Try.prog.godebug = none := by kernel_rfl

set_option maxRecDepth 100000 in
theorem lifted (os : Os) (started : os.Started) (H : Type) (enc : TypeId × Value → H) :
    ReturnsInHanded {} Try.checked os 4 .any (Rows.valueReadsSpec.pre6 enc Try.prog Try.f4 Rows.valueReadsRow.domain false) (Rows.valueReadsSpec.post enc Try.prog Try.f4 false true false false) := by
  refine returnsInHanded_of_change (C := Try.checked) own started (by kernel_rfl) Try.func4
    (ChangeSpec.witness6 (enc := enc) (C := Try.checked) false ⟨#[], #[.string ByteArray.empty], []⟩ 8 (by kernel_rfl) (by kernel_rfl) (by kernel_rfl) (by kernel_rfl)) ?_
  intro W base args ds gs before hval0 hW hcnd _
  have hval : ∀ (j : Nat) t v, Try.f4.params[j]? = some t → args[j]? = some v → Value.okWide Try.prog W .any base t v := hval0
  have hW' := hW
  obtain ⟨p, q, hA0, hV, rfl, hfz, hnd⟩ := hW
  have hA : DataW.TrodAll enc Try.prog W 0 (fun _ => true) true Try.f4.params.toList args.toList ds p := hA0
  rw [Try.params4] at hA hval
  obtain ⟨v0, vs0, d0, ds0, p0, q0, hargs, rfl, rfl, h0, r0⟩ := trodAll_cons hA
  obtain ⟨rfl, rfl, rfl⟩ := trodAll_nil r0
  obtain rfl : args = #[v0] := by cases args; simp_all
  obtain ⟨rfl, rfl⟩ := trodVars_none hV
  obtain ⟨a0, rfl, rfl, rfl, w0⟩ := Go.ChangeMaps.open_string Try.underlying9 (hval 0 9 v0 rfl rfl) h0
  clear hA0 hval0
  simp only [List.append_nil] at hW'
  refine (walk a0 w0 W).mono fun e W' ⟨he, hg⟩ => ?_
  subst he
  exact ⟨_, rfl, post_plain hW' (fun _ _ _ => (trodAll_cons_mk (shut_bool Try.underlying4 _) trodAll_mk0)) (fun sp => (trodAll_cons_mk (Go.ChangeMaps.shut_string Try.underlying9 w0) trodAll_mk0)) (fun _ => rfl) hg (ok_one (by kernel_rfl) rfl (okWide_bool_mk Try.underlying4 _))⟩

theorem proved : Rows.ValueReadsSaid :=
  OpenClaim.holds_of_wide 4 Try.f4 rfl rfl rfl rfl rfl rfl rfl ⟨rfl, rfl, rfl, rfl, rfl⟩ rfl rfl rfl rfl rfl (by kernel_rfl) Try.func4 (by kernel_rfl)
    (of_decide_eq_true (by kernel_rfl)) (by unfold Func.isWrapper; first | (rw [if_pos (by decide +kernel)]; kernel_rfl) | (rw [if_neg (by decide +kernel)]; exact ⟨rfl, rfl⟩))
    (fun os started H enc _ => lifted os started H enc)
#print axioms proved
end Go.Proofs.Ytlakgcdacjieeaa.valueReads

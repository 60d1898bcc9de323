/-
  ValueBack (layer 2, value): for every v and t the call returns true: what is told as a text is read as it was; what is read is told as it stood. No condition.
-/
import Derived.Test.YtlakgcdacjieeaaRows
import Derived.Test.YtlakgcdacjieeaaValEnds
import Derived.Test.YtlakgcdacjieeaaValOpen
import Derived.WalkKit
import Derived.ProofKit
import Derived.OpenShut
namespace Go.Proofs.Ytlakgcdacjieeaa.valueBack
open Go.ChangeShapes Go.WideShapes Go.ChangeAt Go.RowKit FloM ValM
set_option linter.unusedVariables false
set_option maxHeartbeats 2000000 in
theorem walk_long (k0 n0 : Int) (s0 a1 : ByteArray) (w : World) (h : 100 < (a1.size : Int)) :
    Calls Try.prog 5 #[.agg #[.int .i64 k0, .int .i64 n0, .string s0], .string a1] w fun e w' => e = .returned (.bool true) ∧ Below w.heap.size w w' := by
  have hB := Below.refl w.heap.size w
  go_enter Try.func5, Try.ntmps5
  go_wp2_with (first
    | (go_at_call 10; refine (awake_any _).mono ?_; rintro e w1 ⟨rfl, h'⟩; have hs' := h'.size; (try simp at hs'); have hz0 : w.heap.size < w1.heap.size := (by omega); replace hB := nxt hB (by repeat (first | exact Below.refl _ _ | refine Below.setCell ?_ (by simp) _ | refine Below.alloc ?_ (by simp) _)) h'; have hc := keep h'; clear h')
    | (go_at_call 17; refine (text_go _ _ _ _ (by assumption) (by assumption) (by assumption)).mono ?_; rintro e w2 ⟨rfl, h'⟩; have hs' := h'.size; (try simp at hs'); have hz0 : w.heap.size < w2.heap.size := (by omega); replace hB := nxt hB (by repeat (first | exact Below.refl _ _ | refine Below.setCell ?_ (by simp) _ | refine Below.alloc ?_ (by simp) _)) h'; have hc := keep h'; clear h')
    | (go_at_call 13; refine (right_go _ _ _ _ (by assumption)).mono ?_; rintro e w3 ⟨rfl, h'⟩; have hs' := h'.size; (try simp at hs'); have hz0 : w.heap.size < w3.heap.size := (by omega); replace hB := nxt hB (by repeat (first | exact Below.refl _ _ | refine Below.setCell ?_ (by simp) _ | refine Below.alloc ?_ (by simp) _)) h'; have hc := keep h'; clear h')
    | (go_at_call 11; refine (name_any _ _ (by assumption)).mono ?_; rintro e w' ⟨rfl, rfl⟩)
    | (go_at_call 15; refine (compare_go _ _ _ _ _ _ _).mono ?_; rintro e w4 ⟨rfl, h'⟩; have hs' := h'.size; (try simp at hs'); have hz0 : w.heap.size < w4.heap.size := (by omega); replace hB := nxt hB (by repeat (first | exact Below.refl _ _ | refine Below.setCell ?_ (by simp) _ | refine Below.alloc ?_ (by simp) _)) h'; have hc := keep h'; clear h'))
  go_ret; exact ⟨rfl, on hB (by repeat (first | exact Below.refl _ _ | refine Below.setCell ?_ (by simp) _ | refine Below.alloc ?_ (by simp) _))⟩
set_option maxHeartbeats 4000000 in
theorem walk_yy (k0 n0 k1 n1 : Int) (s0 s1 a1 : ByteArray) (w : World) (hs : s0.size ≤ maxLen) (hn : -9223372036854775808 ≤ n0) (hn' : n0 < 9223372036854775808) (ha : a1.size ≤ maxLen) (h : (a1.size : Int) ≤ 100) (hs1 : s1.size ≤ maxLen) (hm : -9223372036854775808 ≤ n1) (hm' : n1 < 9223372036854775808) (hy : readV a1 = some ⟨k1, n1, s1⟩) (htx : bs (textV ⟨k1, n1, s1⟩) = a1) (hr1 : rightV ⟨k1, n1, s1⟩ = true) (hr : rightV ⟨k0, n0, s0⟩ = true) :
    Calls Try.prog 5 #[.agg #[.int .i64 k0, .int .i64 n0, .string s0], .string a1] w fun e w' => e = .returned (.bool true) ∧ Below w.heap.size w w' := by
  have ht := Lib.hid (read_text ⟨k0, n0, s0⟩ hr ⟨hn, hn'⟩)
  have hl := short (textV_len ⟨k0, n0, s0⟩ ⟨hn, hn'⟩)
  have hY := Lib.hid hy; clear hy
  have hB := Below.refl w.heap.size w
  go_enter Try.func5, Try.ntmps5
  go_wp2_with (first
    | (go_at_call 10; refine (awake_any _).mono ?_; rintro e w1 ⟨rfl, h'⟩; have hs' := h'.size; (try simp at hs'); have hz0 : w.heap.size < w1.heap.size := (by omega); replace hB := nxt hB (by repeat (first | exact Below.refl _ _ | refine Below.setCell ?_ (by simp) _ | refine Below.alloc ?_ (by simp) _)) h'; have hc := keep h'; clear h')
    | (go_at_call 17; refine (text_go _ _ _ _ (by assumption) (by assumption) (by assumption)).mono ?_; rintro e w2 ⟨rfl, h'⟩; have hs' := h'.size; (try simp at hs'); have hz0 : w.heap.size < w2.heap.size := (by omega); replace hB := nxt hB (by repeat (first | exact Below.refl _ _ | refine Below.setCell ?_ (by simp) _ | refine Below.alloc ?_ (by simp) _)) h'; have hc := keep h'; clear h')
    | (go_at_call 13; refine (right_go _ _ _ _ (by assumption)).mono ?_; rintro e w3 ⟨rfl, h'⟩; have hs' := h'.size; (try simp at hs'); have hz0 : w.heap.size < w3.heap.size := (by omega); replace hB := nxt hB (by repeat (first | exact Below.refl _ _ | refine Below.setCell ?_ (by simp) _ | refine Below.alloc ?_ (by simp) _)) h'; have hc := keep h'; clear h')
    | (go_at_call 11; refine (name_any _ _ (by assumption)).mono ?_; rintro e w' ⟨rfl, rfl⟩)
    | (go_at_call 15; refine (compare_go _ _ _ _ _ _ _).mono ?_; rintro e w4 ⟨rfl, h'⟩; have hs' := h'.size; (try simp at hs'); have hz0 : w.heap.size < w4.heap.size := (by omega); replace hB := nxt hB (by repeat (first | exact Below.refl _ _ | refine Below.setCell ?_ (by simp) _ | refine Below.alloc ?_ (by simp) _)) h'; have hc := keep h'; clear h')
    | (go_at_call 19; refine (read_go _ _ (by assumption)).mono ?_; intro e w5 h'; replace h' := read_some ht.out h'; obtain ⟨rfl, h'⟩ := h'; have hs' := h'.size; (try simp at hs'); have hz0 : w.heap.size < w5.heap.size := (by omega); replace hB := nxt hB (by repeat (first | exact Below.refl _ _ | refine Below.setCell ?_ (by simp) _ | refine Below.alloc ?_ (by simp) _)) h'; have hc := keep h'; clear h')
    | (go_at_call 19; refine (read_go _ _ (by assumption)).mono ?_; intro e w5 h'; replace h' := read_some hY.out h'; obtain ⟨rfl, h'⟩ := h'; have hs' := h'.size; (try simp at hs'); have hz0 : w.heap.size < w5.heap.size := (by omega); replace hB := nxt hB (by repeat (first | exact Below.refl _ _ | refine Below.setCell ?_ (by simp) _ | refine Below.alloc ?_ (by simp) _)) h'; have hc := keep h'; clear h'))
  go_ret; exact ⟨rfl, on hB (by repeat (first | exact Below.refl _ _ | refine Below.setCell ?_ (by simp) _ | refine Below.alloc ?_ (by simp) _))⟩
set_option maxHeartbeats 4000000 in
theorem walk_yn (k0 n0 : Int) (s0 a1 : ByteArray) (w : World) (hs : s0.size ≤ maxLen) (hn : -9223372036854775808 ≤ n0) (hn' : n0 < 9223372036854775808) (ha : a1.size ≤ maxLen) (h : (a1.size : Int) ≤ 100) (hy : readV a1 = none) (hr : rightV ⟨k0, n0, s0⟩ = true) :
    Calls Try.prog 5 #[.agg #[.int .i64 k0, .int .i64 n0, .string s0], .string a1] w fun e w' => e = .returned (.bool true) ∧ Below w.heap.size w w' := by
  have ht := Lib.hid (read_text ⟨k0, n0, s0⟩ hr ⟨hn, hn'⟩)
  have hl := short (textV_len ⟨k0, n0, s0⟩ ⟨hn, hn'⟩)
  have hY := Lib.hid hy; clear hy
  have hB := Below.refl w.heap.size w
  go_enter Try.func5, Try.ntmps5
  go_wp2_with (first
    | (go_at_call 10; refine (awake_any _).mono ?_; rintro e w1 ⟨rfl, h'⟩; have hs' := h'.size; (try simp at hs'); have hz0 : w.heap.size < w1.heap.size := (by omega); replace hB := nxt hB (by repeat (first | exact Below.refl _ _ | refine Below.setCell ?_ (by simp) _ | refine Below.alloc ?_ (by simp) _)) h'; have hc := keep h'; clear h')
    | (go_at_call 17; refine (text_go _ _ _ _ (by assumption) (by assumption) (by assumption)).mono ?_; rintro e w2 ⟨rfl, h'⟩; have hs' := h'.size; (try simp at hs'); have hz0 : w.heap.size < w2.heap.size := (by omega); replace hB := nxt hB (by repeat (first | exact Below.refl _ _ | refine Below.setCell ?_ (by simp) _ | refine Below.alloc ?_ (by simp) _)) h'; have hc := keep h'; clear h')
    | (go_at_call 13; refine (right_go _ _ _ _ (by assumption)).mono ?_; rintro e w3 ⟨rfl, h'⟩; have hs' := h'.size; (try simp at hs'); have hz0 : w.heap.size < w3.heap.size := (by omega); replace hB := nxt hB (by repeat (first | exact Below.refl _ _ | refine Below.setCell ?_ (by simp) _ | refine Below.alloc ?_ (by simp) _)) h'; have hc := keep h'; clear h')
    | (go_at_call 11; refine (name_any _ _ (by assumption)).mono ?_; rintro e w' ⟨rfl, rfl⟩)
    | (go_at_call 15; refine (compare_go _ _ _ _ _ _ _).mono ?_; rintro e w4 ⟨rfl, h'⟩; have hs' := h'.size; (try simp at hs'); have hz0 : w.heap.size < w4.heap.size := (by omega); replace hB := nxt hB (by repeat (first | exact Below.refl _ _ | refine Below.setCell ?_ (by simp) _ | refine Below.alloc ?_ (by simp) _)) h'; have hc := keep h'; clear h')
    | (go_at_call 19; refine (read_go _ _ (by assumption)).mono ?_; intro e w5 h'; replace h' := read_some ht.out h'; obtain ⟨rfl, h'⟩ := h'; have hs' := h'.size; (try simp at hs'); have hz0 : w.heap.size < w5.heap.size := (by omega); replace hB := nxt hB (by repeat (first | exact Below.refl _ _ | refine Below.setCell ?_ (by simp) _ | refine Below.alloc ?_ (by simp) _)) h'; have hc := keep h'; clear h')
    | (go_at_call 19; refine (read_go _ _ (by assumption)).mono ?_; intro e w5 h'; replace h' := read_no hY.out h'; obtain ⟨rfl, h'⟩ := h'; have hs' := h'.size; (try simp at hs'); have hz0 : w.heap.size < w5.heap.size := (by omega); replace hB := nxt hB (by repeat (first | exact Below.refl _ _ | refine Below.setCell ?_ (by simp) _ | refine Below.alloc ?_ (by simp) _)) h'; have hc := keep h'; clear h'))
  go_ret; exact ⟨rfl, on hB (by repeat (first | exact Below.refl _ _ | refine Below.setCell ?_ (by simp) _ | refine Below.alloc ?_ (by simp) _))⟩
set_option maxHeartbeats 4000000 in
theorem walk_ny (k0 n0 k1 n1 : Int) (s0 s1 a1 : ByteArray) (w : World) (hs : s0.size ≤ maxLen) (hn : -9223372036854775808 ≤ n0) (hn' : n0 < 9223372036854775808) (ha : a1.size ≤ maxLen) (h : (a1.size : Int) ≤ 100) (hs1 : s1.size ≤ maxLen) (hm : -9223372036854775808 ≤ n1) (hm' : n1 < 9223372036854775808) (hy : readV a1 = some ⟨k1, n1, s1⟩) (htx : bs (textV ⟨k1, n1, s1⟩) = a1) (hr1 : rightV ⟨k1, n1, s1⟩ = true) (hr : rightV ⟨k0, n0, s0⟩ = false) :
    Calls Try.prog 5 #[.agg #[.int .i64 k0, .int .i64 n0, .string s0], .string a1] w fun e w' => e = .returned (.bool true) ∧ Below w.heap.size w w' := by
  have ht := Lib.hid read_empty
  have hl : ByteArray.empty.size ≤ maxLen := short (by decide)
  have hte := text_empty hr
  have hY := Lib.hid hy; clear hy
  have hB := Below.refl w.heap.size w
  go_enter Try.func5, Try.ntmps5
  go_wp2_with (first
    | (go_at_call 10; refine (awake_any _).mono ?_; rintro e w1 ⟨rfl, h'⟩; have hs' := h'.size; (try simp at hs'); have hz0 : w.heap.size < w1.heap.size := (by omega); replace hB := nxt hB (by repeat (first | exact Below.refl _ _ | refine Below.setCell ?_ (by simp) _ | refine Below.alloc ?_ (by simp) _)) h'; have hc := keep h'; clear h')
    | (go_at_call 17; refine (text_go _ _ _ _ (by assumption) (by assumption) (by assumption)).mono ?_; rintro e w2 ⟨rfl, h'⟩; have hs' := h'.size; (try simp at hs'); have hz0 : w.heap.size < w2.heap.size := (by omega); replace hB := nxt hB (by repeat (first | exact Below.refl _ _ | refine Below.setCell ?_ (by simp) _ | refine Below.alloc ?_ (by simp) _)) h'; have hc := keep h'; clear h')
    | (go_at_call 13; refine (right_go _ _ _ _ (by assumption)).mono ?_; rintro e w3 ⟨rfl, h'⟩; have hs' := h'.size; (try simp at hs'); have hz0 : w.heap.size < w3.heap.size := (by omega); replace hB := nxt hB (by repeat (first | exact Below.refl _ _ | refine Below.setCell ?_ (by simp) _ | refine Below.alloc ?_ (by simp) _)) h'; have hc := keep h'; clear h')
    | (go_at_call 11; refine (name_any _ _ (by assumption)).mono ?_; rintro e w' ⟨rfl, rfl⟩)
    | (go_at_call 15; refine (compare_go _ _ _ _ _ _ _).mono ?_; rintro e w4 ⟨rfl, h'⟩; have hs' := h'.size; (try simp at hs'); have hz0 : w.heap.size < w4.heap.size := (by omega); replace hB := nxt hB (by repeat (first | exact Below.refl _ _ | refine Below.setCell ?_ (by simp) _ | refine Below.alloc ?_ (by simp) _)) h'; have hc := keep h'; clear h')
    | (go_at_call 19; refine (read_go _ _ (by assumption)).mono ?_; intro e w5 h'; replace h' := read_no ht.out h'; obtain ⟨rfl, h'⟩ := h'; have hs' := h'.size; (try simp at hs'); have hz0 : w.heap.size < w5.heap.size := (by omega); replace hB := nxt hB (by repeat (first | exact Below.refl _ _ | refine Below.setCell ?_ (by simp) _ | refine Below.alloc ?_ (by simp) _)) h'; have hc := keep h'; clear h')
    | (go_at_call 19; refine (read_go _ _ (by assumption)).mono ?_; intro e w5 h'; replace h' := read_some hY.out h'; obtain ⟨rfl, h'⟩ := h'; have hs' := h'.size; (try simp at hs'); have hz0 : w.heap.size < w5.heap.size := (by omega); replace hB := nxt hB (by repeat (first | exact Below.refl _ _ | refine Below.setCell ?_ (by simp) _ | refine Below.alloc ?_ (by simp) _)) h'; have hc := keep h'; clear h'))
  go_ret; exact ⟨rfl, on hB (by repeat (first | exact Below.refl _ _ | refine Below.setCell ?_ (by simp) _ | refine Below.alloc ?_ (by simp) _))⟩
set_option maxHeartbeats 4000000 in
theorem walk_nn (k0 n0 : Int) (s0 a1 : ByteArray) (w : World) (hs : s0.size ≤ maxLen) (hn : -9223372036854775808 ≤ n0) (hn' : n0 < 9223372036854775808) (ha : a1.size ≤ maxLen) (h : (a1.size : Int) ≤ 100) (hy : readV a1 = none) (hr : rightV ⟨k0, n0, s0⟩ = false) :
    Calls Try.prog 5 #[.agg #[.int .i64 k0, .int .i64 n0, .string s0], .string a1] w fun e w' => e = .returned (.bool true) ∧ Below w.heap.size w w' := by
  have ht := Lib.hid read_empty
  have hl : ByteArray.empty.size ≤ maxLen := short (by decide)
  have hte := text_empty hr
  have hY := Lib.hid hy; clear hy
  have hB := Below.refl w.heap.size w
  go_enter Try.func5, Try.ntmps5
  go_wp2_with (first
    | (go_at_call 10; refine (awake_any _).mono ?_; rintro e w1 ⟨rfl, h'⟩; have hs' := h'.size; (try simp at hs'); have hz0 : w.heap.size < w1.heap.size := (by omega); replace hB := nxt hB (by repeat (first | exact Below.refl _ _ | refine Below.setCell ?_ (by simp) _ | refine Below.alloc ?_ (by simp) _)) h'; have hc := keep h'; clear h')
    | (go_at_call 17; refine (text_go _ _ _ _ (by assumption) (by assumption) (by assumption)).mono ?_; rintro e w2 ⟨rfl, h'⟩; have hs' := h'.size; (try simp at hs'); have hz0 : w.heap.size < w2.heap.size := (by omega); replace hB := nxt hB (by repeat (first | exact Below.refl _ _ | refine Below.setCell ?_ (by simp) _ | refine Below.alloc ?_ (by simp) _)) h'; have hc := keep h'; clear h')
    | (go_at_call 13; refine (right_go _ _ _ _ (by assumption)).mono ?_; rintro e w3 ⟨rfl, h'⟩; have hs' := h'.size; (try simp at hs'); have hz0 : w.heap.size < w3.heap.size := (by omega); replace hB := nxt hB (by repeat (first | exact Below.refl _ _ | refine Below.setCell ?_ (by simp) _ | refine Below.alloc ?_ (by simp) _)) h'; have hc := keep h'; clear h')
    | (go_at_call 11; refine (name_any _ _ (by assumption)).mono ?_; rintro e w' ⟨rfl, rfl⟩)
    | (go_at_call 15; refine (compare_go _ _ _ _ _ _ _).mono ?_; rintro e w4 ⟨rfl, h'⟩; have hs' := h'.size; (try simp at hs'); have hz0 : w.heap.size < w4.heap.size := (by omega); replace hB := nxt hB (by repeat (first | exact Below.refl _ _ | refine Below.setCell ?_ (by simp) _ | refine Below.alloc ?_ (by simp) _)) h'; have hc := keep h'; clear h')
    | (go_at_call 19; refine (read_go _ _ (by assumption)).mono ?_; intro e w5 h'; replace h' := read_no ht.out h'; obtain ⟨rfl, h'⟩ := h'; have hs' := h'.size; (try simp at hs'); have hz0 : w.heap.size < w5.heap.size := (by omega); replace hB := nxt hB (by repeat (first | exact Below.refl _ _ | refine Below.setCell ?_ (by simp) _ | refine Below.alloc ?_ (by simp) _)) h'; have hc := keep h'; clear h')
    | (go_at_call 19; refine (read_go _ _ (by assumption)).mono ?_; intro e w5 h'; replace h' := read_no hY.out h'; obtain ⟨rfl, h'⟩ := h'; have hs' := h'.size; (try simp at hs'); have hz0 : w.heap.size < w5.heap.size := (by omega); replace hB := nxt hB (by repeat (first | exact Below.refl _ _ | refine Below.setCell ?_ (by simp) _ | refine Below.alloc ?_ (by simp) _)) h'; have hc := keep h'; clear h'))
  go_ret; exact ⟨rfl, on hB (by repeat (first | exact Below.refl _ _ | refine Below.setCell ?_ (by simp) _ | refine Below.alloc ?_ (by simp) _))⟩
theorem walk (k0 n0 : Int) (s0 a1 : ByteArray) (wk0 : (Lit.int .i64 k0).wf = true) (wn0 : (Lit.int .i64 n0).wf = true) (ws0 : s0.size ≤ maxLen) (w1 : a1.size ≤ maxLen) (w : World) :
    Calls Try.prog 5 #[.agg #[.int .i64 k0, .int .i64 n0, .string s0], .string a1] w fun e w' => e = .returned (.bool true) ∧ Below w.heap.size w w' := by
  obtain ⟨hn, hn'⟩ := fits_of wn0
  by_cases h : 100 < (a1.size : Int)
  · exact walk_long k0 n0 s0 a1 w h
  · have h : (a1.size : Int) ≤ 100 := by omega
    cases hy : readV a1 with
    | none =>
      cases hr : rightV ⟨k0, n0, s0⟩ with
      | true => exact walk_yn k0 n0 s0 a1 w ws0 hn hn' w1 h hy hr
      | false => exact walk_nn k0 n0 s0 a1 w ws0 hn hn' w1 h hy hr
    | some v =>
      obtain ⟨k1, n1, s1⟩ := v
      obtain ⟨h1, h2, hm, hm'⟩ := text_read a1 _ hy
      have h3 : s1.size ≤ maxLen := read_le hy w1
      cases hr : rightV ⟨k0, n0, s0⟩ with
      | true => exact walk_yy k0 n0 k1 n1 s0 s1 a1 w ws0 hn hn' w1 h h3 hm hm' hy h2 h1 hr
      | false => exact walk_ny k0 n0 k1 n1 s0 s1 a1 w ws0 hn hn' w1 h h3 hm hm' hy h2 h1 hr

theorem own : ownKnob Try.prog.godebug = none := by kernel_rfl

set_option maxRecDepth 100000 in
theorem lifted (os : Os) (started : os.Started) (H : Type) (enc : TypeId × Value → H) :
    ReturnsInHanded {} Try.checked os 5 .any (Rows.valueBackSpec.pre6 enc Try.prog Try.f5 Rows.valueBackRow.domain false) (Rows.valueBackSpec.post enc Try.prog Try.f5 false true false false) := by
  refine returnsInHanded_of_change (C := Try.checked) own started (by kernel_rfl) Try.func5
    (ChangeSpec.witness6 (enc := enc) (C := Try.checked) false ⟨#[], #[.agg #[.int .i64 0, .int .i64 0, .string ByteArray.empty], .string ByteArray.empty], []⟩ 8 (by kernel_rfl) (by kernel_rfl) (by kernel_rfl) (by kernel_rfl)) ?_
  intro W base args ds gs before hval0 hW hcnd _
  have hval : ∀ (j : Nat) t v, Try.f5.params[j]? = some t → args[j]? = some v → Value.okWide Try.prog W .any base t v := hval0
  have hW' := hW
  obtain ⟨p, q, hA0, hV, rfl, hfz, hnd⟩ := hW
  have hA : DataW.TrodAll enc Try.prog W 0 (fun _ => true) true Try.f5.params.toList args.toList ds p := hA0
  rw [Try.params5] at hA hval
  obtain ⟨v0, vs0, d0, ds0, p0, q0, hargs, rfl, rfl, h0, r0⟩ := trodAll_cons hA
  obtain ⟨v1, vs1, d1, ds1, p1, q1, rfl, rfl, rfl, h1, r1⟩ := trodAll_cons r0
  obtain ⟨rfl, rfl, rfl⟩ := trodAll_nil r1
  obtain rfl : args = #[v0, v1] := by cases args; simp_all
  obtain ⟨rfl, rfl⟩ := trodVars_none hV
  obtain ⟨k0, n0, s0, rfl, rfl, rfl, wk0, wn0, ws0⟩ := open_val (hval 0 23 v0 rfl rfl) h0
  obtain ⟨a1, rfl, rfl, rfl, w1⟩ := Go.ChangeMaps.open_string Try.underlying9 (hval 1 9 v1 rfl rfl) h1
  clear hA0 hval0
  simp only [List.append_nil] at hW'
  refine (walk k0 n0 s0 a1 wk0 wn0 ws0 w1 W).mono fun e W' ⟨he, hg⟩ => ?_
  subst he
  exact ⟨_, rfl, post_plain hW' (fun _ _ _ => (trodAll_cons_mk (shut_bool Try.underlying4 _) trodAll_mk0)) (fun sp => (trodAll_cons_mk (shut_val wk0 wn0 ws0) (trodAll_cons_mk (Go.ChangeMaps.shut_string Try.underlying9 w1) trodAll_mk0))) (fun _ => rfl) hg (ok_one (by kernel_rfl) rfl (okWide_bool_mk Try.underlying4 _))⟩

theorem proved : Rows.ValueBackSaid :=
  OpenClaim.holds_of_wide 5 Try.f5 rfl rfl rfl rfl rfl rfl rfl ⟨rfl, rfl, rfl, rfl, rfl⟩ rfl rfl rfl rfl rfl (by kernel_rfl) Try.func5 (by kernel_rfl)
    (of_decide_eq_true (by kernel_rfl)) (by unfold Func.isWrapper; first | (rw [if_pos (by decide +kernel)]; kernel_rfl) | (rw [if_neg (by decide +kernel)]; exact ⟨rfl, rfl⟩))
    (fun os started H enc _ => lifted os started H enc)
#print axioms proved
end Go.Proofs.Ytlakgcdacjieeaa.valueBack

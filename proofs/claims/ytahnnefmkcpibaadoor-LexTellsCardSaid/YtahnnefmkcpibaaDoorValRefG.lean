/-
  Contract of antecedentref02.Read: it reads as package value does.
-/
import Derived.Test.YtahnnefmkcpibaaDoorValRefR
import Derived.Test.YtahnnefmkcpibaaDoorValRow
import Derived.Test.YtahnnefmkcpibaaDoorValNumb
import Derived.Test.YtahnnefmkcpibaaDoorValEnds
namespace Go.Proofs.YtahnnefmkcpibaaDoor
open Go.RowKit FloM ValM

theorem keepF {W w1 : World} (hb : Below W.heap.size W w1) : ∀ b o, b < W.heap.size → w1.frozen? ⟨b, o, none⟩ = W.frozen? ⟨b, o, none⟩ := fun b o h => hb.frozen (p := ⟨b, o, none⟩) h
theorem no_text {t : ByteArray} (h : readV t = none) (ht : 0 < t.size) (v : V) (hv : Fits v.n) : ((bs (textV v)).toList == t.toList) = false := by
  rw [str_eq, decide_eq_false]
  intro e
  by_cases hr : rightV v = true
  · have := read_text v hr hv
    rw [e, h] at this; cases this
  · have hr : rightV v = false := by simpa using hr
    rw [text_empty hr] at e
    rw [← e] at ht
    exact absurd ht (by decide)
def OtherText (t : ByteArray) (w : World) (e : Ending) (w' : World) : Prop := ∃ u : ByteArray, e = .returned (.string u) ∧ (u.toList == t.toList) = false ∧ Below w.heap.size w w'
theorem refText_no {t : ByteArray} (h : readV t = none) (ht : 0 < t.size) (k n : Int) (s : ByteArray) (w : World) (hn : Fits n) : Calls Tryd.prog 43 #[.agg #[.int .i64 k, .int .i64 n, .string s]] w (OtherText t w) :=
  (refText_go k n s w hn.1 hn.2).mono fun _ _ ⟨he, hb⟩ => ⟨_, he, no_text h ht ⟨k, n, s⟩ hn, hb⟩
theorem refText_yes {t : ByteArray} (k n : Int) (s : ByteArray) (w : World) (hn : Fits n) (ht : bs (textV ⟨k, n, s⟩) = t) : Calls Tryd.prog 43 #[.agg #[.int .i64 k, .int .i64 n, .string s]] w fun e w' => e = .returned (.string t) ∧ Below w.heap.size w w' :=
  (refText_go k n s w hn.1 hn.2).mono fun _ _ ⟨he, hb⟩ => ⟨by rw [he, ht], hb⟩
theorem fin3 {t : TypeId} {u : World} {g : Nat} {a b c : Value} (h : Row t u g [a, b, c]) (x y z : Value) :
    (u.setCell ⟨g, 0, none⟩ x).cell? ⟨g, 0, none⟩ = some x ∧ ((u.setCell ⟨g, 0, none⟩ x).setCell ⟨g, 1, none⟩ y).cell? ⟨g, 1, none⟩ = some y ∧ (((u.setCell ⟨g, 0, none⟩ x).setCell ⟨g, 1, none⟩ y).setCell ⟨g, 2, none⟩ z).cell? ⟨g, 2, none⟩ = some z := by
  have r1 := Row.set (pre := []) (post := [b, c]) h x
  have r2 := Row.set (pre := [x]) (post := [c]) r1 y
  have r3 := Row.set (pre := [x, y]) (post := []) r2 z
  exact ⟨r1.cell 0, r2.cell 1, r3.cell 2⟩
theorem fits_wrap (n : Int) : Fits (wrap64 n) := by unfold Fits wrap64; omega
theorem fits_zero : Fits 0 := by unfold Fits; decide
set_option maxHeartbeats 2000000 in
theorem rr_empty (w : World) : Calls Tryd.prog 32 #[.string ByteArray.empty] w (ReadV ByteArray.empty w) := by
  have hB := Below.refl w.heap.size w
  go_enter Tryd.func32, Tryd.ntmps32
  go_wp2
  refine bodyPost_ret (v := .tuple #[.agg #[.int .i64 0, .int .i64 0, .string ByteArray.empty], .int .i64 2]) (by simp [results, Tryd.results32, go_sem]; rfl) rfl (.inr ⟨read_empty, rfl, (by repeat (first | exact hB | refine Below.setCell ?_ (by simp) _ | refine Below.alloc ?_ (by have := hB.size; first | omega | (simp [World.setCell]; omega) | simp [World.setCell]) _))⟩)
set_option maxHeartbeats 2000000 in
theorem rr_hash (t : ByteArray) (w : World) (ht : 0 < t.size) (h : readV t = none) (h1 : ((t[0].toNat : Int) == 35) = true) : Calls Tryd.prog 32 #[.string t] w (ReadV t w) := by
  have H := Lib.hid h; clear h
  have hu := ne_list ht
  have hu' := ne_list' ht
  have hB := Below.refl w.heap.size w
  go_enter Tryd.func32, Tryd.ntmps32
  go_wp2_with (first | (go_at_call 42; refine (number_any _ _ _).mono ?_; rintro e w1 ⟨n, rfl, hn, h'⟩; clear hn; have hs' := h'.size; (try simp at hs'); have hz0 : w.heap.size < w1.heap.size := (by omega); have hz1 : w.heap.size + 1 < w1.heap.size := (by omega); replace hB := on (W := w) (by repeat (first | exact hB | refine Below.setCell ?_ (by simp) _ | refine Below.alloc ?_ (by have := hB.size; first | omega | (simp [World.setCell]; omega) | simp [World.setCell]) _)) h'; have hc := keep h'; have hf := keepF h'; have hR : Row 34 w1 w.heap.size [.int .i64 0, .int .i64 0, .string ⟨#[]⟩] := rowOn (by repeat (first | exact hR | exact row_new _ _ | refine Row.alloc ?_ _ | refine Row.far ?_ (by simp) _)) h'; clear h') | (go_at_call 43; refine (refText_no H.out ht _ _ _ _ (fits_wrap _)).mono ?_; rintro e w2 ⟨u, rfl, hno, h'⟩; have hs2 := h'.size; (try simp [World.setCell] at hs2); have hz2 : w.heap.size < w2.heap.size := (by omega); have hz3 : w.heap.size + 1 < w2.heap.size := (by omega); replace hB := on (W := w) (by repeat (first | exact hB | refine Below.setCell ?_ (by simp) _ | refine Below.alloc ?_ (by have := hB.size; first | omega | (simp [World.setCell]; omega) | simp [World.setCell]) _)) h'; have hc2 := keep h'; have hf2 := keepF h'; have hR : Row 34 w2 w.heap.size [.int .i64 0, .int .i64 0, .string ⟨#[]⟩] := rowOn (by repeat (first | exact hR | exact row_new _ _ | refine Row.alloc ?_ _ | refine Row.far ?_ (by simp) _)) h'; clear h'))
  obtain ⟨e0, e1, e2⟩ := fin3 hR (.int .i64 0) (.int .i64 0) (.string ⟨#[]⟩)
  refine bodyPost_ret (v := .tuple #[.agg #[.int .i64 0, .int .i64 0, .string ByteArray.empty], .int .i64 2]) (by simp [results, Tryd.results32, go_sem, e0, e1, e2]; rfl) rfl (.inr ⟨H.out, rfl, (by repeat (first | exact hB | refine Below.setCell ?_ (by simp) _ | refine Below.alloc ?_ (by have := hB.size; first | omega | (simp [World.setCell]; omega) | simp [World.setCell]) _))⟩)
set_option maxHeartbeats 2000000 in
theorem rr_minus (t : ByteArray) (w : World) (ht : 0 < t.size) (h : readV t = none) (h1 : ((t[0].toNat : Int) == 35) = false) (h2 : ((t[0].toNat : Int) == 45) = true) : Calls Tryd.prog 32 #[.string t] w (ReadV t w) := by
  have H := Lib.hid h; clear h
  have hu := ne_list ht
  have hu' := ne_list' ht
  have hB := Below.refl w.heap.size w
  go_enter Tryd.func32, Tryd.ntmps32
  go_wp2_with (first | (go_at_call 42; refine (number_any _ _ _).mono ?_; rintro e w1 ⟨n, rfl, hn, h'⟩; clear hn; have hs' := h'.size; (try simp at hs'); have hz0 : w.heap.size < w1.heap.size := (by omega); have hz1 : w.heap.size + 1 < w1.heap.size := (by omega); replace hB := on (W := w) (by repeat (first | exact hB | refine Below.setCell ?_ (by simp) _ | refine Below.alloc ?_ (by have := hB.size; first | omega | (simp [World.setCell]; omega) | simp [World.setCell]) _)) h'; have hc := keep h'; have hf := keepF h'; have hR : Row 34 w1 w.heap.size [.int .i64 0, .int .i64 0, .string ⟨#[]⟩] := rowOn (by repeat (first | exact hR | exact row_new _ _ | refine Row.alloc ?_ _ | refine Row.far ?_ (by simp) _)) h'; clear h') | (go_at_call 43; refine (refText_no H.out ht _ _ _ _ (fits_wrap _)).mono ?_; rintro e w2 ⟨u, rfl, hno, h'⟩; have hs2 := h'.size; (try simp [World.setCell] at hs2); have hz2 : w.heap.size < w2.heap.size := (by omega); have hz3 : w.heap.size + 1 < w2.heap.size := (by omega); replace hB := on (W := w) (by repeat (first | exact hB | refine Below.setCell ?_ (by simp) _ | refine Below.alloc ?_ (by have := hB.size; first | omega | (simp [World.setCell]; omega) | simp [World.setCell]) _)) h'; have hc2 := keep h'; have hf2 := keepF h'; have hR : Row 34 w2 w.heap.size [.int .i64 0, .int .i64 0, .string ⟨#[]⟩] := rowOn (by repeat (first | exact hR | exact row_new _ _ | refine Row.alloc ?_ _ | refine Row.far ?_ (by simp) _)) h'; clear h'))
  obtain ⟨e0, e1, e2⟩ := fin3 hR (.int .i64 0) (.int .i64 0) (.string ⟨#[]⟩)
  refine bodyPost_ret (v := .tuple #[.agg #[.int .i64 0, .int .i64 0, .string ByteArray.empty], .int .i64 2]) (by simp [results, Tryd.results32, go_sem, e0, e1, e2]; rfl) rfl (.inr ⟨H.out, rfl, (by repeat (first | exact hB | refine Below.setCell ?_ (by simp) _ | refine Below.alloc ?_ (by have := hB.size; first | omega | (simp [World.setCell]; omega) | simp [World.setCell]) _))⟩)
set_option maxHeartbeats 2000000 in
theorem rr_digit (t : ByteArray) (w : World) (ht : 0 < t.size) (h : readV t = none) (h1 : ((t[0].toNat : Int) == 35) = false) (h2 : ((t[0].toNat : Int) == 45) = false) (h3 : 48 ≤ (t[0].toNat : Int)) (h4 : (t[0].toNat : Int) ≤ 57) : Calls Tryd.prog 32 #[.string t] w (ReadV t w) := by
  have H := Lib.hid h; clear h
  have hu := ne_list ht
  have hu' := ne_list' ht
  have hB := Below.refl w.heap.size w
  go_enter Tryd.func32, Tryd.ntmps32
  go_wp2_with (first | (go_at_call 42; refine (number_any _ _ _).mono ?_; rintro e w1 ⟨n, rfl, hn, h'⟩; clear hn; have hs' := h'.size; (try simp at hs'); have hz0 : w.heap.size < w1.heap.size := (by omega); have hz1 : w.heap.size + 1 < w1.heap.size := (by omega); replace hB := on (W := w) (by repeat (first | exact hB | refine Below.setCell ?_ (by simp) _ | refine Below.alloc ?_ (by have := hB.size; first | omega | (simp [World.setCell]; omega) | simp [World.setCell]) _)) h'; have hc := keep h'; have hf := keepF h'; have hR : Row 34 w1 w.heap.size [.int .i64 0, .int .i64 0, .string ⟨#[]⟩] := rowOn (by repeat (first | exact hR | exact row_new _ _ | refine Row.alloc ?_ _ | refine Row.far ?_ (by simp) _)) h'; clear h') | (go_at_call 43; refine (refText_no H.out ht _ _ _ _ (fits_wrap _)).mono ?_; rintro e w2 ⟨u, rfl, hno, h'⟩; have hs2 := h'.size; (try simp [World.setCell] at hs2); have hz2 : w.heap.size < w2.heap.size := (by omega); have hz3 : w.heap.size + 1 < w2.heap.size := (by omega); replace hB := on (W := w) (by repeat (first | exact hB | refine Below.setCell ?_ (by simp) _ | refine Below.alloc ?_ (by have := hB.size; first | omega | (simp [World.setCell]; omega) | simp [World.setCell]) _)) h'; have hc2 := keep h'; have hf2 := keepF h'; have hR : Row 34 w2 w.heap.size [.int .i64 0, .int .i64 0, .string ⟨#[]⟩] := rowOn (by repeat (first | exact hR | exact row_new _ _ | refine Row.alloc ?_ _ | refine Row.far ?_ (by simp) _)) h'; clear h'))
  obtain ⟨e0, e1, e2⟩ := fin3 hR (.int .i64 0) (.int .i64 0) (.string ⟨#[]⟩)
  refine bodyPost_ret (v := .tuple #[.agg #[.int .i64 0, .int .i64 0, .string ByteArray.empty], .int .i64 2]) (by simp [results, Tryd.results32, go_sem, e0, e1, e2]; rfl) rfl (.inr ⟨H.out, rfl, (by repeat (first | exact hB | refine Below.setCell ?_ (by simp) _ | refine Below.alloc ?_ (by have := hB.size; first | omega | (simp [World.setCell]; omega) | simp [World.setCell]) _))⟩)
set_option maxHeartbeats 2000000 in
theorem rr_low (t : ByteArray) (w : World) (ht : 0 < t.size) (h : readV t = none) (h1 : ((t[0].toNat : Int) == 35) = false) (h2 : ((t[0].toNat : Int) == 45) = false) (h3 : (t[0].toNat : Int) < 48) : Calls Tryd.prog 32 #[.string t] w (ReadV t w) := by
  have H := Lib.hid h; clear h
  have hu := ne_list ht
  have hu' := ne_list' ht
  have hB := Below.refl w.heap.size w
  go_enter Tryd.func32, Tryd.ntmps32
  go_wp2_with (first | (go_at_call 43; refine (refText_no H.out ht _ _ _ _ fits_zero).mono ?_; rintro e w2 ⟨u, rfl, hno, h'⟩; have hs2 := h'.size; (try simp [World.setCell] at hs2); have hz2 : w.heap.size < w2.heap.size := (by omega); have hz3 : w.heap.size + 1 < w2.heap.size := (by omega); replace hB := on (W := w) (by repeat (first | exact hB | refine Below.setCell ?_ (by simp) _ | refine Below.alloc ?_ (by have := hB.size; first | omega | (simp [World.setCell]; omega) | simp [World.setCell]) _)) h'; have hc2 := keep h'; have hf2 := keepF h'; have hR : Row 34 w2 w.heap.size [.int .i64 0, .int .i64 0, .string ⟨#[]⟩] := rowOn (by repeat (first | exact hR | exact row_new _ _ | refine Row.alloc ?_ _ | refine Row.far ?_ (by simp) _)) h'; clear h'))
  obtain ⟨e0, e1, e2⟩ := fin3 hR (.int .i64 0) (.int .i64 0) (.string ⟨#[]⟩)
  refine bodyPost_ret (v := .tuple #[.agg #[.int .i64 0, .int .i64 0, .string ByteArray.empty], .int .i64 2]) (by simp [results, Tryd.results32, go_sem, e0, e1, e2]; rfl) rfl (.inr ⟨H.out, rfl, (by repeat (first | exact hB | refine Below.setCell ?_ (by simp) _ | refine Below.alloc ?_ (by have := hB.size; first | omega | (simp [World.setCell]; omega) | simp [World.setCell]) _))⟩)
set_option maxHeartbeats 2000000 in
theorem rr_high (t : ByteArray) (w : World) (ht : 0 < t.size) (h : readV t = none) (h1 : ((t[0].toNat : Int) == 35) = false) (h2 : ((t[0].toNat : Int) == 45) = false) (h3 : 48 ≤ (t[0].toNat : Int)) (h4 : 57 < (t[0].toNat : Int)) : Calls Tryd.prog 32 #[.string t] w (ReadV t w) := by
  have H := Lib.hid h; clear h
  have hu := ne_list ht
  have hu' := ne_list' ht
  have hB := Below.refl w.heap.size w
  go_enter Tryd.func32, Tryd.ntmps32
  go_wp2_with (first | (go_at_call 43; refine (refText_no H.out ht _ _ _ _ fits_zero).mono ?_; rintro e w2 ⟨u, rfl, hno, h'⟩; have hs2 := h'.size; (try simp [World.setCell] at hs2); have hz2 : w.heap.size < w2.heap.size := (by omega); have hz3 : w.heap.size + 1 < w2.heap.size := (by omega); replace hB := on (W := w) (by repeat (first | exact hB | refine Below.setCell ?_ (by simp) _ | refine Below.alloc ?_ (by have := hB.size; first | omega | (simp [World.setCell]; omega) | simp [World.setCell]) _)) h'; have hc2 := keep h'; have hf2 := keepF h'; have hR : Row 34 w2 w.heap.size [.int .i64 0, .int .i64 0, .string ⟨#[]⟩] := rowOn (by repeat (first | exact hR | exact row_new _ _ | refine Row.alloc ?_ _ | refine Row.far ?_ (by simp) _)) h'; clear h'))
  obtain ⟨e0, e1, e2⟩ := fin3 hR (.int .i64 0) (.int .i64 0) (.string ⟨#[]⟩)
  refine bodyPost_ret (v := .tuple #[.agg #[.int .i64 0, .int .i64 0, .string ByteArray.empty], .int .i64 2]) (by simp [results, Tryd.results32, go_sem, e0, e1, e2]; rfl) rfl (.inr ⟨H.out, rfl, (by repeat (first | exact hB | refine Below.setCell ?_ (by simp) _ | refine Below.alloc ?_ (by have := hB.size; first | omega | (simp [World.setCell]; omega) | simp [World.setCell]) _))⟩)
end Go.Proofs.YtahnnefmkcpibaaDoor

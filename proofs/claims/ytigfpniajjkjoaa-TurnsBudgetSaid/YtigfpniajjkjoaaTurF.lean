/-
  Package turns: contracts of Find, All and New.
-/
import Derived.Test.YtigfpniajjkjoaaTurC

namespace Go.Proofs.Ytigfpniajjkjoaa
open Go.RowKit FloM ValM Go.Shelf
set_option linter.unusedVariables false
set_option linter.unusedSimpArgs false
section
variable {X Y Z : Nat → Prop} {w w' : World} {t p n : Nat} {a l q b : RI} {HA HL HP : List (List V)} {left : Int}
set_option maxHeartbeats 1000000 in
theorem turAll_any (w : World) (h : TurG X w t p n a l q b HA HL HP) (hX : ∀ k, X k → k < w.heap.size) (hH : HA.length ≤ 100000) :
    Calls Try.prog 24 #[.pointer (some ⟨t, 0, none⟩)] w (FindQ (puts (upto n) HA) w) := by
  obtain ⟨c0, c1, c2, c3, c4⟩ := cell5 h.rcd
  unfold partV at c1
  have HM := Lib.hid (made_any w h)
  have HH := Lib.hid (xAll h.ra hX (RelG.few h.ra) hH)
  clear h hX
  go_enter Try.func24, Try.ntmps24
  go_wp2_with (first
    | (go_at_call 46; refine HM.out.mono ?_; rintro e w1 ⟨rfl, rfl⟩)
    | (go_at_call 10; refine HH.out.mono ?_; rintro e w1 ⟨B, d, ys, rfl, hy, hs, hb⟩))
  go_ret
  exact ⟨B, d, ys, rfl, hy, hs, hb⟩
set_option maxHeartbeats 1000000 in
theorem turFind_any (C A : Option Addr) (cc ca : Nat) (cols : List Int) (vals : List V) (w : World) (h : TurG X w t p n a l q b HA HL HP) (hX : ∀ k, X k → k < w.heap.size) (hH : HA.length ≤ 100000) (hc : RdI w C cols) (oc : cols ≠ [] → ∀ b o, C = some ⟨b, o, none⟩ → ¬ X b) (hv : RdV w A vals) (lc : cols.length ≤ 1000) :
    Calls Try.prog 26 #[.pointer (some ⟨t, 0, none⟩), .slice C cols.length cc, .slice A vals.length ca] w (FindQ (findL n cols vals HA) w) := by
  obtain ⟨c0, c1, c2, c3, c4⟩ := cell5 h.rcd
  unfold partV at c1
  have HM := Lib.hid (made_any w h)
  have HH := Lib.hid (xFind C A cc ca cols vals h.ra hX (RelG.few h.ra) hH hc oc hv lc)
  clear h hX hc oc hv
  go_enter Try.func26, Try.ntmps26
  go_wp2_with (first
    | (go_at_call 46; refine HM.out.mono ?_; rintro e w1 ⟨rfl, rfl⟩)
    | (go_at_call 17; refine HH.out.mono ?_; rintro e w1 ⟨B, d, ys, rfl, hy, hs, hb⟩))
  go_ret
  exact ⟨B, d, ys, rfl, hy, hs, hb⟩
set_option maxHeartbeats 1000000 in
theorem turLatest_any (C A : Option Addr) (cc ca : Nat) (cols : List Int) (vals : List V) (w : World) (h : TurG X w t p n a l q b HA HL HP) (hX : ∀ k, X k → k < w.heap.size) (hH : HL.length ≤ 100000) (hc : RdI w C cols) (oc : cols ≠ [] → ∀ b o, C = some ⟨b, o, none⟩ → ¬ X b) (hv : RdV w A vals) (lc : cols.length ≤ 1000) :
    Calls Try.prog 27 #[.pointer (some ⟨t, 0, none⟩), .slice C cols.length cc, .slice A vals.length ca] w (FindQ (findL n cols vals HL) w) := by
  obtain ⟨c0, c1, c2, c3, c4⟩ := cell5 h.rcd
  unfold partV at c2
  have HM := Lib.hid (made_any w h)
  have HH := Lib.hid (xFind C A cc ca cols vals h.rl hX (RelG.few h.rl) hH hc oc hv lc)
  clear h hX hc oc hv
  go_enter Try.func27, Try.ntmps27
  go_wp2_with (first
    | (go_at_call 46; refine HM.out.mono ?_; rintro e w1 ⟨rfl, rfl⟩)
    | (go_at_call 17; refine HH.out.mono ?_; rintro e w1 ⟨B, d, ys, rfl, hy, hs, hb⟩))
  go_ret
  exact ⟨B, d, ys, rfl, hy, hs, hb⟩
end
end Go.Proofs.Ytigfpniajjkjoaa

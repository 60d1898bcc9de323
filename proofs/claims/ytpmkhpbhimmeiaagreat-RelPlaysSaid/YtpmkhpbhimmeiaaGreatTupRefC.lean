/-
  Contract of the document's own Compare of tuples.
-/
import Derived.Test.YtpmkhpbhimmeiaaGreatTupRef
namespace Go.Proofs.YtpmkhpbhimmeiaaGreat
open Go.RowKit FloM ValM
set_option linter.unusedVariables false

/-! ### Compare -/
set_option maxRecDepth 20000 in
set_option maxHeartbeats 2000000 in
theorem refCompareT_any (A B P : Option Addr) (ca cb cp : Nat) (a b : List V) (p : List Int) (w : World) (ha : RdV w A a) (hb : RdV w B b) (hp : RdI w P p) (la : a.length ≤ 1000) (lb : b.length ≤ 1000) (lp : p.length ≤ 1000) :
    Calls Tryz.prog 41 #[.slice A a.length ca, .slice B b.length cb, .slice P p.length cp] w (SaysI (ordV (pickL a p) (pickL b p)) w) := by
  have HA := Lib.hid ha; have HB := Lib.hid hb; have HP := Lib.hid hp
  clear ha hb hp
  have hB := Below.refl w.heap.size w
  have mx : (pickL a p).length ≤ maxLen := by have := pick_len a p; unfold maxLen; omega
  have my : (pickL b p).length ≤ maxLen := by have := pick_len b p; unfold maxLen; omega
  go_enter Tryz.func41, Tryz.ntmps41
  go_wp2_with (first
    | (go_at_call 53; first | ((with_reducible refine (refPick_any A P ca cp a p _ (HA.out.on hB) (HP.out.on hB) la lp).mono ?_); rintro e w1 ⟨A1, c1, rfl, r1, _, h'⟩; replace hB := on hB h'; have R1 := Lib.hid r1; clear h' r1) | ((with_reducible refine (refPick_any B P cb cp b p _ (HB.out.on hB) (HP.out.on hB) lb lp).mono ?_); rintro e w2 ⟨A2, c2, rfl, r2, _, h'⟩; replace R1 := Lib.hid (R1.out.on h'); replace hB := on hB h'; have R2 := Lib.hid r2; clear h' r2))
    | (go_at_call 42; refine (refOrder_any _ _ _ _ _ _ _ R1.out R2.out mx my).mono ?_; rintro e w3 ⟨rfl, h'⟩; replace hB := on hB h'; clear h'))
  go_ret
  exact ⟨rfl, hB⟩
end Go.Proofs.YtpmkhpbhimmeiaaGreat

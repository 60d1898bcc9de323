/-
  Package show, paths: predicate, within, operands; the document's predicate and closed.
-/
import Derived.Test.YtahljmddnfldlaaGreatDoorShwPm
import Derived.Test.YtahljmddnfldlaaGreatDoorValG
import Derived.Test.YtahljmddnfldlaaGreatDoorLexKey
import Derived.Test.YtahljmddnfldlaaGreatDoorValRow
import Derived.RegionTactic
import Derived.BigQuiet
import Derived.Test.YtahljmddnfldlaaGreatDoorPrsTop
import Derived.Deep.RegionHeld3
import Derived.Deep.CutRange
import Derived.Deep.RegionLaw
import Derived.Deep.AppendLies
import Derived.Test.YtahljmddnfldlaaGreatDoorRefG
import Derived.Test.YtahljmddnfldlaaGreatDoorValRef
import Derived.OwnWalk
namespace Go.Proofs.YtahljmddnfldlaaGreatDoor
open Go.RowKit FloM ValM Go.Shelf
set_option linter.unusedVariables false
set_option linter.unusedSimpArgs false
set_option maxRecDepth 20000 in
set_option maxHeartbeats 2000000 in
theorem showPred_any (s : ByteArray) (w : World) (hs : s.size ≤ maxLen) : Calls Tryz.prog 41 #[.string s] w fun e w' => e = .returned (.bool (predL (ls s))) ∧ w = w' := by
  have HN := Lib.hid (name_any s w hs)
  have HK := Lib.hid (fun W => key_any s W)
  have e : predL (ls s) = (name s && !keyL (ls s)) := rfl
  rw [e]
  clear e hs
  cases hn : name s with
  | false =>
    rw [hn] at HN
    go_enter Tryz.func41, Tryz.ntmps41
    go_wp2_with (go_at_call 65; refine HN.out.mono ?_; rintro e w1 ⟨rfl, rfl⟩)
    go_ret
    exact ⟨rfl, rfl⟩
  | true =>
    rw [hn] at HN
    cases hk : keyL (ls s)
    all_goals
      rw [hk] at HK
      go_enter Tryz.func41, Tryz.ntmps41
      go_wp2_with (first
        | (go_at_call 65; refine HN.out.mono ?_; rintro e w1 ⟨rfl, rfl⟩)
        | (go_at_call 66; refine (HK.out _).mono ?_; rintro e w1 ⟨rfl, rfl⟩))
      go_ret
      exact ⟨rfl, rfl⟩
theorem par_bs (t : List UInt8) : ⟨#[40]⟩ ++ bs t ++ ⟨#[41]⟩ = bs ([40] ++ t ++ [41]) := by
  apply ls_inj; rw [ls_append, ls_append]; rfl
set_option maxRecDepth 20000 in
set_option maxHeartbeats 2000000 in
theorem within_any (t : List UInt8) (h least : Nat) (w : World) (ht : t.length ≤ 1000000000) : Calls Tryz.prog 62 #[.agg #[.string (bs t), .int .i64 (h : Int)], .int .i64 (least : Int)] w fun e w' => e = .returned (.string (bs (inE (t, h) least))) ∧ Below w.heap.size w w' := by
  have z1 : (bs t).size = t.length := bs_size _
  have z2 : (ByteArray.mk #[40]).size = 1 := rfl
  have z3 : (ByteArray.mk #[40] ++ bs t).size = 1 + t.length := by rw [← ls_len, ls_append, List.length_append, ls_len, ls_len, z1, z2]
  have x1 : ¬ 9223372036854775807 < (ByteArray.mk #[40]).size + (bs t).size := by omega
  have x2 : ¬ 9223372036854775807 < (ByteArray.mk #[40] ++ bs t).size + (ByteArray.mk #[41]).size := by rw [z3]; show ¬ 9223372036854775807 < 1 + t.length + 1; omega
  have hb : Below w.heap.size w (w.alloc (.cells #[.string (bs t), .int .i64 (h : Int)] 72)) := (Below.refl _ _).alloc (Nat.le_refl _) _
  by_cases hl : h < least
  · have hl' : (h : Int) < (least : Int) := by omega
    have e : inE (t, h) least = [40] ++ t ++ [41] := by unfold inE; rw [if_pos hl]
    rw [e, ← par_bs]
    clear e hl z1 z2 z3
    go_enter Tryz.func62, Tryz.ntmps62
    go_wp2
    go_ret
    exact ⟨rfl, hb⟩
  · have hl' : ¬ (h : Int) < (least : Int) := by omega
    have e : inE (t, h) least = t := by unfold inE; rw [if_neg hl]
    rw [e]
    clear e hl z1 z2 z3
    go_enter Tryz.func62, Tryz.ntmps62
    go_wp2
    go_ret
    exact ⟨rfl, hb⟩
/-- A step with whatever number as its kind. -/
def normS (k : Int) (l : List UInt8) : St := ⟨if 1 ≤ k ∧ k ≤ 7 then k.toNat else 0, l⟩
def opA (k : Int) : Nat := if k = 5 ∨ k = 6 ∨ k = 7 then 1 else if k = 3 ∨ k = 4 then 2 else 0
def opB (k : Int) (l : List UInt8) : Bool := if k = 1 ∨ k = 2 then predL l else if k = 5 ∨ k = 6 ∨ k = 7 ∨ k = 3 ∨ k = 4 then decide (l = []) else false
theorem op_norm (k : Int) (l : List UInt8) : opN (normS k l) = if opB k l = true then some (opA k) else none := by
  unfold opN normS opB opA
  simp only
  by_cases h1 : k = 1
  · subst h1; simp
  by_cases h2 : k = 2
  · subst h2; simp
  by_cases h3 : k = 3
  · subst h3; simp
  by_cases h4 : k = 4
  · subst h4; simp
  by_cases h5 : k = 5
  · subst h5; simp
  by_cases h6 : k = 6
  · subst h6; simp
  by_cases h7 : k = 7
  · subst h7; simp
  have hk : ¬ (1 ≤ k ∧ k ≤ 7) := by omega
  simp [h1, h2, h3, h4, h5, h6, h7, hk]
set_option maxRecDepth 20000 in
set_option maxHeartbeats 4000000 in
theorem operands_any (k : Int) (s : ByteArray) (w : World) (hs : s.size ≤ maxLen) : Calls Tryz.prog 33 #[.agg #[.int .i64 k, .string s]] w fun e w' => e = .returned (.tuple #[.int .i64 (opA k : Nat), .bool (opB k (ls s))]) ∧ Below w.heap.size w w' := by
  have HP := Lib.hid (fun W => showPred_any s W hs)
  have hb : Below w.heap.size w (w.alloc (.cells #[.int .i64 k, .string s] 43)) := (Below.refl _ _).alloc (Nat.le_refl _) _
  have hl : ls s = [] ↔ s = ⟨#[]⟩ := ⟨fun h => by rw [← bs_ls s, h]; rfl, fun h => by rw [h]; rfl⟩
  clear hs
  by_cases h12 : k = 1 ∨ k = 2
  · have e1 : opA k = 0 := by unfold opA; rw [if_neg (by omega), if_neg (by omega)]
    have e2 : opB k (ls s) = predL (ls s) := by unfold opB; rw [if_pos h12]
    rw [e1, e2]
    clear e1 e2
    rcases h12 with rfl | rfl
    all_goals
      go_enter Tryz.func33, Tryz.ntmps33
      go_wp2_with (go_at_call 41; refine (HP.out _).mono ?_; rintro e w1 ⟨rfl, rfl⟩)
      go_ret2
      exact ⟨rfl, hb⟩
  · clear HP
    by_cases hm : k = 5 ∨ k = 6 ∨ k = 7 ∨ k = 3 ∨ k = 4
    · have e2 : opB k (ls s) = decide (ls s = []) := by unfold opB; rw [if_neg h12, if_pos hm]
      rw [e2]
      have hd : Below w.heap.size w (w.alloc (.cells #[.int .i64 k, .string s] 43)).drew := hb.drew
      by_cases hs : s = ⟨#[]⟩
      · subst hs
        rw [show (decide (ls (ByteArray.mk #[]) = [])) = true from rfl]
        clear e2 hl h12
        rcases hm with rfl | rfl | rfl | rfl | rfl
        all_goals
          go_enter Tryz.func33, Tryz.ntmps33
          go_wp2
          go_quiet (fail)
          go_wp2
          go_ret2
          exact ⟨rfl, ⟨hb.os, hb.tape, hb.output, hb.size, hb.block⟩⟩
      · have hd2 : decide (ls s = []) = false := by simpa [hl] using hs
        have f2 : (s.toList == []) = false := by rw [toList_ls]; simpa [hl] using hs
        rw [hd2]
        clear e2 hl h12 hd2
        rcases hm with rfl | rfl | rfl | rfl | rfl
        all_goals
          go_enter Tryz.func33, Tryz.ntmps33
          go_wp2
          go_quiet (fail)
          go_wp2
          go_ret2
          exact ⟨rfl, ⟨hb.os, hb.tape, hb.output, hb.size, hb.block⟩⟩
    · have e1 : opA k = 0 := by unfold opA; rw [if_neg (by omega), if_neg (by omega)]
      have e2 : opB k (ls s) = false := by unfold opB; rw [if_neg h12, if_neg hm]
      rw [e1, e2]
      have g1 : (k == 1) = false := by rw [beq_eq_false_iff_ne]; omega
      have g2 : (k == 2) = false := by rw [beq_eq_false_iff_ne]; omega
      have g3 : (k == 3) = false := by rw [beq_eq_false_iff_ne]; omega
      have g4 : (k == 4) = false := by rw [beq_eq_false_iff_ne]; omega
      have g5 : (k == 5) = false := by rw [beq_eq_false_iff_ne]; omega
      have g6 : (k == 6) = false := by rw [beq_eq_false_iff_ne]; omega
      have g7 : (k == 7) = false := by rw [beq_eq_false_iff_ne]; omega
      clear e1 e2 hl h12 hm
      go_enter Tryz.func33, Tryz.ntmps33
      go_wp2
      go_ret2
      exact ⟨rfl, hb⟩
end Go.Proofs.YtahljmddnfldlaaGreatDoor
namespace Go.Proofs.YtahljmddnfldlaaGreatDoor
open Go.RowKit FloM ValM Go.Shelf
set_option linter.unusedVariables false
set_option linter.unusedSimpArgs false
def exC (x : Ex) : List Value := [.string (bs x.1), .int .i64 (x.2 : Nat)]
theorem row_atC {t : TypeId} {w : World} {g : Nat} (h : w.heap.size = g) (cs : List Value) : Row t (w.alloc (.cells cs.toArray t)) g cs := by subst h; exact row_new w cs
theorem in_len (a : Ex) (n : Nat) : (inE a n).length ≤ a.1.length + 2 := by
  unfold inE
  split
  · simp
  · omega
theorem add_bs (a b : List UInt8) (h : a.length + b.length ≤ 1000000000) : ∀ w, (Op.stringOp .add (bs a) (bs b)).run Tryz.prog w = .ok (.string (bs (a ++ b))) w := fun w => by
  rw [run_string_add_sum w _ _ (by rw [bs_size, bs_size]; omega)]
  have : bs a ++ bs b = bs (a ++ b) := by apply ls_inj; rw [ls_append]; rfl
  rw [this]
theorem add_bs1 (a : List UInt8) (c : UInt8) (h : a.length ≤ 500000000) : ∀ w, (Op.stringOp .add (bs a) ⟨#[c]⟩).run Tryz.prog w = .ok (.string (bs (a ++ [c]))) w := fun w => add_bs a [c] (by simp; omega) w
theorem add_bs0 (a : List UInt8) (c : UInt8) (h : a.length ≤ 500000000) : ∀ w, (Op.stringOp .add ⟨#[c]⟩ (bs a)).run Tryz.prog w = .ok (.string (bs ([c] ++ a))) w := fun w => add_bs [c] a (by simp; omega) w
theorem ex_at {W : World} {A : Option Addr} {of : List Ex} (h : RdX 2 exC W A of) {i : Nat} {x : Ex} (hx : of[i]? = some x) : ∃ b o, A = some ⟨b, o, none⟩ ∧ b < W.heap.size ∧ W.cell? ⟨b, o + i * 2, none⟩ = some (.string (bs x.1)) ∧ W.cell? ⟨b, o + i * 2 + 1, none⟩ = some (.int .i64 (x.2 : Nat)) := by
  obtain ⟨b, o, e, hl, hc⟩ := h.2 i x hx
  exact ⟨b, o, e, hl, hc 0 _ rfl, hc 1 _ rfl⟩
set_option maxRecDepth 20000 in
set_option maxHeartbeats 4000000 in
theorem combine_3 (A : Option Addr) (c : Nat) (x y : Ex) (W : World) (hr : RdX 2 exC W A [x, y]) (hx : x.1.length ≤ 100000000) (hy : y.1.length ≤ 100000000) :
    Calls Tryz.prog 34 #[.agg #[.int .i64 3, .string ⟨#[]⟩], .slice A 2 c] W fun e w' => e = .returned (.agg #[.string (bs (inE x 1 ++ [47] ++ inE y 2)), .int .i64 1]) ∧ Below W.heap.size W w' := by
  obtain ⟨b, o, rfl, hb, a0, a1⟩ := ex_at hr (i := 0) (x := x) rfl
  obtain ⟨b', o', e, hb', a2, a3⟩ := ex_at hr (i := 1) (x := y) rfl
  injection e with e; injection e with e1 e2 _; subst e1 e2
  simp only [Nat.zero_mul, Nat.one_mul, Nat.add_zero] at a0 a1 a2 a3
  obtain ⟨p, h⟩ := x
  obtain ⟨q, g⟩ := y
  simp only at a0 a1 a2 a3 hx hy
  clear hr hb'
  have HW : Hid (∀ (t : List UInt8) (h least : Nat) (V : World), t.length ≤ 100000000 → Calls Tryz.prog 62 #[.agg #[.string (bs t), .int .i64 (h : Int)], .int .i64 (least : Int)] V fun e w' => e = .returned (.string (bs (inE (t, h) least))) ∧ Below V.heap.size V w') := Lib.hid fun t h least V ht => within_any t h least V (by omega)
  have l1 := in_len (p, h) 1
  have l2 := in_len (q, g) 2
  simp only at l1 l2
  have H1 := add_bs1 (inE (p, h) 1) 47 (by omega)
  have H2 := add_bs (inE (p, h) 1 ++ [47]) (inE (q, g) 2) (by simp; omega)
  clear l1 l2
  go_enter Tryz.func34, Tryz.ntmps34
  go_upto_region 7 with fail
  generalize hW2 : World.alloc (World.alloc W _) _ = W2
  have hb2 : Below W.heap.size W W2 := hW2 ▸ ((Below.refl _ _).alloc (Nat.le_refl _) _).alloc (by simp) _
  have hs2 : W2.heap.size = W.heap.size + 1 + 1 := by rw [← hW2]; simp
  have hrow : Row 72 W2 (W.heap.size + 1) [.string ByteArray.empty, .int .i64 0] := by rw [← hW2]; exact row_atC (w := W.alloc _) (by simp) [.string ByteArray.empty, .int .i64 0]
  clear hW2
  have hlt : b < W2.heap.size := by omega
  have hne : b ≠ W.heap.size + 1 := by omega
  have HR := Lib.hid hrow
  have HB2 := Lib.hid hb2
  have hle : W.heap.size ≤ W2.heap.size := by omega
  have h4 : Below W2.heap.size W2 W2.drew := (Below.refl _ _).drew
  have HS : Hid (∀ u, Below W.heap.size W u → (Below W.heap.size W u ∧ u.cell? ⟨b, o, none⟩ = some (.string (bs p)) ∧ u.cell? ⟨b, o + 1, none⟩ = some (.int .i64 h) ∧ u.cell? ⟨b, o + 2, none⟩ = some (.string (bs q)) ∧ u.cell? ⟨b, o + 2 + 1, none⟩ = some (.int .i64 g))) := Lib.hid fun u hu => ⟨hu, (keep hu _ _ hb).trans a0, (keep hu _ _ hb).trans a1, (keep hu _ _ hb).trans a2, (keep hu _ _ hb).trans a3⟩
  have HA : Hid (∀ V, Calls Tryz.prog 62 #[.agg #[.string (bs p), .int .i64 (h : Int)], .int .i64 1] V fun e w' => e = .returned (.string (bs (inE (p, h) 1))) ∧ Below V.heap.size V w') := Lib.hid fun V => HW.out p h 1 V hx
  have HB : Hid (∀ V, Calls Tryz.prog 62 #[.agg #[.string (bs q), .int .i64 (g : Int)], .int .i64 2] V fun e w' => e = .returned (.string (bs (inE (q, g) 2))) ∧ Below V.heap.size V w') := Lib.hid fun V => HW.out q g 2 V hy
  clear hrow a0 a1 a2 a3 HW hb2 hs2
  go_region_held3 (fun u => Below W.heap.size W u ∧ u.cell? ⟨b, o, none⟩ = some (.string (bs p)) ∧ u.cell? ⟨b, o + 1, none⟩ = some (.int .i64 h) ∧ u.cell? ⟨b, o + 2, none⟩ = some (.string (bs q)) ∧ u.cell? ⟨b, o + 2 + 1, none⟩ = some (.int .i64 g))
    (exact HS.out _ (by first | exact HB2.out | exact HB2.out.trans (h4.mono hle) | exact ((HB2.out.trans (h4.mono hle)).setCell (Nat.le_succ _) _).setCell (Nat.le_succ _) _))
    ((go_at_call 62; first
      | (with_reducible refine (HA.out _).mono ?_; rintro e w3 ⟨rfl, hb3⟩; replace h4 := on h4 hb3; have r0 := (rowOn HR.out h4).cell 0; have r1 := (rowOn HR.out h4).cell 1; have r2 := (rowOn HR.out h4).frozen 0; have r3 := (rowOn HR.out h4).frozen 1; clear HA)
      | (with_reducible refine (HB.out _).mono ?_; rintro e w4 ⟨rfl, hb4⟩; replace h4 := on h4 hb4; have r0 := (rowOn HR.out h4).cell 0; have r1 := (rowOn HR.out h4).cell 1; have r2 := (rowOn HR.out h4).frozen 0; have r3 := (rowOn HR.out h4).frozen 1; clear HB)))
  all_goals
    go_wp2
    refine bodyPost_ret (results_cell_row rfl _ _ (W.heap.size + 1) _ _ _ _ rfl (Row.set (pre := [_]) (post := []) (Row.set (pre := []) (post := [_]) (rowOn HR.out h4) _) _) Tryz.underlying72 rfl (by kernel_rfl)) rfl ?_
    refine ⟨by simp, ((HB2.out.trans (h4.mono hle)).setCell (Nat.le_succ _) _).setCell (Nat.le_succ _) _⟩
set_option maxRecDepth 20000 in
set_option maxHeartbeats 4000000 in
theorem combine_4 (A : Option Addr) (c : Nat) (x y : Ex) (W : World) (hr : RdX 2 exC W A [x, y]) (hx : x.1.length ≤ 100000000) (hy : y.1.length ≤ 100000000) :
    Calls Tryz.prog 34 #[.agg #[.int .i64 4, .string ⟨#[]⟩], .slice A 2 c] W fun e w' => e = .returned (.agg #[.string (bs (inE x 0 ++ [124] ++ inE y 1)), .int .i64 0]) ∧ Below W.heap.size W w' := by
  obtain ⟨b, o, rfl, hb, a0, a1⟩ := ex_at hr (i := 0) (x := x) rfl
  obtain ⟨b', o', e, hb', a2, a3⟩ := ex_at hr (i := 1) (x := y) rfl
  injection e with e; injection e with e1 e2 _; subst e1 e2
  simp only [Nat.zero_mul, Nat.one_mul, Nat.add_zero] at a0 a1 a2 a3
  obtain ⟨p, h⟩ := x
  obtain ⟨q, g⟩ := y
  simp only at a0 a1 a2 a3 hx hy
  clear hr hb'
  have HW : Hid (∀ (t : List UInt8) (h least : Nat) (V : World), t.length ≤ 100000000 → Calls Tryz.prog 62 #[.agg #[.string (bs t), .int .i64 (h : Int)], .int .i64 (least : Int)] V fun e w' => e = .returned (.string (bs (inE (t, h) least))) ∧ Below V.heap.size V w') := Lib.hid fun t h least V ht => within_any t h least V (by omega)
  have l1 := in_len (p, h) 0
  have l2 := in_len (q, g) 1
  simp only at l1 l2
  have H1 := add_bs1 (inE (p, h) 0) 124 (by omega)
  have H2 := add_bs (inE (p, h) 0 ++ [124]) (inE (q, g) 1) (by simp; omega)
  clear l1 l2
  go_enter Tryz.func34, Tryz.ntmps34
  go_upto_region 9 with fail
  generalize hW2 : World.alloc (World.alloc W _) _ = W2
  have hb2 : Below W.heap.size W W2 := hW2 ▸ ((Below.refl _ _).alloc (Nat.le_refl _) _).alloc (by simp) _
  have hs2 : W2.heap.size = W.heap.size + 1 + 1 := by rw [← hW2]; simp
  have hrow : Row 72 W2 (W.heap.size + 1) [.string ByteArray.empty, .int .i64 0] := by rw [← hW2]; exact row_atC (w := W.alloc _) (by simp) [.string ByteArray.empty, .int .i64 0]
  clear hW2
  have hlt : b < W2.heap.size := by omega
  have hne : b ≠ W.heap.size + 1 := by omega
  have HR := Lib.hid hrow
  have HB2 := Lib.hid hb2
  have hle : W.heap.size ≤ W2.heap.size := by omega
  have h4 : Below W2.heap.size W2 W2.drew := (Below.refl _ _).drew
  have HS : Hid (∀ u, Below W.heap.size W u → (Below W.heap.size W u ∧ u.cell? ⟨b, o, none⟩ = some (.string (bs p)) ∧ u.cell? ⟨b, o + 1, none⟩ = some (.int .i64 h) ∧ u.cell? ⟨b, o + 2, none⟩ = some (.string (bs q)) ∧ u.cell? ⟨b, o + 2 + 1, none⟩ = some (.int .i64 g))) := Lib.hid fun u hu => ⟨hu, (keep hu _ _ hb).trans a0, (keep hu _ _ hb).trans a1, (keep hu _ _ hb).trans a2, (keep hu _ _ hb).trans a3⟩
  have HA : Hid (∀ V, Calls Tryz.prog 62 #[.agg #[.string (bs p), .int .i64 (h : Int)], .int .i64 0] V fun e w' => e = .returned (.string (bs (inE (p, h) 0))) ∧ Below V.heap.size V w') := Lib.hid fun V => HW.out p h 0 V hx
  have HB : Hid (∀ V, Calls Tryz.prog 62 #[.agg #[.string (bs q), .int .i64 (g : Int)], .int .i64 1] V fun e w' => e = .returned (.string (bs (inE (q, g) 1))) ∧ Below V.heap.size V w') := Lib.hid fun V => HW.out q g 1 V hy
  clear hrow a0 a1 a2 a3 HW hb2 hs2
  go_region_held3 (fun u => Below W.heap.size W u ∧ u.cell? ⟨b, o, none⟩ = some (.string (bs p)) ∧ u.cell? ⟨b, o + 1, none⟩ = some (.int .i64 h) ∧ u.cell? ⟨b, o + 2, none⟩ = some (.string (bs q)) ∧ u.cell? ⟨b, o + 2 + 1, none⟩ = some (.int .i64 g))
    (exact HS.out _ (by first | exact HB2.out | exact HB2.out.trans (h4.mono hle) | exact ((HB2.out.trans (h4.mono hle)).setCell (Nat.le_succ _) _).setCell (Nat.le_succ _) _))
    ((go_at_call 62; first
      | (with_reducible refine (HA.out _).mono ?_; rintro e w3 ⟨rfl, hb3⟩; replace h4 := on h4 hb3; have r0 := (rowOn HR.out h4).cell 0; have r1 := (rowOn HR.out h4).cell 1; have r2 := (rowOn HR.out h4).frozen 0; have r3 := (rowOn HR.out h4).frozen 1; clear HA)
      | (with_reducible refine (HB.out _).mono ?_; rintro e w4 ⟨rfl, hb4⟩; replace h4 := on h4 hb4; have r0 := (rowOn HR.out h4).cell 0; have r1 := (rowOn HR.out h4).cell 1; have r2 := (rowOn HR.out h4).frozen 0; have r3 := (rowOn HR.out h4).frozen 1; clear HB)))
  all_goals
    go_wp2
    refine bodyPost_ret (results_cell_row rfl _ _ (W.heap.size + 1) _ _ _ _ rfl (Row.set (pre := [_]) (post := []) (Row.set (pre := []) (post := [_]) (rowOn HR.out h4) _) _) Tryz.underlying72 rfl (by kernel_rfl)) rfl ?_
    refine ⟨by simp, ((HB2.out.trans (h4.mono hle)).setCell (Nat.le_succ _) _).setCell (Nat.le_succ _) _⟩
set_option maxRecDepth 20000 in
set_option maxHeartbeats 4000000 in
theorem combine_one (k : Int) (hk : k = 5 ∨ k = 6 ∨ k = 7) (A : Option Addr) (c : Nat) (x : Ex) (W : World) (hr : RdX 2 exC W A [x]) (hx : x.1.length ≤ 100000000) :
    Calls Tryz.prog 34 #[.agg #[.int .i64 k, .string ⟨#[]⟩], .slice A 1 c] W fun e w' => e = .returned (.agg #[.string (bs (inE x 2 ++ [if k = 5 then 42 else if k = 6 then 43 else 63])), .int .i64 2]) ∧ Below W.heap.size W w' := by
  obtain ⟨b, o, rfl, hb, a0, a1⟩ := ex_at hr (i := 0) (x := x) rfl
  simp only [Nat.zero_mul, Nat.add_zero] at a0 a1
  obtain ⟨p, h⟩ := x
  simp only at a0 a1 hx
  clear hr
  have HA : Hid (∀ V, Calls Tryz.prog 62 #[.agg #[.string (bs p), .int .i64 (h : Int)], .int .i64 2] V fun e w' => e = .returned (.string (bs (inE (p, h) 2))) ∧ Below V.heap.size V w') := Lib.hid fun V => within_any p h 2 V (by omega)
  have l1 := in_len (p, h) 2
  simp only at l1
  have H1 := add_bs1 (inE (p, h) 2) 42 (by omega)
  have H2 := add_bs1 (inE (p, h) 2) 43 (by omega)
  have H3 := add_bs1 (inE (p, h) 2) 63 (by omega)
  have hb0 : Below W.heap.size W ((W.alloc (.cells #[.int .i64 k, .string ⟨#[]⟩] 43)).alloc (.cells #[.string ⟨#[]⟩, .int .i64 0] 72)) := ((Below.refl _ _).alloc (Nat.le_refl _) _).alloc (by simp) _
  have HR := Lib.hid (row_atC (t := 72) (w := W.alloc (.cells #[.int .i64 k, .string ⟨#[]⟩] 43)) (g := W.heap.size + 1) (by simp) [.string ⟨#[]⟩, .int .i64 0])
  have HB0 := Lib.hid hb0
  clear l1 hb0
  rcases hk with rfl | rfl | rfl
  all_goals
    go_enter Tryz.func34, Tryz.ntmps34
    go_wp2_with (go_at_call 62; refine (HA.out _).mono ?_; rintro e w3 ⟨rfl, hb3⟩; have r0 := (rowOn HR.out hb3).cell 0; have r1 := (rowOn HR.out hb3).cell 1; have r2 := (rowOn HR.out hb3).frozen 0; have r3 := (rowOn HR.out hb3).frozen 1; have HB3 := Lib.hid hb3; clear HA hb3)
    refine bodyPost_ret (results_cell_row rfl _ _ (W.heap.size + 1) _ _ _ _ rfl (Row.set (pre := [_]) (post := []) (Row.set (pre := []) (post := [_]) (rowOn HR.out HB3.out) _) _) Tryz.underlying72 rfl (by kernel_rfl)) rfl ?_
    refine ⟨rfl, ((on HB0.out HB3.out).setCell (Nat.le_succ _) _).setCell (Nat.le_succ _) _⟩
set_option maxRecDepth 20000 in
set_option maxHeartbeats 4000000 in
theorem combine_none (k : Int) (hk : k = 1 ∨ k = 2) (l : List UInt8) (A : Option Addr) (c : Nat) (W : World) (hl : l.length ≤ 100000000) :
    Calls Tryz.prog 34 #[.agg #[.int .i64 k, .string (bs l)], .slice A 0 c] W fun e w' => e = .returned (.agg #[.string (bs (if k = 1 then l else [94] ++ l)), .int .i64 2]) ∧ Below W.heap.size W w' := by
  have H1 := add_bs0 l 94 (by omega)
  have hb0 : Below W.heap.size W ((W.alloc (.cells #[.int .i64 k, .string (bs l)] 43)).alloc (.cells #[.string ⟨#[]⟩, .int .i64 0] 72)) := ((Below.refl _ _).alloc (Nat.le_refl _) _).alloc (by simp) _
  have HR := Lib.hid (row_atC (t := 72) (w := W.alloc (.cells #[.int .i64 k, .string (bs l)] 43)) (g := W.heap.size + 1) (by simp) [.string ⟨#[]⟩, .int .i64 0])
  have HB0 := Lib.hid hb0
  clear hb0 hl
  rcases hk with rfl | rfl
  all_goals
    go_enter Tryz.func34, Tryz.ntmps34
    go_wp2
    refine bodyPost_ret (results_cell_row rfl _ _ (W.heap.size + 1) _ _ _ _ rfl (row_atC (t := 72) (w := W.alloc (.cells #[.int .i64 _, .string (bs l)] 43)) (g := W.heap.size + 1) (by simp) [_, _]) Tryz.underlying72 rfl (by kernel_rfl)) rfl ?_
    refine ⟨rfl, ((Below.refl _ _).alloc (Nat.le_refl _) _).alloc (by simp) _⟩
/-- What a step makes of its operands. -/
theorem combine_any (k : Int) (l : List UInt8) (A : Option Addr) (c : Nat) (of : List Ex) (W : World) (hok : opB k l = true) (hn : of.length = opA k) (hr : RdX 2 exC W A of) (hlen : ∀ x ∈ of, x.1.length ≤ 100000000) (hl : l.length ≤ 100000000) :
    Calls Tryz.prog 34 #[.agg #[.int .i64 k, .string (bs l)], .slice A of.length c] W fun e w' => e = .returned (.agg #[.string (bs (combE (normS k l) (of.headD e0) (of.tail.headD e0)).1), .int .i64 ((combE (normS k l) (of.headD e0) (of.tail.headD e0)).2 : Nat)]) ∧ Below W.heap.size W w' := by
  by_cases h12 : k = 1 ∨ k = 2
  · have e0 : opA k = 0 := by unfold opA; rw [if_neg (by omega), if_neg (by omega)]
    obtain rfl : of = [] := List.eq_nil_of_length_eq_zero (hn.trans e0)
    refine (combine_none k h12 l A c W hl).mono ?_
    rintro e w' ⟨rfl, hb⟩
    refine ⟨?_, hb⟩
    rcases h12 with rfl | rfl <;> rfl
  · have hl0 : l = [] := by
      unfold opB at hok
      rw [if_neg h12] at hok
      split at hok
      · simpa using hok
      · cases hok
    subst hl0
    by_cases h3 : k = 3
    · subst h3
      match of, hn with
      | [x, y], _ => exact combine_3 A c x y W hr (hlen x (by simp)) (hlen y (by simp))
    by_cases h4 : k = 4
    · subst h4
      match of, hn with
      | [x, y], _ => exact combine_4 A c x y W hr (hlen x (by simp)) (hlen y (by simp))
    have h5 : k = 5 ∨ k = 6 ∨ k = 7 := by
      unfold opB at hok
      rw [if_neg h12] at hok
      split at hok
      · omega
      · cases hok
    have e1 : opA k = 1 := by unfold opA; rw [if_pos h5]
    match of, hn.trans e1 with
    | [x], _ =>
      refine (combine_one k h5 A c x W hr (hlen x (by simp))).mono ?_
      rintro e w' ⟨rfl, hb⟩
      refine ⟨?_, hb⟩
      rcases h5 with rfl | rfl | rfl <;> rfl
end Go.Proofs.YtahljmddnfldlaaGreatDoor
namespace Go.Proofs.YtahljmddnfldlaaGreatDoor
open Go.RowKit FloM ValM Go.Shelf
set_option linter.unusedVariables false
set_option linter.unusedSimpArgs false
abbrev SI := Int × ByteArray
def siC (s : SI) : List Value := [.int .i64 s.1, .string s.2]
def stN (s : SI) : St := normS s.1 (ls s.2)
def deepT (t : List UInt8) : Nat := deepL (toksL 0 t).ts
theorem info_expr : (Tryz.prog.info? 72).map (fun i => (i.zero, i.size, i.bytes)) = some (some (.agg #[.string ByteArray.empty, .int .i64 0]), 2, 24) := by kernel_rfl
def totE (st : List Ex) : Nat := (st.map fun e => e.1.length).sum
theorem tot_app (a b : List Ex) : totE (a ++ b) = totE a + totE b := by unfold totE; rw [List.map_append, List.sum_append]
theorem tot_one (a : Ex) : totE [a] = a.1.length := by simp [totE]
theorem opN_len {s : St} (h : opN s = some 0) : s.l.length ≤ 40 := good_label (not_bad h)
theorem comb_len {s : St} {n : Nat} (of : List Ex) (h : opN s = some n) (hn : of.length = n) : (combE s (of.headD e0) (of.tail.headD e0)).1.length ≤ totE of + 44 := by
  rcases opN_cases h with ⟨rfl, hk⟩ | ⟨rfl, hk⟩ | ⟨rfl, hk⟩
  · have hl := opN_len h
    unfold combE
    rcases hk with hk | hk
    · rw [if_pos hk]; simp only; omega
    · rw [if_neg (by omega), if_pos hk]; simp; omega
  · match of, hn with
    | [x], _ =>
      have := in_len x 2
      rw [tot_one]
      unfold combE
      rw [if_neg (by omega), if_neg (by omega), if_neg (by omega), if_neg (by omega)]
      split
      · simp; omega
      · split
        · simp; omega
        · simp; omega
  · match of, hn with
    | [x, y], _ =>
      have h0 := in_len x 0; have h1 := in_len x 1; have h2 := in_len y 1; have h3 := in_len y 2
      have ht : totE [x, y] = x.1.length + y.1.length := by simp [totE]
      rw [ht]
      unfold combE
      rw [if_neg (by omega), if_neg (by omega)]
      rcases hk with hk | hk
      · rw [if_pos hk]; simp; omega
      · rw [if_neg (by omega), if_pos hk]; simp; omega
theorem step_len {st st2 : List Ex} {s : St} (h : stepE st s = some st2) : totE st2 ≤ totE st + 44 := by
  unfold stepE at h
  cases ho : opN s with
  | none => rw [ho] at h; cases h
  | some n =>
    rw [ho] at h
    simp only at h
    split at h
    · cases h
    · rename_i hn
      injection h with h
      subst h
      have := comb_len (st.drop (st.length - n)) ho (by rw [List.length_drop]; omega)
      rw [tot_app, tot_one]
      have e : totE st = totE (st.take (st.length - n)) + totE (st.drop (st.length - n)) := by rw [← tot_app, List.take_append_drop]
      omega
theorem run_len : ∀ (l : List St) (st st2 : List Ex), runE st l = some st2 → totE st2 ≤ totE st + 44 * l.length
  | [], st, st2, h => by injection h with h; subst h; simp
  | s :: l, st, st2, h => by
    unfold runE at h
    cases hs : stepE st s with
    | none => rw [hs] at h; cases h
    | some m =>
      rw [hs] at h
      have h1 := step_len hs
      have h2 := run_len l m st2 h
      simp only [List.length_cons]
      omega
theorem tot_mem {st : List Ex} {e : Ex} (h : e ∈ st) : e.1.length ≤ totE st := by
  obtain ⟨a, b, rfl⟩ := List.append_of_mem h
  rw [tot_app]
  have : totE (e :: b) = e.1.length + totE b := by simp [totE]
  omega
theorem run_none {l : List SI} {k : Nat} {x : SI} {st : List Ex} (hx : l[k]? = some x) (hr : runE [] ((l.take k).map stN) = some st) (hs : stepE st (stN x) = none) : runE [] (l.map stN) = none := by
  have hk := (List.getElem?_eq_some_iff.1 hx).1
  have e : l = l.take k ++ x :: l.drop (k + 1) := by
    have h1 : l.drop k = x :: l.drop (k + 1) := by rw [List.drop_eq_getElem_cons hk, (List.getElem?_eq_some_iff.1 hx).2]
    rw [← h1, List.take_append_drop]
  rw [e, List.map_append, run_app, hr]
  simp only [Option.bind, List.map_cons, runE, hs]
theorem run_next {l : List SI} {k : Nat} {x : SI} {st st2 : List Ex} (hx : l[k]? = some x) (hr : runE [] ((l.take k).map stN) = some st) (hs : stepE st (stN x) = some st2) : runE [] ((l.take (k + 1)).map stN) = some st2 := by
  rw [take_snoc' hx, List.map_append, List.map_singleton, run_snoc, hr]
  exact hs
theorem pathX_none {D : List UInt8 → Nat} {l : List St} (h : runE [] l = none) : pathX D l = [] := by
  unfold pathX
  split
  · rfl
  · rw [h]
/-- A row of one's own, cut behind some of it. -/
theorem own_take {w : World} {base size n m c : Nat} {e : TypeId} {A : Option Addr} {xs : List Value} (h : w.ownsRow base e size (.slice A n c) n xs) (hm : m ≤ n) : w.ownsRow base e size (.slice A m c) m (xs.take (m * size)) := by
  refine ⟨by rw [List.length_take, h.1]; exact Nat.min_eq_left (Nat.mul_le_mul_right _ hm), ?_⟩
  rcases h.2 with ⟨h0, h1⟩ | ⟨g, cap, cur, hv, hbg, hg, h1, h2, h3, h4⟩
  · obtain rfl : m = 0 := by omega
    injection h0 with e1 e2 e3
    subst e1 e3
    exact .inl ⟨rfl, rfl⟩
  · injection hv with e1 e2 e3
    subst e1 e3
    refine .inr ⟨g, c, cur, rfl, hbg, hg, by omega, h2, h3, ?_⟩
    have hml : m * size ≤ n * size := Nat.mul_le_mul_right _ hm
    rw [← h4, List.take_take, Nat.min_eq_left hml]
theorem cells_take {β : Type} {cl : β → List Value} {sz : Nat} (hs : ∀ x, (cl x).length = sz) : ∀ (l : List β) (k : Nat), (cellsOf cl l).take (k * sz) = cellsOf cl (l.take k)
  | [], k => by simp [cellsOf]
  | y :: l, 0 => by simp [cellsOf]
  | y :: l, k + 1 => by
    show (cl y ++ cellsOf cl l).take ((k + 1) * sz) = cl y ++ cellsOf cl (l.take k)
    have h1 := hs y
    have e : (k + 1) * sz = (cl y).length + k * sz := by rw [h1, Nat.add_mul, Nat.one_mul]; omega
    rw [e, List.take_append, List.take_of_length_le (by omega), Nat.add_sub_cancel_left, cells_take hs l k]
theorem RdX.drop {β : Type} {sz : Nat} {cl : β → List Value} {W : World} {b o : Nat} {l : List β} (h : RdX sz cl W (some ⟨b, o, none⟩) l) (k : Nat) : RdX sz cl W (some ⟨b, o + k * sz, none⟩) (l.drop k) := ⟨by have := h.1; rw [List.length_drop]; omega, fun i x hx => by
  rw [List.getElem?_drop] at hx
  obtain ⟨b', o', e, hl, hc⟩ := h.2 (k + i) x hx
  injection e with e; injection e with e1 e2 _; subst e1 e2
  refine ⟨b, o + k * sz, rfl, hl, fun j v hj => ?_⟩
  rw [show o + k * sz + i * sz + j = o + (k + i) * sz + j by rw [Nat.add_mul]; omega]
  exact hc j v hj⟩
/-- The stack's row: nil, or one of one's own. -/
theorem own_parts {w : World} {base size n c : Nat} {e : TypeId} {A : Option Addr} {xs : List Value} (h : w.ownsRow base e size (.slice A n c) n xs) : (A = none ∧ n = 0 ∧ c = 0) ∨ ∃ g, A = some ⟨g, 0, none⟩ ∧ base ≤ g ∧ g < w.heap.size ∧ n ≤ c := by
  rcases h.2 with ⟨h0, h1⟩ | ⟨g, cap, cur, hv, hbg, hg, h1, h2, h3, h4⟩
  · injection h0 with e1 e2 e3
    exact .inl ⟨e1, h1, e3⟩
  · injection hv with e1 e2 e3
    subst e3
    exact .inr ⟨g, e1, hbg, (Array.getElem?_eq_some_iff.1 hg).1, h1⟩
end Go.Proofs.YtahljmddnfldlaaGreatDoor
namespace Go.Proofs.YtahljmddnfldlaaGreatDoor
open Go.RowKit FloM ValM Go.Shelf
set_option linter.unusedVariables false
set_option linter.unusedSimpArgs false
theorem deepT_tree {e : PE} (h : e.good) : deepT e.tx = e.dp := by unfold deepT; rw [toks_alone h]; exact deep_tree h
theorem path_tree {e : PE} (h : e.good) (hl : e.st.length ≤ 100) : pathX deepT e.st = if 32 < e.dp then [] else e.tx := by
  unfold pathX
  rw [if_neg (by omega), run_tree e [] h]
  simp only [List.nil_append, PE.ex]
  rw [deepT_tree h]
theorem tx_ne {e : PE} (h : e.good) : e.tx ≠ [] := by
  cases e with
  | leaf b l =>
    cases b with
    | true => simp [PE.tx]
    | false => exact predL_ne h
  | un k e => simp [PE.tx]
  | bin k a b => unfold PE.tx; split <;> simp
/-- Steps that have a text are a tree's. -/
theorem tree_path {l : List St} (h : pathX deepT l ≠ []) : ∃ e : PE, e.good ∧ e.st = l ∧ e.dp ≤ 32 ∧ l.length ≤ 100 ∧ pathX deepT l = e.tx := by
  by_cases h100 : 100 < l.length
  · exact absurd (by unfold pathX; rw [if_pos h100]) h
  · cases hr : runE [] l with
    | none => exact absurd (pathX_none hr) h
    | some st =>
      match st, hr with
      | [], hr => exact absurd (by unfold pathX; rw [if_neg h100, hr]) h
      | _ :: _ :: _, hr => exact absurd (by unfold pathX; rw [if_neg h100, hr]) h
      | [e], hr =>
        obtain ⟨t, rfl, rfl, hg⟩ := run_one hr
        have hp := path_tree hg (by omega)
        by_cases h32 : 32 < t.dp
        · rw [hp, if_pos h32] at h; exact absurd rfl h
        · exact ⟨t, hg, rfl, by omega, by omega, by rw [hp, if_neg h32]⟩
end Go.Proofs.YtahljmddnfldlaaGreatDoor
namespace Go.Proofs.YtahljmddnfldlaaGreatDoor
open Go.RowKit FloM ValM Go.Shelf
set_option linter.unusedVariables false
set_option linter.unusedSimpArgs false
end Go.Proofs.YtahljmddnfldlaaGreatDoor
namespace Go.Proofs.YtahljmddnfldlaaGreatDoor
open Go.RowKit FloM ValM Go.Shelf
set_option linter.unusedVariables false
set_option linter.unusedSimpArgs false
def RV (l : List SI) (n : Nat) : List St := ((l.take n).map stN).reverse
section
variable {m : Nat} {r q q2 : List St} {l b a : List UInt8} {k h : Nat} {s : St}
end
end Go.Proofs.YtahljmddnfldlaaGreatDoor
namespace Go.Proofs.YtahljmddnfldlaaGreatDoor
open Go.RowKit FloM ValM Go.Shelf
set_option linter.unusedVariables false
set_option linter.unusedSimpArgs false
end Go.Proofs.YtahljmddnfldlaaGreatDoor
namespace Go.Proofs.YtahljmddnfldlaaGreatDoor
open Go.RowKit FloM ValM Go.Shelf
set_option linter.unusedVariables false
set_option linter.unusedSimpArgs false
def PathRel (l : List SI) (W : World) (v3 v14 : Value) (wr : World) : Prop := ∃ (k m : Nat) (st : List Ex) (A : Option Addr) (c : Nat), v3 = .slice A m c ∧ v14 = .int .i64 (k : Nat) ∧ m = st.length ∧ k ≤ l.length ∧ runE [] ((l.take k).map stN) = some st ∧
  OwnX 72 2 exC wr W.heap.size A c st ∧ Below W.heap.size W wr
theorem run_many : ∀ (l : List St) (st st2 : List Ex), runE st l = some st2 → st2.length ≤ st.length + l.length
  | [], st, st2, h => by injection h with h; subst h; simp
  | s :: l, st, st2, h => by
    unfold runE at h
    cases hs : stepE st s with
    | none => rw [hs] at h; cases h
    | some m =>
      rw [hs] at h
      have h2 := run_many l m st2 h
      have h1 : m.length ≤ st.length + 1 := by
        unfold stepE at hs
        cases ho : opN s with
        | none => rw [ho] at hs; cases hs
        | some n =>
          rw [ho] at hs
          simp only at hs
          split at hs
          · cases hs
          · injection hs with hs
            rw [← hs, List.length_append, List.length_take, List.length_singleton]
            omega
      simp only [List.length_cons]
      omega
set_option maxRecDepth 20000 in
set_option maxHeartbeats 16000000 in
theorem showPath_any (A : Option Addr) (c : Nat) (l : List SI) (W : World) (hr : RdX 2 siC W A l) (hs : ∀ s ∈ l, s.2.size ≤ maxLen) :
    Calls Tryz.prog 16 #[.slice A l.length c] W fun e w' => e = .returned (.string (bs (pathX deepT (l.map stN)))) ∧ Below W.heap.size W w' := by
  have hmx : l.length ≤ 9223372036854775807 := Nat.le_trans hr.1 (by decide)
  by_cases h100 : 100 < l.length
  · have e : pathX deepT (l.map stN) = [] := by unfold pathX; rw [if_pos (by rw [List.length_map]; exact h100)]
    rw [e]
    have h1 : (100 : Int) < (l.length : Int) := by omega
    clear hr hs e
    go_enter Tryz.func16, Tryz.ntmps16
    go_wp2
    go_ret
    exact ⟨rfl, Below.refl _ _⟩
  · have h1 : ¬ (100 : Int) < (l.length : Int) := by omega
    have HR := Lib.hid hr; have HSZ := Lib.hid hs
    obtain ⟨i0, hi0, hz0, hz1, hz2⟩ := info_parts info_expr
    have HI := Lib.hid (And.intro hi0 (And.intro hz0 (And.intro hz1 hz2)))
    clear hr hs hi0 hz0 hz1 hz2
    go_enter Tryz.func16, Tryz.ntmps16
    go_wp2
    go_loopw [3, 14] (PathRel l W) (fun _ v _ => l.length - (intOf v).toNat)
    case atStart => exact ⟨0, 0, [], none, 0, rfl, rfl, rfl, Nat.zero_le _, rfl, own_nil _ _ _ _, Below.refl _ _⟩
    case round =>
      obtain ⟨k, m, st, A2, c2, rfl, rfl, hm, hk, hrun, hown, hb⟩ := hrel
      have HRUN := Lib.hid hrun; have HOWN := Lib.hid hown; have HB := Lib.hid hb
      clear hrun
      by_cases hlt : k < l.length
      · obtain ⟨x, hx⟩ : ∃ x, l[k]? = some x := ⟨_, List.getElem?_eq_getElem hlt⟩
        obtain ⟨b, o, rfl, hbl, hc⟩ := (RdX.on HR.out hb).2 k x hx
        have x0 := hc 0 _ rfl; have x1 := hc 1 _ rfl
        rw [Nat.add_zero] at x0
        obtain ⟨xk, xs⟩ := x
        simp only at x0 x1
        have hxs : xs.size ≤ maxLen := HSZ.out _ (List.mem_of_getElem? hx)
        have HX := Lib.hid hx
        have HOP := Lib.hid (fun V => operands_any xk xs V hxs)
        have HON : Hid (opN (normS xk (ls xs)) = if opB xk (ls xs) = true then some (opA xk) else none) := Lib.hid (op_norm xk (ls xs))
        clear hc hx hown hb
        cases hok : opB xk (ls xs) with
        | false =>
          have HE : Hid (pathX deepT (l.map stN) = []) := Lib.hid (pathX_none (run_none HX.out HRUN.out (by show stepE st (normS xk (ls xs)) = none; unfold stepE; rw [HON.out, hok]; rfl)))
          rw [hok] at HOP
          clear hok
          go_wp2_with (go_at_call 33; refine (HOP.out _).mono ?_; rintro e w2 ⟨rfl, hb2⟩; have HB2 := Lib.hid hb2; clear hb2)
          go_ret
          rw [HE.out]
          exact ⟨rfl, on (HB.out.alloc HB.out.size _) HB2.out⟩
        | true =>
          rw [hok] at HOP
          by_cases hfew : m < opA xk
          · have HE : Hid (pathX deepT (l.map stN) = []) := Lib.hid (pathX_none (run_none HX.out HRUN.out (by show stepE st (normS xk (ls xs)) = none; unfold stepE; rw [HON.out, hok]; simp only [if_true]; rw [if_pos (by omega)])))
            have hg : (m : Int) < (opA xk : Nat) := by omega
            clear hok hfew
            generalize opA xk = n at *
            go_wp2_with (go_at_call 33; refine (HOP.out _).mono ?_; rintro e w2 ⟨rfl, hb2⟩; have HB2 := Lib.hid hb2; clear hb2)
            go_ret
            rw [HE.out]
            exact ⟨rfl, on (HB.out.alloc HB.out.size _) HB2.out⟩
          · obtain ⟨r, hrm⟩ : ∃ r, m = r + opA xk := ⟨m - opA xk, by omega⟩
            have HS : Hid (stepE st (normS xk (ls xs)) = some (st.take r ++ [combE (normS xk (ls xs)) ((st.drop r).headD e0) ((st.drop r).tail.headD e0)])) := Lib.hid (by
              have e : st.length - opA xk = r := by omega
              unfold stepE; rw [HON.out, hok]; simp only [if_true]; rw [if_neg (by omega), e])
            have HNX := Lib.hid (run_next HX.out HRUN.out HS.out)
            have hln : (st.drop r).length = opA xk := by rw [List.length_drop]; omega
            have hlt0 : totE st ≤ 44 * l.length := by
              have := run_len _ _ _ HRUN.out
              rw [List.length_map, List.length_take] at this
              have h3 : totE [] = 0 := rfl
              omega
            have hcom := fun A' c' V (hV : RdX 2 exC V A' (st.drop r)) => combine_any xk (ls xs) A' c' (st.drop r) V hok hln hV (fun e he => by have := tot_mem (List.mem_of_mem_drop he); omega) (by
              unfold opB at hok
              rw [ls_len]
              by_cases h12 : xk = 1 ∨ xk = 2
              · rw [if_pos h12] at hok; have := pred_len hok; rw [ls_len] at this; omega
              · rw [if_neg h12] at hok
                split at hok
                · have h0 : ls xs = [] := by simpa using hok
                  have := ls_len xs; rw [h0] at this; simp at this; omega
                · cases hok)
            rw [bs_ls, hln] at hcom
            have HCM : Hid (∀ A' c' V, RdX 2 exC V A' (st.drop r) → _) := Lib.hid hcom
            have HPRE : Hid (wr.ownsRow W.heap.size 72 2 (.slice A2 r c2) r (cellsOf exC (st.take r))) := Lib.hid (by
              have h := HOWN.out
              unfold OwnX at h
              rw [← hm] at h
              have := own_take h (m := r) (by omega)
              rwa [cells_take (cl := exC) (fun _ => rfl)] at this)
            have HRD : Hid (∀ g, A2 = some ⟨g, 0, none⟩ → RdX 2 exC wr (some ⟨g, 0 + r * 2, none⟩) (st.drop r)) := Lib.hid (fun g hg => by
              have h := RdX.of_own (cl := exC) (fun _ => rfl) HOWN.out
              rw [hg] at h
              exact h.drop r)
            have hpl : (st.take r).length = r := by rw [List.length_take]; omega
            have HPL := Lib.hid hpl
            generalize combE (normS xk (ls xs)) ((st.drop r).headD e0) ((st.drop r).tail.headD e0) = X at HS HNX hcom HCM
            generalize st.take r = pre at HS HNX HPRE HPL hpl
            have HRow2 := Lib.hid (row_new (t := 43) wr [.int .i64 xk, .string xs])
            have hr0 : r ≤ m := by omega
            have HM100 : Hid (m ≤ 1000) := Lib.hid (by have h := run_many _ _ _ HRUN.out; rw [List.length_map, List.length_take] at h; simp at h; omega)
            have hm100 : m ≤ 1000 := HM100.out
            have hpt := own_parts HOWN.out
            rw [← hm] at hpt
            generalize opA xk = n at *
            have er : r = m - n := by omega
            subst er
            have g1 : ¬ (m : Int) < (n : Int) := by omega
            have g2 : (0 : Int) ≤ (m : Int) - (n : Int) := by omega
            have g3 : (m : Int) - (n : Int) ≤ (m : Int) := by omega
            have g6 : m - (m - n) = n := by omega
            have HRM := Lib.hid hrm; have HM := Lib.hid hm
            clear hok hfew hcom hln hpl hlt0 hrm hm HS HON hr0
            -- CASES
            rcases hpt with ⟨rfl, rfl, rfl⟩ | ⟨g, rfl, hbg, hgW, hmc⟩
            · obtain rfl : n = 0 := by omega
              have HCB : Hid (∀ V, Below wr.heap.size wr V → _) := Lib.hid fun V (hV : Below wr.heap.size wr V) => HCM.out none 0 V (by rw [List.drop_eq_nil_of_le (by have := HM.out; omega)]; exact ⟨by simp, fun i x hx => by simp at hx⟩)
              clear HCM HRD HRM g1 g2 g3 g6
              go_wp2_with (go_at_call 33; refine (HOP.out _).mono ?_; rintro e w2 ⟨rfl, hb2⟩; have HB2 := Lib.hid (on ((Below.refl wr.heap.size wr).alloc (Nat.le_refl _) _) hb2); have s0 := (rowOn HRow2.out hb2).cell 0; have s1 := (rowOn HRow2.out hb2).cell 1; simp only [List.getElem?_cons_zero, List.getElem?_cons_succ] at s0 s1; have s0d : w2.drew.cell? ⟨wr.heap.size, 0, none⟩ = some (.int .i64 xk) := s0; have s1d : w2.drew.cell? ⟨wr.heap.size, 1, none⟩ = some (.string xs) := s1; clear hb2)
              go_region_law (first
                | (go_simp; go_at_call 34; refine (HCB.out _ (by first | exact HB2.out | exact HB2.out.drew)).mono ?_; rintro e w3 ⟨rfl, hb3⟩; have HB3 := Lib.hid (on HB2.out.drew hb3); clear hb3)
                | (refine step_append_lies _ rfl (.tmp 37) (.tmp 43) 68 rfl W.heap.size 72 i0 _ 2 24 Tryz.underlying68 HI.out.1 HI.out.2.1 HI.out.2.2.1 HI.out.2.2.2 rfl (by decide) (.slice none 0 0) (0) (cellsOf exC pre) (by simp [Act.eval, Act.put]) ?_ ⟨w3.heap.size, 0, none⟩ 1 1 [.string (bs X.1), .int .i64 (X.2 : Nat)] (by simp [Act.eval, Act.put]) rfl ?_ ?_ (by decide) ?_ ?_ ?_ (w3.heap.size + 1) (by simp) ?_; (exact own_on HPRE.out (HB3.out.alloc HB3.out.size _)); (exact news_one w3 #[.string (bs X.1), .int .i64 (X.2 : Nat)] 72); (intro u hu; simp only [List.mem_cons, List.not_mem_nil, or_false] at hu; rcases hu with rfl | rfl <;> rfl); (have := HM100.out; unfold maxLen; omega); (have := HM100.out; omega); (have h1 := HB.out.size; have h2 := HB3.out.size; simp; omega); intro g4 cp4 w4 ho4 hg4 hor4 hlt4; have HO4 := Lib.hid ho4; have HG4 := Lib.hid hg4; clear ho4 hg4 hor4 hlt4))
              all_goals
                go_wp2
                go_roundw
                case rel =>
                  refine ⟨k + 1, 0 + 1, pre ++ [X], some ⟨g4, 0, none⟩, cp4, by go_num, by go_num, ?_, by omega, HNX.out, ?_, ?_⟩
                  · have h := HPL.out; rw [List.length_append, List.length_singleton]; omega
                  · have h := HO4.out
                    refine OwnX.app ?_
                    rw [HPL.out]
                    exact h
                  · exact ((HB.out.trans (HB3.out.mono HB.out.size)).alloc (by have h1 := HB.out.size; have h2 := HB3.out.size; omega) _).grown HG4.out (by have h1 := HB.out.size; have h2 := HB3.out.size; simp; omega) (fun kk hkk => by simp [Value.ownBlock] at hkk)
                case measure => simp [intOf]; omega
            · have g4 : (m : Int) ≤ (c2 : Int) := by omega
              have g5 : (m : Int) - (n : Int) ≤ (c2 : Int) := by omega
              by_cases hcr : c2 = m - n
              · obtain rfl : n = 0 := by have h := HRM.out; omega
                obtain rfl : c2 = m := by omega
                have HCB : Hid (∀ V, Below wr.heap.size wr V → _) := Lib.hid fun V (hV : Below wr.heap.size wr V) => HCM.out (some ⟨g, 0, none⟩) 0 V (by rw [List.drop_eq_nil_of_le (by have := HM.out; omega)]; exact ⟨by simp, fun i x hx => by simp at hx⟩)
                clear HCM HRD hmc HRM g1 g2 g3 g4 g5 g6 hcr
                go_wp2_with (go_at_call 33; refine (HOP.out _).mono ?_; rintro e w2 ⟨rfl, hb2⟩; have HB2 := Lib.hid (on ((Below.refl wr.heap.size wr).alloc (Nat.le_refl _) _) hb2); have s0 := (rowOn HRow2.out hb2).cell 0; have s1 := (rowOn HRow2.out hb2).cell 1; simp only [List.getElem?_cons_zero, List.getElem?_cons_succ] at s0 s1; have s0d : w2.drew.cell? ⟨wr.heap.size, 0, none⟩ = some (.int .i64 xk) := s0; have s1d : w2.drew.cell? ⟨wr.heap.size, 1, none⟩ = some (.string xs) := s1; clear hb2)
                go_region_law (first
                  | (go_simp; go_at_call 34; refine (HCB.out _ (by first | exact HB2.out | exact HB2.out.drew)).mono ?_; rintro e w3 ⟨rfl, hb3⟩; have HB3 := Lib.hid (on HB2.out.drew hb3); clear hb3)
                  | (refine step_append_lies _ rfl (.tmp 37) (.tmp 43) 68 rfl W.heap.size 72 i0 _ 2 24 Tryz.underlying68 HI.out.1 HI.out.2.1 HI.out.2.2.1 HI.out.2.2.2 rfl (by decide) (.slice (some ⟨g, 0, none⟩) c2 c2) (c2) (cellsOf exC pre) (by simp [Act.eval, Act.put]) ?_ ⟨w3.heap.size, 0, none⟩ 1 1 [.string (bs X.1), .int .i64 (X.2 : Nat)] (by simp [Act.eval, Act.put]) rfl ?_ ?_ (by decide) ?_ ?_ ?_ (w3.heap.size + 1) (by simp) ?_; (exact own_on HPRE.out (HB3.out.alloc HB3.out.size _)); (exact news_one w3 #[.string (bs X.1), .int .i64 (X.2 : Nat)] 72); (intro u hu; simp only [List.mem_cons, List.not_mem_nil, or_false] at hu; rcases hu with rfl | rfl <;> rfl); (have := HM100.out; unfold maxLen; omega); (have := HM100.out; omega); (have h1 := HB.out.size; have h2 := HB3.out.size; simp; omega); intro g4 cp4 w4 ho4 hg4 hor4 hlt4; have HO4 := Lib.hid ho4; have HG4 := Lib.hid hg4; clear ho4 hg4 hor4 hlt4))
                all_goals
                  go_wp2
                  go_roundw
                  case rel =>
                    refine ⟨k + 1, c2 + 1, pre ++ [X], some ⟨g4, 0, none⟩, cp4, by go_num, by go_num, ?_, by omega, HNX.out, ?_, ?_⟩
                    · have h := HPL.out; rw [List.length_append, List.length_singleton]; omega
                    · have h := HO4.out
                      refine OwnX.app ?_
                      rw [HPL.out]
                      exact h
                    · exact ((HB.out.trans (HB3.out.mono HB.out.size)).alloc (by have h1 := HB.out.size; have h2 := HB3.out.size; omega) _).grown HG4.out (by have h1 := HB.out.size; have h2 := HB3.out.size; simp; omega) (fun kk hkk => by simp [Value.ownBlock] at hkk; omega)
                  case measure => simp [intOf]; omega
              · have HCB : Hid (∀ V, Below wr.heap.size wr V → _) := Lib.hid fun V (hV : Below wr.heap.size wr V) => HCM.out (some ⟨g, (m - n) * 2, none⟩) (c2 - (m - n)) V (RdX.on (by have := HRD.out g rfl; rwa [Nat.zero_add] at this) hV)
                clear HCM HRD hmc
                go_wp2_with (go_at_call 33; refine (HOP.out _).mono ?_; rintro e w2 ⟨rfl, hb2⟩; have HB2 := Lib.hid (on ((Below.refl wr.heap.size wr).alloc (Nat.le_refl _) _) hb2); have s0 := (rowOn HRow2.out hb2).cell 0; have s1 := (rowOn HRow2.out hb2).cell 1; simp only [List.getElem?_cons_zero, List.getElem?_cons_succ] at s0 s1; have s0d : w2.drew.cell? ⟨wr.heap.size, 0, none⟩ = some (.int .i64 xk) := s0; have s1d : w2.drew.cell? ⟨wr.heap.size, 1, none⟩ = some (.string xs) := s1; clear hb2)
                go_region_law (first
                  | (go_simp; go_at_call 34; refine (HCB.out _ (by first | exact HB2.out | exact HB2.out.drew)).mono ?_; rintro e w3 ⟨rfl, hb3⟩; have HB3 := Lib.hid (on HB2.out.drew hb3); clear hb3)
                  | (refine step_append_lies _ rfl (.tmp 37) (.tmp 43) 68 rfl W.heap.size 72 i0 _ 2 24 Tryz.underlying68 HI.out.1 HI.out.2.1 HI.out.2.2.1 HI.out.2.2.2 rfl (by decide) (.slice (some ⟨g, 0, none⟩) (m - n) c2) (m - n) (cellsOf exC pre) (by simp [Act.eval, Act.put]) ?_ ⟨w3.heap.size, 0, none⟩ 1 1 [.string (bs X.1), .int .i64 (X.2 : Nat)] (by simp [Act.eval, Act.put]) rfl ?_ ?_ (by decide) ?_ ?_ ?_ (w3.heap.size + 1) (by simp) ?_; (exact own_on HPRE.out (HB3.out.alloc HB3.out.size _)); (exact news_one w3 #[.string (bs X.1), .int .i64 (X.2 : Nat)] 72); (intro u hu; simp only [List.mem_cons, List.not_mem_nil, or_false] at hu; rcases hu with rfl | rfl <;> rfl); (have := HM100.out; unfold maxLen; omega); (have := HM100.out; omega); (have h1 := HB.out.size; have h2 := HB3.out.size; simp; omega); intro g4 cp4 w4 ho4 hg4 hor4 hlt4; have HO4 := Lib.hid ho4; have HG4 := Lib.hid hg4; clear ho4 hg4 hor4 hlt4))
                all_goals
                  go_wp2
                  go_roundw
                  case rel =>
                    refine ⟨k + 1, m - n + 1, pre ++ [X], some ⟨g4, 0, none⟩, cp4, by go_num, by go_num, ?_, by omega, HNX.out, ?_, ?_⟩
                    · have h := HPL.out; rw [List.length_append, List.length_singleton]; omega
                    · have h := HO4.out
                      refine OwnX.app ?_
                      rw [HPL.out]
                      exact h
                    · exact ((HB.out.trans (HB3.out.mono HB.out.size)).alloc (by have h1 := HB.out.size; have h2 := HB3.out.size; omega) _).grown HG4.out (by have h1 := HB.out.size; have h2 := HB3.out.size; simp; omega) (fun kk hkk => by simp [Value.ownBlock] at hkk; omega)
                  case measure => simp [intOf]; omega
      · obtain rfl : k = l.length := by omega
        have hrun := HRUN.out
        rw [List.take_of_length_le (Nat.le_refl _)] at hrun
        by_cases h1m : m = 1
        · have hb1 : ((m : Int) != 1) = false := by subst h1m; rfl
          have hst1 : st.length = 1 := by omega
          obtain ⟨e, rfl⟩ := List.length_eq_one_iff.1 hst1
          have hown := HOWN.out
          unfold OwnX at hown
          obtain ⟨g, hA, _, hg, hcs⟩ := own_cells hown (by simp)
          subst hA
          have d0 := hcs 0 (.string (bs e.1)) rfl
          have hle : e.1.length ≤ 20000 := by
            have := run_len _ _ _ hrun
            have h2 := tot_one e
            have h3 : totE [] = 0 := rfl
            rw [List.length_map] at this
            omega
          have HD : Hid (∀ V, Calls Tryz.prog 35 #[.string (bs e.1)] V fun e' w' => e' = .returned (.int .i64 (deepT e.1 : Nat)) ∧ Below V.heap.size V w') := Lib.hid fun V => deep_any (bs e.1) V (by rw [bs_size]; exact hle)
          have HP : Hid (pathX deepT (l.map stN) = if 32 < deepT e.1 then [] else e.1) := Lib.hid (by unfold pathX; rw [if_neg (by rw [List.length_map]; exact h100), hrun])
          subst h1m
          have hgW : g < wr.heap.size := hg
          clear hcs hown hrun hm hst1 hb
          by_cases h32 : 32 < deepT e.1
          · have hd : (32 : Int) < (deepT e.1 : Nat) := by omega
            have HE : Hid (pathX deepT (l.map stN) = []) := Lib.hid (by rw [HP.out, if_pos h32])
            clear HP h32
            generalize deepT e.1 = dd at *
            go_wp2_with (go_at_call 35; refine (HD.out _).mono ?_; rintro e' w2 ⟨rfl, hb2⟩; have d1 := (keep hb2 _ _ hgW).trans d0; have HB2 := Lib.hid hb2; clear hb2)
            go_ret
            rw [HE.out]
            exact ⟨rfl, on HB.out HB2.out⟩
          · have hd : ¬ (32 : Int) < (deepT e.1 : Nat) := by omega
            have HE : Hid (pathX deepT (l.map stN) = e.1) := Lib.hid (by rw [HP.out, if_neg h32])
            clear HP h32
            generalize deepT e.1 = dd at *
            go_wp2_with (go_at_call 35; refine (HD.out _).mono ?_; rintro e' w2 ⟨rfl, hb2⟩; have d1 := (keep hb2 _ _ hgW).trans d0; have HB2 := Lib.hid hb2; clear hb2)
            go_ret
            rw [HE.out]
            exact ⟨rfl, on HB.out HB2.out⟩
        · have hb1 : ((m : Int) != 1) = true := by simp; omega
          have HE : Hid (pathX deepT (l.map stN) = []) := Lib.hid (by
            unfold pathX
            rw [if_neg (by rw [List.length_map]; exact h100), hrun]
            match st, hm with
            | [], _ => rfl
            | [e], h => exact absurd h h1m
            | _ :: _ :: _, _ => rfl)
          clear hrun hm h1m HOWN hown hb
          go_wp2
          go_ret
          rw [HE.out]
          exact ⟨rfl, HB.out⟩
end Go.Proofs.YtahljmddnfldlaaGreatDoor
namespace Go.Proofs.YtahljmddnfldlaaGreatDoor
open Go.RowKit FloM ValM Go.Shelf
set_option linter.unusedVariables false
set_option linter.unusedSimpArgs false
set_option maxRecDepth 20000 in
set_option maxHeartbeats 4000000 in
theorem rightPath_any (A : Option Addr) (c : Nat) (l : List SI) (W : World) (hr : RdX 2 siC W A l) (hs : ∀ s ∈ l, s.2.size ≤ maxLen) :
    Calls Tryz.prog 17 #[.slice A l.length c] W fun e w' => e = .returned (.bool (decide (pathX deepT (l.map stN) ≠ []))) ∧ Below W.heap.size W w' := by
  have HP := Lib.hid (showPath_any A c l W hr hs)
  clear hr hs
  generalize pathX deepT (l.map stN) = X at *
  by_cases h : X = []
  · have f2 : ((bs X).toList == []) = true := by rw [bsl, h]; rfl
    rw [show decide (X ≠ []) = false by simp [h]]
    clear h
    go_enter Tryz.func17, Tryz.ntmps17
    go_wp2_with (go_at_call 16; refine HP.out.mono ?_; rintro e w2 ⟨rfl, hb2⟩; have HB2 := Lib.hid hb2; clear hb2)
    go_ret
    exact ⟨rfl, HB2.out⟩
  · have f2 : ((bs X).toList == []) = false := by rw [bsl, beq_eq_false_iff_ne]; exact h
    rw [show decide (X ≠ []) = true by simp [h]]
    clear h
    go_enter Tryz.func17, Tryz.ntmps17
    go_wp2_with (go_at_call 16; refine HP.out.mono ?_; rintro e w2 ⟨rfl, hb2⟩; have HB2 := Lib.hid hb2; clear hb2)
    go_ret
    exact ⟨rfl, HB2.out⟩
end Go.Proofs.YtahljmddnfldlaaGreatDoor

/-
  LexLonger (layer 7, lex): for every a, b the call returns true: words, variables and values that stand side by side, without a space, are one token, or none, but where a great letter stands behind a word. No condition.
-/
import Derived.Test.YtfdhkldgenkobaaDoorRows
import Derived.Test.YtfdhkldgenkobaaDoorCards
import Derived.Test.YtfdhkldgenkobaaDoorTie
import Derived.Test.YtfdhkldgenkobaaDoorLexAwake
import Derived.Test.YtfdhkldgenkobaaDoorLexKind
import Derived.Test.YtfdhkldgenkobaaDoorValOpen
import Derived.WalkKit
import Derived.ProofKit
import Derived.OpenShut
import Derived.LaidMore
import Derived.Lay
import Derived.SevenTiedAt
import Derived.Stop.Joined
import Derived.RegionTactic
import Derived.BigQuiet
namespace Go.Proofs.YtfdhkldgenkobaaDoor.lexLonger
open Go.ChangeShapes Go.WideShapes Go.ChangeAt Go.RowKit FloM ValM Go.Shelf
set_option linter.unusedVariables false
set_option linter.unusedSimpArgs false
set_option maxRecDepth 20000 in
set_option maxHeartbeats 1000000 in
theorem walk_l0 (a0 a1 : ByteArray) (w : World) (h0 : 100 < (a0.size : Int)) :
    Calls Tryd.prog 6 #[.string a0, .string a1] w fun e w' => e = .returned (.bool true) ∧ Below w.heap.size w w' := by
  have hB := Below.refl w.heap.size w
  go_enter Tryd.func6, Tryd.ntmps6
  go_wp2_with (go_at_call 7; refine (awakeX_any _).mono ?_; rintro e w1 ⟨rfl, h'⟩; replace hB := on hB h'; clear h')
  go_ret
  exact ⟨rfl, hB⟩
set_option maxRecDepth 20000 in
set_option maxHeartbeats 1000000 in
theorem walk_l1 (a0 a1 : ByteArray) (w : World) (h0 : ¬ 100 < (a0.size : Int)) (h1 : 100 < (a1.size : Int)) :
    Calls Tryd.prog 6 #[.string a0, .string a1] w fun e w' => e = .returned (.bool true) ∧ Below w.heap.size w w' := by
  have hB := Below.refl w.heap.size w
  go_enter Tryd.func6, Tryd.ntmps6
  go_wp2_with (go_at_call 7; refine (awakeX_any _).mono ?_; rintro e w1 ⟨rfl, h'⟩; replace hB := on hB h'; clear h')
  go_ret
  exact ⟨rfl, hB⟩
/-- Tokens of a text answers so many, that place, that error. -/
abbrev Tells (s : ByteArray) (l : List Tk) (i : Nat) (q : Int) : Prop := ∀ W : World, Calls Tryd.prog 8 #[.string s] W fun e w' => ∃ (A : Option Addr) (c : Nat), e = .returned (.tuple #[.slice A l.length c, .int .i64 (i : Nat), .int .i64 q]) ∧ RdK w' A l ∧ Below W.heap.size W w'
theorem tells (s : ByteArray) (hs : s.size ≤ 20000) : Tells s (toksL 0 (ls s)).ts (toksL 0 (ls s)).pos (toksL 0 (ls s)).no := fun W => tok_q s W hs
theorem bel_drawsX {B : Nat} {w u : World} (h : Below B w u) (k : Nat) : Below B w (u.drewN k) := ⟨h.os, h.tape, h.output, h.size, h.block⟩
set_option maxRecDepth 20000 in
set_option maxHeartbeats 4000000 in
theorem main1 (a0 a1 : ByteArray) (w : World) (h0 : ¬ 100 < (a0.size : Int)) (h1 : ¬ 100 < (a1.size : Int)) (m : Nat) (TA : Hid (Tells a0 [⟨1, ls a0, 0⟩] 0 0)) (TB : Hid (Tells a1 [⟨m, ls a1, 0⟩] 0 0)) (TZ : Hid (Tells (a0 ++ a1) [⟨1, ls a0, 0⟩, ⟨m, ls a1, (ls a0).length⟩] 0 0)) (hp : 0 < a1.size)
    (hx : ¬ 9223372036854775807 < a0.size + a1.size) (hm : ((m : Int) == 4) = false) (h45 : ((a1[0].toNat : Int) == 45) = false) (h35 : ((a1[0].toNat : Int) == 35) = false) (h65 : 65 ≤ (a1[0].toNat : Int)) (h90 : (a1[0].toNat : Int) ≤ 90) :
    Calls Tryd.prog 6 #[.string a0, .string a1] w fun e w' => e = .returned (.bool true) ∧ Below w.heap.size w w' := by
  have hB := Below.refl w.heap.size w
  go_enter Tryd.func6, Tryd.ntmps6
  go_wp2_with (first | (go_at_call 7; refine (awakeX_any _).mono ?_; rintro e w1 ⟨rfl, h'⟩; replace hB := on hB h'; clear h') | (go_at_call 8; first | ((with_reducible refine (TA.out _).mono ?_); rintro e w2 ⟨A2, c2, rfl, hr, hb⟩; replace hB := on hB hb; have HR2 := Lib.hid hr; clear hr hb) | ((with_reducible refine (TB.out _).mono ?_); rintro e w3 ⟨A3, c3, rfl, hr, hb⟩; replace hB := on hB hb; have HR3 := Lib.hid hr; replace HR2 := Lib.hid (HR2.out.on hb); obtain ⟨b2, o2, rfl, hl2, x0, x1, x2⟩ := HR2.out 0 _ rfl; obtain ⟨b3, o3, rfl, hl3, y0, y1, y2⟩ := HR3.out 0 _ rfl; rw [Nat.zero_mul, Nat.add_zero] at x0 x1 x2 y0 y1 y2; simp only [bs_ls] at x1 y1; clear hr hb) | ((with_reducible refine (TZ.out _).mono ?_); rintro e w4 ⟨A4, c4, rfl, hr, hb⟩; replace hB := on hB hb; obtain ⟨b2', o2', e2, hl2', x0, x1, x2⟩ := (HR2.out.on hb) 0 _ rfl; injection e2 with e2; injection e2 with e21 e22 _; subst e21 e22; obtain ⟨b3', o3', e3, hl3', y0, y1, y2⟩ := (HR3.out.on hb) 0 _ rfl; injection e3 with e3; injection e3 with e31 e32 _; subst e31 e32; rw [Nat.zero_mul, Nat.add_zero] at x0 x1 x2 y0 y1 y2; simp only [bs_ls] at x1 y1; obtain ⟨b4, o4, rfl, hl4, z0, z1, z2⟩ := hr 0 _ rfl; rw [Nat.zero_mul, Nat.add_zero] at z0 z1 z2; simp only [bs_ls] at z1; obtain ⟨b5, o5, e5, hl5, v0, v1, v2⟩ := hr 1 _ rfl; injection e5 with e5; injection e5 with e51 e52 _; subst e51 e52; rw [Nat.one_mul] at v0 v1 v2; simp only [bs_ls] at v1; clear hr hb)))
  go_quiet (fail)
  go_wp2
  go_ret
  exact ⟨rfl, bel_drawsX hB _⟩
set_option maxRecDepth 20000 in
set_option maxHeartbeats 4000000 in
theorem main2 (a0 a1 : ByteArray) (w : World) (h0 : ¬ 100 < (a0.size : Int)) (h1 : ¬ 100 < (a1.size : Int)) (k m : Nat) (TA : Hid (Tells a0 [⟨k, ls a0, 0⟩] 0 0)) (TB : Hid (Tells a1 [⟨m, ls a1, 0⟩] 0 0)) (TZ : Hid (Tells (a0 ++ a1) [] 0 2)) (hp : 0 < a1.size)
    (hx : ¬ 9223372036854775807 < a0.size + a1.size) (hk : ((k : Int) == 4) = false) (hm : ((m : Int) == 4) = false) (h45 : ((a1[0].toNat : Int) == 45) = false) (h35 : ((a1[0].toNat : Int) == 35) = false) (h : ((k : Int) == 1) = false ∨ (((k : Int) == 1) = true ∧ ¬ 65 ≤ (a1[0].toNat : Int)) ∨ (((k : Int) == 1) = true ∧ 65 ≤ (a1[0].toNat : Int) ∧ ¬ (a1[0].toNat : Int) ≤ 90)) :
    Calls Tryd.prog 6 #[.string a0, .string a1] w fun e w' => e = .returned (.bool true) ∧ Below w.heap.size w w' := by
  have hB := Below.refl w.heap.size w
  rcases h with k1 | ⟨k1, k2⟩ | ⟨k1, k2, k3⟩
  all_goals
    go_enter Tryd.func6, Tryd.ntmps6
    go_wp2_with (first | (go_at_call 7; refine (awakeX_any _).mono ?_; rintro e w1 ⟨rfl, h'⟩; replace hB := on hB h'; clear h') | (go_at_call 8; first | ((with_reducible refine (TA.out _).mono ?_); rintro e w2 ⟨A2, c2, rfl, hr, hb⟩; replace hB := on hB hb; have HR2 := Lib.hid hr; clear hr hb) | ((with_reducible refine (TB.out _).mono ?_); rintro e w3 ⟨A3, c3, rfl, hr, hb⟩; replace hB := on hB hb; have HR3 := Lib.hid hr; replace HR2 := Lib.hid (HR2.out.on hb); obtain ⟨b2, o2, rfl, hl2, x0, x1, x2⟩ := HR2.out 0 _ rfl; obtain ⟨b3, o3, rfl, hl3, y0, y1, y2⟩ := HR3.out 0 _ rfl; rw [Nat.zero_mul, Nat.add_zero] at x0 x1 x2 y0 y1 y2; simp only [bs_ls] at x1 y1; clear hr hb) | ((with_reducible refine (TZ.out _).mono ?_); rintro e w4 ⟨A4, c4, rfl, hr, hb⟩; replace hB := on hB hb; obtain ⟨b2', o2', e2, hl2', x0, x1, x2⟩ := (HR2.out.on hb) 0 _ rfl; injection e2 with e2; injection e2 with e21 e22 _; subst e21 e22; obtain ⟨b3', o3', e3, hl3', y0, y1, y2⟩ := (HR3.out.on hb) 0 _ rfl; injection e3 with e3; injection e3 with e31 e32 _; subst e31 e32; rw [Nat.zero_mul, Nat.add_zero] at x0 x1 x2 y0 y1 y2; simp only [bs_ls] at x1 y1; clear hr hb)))
    go_ret
    exact ⟨rfl, hB⟩
set_option maxRecDepth 20000 in
set_option maxHeartbeats 4000000 in
theorem main3 (a0 a1 : ByteArray) (w : World) (h0 : ¬ 100 < (a0.size : Int)) (h1 : ¬ 100 < (a1.size : Int)) (k m : Nat) (TA : Hid (Tells a0 [⟨k, ls a0, 0⟩] 0 0)) (TB : Hid (Tells a1 [⟨m, ls a1, 0⟩] 0 0)) (TZ : Hid (Tells (a0 ++ a1) [⟨k, ls (a0 ++ a1), 0⟩] 0 0)) (hp : 0 < a1.size)
    (hx : ¬ 9223372036854775807 < a0.size + a1.size) (hk : ((k : Int) == 4) = false) (hm : ((m : Int) == 4) = false) (h45 : ((a1[0].toNat : Int) == 45) = false) (h35 : ((a1[0].toNat : Int) == 35) = false) (h : ((k : Int) == 1) = false ∨ (((k : Int) == 1) = true ∧ ¬ 65 ≤ (a1[0].toNat : Int)) ∨ (((k : Int) == 1) = true ∧ 65 ≤ (a1[0].toNat : Int) ∧ ¬ (a1[0].toNat : Int) ≤ 90)) :
    Calls Tryd.prog 6 #[.string a0, .string a1] w fun e w' => e = .returned (.bool true) ∧ Below w.heap.size w w' := by
  have hB := Below.refl w.heap.size w
  rcases h with k1 | ⟨k1, k2⟩ | ⟨k1, k2, k3⟩
  all_goals
    go_enter Tryd.func6, Tryd.ntmps6
    go_wp2_with (first | (go_at_call 7; refine (awakeX_any _).mono ?_; rintro e w1 ⟨rfl, h'⟩; replace hB := on hB h'; clear h') | (go_at_call 8; first | ((with_reducible refine (TA.out _).mono ?_); rintro e w2 ⟨A2, c2, rfl, hr, hb⟩; replace hB := on hB hb; have HR2 := Lib.hid hr; clear hr hb) | ((with_reducible refine (TB.out _).mono ?_); rintro e w3 ⟨A3, c3, rfl, hr, hb⟩; replace hB := on hB hb; have HR3 := Lib.hid hr; replace HR2 := Lib.hid (HR2.out.on hb); obtain ⟨b2, o2, rfl, hl2, x0, x1, x2⟩ := HR2.out 0 _ rfl; obtain ⟨b3, o3, rfl, hl3, y0, y1, y2⟩ := HR3.out 0 _ rfl; rw [Nat.zero_mul, Nat.add_zero] at x0 x1 x2 y0 y1 y2; simp only [bs_ls] at x1 y1; clear hr hb) | ((with_reducible refine (TZ.out _).mono ?_); rintro e w4 ⟨A4, c4, rfl, hr, hb⟩; replace hB := on hB hb; obtain ⟨b2', o2', e2, hl2', x0, x1, x2⟩ := (HR2.out.on hb) 0 _ rfl; injection e2 with e2; injection e2 with e21 e22 _; subst e21 e22; obtain ⟨b3', o3', e3, hl3', y0, y1, y2⟩ := (HR3.out.on hb) 0 _ rfl; injection e3 with e3; injection e3 with e31 e32 _; subst e31 e32; rw [Nat.zero_mul, Nat.add_zero] at x0 x1 x2 y0 y1 y2; simp only [bs_ls] at x1 y1; obtain ⟨b4, o4, rfl, hl4, z0, z1, z2⟩ := hr 0 _ rfl; rw [Nat.zero_mul, Nat.add_zero] at z0 z1 z2; simp only [bs_ls] at z1; clear hr hb)))
    go_quiet (fail)
    go_wp2
    go_ret
    exact ⟨rfl, bel_drawsX hB _⟩
set_option maxRecDepth 20000 in
set_option maxHeartbeats 4000000 in
theorem skip1 (a0 a1 : ByteArray) (w : World) (h0 : ¬ 100 < (a0.size : Int)) (h1 : ¬ 100 < (a1.size : Int)) (la lb : List Tk) (ia ib : Nat) (ea eb : Int) (TA : Hid (Tells a0 la ia ea)) (TB : Hid (Tells a1 lb ib eb))
    (h : (ea != 0) = true ∨ ((ea != 0) = false ∧ (eb != 0) = true) ∨ ((ea != 0) = false ∧ (eb != 0) = false ∧ ((la.length : Int) != 1) = true) ∨ ((ea != 0) = false ∧ (eb != 0) = false ∧ ((la.length : Int) != 1) = false ∧ ((lb.length : Int) != 1) = true)) :
    Calls Tryd.prog 6 #[.string a0, .string a1] w fun e w' => e = .returned (.bool true) ∧ Below w.heap.size w w' := by
  have hB := Below.refl w.heap.size w
  rcases h with k1 | ⟨k1, k2⟩ | ⟨k1, k2, k3⟩ | ⟨k1, k2, k3, k4⟩
  all_goals
    go_enter Tryd.func6, Tryd.ntmps6
    go_wp2_with (first | (go_at_call 7; refine (awakeX_any _).mono ?_; rintro e w1 ⟨rfl, h'⟩; replace hB := on hB h'; clear h') | (go_at_call 8; first | ((with_reducible refine (TA.out _).mono ?_); rintro e w2 ⟨A2, c2, rfl, hr, hb⟩; replace hB := on hB hb; clear hr hb) | ((with_reducible refine (TB.out _).mono ?_); rintro e w3 ⟨A3, c3, rfl, hr, hb⟩; replace hB := on hB hb; clear hr hb)))
    go_ret
    exact ⟨rfl, hB⟩
set_option maxRecDepth 20000 in
set_option maxHeartbeats 4000000 in
theorem skip2 (a0 a1 : ByteArray) (w : World) (h0 : ¬ 100 < (a0.size : Int)) (h1 : ¬ 100 < (a1.size : Int)) (t u : Tk) (ia ib : Nat) (TA : Hid (Tells a0 [t] ia 0)) (TB : Hid (Tells a1 [u] ib 0)) (hp : 0 < a1.size)
    (h : ¬ (bs t.t).toList = a0.toList ∨ ((bs t.t).toList = a0.toList ∧ ¬ (bs u.t).toList = a1.toList) ∨ ((bs t.t).toList = a0.toList ∧ (bs u.t).toList = a1.toList ∧ ((t.k : Int) == 4) = true) ∨
      ((bs t.t).toList = a0.toList ∧ (bs u.t).toList = a1.toList ∧ ((t.k : Int) == 4) = false ∧ ((u.k : Int) == 4) = true) ∨
      ((bs t.t).toList = a0.toList ∧ (bs u.t).toList = a1.toList ∧ ((t.k : Int) == 4) = false ∧ ((u.k : Int) == 4) = false ∧ ((a1[0].toNat : Int) == 45) = true) ∨
      ((bs t.t).toList = a0.toList ∧ (bs u.t).toList = a1.toList ∧ ((t.k : Int) == 4) = false ∧ ((u.k : Int) == 4) = false ∧ ((a1[0].toNat : Int) == 45) = false ∧ ((a1[0].toNat : Int) == 35) = true)) :
    Calls Tryd.prog 6 #[.string a0, .string a1] w fun e w' => e = .returned (.bool true) ∧ Below w.heap.size w w' := by
  have hB := Below.refl w.heap.size w
  rcases h with k1 | ⟨k1, k2⟩ | ⟨k1, k2, k3⟩ | ⟨k1, k2, k3, k4⟩ | ⟨k1, k2, k3, k4, k5⟩ | ⟨k1, k2, k3, k4, k5, k6⟩
  all_goals
    go_enter Tryd.func6, Tryd.ntmps6
    go_wp2_with (first | (go_at_call 7; refine (awakeX_any _).mono ?_; rintro e w1 ⟨rfl, h'⟩; replace hB := on hB h'; clear h') | (go_at_call 8; first | ((with_reducible refine (TA.out _).mono ?_); rintro e w2 ⟨A2, c2, rfl, hr, hb⟩; replace hB := on hB hb; have HR2 := Lib.hid hr; clear hr hb) | ((with_reducible refine (TB.out _).mono ?_); rintro e w3 ⟨A3, c3, rfl, hr, hb⟩; replace hB := on hB hb; have HR3 := Lib.hid hr; replace HR2 := Lib.hid (HR2.out.on hb); obtain ⟨b2, o2, rfl, hl2, x0, x1, x2⟩ := HR2.out 0 _ rfl; obtain ⟨b3, o3, rfl, hl3, y0, y1, y2⟩ := HR3.out 0 _ rfl; rw [Nat.zero_mul, Nat.add_zero] at x0 x1 x2 y0 y1 y2; clear hr hb)))
    go_ret
    exact ⟨rfl, hB⟩
theorem list_ne {s : ByteArray} {l : List UInt8} (h : l ≠ ls s) : ¬ (bs l).toList = s.toList := by
  rw [toList_ls, toList_ls, ls_bs]; exact h
theorem list_is {s : ByteArray} {l : List UInt8} (h : l = ls s) : (bs l).toList = s.toList := by
  rw [toList_ls, toList_ls, ls_bs, h]
theorem nat_is {a b : Nat} (h : a = b) : ((a : Int) == (b : Int)) = true := by rw [h]; simp
theorem nat_ne {a b : Nat} (h : a ≠ b) : ((a : Int) == (b : Int)) = false := by rw [beq_eq_false_iff_ne]; omega
theorem walk (a0 a1 : ByteArray) (w0 : a0.size ≤ maxLen) (w1 : a1.size ≤ maxLen) (w : World) :
    Calls Tryd.prog 6 #[.string a0, .string a1] w fun e w' => e = .returned (.bool true) ∧ Below w.heap.size w w' := by
  by_cases h0 : 100 < (a0.size : Int)
  · exact walk_l0 a0 a1 w h0
  by_cases h1 : 100 < (a1.size : Int)
  · exact walk_l1 a0 a1 w h0 h1
  have TA := tells a0 (by omega)
  have TB := tells a1 (by omega)
  cases hA : toksL 0 (ls a0) with
  | bad i => rw [hA] at TA; exact skip1 a0 a1 w h0 h1 _ _ _ _ _ _ (Lib.hid TA) (Lib.hid TB) (.inl rfl)
  | good la =>
    rw [hA] at TA
    cases hB : toksL 0 (ls a1) with
    | bad i => rw [hB] at TB; exact skip1 a0 a1 w h0 h1 _ _ _ _ _ _ (Lib.hid TA) (Lib.hid TB) (.inr (.inl ⟨rfl, rfl⟩))
    | good lb =>
      rw [hB] at TB
      by_cases la1 : la.length = 1
      · by_cases lb1 : lb.length = 1
        · obtain ⟨t, rfl⟩ := List.length_eq_one_iff.1 la1
          obtain ⟨u, rfl⟩ := List.length_eq_one_iff.1 lb1
          obtain ⟨c, r, hcr⟩ : ∃ c r, ls a1 = c :: r := by
            cases hl : ls a1 with
            | nil => rw [hl, toks_end rfl] at hB; cases hB
            | cons c r => exact ⟨c, r, rfl⟩
          obtain ⟨hp, hc⟩ := first_of hcr
          by_cases t1 : t.t = ls a0
          · by_cases u1 : u.t = ls a1
            · by_cases t4 : t.k = 4
              · exact skip2 a0 a1 w h0 h1 t u _ _ (Lib.hid TA) (Lib.hid TB) hp (.inr (.inr (.inl ⟨list_is t1, list_is u1, nat_is t4⟩)))
              by_cases u4 : u.k = 4
              · exact skip2 a0 a1 w h0 h1 t u _ _ (Lib.hid TA) (Lib.hid TB) hp (.inr (.inr (.inr (.inl ⟨list_is t1, list_is u1, nat_ne t4, nat_is u4⟩))))
              by_cases c45 : c.toNat = 45
              · exact skip2 a0 a1 w h0 h1 t u _ _ (Lib.hid TA) (Lib.hid TB) hp (.inr (.inr (.inr (.inr (.inl ⟨list_is t1, list_is u1, nat_ne t4, nat_ne u4, by rw [hc]; exact nat_is c45⟩)))))
              by_cases c35 : c.toNat = 35
              · exact skip2 a0 a1 w h0 h1 t u _ _ (Lib.hid TA) (Lib.hid TB) hp (.inr (.inr (.inr (.inr (.inr ⟨list_is t1, list_is u1, nat_ne t4, nat_ne u4, by rw [hc]; exact nat_ne c45, by rw [hc]; exact nat_is c35⟩)))))
              obtain ⟨fA, tA⟩ := one_toks hA t1
              obtain ⟨fB, tB⟩ := one_toks hB u1
              obtain ⟨k, tt, ta⟩ := t
              obtain ⟨m, ut, ua⟩ := u
              simp only at t1 u1 t4 u4 fA fB tA tB
              subst t1 u1 tA tB
              have hls : ls (a0 ++ a1) = ls a0 ++ c :: r := by rw [ls_append, hcr]
              have hsz : (a0 ++ a1).size = a0.size + a1.size := by rw [← ls_len, ls_append, List.length_append, ls_len, ls_len]
              have TZ := tells (a0 ++ a1) (by omega)
              rw [hls] at TZ
              rw [hcr] at fB
              have hx : ¬ 9223372036854775807 < a0.size + a1.size := by omega
              by_cases hu : k = 1 ∧ uppC c = true
              · obtain ⟨rfl, hu⟩ := hu
                rw [side_two fA fB hu] at TZ
                have hu' : 65 ≤ c.toNat ∧ c.toNat ≤ 90 := by simpa [uppC] using hu
                rw [← hcr] at TZ
                exact main1 a0 a1 w h0 h1 m (Lib.hid TA) (Lib.hid TB) (Lib.hid TZ) hp hx (nat_ne u4) (by rw [hc]; exact nat_ne c45) (by rw [hc]; exact nat_ne c35) (by rw [hc]; omega) (by rw [hc]; omega)
              · have h3 : ((k : Int) == 1) = false ∨ (((k : Int) == 1) = true ∧ ¬ 65 ≤ (a1[0].toNat : Int)) ∨ (((k : Int) == 1) = true ∧ 65 ≤ (a1[0].toNat : Int) ∧ ¬ (a1[0].toNat : Int) ≤ 90) := by
                  rw [hc]
                  by_cases hk1 : k = 1
                  · have : ¬ (65 ≤ c.toNat ∧ c.toNat ≤ 90) := fun h => hu ⟨hk1, by simpa [uppC] using h⟩
                    by_cases h65 : 65 ≤ c.toNat
                    · exact .inr (.inr ⟨nat_is hk1, by omega, by omega⟩)
                    · exact .inr (.inl ⟨nat_is hk1, by omega⟩)
                  · exact .inl (nat_ne hk1)
                rcases side_one fA fB t4 u4 c45 c35 hu with hz | hz
                · rw [hz] at TZ
                  exact main2 a0 a1 w h0 h1 k m (Lib.hid TA) (Lib.hid TB) (Lib.hid TZ) hp hx (nat_ne t4) (nat_ne u4) (by rw [hc]; exact nat_ne c45) (by rw [hc]; exact nat_ne c35) h3
                · rw [hz, ← hls] at TZ
                  exact main3 a0 a1 w h0 h1 k m (Lib.hid TA) (Lib.hid TB) (Lib.hid TZ) hp hx (nat_ne t4) (nat_ne u4) (by rw [hc]; exact nat_ne c45) (by rw [hc]; exact nat_ne c35) h3
            · exact skip2 a0 a1 w h0 h1 t u _ _ (Lib.hid TA) (Lib.hid TB) hp (.inr (.inl ⟨list_is t1, list_ne u1⟩))
          · exact skip2 a0 a1 w h0 h1 t u _ _ (Lib.hid TA) (Lib.hid TB) hp (.inl (list_ne t1))
        · exact skip1 a0 a1 w h0 h1 _ _ _ _ _ _ (Lib.hid TA) (Lib.hid TB) (.inr (.inr (.inr ⟨rfl, rfl, by simp [la1, Rs.ts], by simp only [Rs.ts, bne_iff_ne]; omega⟩)))
      · exact skip1 a0 a1 w h0 h1 _ _ _ _ _ _ (Lib.hid TA) (Lib.hid TB) (.inr (.inr (.inl ⟨rfl, rfl, by simp only [Rs.ts, bne_iff_ne]; omega⟩)))

theorem own : ownKnob Tryd.prog.godebug = none := by kernel_rfl

set_option maxRecDepth 100000 in
theorem lifted (os : Os) (started : os.Started) (H : Type) (enc : TypeId × Value → H) :
    ReturnsInHanded {} Tryd.checked os 6 .any (fun w args => (Rows.lexLongerSpec.pre enc Tryd.prog Tryd.f6 Rows.lexLongerRow.domain false w args ∧ laidMetH Tryd.prog Rows.lexLongerRow.laid w) ∧ sizedMet enc Tryd.prog Tryd.f6 (OpenSpec.ofChange Rows.lexLongerSpec) false w args) (Rows.lexLongerSpec.post enc Tryd.prog Tryd.f6 false true false false) := by
  refine returnsInHanded_of_change_and (C := Tryd.checked) (X := fun w _ => laidMetH Tryd.prog Rows.lexLongerRow.laid w) (fun _ _ _ hh h => h.of_heap hh) own started (by kernel_rfl) Tryd.func6
    (ChangeSpec.witness_shaped (enc := enc) (C := Tryd.checked) (os := os) (X := fun w _ => laidMetH Tryd.prog Rows.lexLongerRow.laid w) false (World.laidAll Tryd.prog os Rows.lexLongerRow.laid) #[.string ByteArray.empty, .string ByteArray.empty] 8 (World.laidAll_os _ _ _)
      (World.shaped_of_ZipB (by kernel_rfl) (by kernel_rfl)) (by kernel_rfl) (by kernel_rfl) (by kernel_rfl)
      (by rw [MakeChecks.laidMetH_plain _ _ _ (by kernel_rfl)]; exact laidMet_laidAll _ (by kernel_rfl) (by kernel_rfl))) ?_
  intro W base args ds gs before hval0 hW hcnd _ hL _
  have hval : ∀ (j : Nat) t v, Tryd.f6.params[j]? = some t → args[j]? = some v → Value.okWide Tryd.prog W .any base t v := hval0
  have hW' := hW
  obtain ⟨p, q, hA0, hV, rfl, hfz, hnd⟩ := hW
  have hA : DataW.TrodAll enc Tryd.prog W 0 (fun _ => true) true Tryd.f6.params.toList args.toList ds p := hA0
  rw [Tryd.params6] at hA hval
  obtain ⟨v0, vs0, d0, ds0, p0, q0, hargs, rfl, rfl, h0, r0⟩ := trodAll_cons hA
  obtain ⟨v1, vs1, d1, ds1, p1, q1, rfl, rfl, rfl, h1, r1⟩ := trodAll_cons r0
  obtain ⟨rfl, rfl, rfl⟩ := trodAll_nil r1
  obtain rfl : args = #[v0, v1] := by cases args; simp_all
  obtain ⟨rfl, rfl⟩ := trodVars_none hV
  obtain ⟨a0, rfl, rfl, rfl, w0⟩ := Go.ChangeMaps.open_string Tryd.underlying9 (hval 0 9 v0 rfl rfl) h0
  obtain ⟨a1, rfl, rfl, rfl, w1⟩ := Go.ChangeMaps.open_string Tryd.underlying9 (hval 1 9 v1 rfl rfl) h1
  clear hA0 hval0
  simp only [List.append_nil] at hW'
  refine (walk a0 a1 w0 w1 W).mono fun e W' ⟨he, hg⟩ => ?_
  subst he
  exact ⟨_, rfl, post_plain hW' (fun _ _ _ => (trodAll_cons_mk (shut_bool Tryd.underlying4 _) trodAll_mk0)) (fun sp => (trodAll_cons_mk (Go.ChangeMaps.shut_string Tryd.underlying9 w0) (trodAll_cons_mk (Go.ChangeMaps.shut_string Tryd.underlying9 w1) trodAll_mk0))) (fun _ => rfl) hg (ok_one (by kernel_rfl) rfl (okWide_bool_mk Tryd.underlying4 _))⟩

theorem row_proved : Rows.LexLongerSaid :=
  OpenClaim.holds_of_wide 6 Tryd.f6 rfl rfl rfl rfl rfl rfl rfl ⟨rfl, rfl, rfl, rfl, rfl⟩ rfl rfl rfl rfl rfl (by kernel_rfl) Tryd.func6 (by kernel_rfl)
    (of_decide_eq_true (by kernel_rfl)) (by unfold Func.isWrapper; first | (rw [if_pos (by decide +kernel)]; kernel_rfl) | (rw [if_neg (by decide +kernel)]; exact ⟨rfl, rfl⟩))
    (fun os started H enc _ => lifted os started H enc)
theorem proved : Rows.LexLongerCardSaid :=
  Claim7.holds_tied_plain_at .later [] Rows.lexLongerCard.laidKinds Rows.lexLongerCard.laidTests Rows.lexLongerCard.stood.harness Rows.lexLongerCard.stood.looks row_proved (fun _ h => by cases h) (by kernel_rfl) (fun _ h => by cases h) lexLonger_row_tie rfl ⟨rfl, rfl⟩ (by kernel_rfl) rfl
    (fun f fn hf hfn => by
      obtain rfl : f = 6 := Option.some.inj ((show Tryd.prog.funcNamed "antecedent/antecedentlaw07.LexLonger" = some 6 by kernel_rfl).symm.trans hf) |>.symm
      obtain rfl : fn = Tryd.f6 := (Option.some.inj (Tryd.func6.symm.trans hfn)).symm
      exact ⟨by kernel_rfl, fun j t ht => by
        rw [Tryd.params6] at ht
        have hm : t ∈ [9, 9] := by simpa using Array.mem_of_getElem? ht
        have hall : ([9, 9].all fun u => !Tryd.prog.wantsStandIn u) = true := by kernel_rfl
        exact (show Tryd.prog.wantsStandIn t = false by simpa using List.all_eq_true.1 hall t hm)⟩)
    (by kernel_rfl)
#print axioms proved
end Go.Proofs.YtfdhkldgenkobaaDoor.lexLonger

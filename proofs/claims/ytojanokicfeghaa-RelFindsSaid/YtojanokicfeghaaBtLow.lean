/-
  Contracts of a node's kid, levels and place, and of fewest.
-/
import Derived.Test.YtojanokicfeghaaBtMem
import Derived.Test.YtojanokicfeghaaTupCmp
namespace Go.Proofs.Ytojanokicfeghaa
open Go.RowKit FloM ValM
set_option linter.unusedVariables false

theorem IsN.zero {X : Nat → Prop} {w : World} {b : Nat} {ts : List Sl} {ks : List Nd} (h : IsN X w 0 (.mk b ts ks)) : ks = [] := h.2
theorem IsN.succ {X : Nat → Prop} {w : World} {k b : Nat} {ts : List Sl} {ks : List Nd} (h : IsN X w (k + 1) (.mk b ts ks)) : ks.length = ts.length + 1 ∧ ∀ t ∈ ks, IsN X w k t ∧ 3 ≤ t.ts.length ∧ t.ts.length ≤ 6 := h.2
theorem IsN.kid {X : Nat → Prop} {w : World} {b : Nat} {ts : List Sl} {ks : List Nd} : ∀ {k : Nat}, IsN X w k (.mk b ts ks) → (k = 0 → ks = []) ∧ (k ≠ 0 → ks.length = ts.length + 1)
  | 0, h => ⟨fun _ => h.2, fun h => absurd rfl h⟩
  | k + 1, h => ⟨fun h => absurd h (by omega), fun _ => h.2.1⟩

set_option maxHeartbeats 1000000 in
theorem kid_leaf {X : Nat → Prop} {b : Nat} {ts : List Sl} {At Ak : Option Addr} {ct ck : Nat} (i : Int) (w : World) (h : NodeAt X w b ts [] At ct Ak ck) :
    Calls Try.prog 53 #[.pointer (some ⟨b, 0, none⟩), .int .i64 i] w fun e w' => e = .returned (.pointer none) ∧ w = w' := by
  have c1 := h.c1
  simp only [List.length_nil] at c1
  clear h
  go_enter Try.func53, Try.ntmps53
  go_wp2
  go_ret
  exact ⟨rfl, rfl⟩
set_option maxHeartbeats 1000000 in
theorem kid_some {X : Nat → Prop} {b : Nat} {ts : List Sl} {ps : List Value} {At Ak : Option Addr} {ct ck : Nat} (i : Nat) (p : Option Addr) (w : World) (h : NodeAt X w b ts ps At ct Ak ck) (hi : ps[i]? = some (.pointer p)) :
    Calls Try.prog 53 #[.pointer (some ⟨b, 0, none⟩), .int .i64 (i : Int)] w fun e w' => e = .returned (.pointer p) ∧ w = w' := by
  have c1 := h.c1
  have hl : i < ps.length := (List.getElem?_eq_some_iff.1 hi).1
  have hm := h.capk
  have hm' := h.capk'
  unfold maxLen at hm'
  obtain ⟨kb, ko, rfl, hkb, hc⟩ := h.rk i _ hi
  clear h hi
  generalize ps.length = n at c1 hl hm
  have hn : ¬ ((n : Int) = 0) := by omega
  go_enter Try.func53, Try.ntmps53
  go_wp2
  go_ret
  exact ⟨rfl, rfl⟩

/-- The root of a tree of k levels; none: no node. -/
def RootAt (X : Nat → Prop) (w : World) : Option (Nat × Nd) → Option Addr → Prop
  | none, p => p = none
  | some (k, t), p => p = t.ptr ∧ IsN X w k t
theorem RootAt.some {X : Nat → Prop} {w : World} {k : Nat} {t : Nd} {p : Option Addr} (h : RootAt X w (some (k, t)) p) : p = t.ptr ∧ IsN X w k t := h
theorem IsN.first {X : Nat → Prop} {w : World} {k : Nat} {t : Nd} (h : IsN X w (k + 1) t) : ∃ t0, (t.ks.map Nd.val)[0]? = some t0.val ∧ IsN X w k t0 := by
  obtain ⟨b, ts, ks⟩ := t
  obtain ⟨_, hl, hk⟩ := h
  match ks, hl, hk with
  | t0 :: ks, _, hk => exact ⟨t0, rfl, (hk t0 (List.mem_cons_self ..)).1⟩
def LevRel (X : Nat → Prop) (w : World) (n : Nat) (v c : Value) : Prop := ∃ (m : Nat) (o : Option (Nat × Nd)) (p : Option Addr), v = .pointer p ∧ c = .int .i64 (m : Nat) ∧ RootAt X w o p ∧ m + (o.map (·.1 + 1)).getD 0 = n
def levLeft (n : Nat) (c : Value) : Nat := n - (intOf c).toNat
set_option maxHeartbeats 1000000 in
theorem levels_any {X : Nat → Prop} (o : Option (Nat × Nd)) (p : Option Addr) (n : Nat) (w : World) (h : RootAt X w o p) (hn : (o.map (·.1 + 1)).getD 0 = n) (hs : n ≤ 1000) :
    Calls Try.prog 54 #[.pointer p] w fun e w' => e = .returned (.int .i64 (n : Int)) ∧ w = w' := by
  go_enter Try.func54, Try.ntmps54
  go_wp2
  go_loop [0, 3] (fun v c => LevRel X w n v c) (fun _ c => levLeft n c)
  case atStart => exact ⟨0, o, p, rfl, rfl, h, by omega⟩
  case round =>
    clear h hn
    obtain ⟨m, o, p, rfl, rfl, h, hm⟩ := hrel
    rcases o with _ | ⟨k, t⟩
    · obtain rfl : p = none := h
      simp only [Option.map_none, Option.getD_none, Nat.add_zero] at hm
      subst hm
      go_wp2
      go_ret
      exact ⟨rfl, rfl⟩
    · obtain ⟨rfl, h2⟩ := RootAt.some h
      rcases k with _ | k
      · obtain ⟨b, ts, ks⟩ := t
        obtain ⟨At, ct, Ak, ck, hN⟩ := h2.node
        obtain rfl := h2.zero
        have HN := Lib.hid hN; clear hN
        simp only [Option.map_some, Option.getD_some, Nat.zero_add] at hm
        have hlt : m < n := by omega
        unfold Nd.ptr Nd.b
        go_wp2_with (go_at_call 53; refine (kid_leaf _ _ HN.out).mono ?_; rintro e w' ⟨rfl, rfl⟩)
        go_round
        case rel => exact ⟨m + 1, none, none, rfl, by go_num, rfl, by simpa using hm⟩
        case measure => simp [levLeft, intOf]; omega
      · obtain ⟨At, ct, Ak, ck, hN⟩ := h2.node
        obtain ⟨t0, h0, ht0⟩ := h2.first
        obtain ⟨b, ts, ks⟩ := t
        have HN := Lib.hid hN; have H0 := Lib.hid h0; clear hN h0
        simp only [Option.map_some, Option.getD_some] at hm
        have hlt : m < n := by omega
        unfold Nd.ptr Nd.b
        go_wp2_with (go_at_call 53; refine (kid_some 0 _ _ HN.out H0.out).mono ?_; rintro e w' ⟨rfl, rfl⟩)
        go_round
        case rel => exact ⟨m + 1, some (k, t0), _, rfl, by go_num, ⟨rfl, ht0⟩, by simp; omega⟩
        case measure => simp [levLeft, intOf]; omega
def FewRel (n : Nat) (v c : Value) : Prop := ∃ i : Nat, v = .int .i64 ((2 * 4 ^ i : Nat) : Int) ∧ c = .int .i64 (i : Nat) ∧ i ≤ n
theorem pow_few {i n : Nat} (hi : i ≤ n) (hn : n ≤ 28) : 4 ^ i ≤ 4 ^ 28 := Nat.pow_le_pow_right (by omega) (by omega)
set_option maxHeartbeats 1000000 in
theorem fewest_any (n : Nat) (w : World) (hn : n ≤ 27) :
    Calls Try.prog 77 #[.int .i64 ((n : Int) + 1)] w fun e w' => e = .returned (.int .i64 ((2 * 4 ^ n - 1 : Nat) : Int)) ∧ w = w' := by
  go_enter Try.func77, Try.ntmps77
  go_wp2
  go_loop [3, 6] (fun v c => FewRel n v c) (fun _ c => levLeft n c)
  case atStart => exact ⟨0, rfl, rfl, Nat.zero_le _⟩
  case round =>
    obtain ⟨i, rfl, rfl, hi⟩ := hrel
    have h4 := pow_few hi (by omega)
    have h5 : 1 ≤ 4 ^ i := Nat.pow_pos (by omega)
    have he : 2 * 4 ^ (i + 1) = 2 * 4 ^ i * 4 := by rw [Nat.pow_succ]; omega
    have HE := Lib.hid he; clear he
    generalize hq : 4 ^ i = q at *
    have HQ := Lib.hid hq; clear hq
    have h6 : q ≤ 72057594037927936 := h4
    clear h4
    by_cases hlt : i < n
    · go_wp2
      go_round
      case rel => exact ⟨i + 1, by rw [HE.out]; go_num, by go_num, by omega⟩
      case measure => simp [levLeft, intOf]; omega
    · have hin : i = n := by omega
      have HI := Lib.hid hin; clear hin
      go_wp2
      go_ret
      exact ⟨ret_int (by rw [← HI.out, HQ.out]; go_num), rfl⟩
end Go.Proofs.Ytojanokicfeghaa

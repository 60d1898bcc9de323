/-
  Contracts of a node's kid, levels and place, and of fewest.
-/
import Derived.Test.YtpmkhpbhimmeiaaGreatBtMem
import Derived.Test.YtpmkhpbhimmeiaaGreatTupCmp
import Derived.Test.YtpmkhpbhimmeiaaGreatTupOrd
namespace Go.Proofs.YtpmkhpbhimmeiaaGreat
open Go.RowKit FloM ValM
set_option linter.unusedVariables false

theorem IsN.zero {X : Nat → Prop} {w : World} {b : Nat} {ts : List Sl} {ks : List Nd} (h : IsN X w 0 (.mk b ts ks)) : ks = [] := h.2
theorem IsN.succ {X : Nat → Prop} {w : World} {k b : Nat} {ts : List Sl} {ks : List Nd} (h : IsN X w (k + 1) (.mk b ts ks)) : ks.length = ts.length + 1 ∧ ∀ t ∈ ks, IsN X w k t ∧ 3 ≤ t.ts.length ∧ t.ts.length ≤ 6 := h.2
theorem IsN.kid {X : Nat → Prop} {w : World} {b : Nat} {ts : List Sl} {ks : List Nd} : ∀ {k : Nat}, IsN X w k (.mk b ts ks) → (k = 0 → ks = []) ∧ (k ≠ 0 → ks.length = ts.length + 1)
  | 0, h => ⟨fun _ => h.2, fun h => absurd rfl h⟩
  | k + 1, h => ⟨fun h => absurd h (by omega), fun _ => h.2.1⟩

set_option maxHeartbeats 1000000 in
theorem kid_leaf {X : Nat → Prop} {b : Nat} {ts : List Sl} {At Ak : Option Addr} {ct ck : Nat} (i : Int) (w : World) (h : NodeAt X w b ts [] At ct Ak ck) :
    Calls Tryz.prog 68 #[.pointer (some ⟨b, 0, none⟩), .int .i64 i] w fun e w' => e = .returned (.pointer none) ∧ w = w' := by
  have c1 := h.c1
  simp only [List.length_nil] at c1
  clear h
  go_enter Tryz.func68, Tryz.ntmps68
  go_wp2
  go_ret
  exact ⟨rfl, rfl⟩
set_option maxHeartbeats 1000000 in
theorem kid_some {X : Nat → Prop} {b : Nat} {ts : List Sl} {ps : List Value} {At Ak : Option Addr} {ct ck : Nat} (i : Nat) (p : Option Addr) (w : World) (h : NodeAt X w b ts ps At ct Ak ck) (hi : ps[i]? = some (.pointer p)) :
    Calls Tryz.prog 68 #[.pointer (some ⟨b, 0, none⟩), .int .i64 (i : Int)] w fun e w' => e = .returned (.pointer p) ∧ w = w' := by
  have c1 := h.c1
  have hl : i < ps.length := (List.getElem?_eq_some_iff.1 hi).1
  have hm := h.capk
  have hm' := h.capk'
  unfold maxLen at hm'
  obtain ⟨kb, ko, rfl, hkb, hc⟩ := h.rk i _ hi
  clear h hi
  generalize ps.length = n at c1 hl hm
  have hn : ¬ ((n : Int) = 0) := by omega
  go_enter Tryz.func68, Tryz.ntmps68
  go_wp2
  go_ret
  exact ⟨rfl, rfl⟩

/-- The root of a tree of k levels; none: no node. -/
def RootAt (X : Nat → Prop) (w : World) : Option (Nat × Nd) → Option Addr → Prop
  | none, p => p = none
  | some (k, t), p => p = t.ptr ∧ IsN X w k t
theorem RootAt.some {X : Nat → Prop} {w : World} {k : Nat} {t : Nd} {p : Option Addr} (h : RootAt X w (some (k, t)) p) : p = t.ptr ∧ IsN X w k t := h
theorem IsN.first {X : Nat → Prop} {w : World} {k : Nat} {t : Nd} (h : IsN X w (k + 1) t) : ∃ t0, (t.ks.map Nd.val)[0]? = some t0.val ∧ IsN X w k t0 := by
  obtain ⟨b, ts, ks⟩ := t
  obtain ⟨_, hl, hk⟩ := h
  match ks, hl, hk with
  | t0 :: ks, _, hk => exact ⟨t0, rfl, (hk t0 (List.mem_cons_self ..)).1⟩
def LevRel (X : Nat → Prop) (w : World) (n : Nat) (v c : Value) : Prop := ∃ (m : Nat) (o : Option (Nat × Nd)) (p : Option Addr), v = .pointer p ∧ c = .int .i64 (m : Nat) ∧ RootAt X w o p ∧ m + (o.map (·.1 + 1)).getD 0 = n
def levLeft (n : Nat) (c : Value) : Nat := n - (intOf c).toNat
set_option maxHeartbeats 1000000 in
theorem levels_any {X : Nat → Prop} (o : Option (Nat × Nd)) (p : Option Addr) (n : Nat) (w : World) (h : RootAt X w o p) (hn : (o.map (·.1 + 1)).getD 0 = n) (hs : n ≤ 1000) :
    Calls Tryz.prog 83 #[.pointer p] w fun e w' => e = .returned (.int .i64 (n : Int)) ∧ w = w' := by
  go_enter Tryz.func83, Tryz.ntmps83
  go_wp2
  go_loop [0, 3] (fun v c => LevRel X w n v c) (fun _ c => levLeft n c)
  case atStart => exact ⟨0, o, p, rfl, rfl, h, by omega⟩
  case round =>
    clear h hn
    obtain ⟨m, o, p, rfl, rfl, h, hm⟩ := hrel
    rcases o with _ | ⟨k, t⟩
    · obtain rfl : p = none := h
      simp only [Option.map_none, Option.getD_none, Nat.add_zero] at hm
      subst hm
      go_wp2
      go_ret
      exact ⟨rfl, rfl⟩
    · obtain ⟨rfl, h2⟩ := RootAt.some h
      rcases k with _ | k
      · obtain ⟨b, ts, ks⟩ := t
        obtain ⟨At, ct, Ak, ck, hN⟩ := h2.node
        obtain rfl := h2.zero
        have HN := Lib.hid hN; clear hN
        simp only [Option.map_some, Option.getD_some, Nat.zero_add] at hm
        have hlt : m < n := by omega
        unfold Nd.ptr Nd.b
        go_wp2_with (go_at_call 68; refine (kid_leaf _ _ HN.out).mono ?_; rintro e w' ⟨rfl, rfl⟩)
        go_round
        case rel => exact ⟨m + 1, none, none, rfl, by go_num, rfl, by simpa using hm⟩
        case measure => simp [levLeft, intOf]; omega
      · obtain ⟨At, ct, Ak, ck, hN⟩ := h2.node
        obtain ⟨t0, h0, ht0⟩ := h2.first
        obtain ⟨b, ts, ks⟩ := t
        have HN := Lib.hid hN; have H0 := Lib.hid h0; clear hN h0
        simp only [Option.map_some, Option.getD_some] at hm
        have hlt : m < n := by omega
        unfold Nd.ptr Nd.b
        go_wp2_with (go_at_call 68; refine (kid_some 0 _ _ HN.out H0.out).mono ?_; rintro e w' ⟨rfl, rfl⟩)
        go_round
        case rel => exact ⟨m + 1, some (k, t0), _, rfl, by go_num, ⟨rfl, ht0⟩, by simp; omega⟩
        case measure => simp [levLeft, intOf]; omega
def FewRel (n : Nat) (v c : Value) : Prop := ∃ i : Nat, v = .int .i64 ((2 * 4 ^ i : Nat) : Int) ∧ c = .int .i64 (i : Nat) ∧ i ≤ n
theorem pow_few {i n : Nat} (hi : i ≤ n) (hn : n ≤ 28) : 4 ^ i ≤ 4 ^ 28 := Nat.pow_le_pow_right (by omega) (by omega)
set_option maxHeartbeats 1000000 in
theorem fewest_any (n : Nat) (w : World) (hn : n ≤ 27) :
    Calls Tryz.prog 82 #[.int .i64 ((n : Int) + 1)] w fun e w' => e = .returned (.int .i64 ((2 * 4 ^ n - 1 : Nat) : Int)) ∧ w = w' := by
  go_enter Tryz.func82, Tryz.ntmps82
  go_wp2
  go_loop [3, 6] (fun v c => FewRel n v c) (fun _ c => levLeft n c)
  case atStart => exact ⟨0, rfl, rfl, Nat.zero_le _⟩
  case round =>
    obtain ⟨i, rfl, rfl, hi⟩ := hrel
    have h4 := pow_few hi (by omega)
    have h5 : 1 ≤ 4 ^ i := Nat.pow_pos (by omega)
    have he : 2 * 4 ^ (i + 1) = 2 * 4 ^ i * 4 := by rw [Nat.pow_succ]; omega
    have HE := Lib.hid he; clear he
    generalize hq : 4 ^ i = q at *
    have HQ := Lib.hid hq; clear hq
    have h6 : q ≤ 72057594037927936 := h4
    clear h4
    by_cases hlt : i < n
    · go_wp2
      go_round
      case rel => exact ⟨i + 1, by rw [HE.out]; go_num, by go_num, by omega⟩
      case measure => simp [levLeft, intOf]; omega
    · have hin : i = n := by omega
      have HI := Lib.hid hin; clear hin
      go_wp2
      go_ret
      exact ⟨ret_int (by rw [← HI.out, HQ.out]; go_num), rfl⟩
end Go.Proofs.YtpmkhpbhimmeiaaGreat
/-
  Contract of a node's place.
-/
namespace Go.Proofs.YtpmkhpbhimmeiaaGreat
open Go.RowKit FloM ValM
set_option linter.unusedVariables false

def cmpC (cols : List Int) (a b : List V) : Int := ordV (pickL a cols) (pickL b cols)
structure PlaceP (ts : List Sl) (a : List V) (cols : List Int) (at_ : Nat) (f : Bool) : Prop where
  le : at_ ≤ ts.length
  less : ∀ x ∈ ts.take at_, cmpC cols x.l a = -1
  found : f = true → ∃ x, ts[at_]? = some x ∧ cmpC cols x.l a = 0
  not : f = false → ∀ x, ts[at_]? = some x → cmpC cols x.l a = 1
theorem ordV_rng : ∀ a b : List V, ordV a b = -1 ∨ ordV a b = 0 ∨ ordV a b = 1
  | [], [] => by simp [ordV]
  | [], _ :: _ => by simp [ordV]
  | _ :: _, [] => by simp [ordV]
  | x :: a, y :: b => by
    have ih := ordV_rng a b
    rw [ordV]; split
    · exact ih
    · unfold cmpV cmpI
      have := cmp_range (ls x.s) (ls y.s)
      split
      · split
        · exact .inl rfl
        · split
          · exact .inr (.inr rfl)
          · exact .inr (.inl rfl)
      · split
        · split
          · exact .inl rfl
          · split
            · exact .inr (.inr rfl)
            · exact .inr (.inl rfl)
        · exact this
theorem cmpC_rng (cols : List Int) (a b : List V) : cmpC cols a b = -1 ∨ cmpC cols a b = 0 ∨ cmpC cols a b = 1 := ordV_rng _ _
def PlaceRel (w : World) (ts : List Sl) (a : List V) (cols : List Int) (v c : Value) (wr : World) : Prop := ∃ k : Nat, v = .int .i64 (k : Nat) ∧ c = .bool false ∧ k ≤ ts.length ∧ Below w.heap.size w wr ∧ ∀ x ∈ ts.take k, cmpC cols x.l a = -1
set_option maxHeartbeats 4000000 in
theorem place_any {X : Nat → Prop} {b : Nat} {ts : List Sl} {ps : List Value} {At Ak : Option Addr} {ct ck : Nat} (A P : Option Addr) (ca cp : Nat) (a : List V) (p : List Int) (w : World) (h : NodeAt X w b ts ps At ct Ak ck) (ha : RdV w A a) (hp : RdI w P p) (la : a.length ≤ 1000) (lp : p.length ≤ 1000) (lt : ∀ x ∈ ts, x.l.length ≤ 1000) :
    Calls Tryz.prog 67 #[.pointer (some ⟨b, 0, none⟩), .slice A a.length ca, .slice P p.length cp] w fun e w' => ∃ (k : Nat) (f : Bool), e = .returned (.tuple #[.int .i64 (k : Int), .bool f]) ∧ PlaceP ts a p k f ∧ Below w.heap.size w w' := by
  have hcap := h.capt
  have hcap' := h.capt'
  unfold maxLen at hcap'
  have HN := Lib.hid h; clear h
  have HA := Lib.hid ha; have HP := Lib.hid hp; clear ha hp
  go_enter Tryz.func67, Tryz.ntmps67
  go_wp2
  go_step3
  go_wp2
  go_step3
  go_wp2
  go_loopw [8, 9] (fun v c wr => PlaceRel w ts a p v c wr) (fun v _ _ => ts.length - (intOf v).toNat)
  case atStart => exact ⟨0, rfl, rfl, Nat.zero_le _, Below.refl _ _, fun x hx => by simp at hx⟩
  case round =>
    obtain ⟨k, rfl, rfl, hk, hB, hl⟩ := hrel
    have HL := Lib.hid hl; clear hl
    have c0 := (HN.out.on hB).c0
    by_cases hlt : k < ts.length
    · have hx := List.getElem?_eq_getElem hlt
      generalize ts[k] = x at hx
      obtain ⟨tb, to, hAt, htb, ht0⟩ := (HN.out.on hB).rt.at_ hx
      subst hAt
      have hok := HN.out.rt.each x (List.mem_of_getElem? hx)
      have hxl := lt x (List.mem_of_getElem? hx)
      have HX := Lib.hid hx; clear hx
      have HK := Lib.hid hok; clear hok
      obtain ⟨r, hr⟩ : ∃ r, cmpC p x.l a = r := ⟨_, rfl⟩
      have hrng := cmpC_rng p x.l a
      rw [hr] at hrng
      have HR := Lib.hid hr; clear hr
      rcases hrng with rfl | rfl | rfl
      · go_wp2_with (go_at_call 51; refine (compareT_any _ _ _ _ _ _ x.l a p _ (HK.out.rd.on hB) (HA.out.on hB) (HP.out.on hB) (by unfold maxLen; omega) (by unfold maxLen; omega) (by unfold maxLen; omega)).mono ?_; rintro e w2 ⟨rfl, h2⟩; rw [show ordV (pickL x.l p) (pickL a p) = -1 from HR.out])
        go_roundw
        case rel => exact ⟨k + 1, by go_num, rfl, by omega, on hB h2, fun y hy => by
          rw [take_snoc' HX.out, List.mem_append, List.mem_singleton] at hy
          rcases hy with hy | rfl
          · exact HL.out y hy
          · exact HR.out⟩
        case measure => simp [intOf]; omega
      · go_wp2_with (go_at_call 51; refine (compareT_any _ _ _ _ _ _ x.l a p _ (HK.out.rd.on hB) (HA.out.on hB) (HP.out.on hB) (by unfold maxLen; omega) (by unfold maxLen; omega) (by unfold maxLen; omega)).mono ?_; rintro e w2 ⟨rfl, h2⟩; rw [show ordV (pickL x.l p) (pickL a p) = 0 from HR.out])
        rw [Exit.noGoto_ret]
        go_ret2
        exact ⟨k, true, rfl, ⟨by omega, HL.out, fun _ => ⟨x, HX.out, HR.out⟩, (fun h => by cases h)⟩, on hB h2⟩
      · go_wp2_with (go_at_call 51; refine (compareT_any _ _ _ _ _ _ x.l a p _ (HK.out.rd.on hB) (HA.out.on hB) (HP.out.on hB) (by unfold maxLen; omega) (by unfold maxLen; omega) (by unfold maxLen; omega)).mono ?_; rintro e w2 ⟨rfl, h2⟩; rw [show ordV (pickL x.l p) (pickL a p) = 1 from HR.out])
        rw [Exit.noGoto_ret]
        go_ret2
        exact ⟨k, false, rfl, ⟨by omega, HL.out, (fun h => by cases h), fun _ y hy => by rw [HX.out] at hy; cases hy; exact HR.out⟩, on hB h2⟩
    · obtain rfl : k = ts.length := by omega
      go_wp2
      rw [Exit.noGoto_ret]
      go_ret2
      exact ⟨ts.length, false, rfl, ⟨by omega, HL.out, (fun h => by cases h), fun _ y hy => by rw [List.getElem?_eq_none (Nat.le_refl _)] at hy; cases hy⟩, hB⟩
end Go.Proofs.YtpmkhpbhimmeiaaGreat

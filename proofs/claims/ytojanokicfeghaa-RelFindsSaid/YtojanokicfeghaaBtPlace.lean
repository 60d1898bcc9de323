/-
  Contract of a node's place.
-/
import Derived.Test.YtojanokicfeghaaBtLow
import Derived.Test.YtojanokicfeghaaTupOrd
namespace Go.Proofs.Ytojanokicfeghaa
open Go.RowKit FloM ValM
set_option linter.unusedVariables false

def cmpC (cols : List Int) (a b : List V) : Int := ordV (pickL a cols) (pickL b cols)
structure PlaceP (ts : List Sl) (a : List V) (cols : List Int) (at_ : Nat) (f : Bool) : Prop where
  le : at_ ≤ ts.length
  less : ∀ x ∈ ts.take at_, cmpC cols x.l a = -1
  found : f = true → ∃ x, ts[at_]? = some x ∧ cmpC cols x.l a = 0
  not : f = false → ∀ x, ts[at_]? = some x → cmpC cols x.l a = 1
theorem ordV_rng : ∀ a b : List V, ordV a b = -1 ∨ ordV a b = 0 ∨ ordV a b = 1
  | [], [] => by simp [ordV]
  | [], _ :: _ => by simp [ordV]
  | _ :: _, [] => by simp [ordV]
  | x :: a, y :: b => by
    have ih := ordV_rng a b
    rw [ordV]; split
    · exact ih
    · unfold cmpV cmpI
      have := cmp_range (ls x.s) (ls y.s)
      split
      · split
        · exact .inl rfl
        · split
          · exact .inr (.inr rfl)
          · exact .inr (.inl rfl)
      · split
        · split
          · exact .inl rfl
          · split
            · exact .inr (.inr rfl)
            · exact .inr (.inl rfl)
        · exact this
theorem cmpC_rng (cols : List Int) (a b : List V) : cmpC cols a b = -1 ∨ cmpC cols a b = 0 ∨ cmpC cols a b = 1 := ordV_rng _ _
def PlaceRel (w : World) (ts : List Sl) (a : List V) (cols : List Int) (v c : Value) (wr : World) : Prop := ∃ k : Nat, v = .int .i64 (k : Nat) ∧ c = .bool false ∧ k ≤ ts.length ∧ Below w.heap.size w wr ∧ ∀ x ∈ ts.take k, cmpC cols x.l a = -1
set_option maxHeartbeats 4000000 in
theorem place_any {X : Nat → Prop} {b : Nat} {ts : List Sl} {ps : List Value} {At Ak : Option Addr} {ct ck : Nat} (A P : Option Addr) (ca cp : Nat) (a : List V) (p : List Int) (w : World) (h : NodeAt X w b ts ps At ct Ak ck) (ha : RdV w A a) (hp : RdI w P p) (la : a.length ≤ 1000) (lp : p.length ≤ 1000) (lt : ∀ x ∈ ts, x.l.length ≤ 1000) :
    Calls Try.prog 52 #[.pointer (some ⟨b, 0, none⟩), .slice A a.length ca, .slice P p.length cp] w fun e w' => ∃ (k : Nat) (f : Bool), e = .returned (.tuple #[.int .i64 (k : Int), .bool f]) ∧ PlaceP ts a p k f ∧ Below w.heap.size w w' := by
  have hcap := h.capt
  have hcap' := h.capt'
  unfold maxLen at hcap'
  have HN := Lib.hid h; clear h
  have HA := Lib.hid ha; have HP := Lib.hid hp; clear ha hp
  go_enter Try.func52, Try.ntmps52
  go_wp2
  go_step3
  go_wp2
  go_step3
  go_wp2
  go_loopw [8, 9] (fun v c wr => PlaceRel w ts a p v c wr) (fun v _ _ => ts.length - (intOf v).toNat)
  case atStart => exact ⟨0, rfl, rfl, Nat.zero_le _, Below.refl _ _, fun x hx => by simp at hx⟩
  case round =>
    obtain ⟨k, rfl, rfl, hk, hB, hl⟩ := hrel
    have HL := Lib.hid hl; clear hl
    have c0 := (HN.out.on hB).c0
    by_cases hlt : k < ts.length
    · have hx := List.getElem?_eq_getElem hlt
      generalize ts[k] = x at hx
      obtain ⟨tb, to, hAt, htb, ht0⟩ := (HN.out.on hB).rt.at_ hx
      subst hAt
      have hok := HN.out.rt.each x (List.mem_of_getElem? hx)
      have hxl := lt x (List.mem_of_getElem? hx)
      have HX := Lib.hid hx; clear hx
      have HK := Lib.hid hok; clear hok
      obtain ⟨r, hr⟩ : ∃ r, cmpC p x.l a = r := ⟨_, rfl⟩
      have hrng := cmpC_rng p x.l a
      rw [hr] at hrng
      have HR := Lib.hid hr; clear hr
      rcases hrng with rfl | rfl | rfl
      · go_wp2_with (go_at_call 58; refine (compareT_any _ _ _ _ _ _ x.l a p _ (HK.out.rd.on hB) (HA.out.on hB) (HP.out.on hB) (by unfold maxLen; omega) (by unfold maxLen; omega) (by unfold maxLen; omega)).mono ?_; rintro e w2 ⟨rfl, h2⟩; rw [show ordV (pickL x.l p) (pickL a p) = -1 from HR.out])
        go_roundw
        case rel => exact ⟨k + 1, by go_num, rfl, by omega, on hB h2, fun y hy => by
          rw [take_snoc' HX.out, List.mem_append, List.mem_singleton] at hy
          rcases hy with hy | rfl
          · exact HL.out y hy
          · exact HR.out⟩
        case measure => simp [intOf]; omega
      · go_wp2_with (go_at_call 58; refine (compareT_any _ _ _ _ _ _ x.l a p _ (HK.out.rd.on hB) (HA.out.on hB) (HP.out.on hB) (by unfold maxLen; omega) (by unfold maxLen; omega) (by unfold maxLen; omega)).mono ?_; rintro e w2 ⟨rfl, h2⟩; rw [show ordV (pickL x.l p) (pickL a p) = 0 from HR.out])
        rw [Exit.noGoto_ret]
        go_ret2
        exact ⟨k, true, rfl, ⟨by omega, HL.out, fun _ => ⟨x, HX.out, HR.out⟩, (fun h => by cases h)⟩, on hB h2⟩
      · go_wp2_with (go_at_call 58; refine (compareT_any _ _ _ _ _ _ x.l a p _ (HK.out.rd.on hB) (HA.out.on hB) (HP.out.on hB) (by unfold maxLen; omega) (by unfold maxLen; omega) (by unfold maxLen; omega)).mono ?_; rintro e w2 ⟨rfl, h2⟩; rw [show ordV (pickL x.l p) (pickL a p) = 1 from HR.out])
        rw [Exit.noGoto_ret]
        go_ret2
        exact ⟨k, false, rfl, ⟨by omega, HL.out, (fun h => by cases h), fun _ y hy => by rw [HX.out] at hy; cases hy; exact HR.out⟩, on hB h2⟩
    · obtain rfl : k = ts.length := by omega
      go_wp2
      rw [Exit.noGoto_ret]
      go_ret2
      exact ⟨ts.length, false, rfl, ⟨by omega, HL.out, (fun h => by cases h), fun _ y hy => by rw [List.getElem?_eq_none (Nat.le_refl _)] at hy; cases hy⟩, hB⟩
end Go.Proofs.Ytojanokicfeghaa

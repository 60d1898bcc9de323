/-
  The document's own Pick, with what room its row has.
-/
import Derived.Test.YtdpflmbnomeaaaaBtTwo
namespace Go.Proofs.Ytdpflmbnomeaaaa
open Go.RowKit FloM ValM
set_option linter.unusedVariables false
def SaysVC (l : List V) (w : World) (e : Ending) (w' : World) : Prop := ∃ (A : Option Addr) (c : Nat), e = .returned (.slice A l.length c) ∧ RdV w' A l ∧ l.length ≤ c ∧ c ≤ maxLen ∧ Below w.heap.size w w'
set_option maxRecDepth 20000 in
set_option maxHeartbeats 4000000 in
theorem refPickC_any (A P : Option Addr) (ca cp : Nat) (t : List V) (p : List Int) (w : World) (ht : RdV w A t) (hp : RdI w P p) (lt : t.length ≤ 1000) (lp : p.length ≤ 1000) :
    Calls Try.prog 33 #[.slice A t.length ca, .slice P p.length cp] w (SaysVC (pickL t p) w) := by
  have HT := Lib.hid ht; clear ht
  have HP := Lib.hid hp; clear hp
  obtain ⟨i0, hi0, hz0, hz1, hz2⟩ := info_parts info_val
  have HI0 := Lib.hid hi0; have HZ0 := Lib.hid hz0; have HZ1 := Lib.hid hz1; have HZ2 := Lib.hid hz2
  clear hi0 hz0 hz1 hz2
  go_enter Try.func33, Try.ntmps33
  go_wp2
  go_loopw [5, 9] (fun out i wr => PickRelR w t p out i wr) (fun _ i _ => p.length - (intOf i).toNat)
  case atStart => exact ⟨0, rfl, Nat.zero_le _, Below.refl _ _, none, 0, rfl, own_nil w _ _ _⟩
  case round =>
    obtain ⟨k, rfl, hk, hB, A1, c1, rfl, hown⟩ := hrel
    have HO := Lib.hid hown; clear hown
    have hlen : (pickL t (p.take k)).length ≤ k := Nat.le_trans (pick_len _ _) (List.length_take_le _ _)
    by_cases hlt : k < p.length
    · have hx := List.getElem?_eq_getElem hlt
      obtain ⟨b, o, rfl, hb, hc⟩ := (HP.out.on hB) k _ hx
      have HX := Lib.hid hx; clear hx
      generalize p[k] = x at HX hc
      cases hr : inR t.length x with
      | false =>
        have HR := Lib.hid hr
        have hno := inR_not.1 hr
        clear hr
        by_cases h0 : 0 ≤ x
        · have h1 : (t.length : Int) ≤ x := by omega
          clear hno
          go_wp2
          go_roundw
          case rel =>
            refine ⟨k + 1, by go_num, by omega, hB, A1, c1, by rw [pick_snoc_none HX.out HR.out], ?_⟩
            rw [pick_snoc_none HX.out HR.out]
            exact HO.out
          case measure => simp [intOf]; omega
        · have h1 : x < 0 := by omega
          clear hno h0
          go_wp2
          go_roundw
          case rel =>
            refine ⟨k + 1, by go_num, by omega, hB, A1, c1, by rw [pick_snoc_none HX.out HR.out], ?_⟩
            rw [pick_snoc_none HX.out HR.out]
            exact HO.out
          case measure => simp [intOf]; omega
      | true =>
        obtain ⟨m, rfl⟩ := Int.eq_ofNat_of_zero_le (inR_iff.1 hr).1
        have hm : m < t.length := by have := (inR_iff.1 hr).2; omega
        obtain ⟨⟨kv, nv, sv⟩, ev, el⟩ := col_some hr
        rw [Int.toNat_natCast] at ev
        have HS := Lib.hid (pick_snoc_some HX.out el)
        obtain ⟨ab, ao, rfl, hal, a0, a1, a2⟩ := (HT.out.on hB) m _ ev
        simp only at a0 a1 a2
        clear ev el hr
        go_wp2_with (first | (at_builtin; refine wpList_append_own _ rfl (.tmp 26) (.tmp 34) _ rfl w.heap.size 51 i0 _ 3 32 Try.underlying24 HI0.out HZ0.out HZ1.out HZ2.out rfl (by omega) (.slice A1 (pickL t (p.take k)).length c1) (pickL t (p.take k)).length _ rfl (own_on HO.out ((Below.refl _ _).alloc (Nat.le_refl _) _)) ⟨wr.heap.size, 0, none⟩ 1 1 [.int .i64 kv, .int .i64 nv, .string sv] rfl (by simp) (news_one wr #[.int .i64 kv, .int .i64 nv, .string sv] _) (by simp [Value.oneCell']) (by unfold maxLen; omega) (by omega) (by have := hB.size; simp; omega) ?_; intro v' w' ho' hg' _; obtain ⟨A2, c2, rfl⟩ := own_form ho'))
        go_roundw
        case rel =>
          have hb3 : Below w.heap.size w (wr.alloc (.cells #[.int .i64 kv, .int .i64 nv, .string sv] 51)) := on hB ((Below.refl _ _).alloc (Nat.le_refl _) _)
          refine ⟨k + 1, by go_num, by omega, hb3.grown hg' hb3.size (own_base HO.out), A2, c2, by rw [HS.out]; simp, ?_⟩
          rw [HS.out]
          simpa [vcells_app, vcells_one] using ho'
        case measure => simp [intOf]; omega
    · have hke : k = p.length := by omega
      subst hke
      have HO' := HO.out
      rw [List.take_length] at HO'
      have HO2 := Lib.hid HO'; clear HO'
      clear hlen
      go_wp2
      go_ret
      exact ⟨A1, c1, by first | rfl | simp, own_rdV HO2.out, (own_cap HO2.out).1, (own_cap HO2.out).2, hB⟩

theorem pick_take {y : List V} {p : List Int} (h : ∀ x ∈ p, inR y.length x = true) (m : Nat) (hm : m ≤ p.length) : (pickL y p).take m = pickL y (p.take m) := by
  have e := List.take_append_drop m p
  have h1 := pick_perm_len (t := y) (p := p.take m) fun x hx => h x (List.mem_of_mem_take hx)
  rw [List.length_take] at h1
  conv => lhs; rw [← e, pickL_app]
  rw [List.take_append_of_le_length (by omega), List.take_of_length_le (by omega)]
theorem RdV.take {w : World} {A : Option Addr} {l : List V} (h : RdV w A l) (n : Nat) : RdV w A (l.take n) := fun i x hx => h i x (by
  rw [List.getElem?_take] at hx; split at hx
  · exact hx
  · cases hx)
theorem filter_one {α : Type} {f : α → Bool} {a : α} : ∀ {l : List α}, l.Nodup → a ∈ l → (∀ x ∈ l, f x = true ↔ x = a) → l.filter f = [a]
  | [], _, h, _ => by cases h
  | x :: l, hn, h, hf => by
    obtain ⟨h1, h2⟩ := List.nodup_cons.1 hn
    by_cases hx : x = a
    · subst hx
      rw [List.filter_cons, if_pos ((hf x (List.mem_cons_self ..)).2 rfl)]
      have : l.filter f = [] := by
        rw [List.filter_eq_nil_iff]; intro y hy hfy
        exact h1 ((hf y (List.mem_cons_of_mem _ hy)).1 hfy ▸ hy)
      rw [this]
    · have ha : a ∈ l := by
        rcases List.mem_cons.1 h with e | h
        · exact absurd e.symm hx
        · exact h
      rw [List.filter_cons, if_neg (fun e => hx ((hf x (List.mem_cons_self ..)).1 e))]
      exact filter_one h2 ha fun y hy => hf y (List.mem_cons_of_mem _ hy)
theorem sort_nodup {p : List Int} {M : List (List V)} (h : SortS p M) : M.Nodup := List.Pairwise.imp (fun {a b} h e => by subst e; rw [cmpC_self] at h; omega) h
/-- What begins with all the values of a tuple is that tuple alone. -/
theorem beg_self {p : List Int} {M : List (List V)} {a : List V} (hp : permB p = true) (h : FitS p M) (ha : a ∈ M) : beg p (pickL a p) M = [a] := by
  have hl : ∀ x ∈ M, (pickL x p).length = p.length := fun x hx => pick_perm_len (perm_in hp (h.lens x hx))
  unfold beg
  refine filter_one (sort_nodup h.sort) ha fun x hx => ?_
  rw [hl a ha, List.take_of_length_le (Nat.le_refl _), beq_iff_eq, ord_zero]
  exact pick_inj hp (h.lens x hx) (h.lens a ha)
theorem beg_nil (p : List Int) (M : List (List V)) : beg p [] M = M := by
  unfold beg
  rw [List.filter_eq_self]; intro x hx
  simp [pickL_nil, ordV]
end Go.Proofs.Ytdpflmbnomeaaaa

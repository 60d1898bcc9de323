/-
  Contracts of tuple.Pick's function, of the generic function that it is handed to, and of tuple.Pick.
-/
import Derived.Test.YtpmkhpbhimmeiaaGreatTupMem
import Derived.Test.YtpmkhpbhimmeiaaGreatTupOwn
import Derived.Test.YtpmkhpbhimmeiaaGreatTupPick
namespace Go.Proofs.YtpmkhpbhimmeiaaGreat
open Go.RowKit FloM ValM
set_option linter.unusedVariables false

set_option maxHeartbeats 1000000 in
theorem pick1_some (m g : Nat) (A : Option Addr) (cap : Nat) (t : List V) (v : V) (w : World) (hg : w.cell? ⟨g, 0, none⟩ = some (.slice A t.length cap)) (hgl : g < w.heap.size) (ht : RdV w A t) (hl : t.length ≤ maxLen) (hv : t[m]? = some v) :
    Calls Tryz.prog 89 #[.int .i64 (m : Int), .pointer (some ⟨g, 0, none⟩)] w fun e w' => e = .returned (.tuple #[.agg #[.int .i64 v.k, .int .i64 v.n, .string v.s], .bool true]) ∧ Below w.heap.size w w' := by
  unfold maxLen at hl
  have hm : m < t.length := (List.getElem?_eq_some_iff.1 hv).1
  have hin : inR t.length (m : Int) = true := inR_iff.2 (by omega)
  obtain ⟨b, o, rfl, hb, c0, c1, c2⟩ := ht m v hv
  obtain ⟨k, n, s⟩ := v
  simp only at c0 c1 c2
  have HV := Lib.hid hv; clear hv ht
  go_enter Tryz.func89, Tryz.ntmps89
  go_wp2_with (go_at_call 90; refine (has_any _ _ _).mono ?_; rintro e w' ⟨rfl, rfl⟩)
  exact bodyPost_ret (v := .tuple #[.agg #[.int .i64 k, .int .i64 n, .string s], .bool true]) (by simp [results, Tryz.results89, go_sem]) rfl ⟨rfl, (Below.refl _ _).alloc (Nat.le_refl _) _⟩
set_option maxHeartbeats 1000000 in
theorem pick1_none (c : Int) (g : Nat) (A : Option Addr) (cap : Nat) (t : List V) (w : World) (hg : w.cell? ⟨g, 0, none⟩ = some (.slice A t.length cap)) (hgl : g < w.heap.size) (hl : t.length ≤ maxLen) (hin : inR t.length c = false) :
    Calls Tryz.prog 89 #[.int .i64 c, .pointer (some ⟨g, 0, none⟩)] w fun e w' => e = .returned (.tuple #[.agg #[.int .i64 0, .int .i64 0, .string ByteArray.empty], .bool false]) ∧ Below w.heap.size w w' := by
  unfold maxLen at hl
  go_enter Tryz.func89, Tryz.ntmps89
  go_wp2_with (go_at_call 90; refine (has_any _ _ _).mono ?_; rintro e w' ⟨rfl, rfl⟩)
  exact bodyPost_ret (v := .tuple #[.agg #[.int .i64 0, .int .i64 0, .string ByteArray.empty], .bool false]) (by simp [results, Tryz.results89, go_sem]; try rfl) rfl ⟨rfl, (Below.refl _ _).alloc (Nat.le_refl _) _⟩

/-! ### The generic function, over numbers, with Pick's function -/
def PickRel (w : World) (t : List V) (p : List Int) (out i : Value) (wr : World) : Prop := ∃ k : Nat, i = .int .i64 (k : Nat) ∧ k ≤ p.length ∧ Below w.heap.size w wr ∧
  ∃ A c, out = .slice A (pickL t (p.take k)).length c ∧ wr.ownsRow w.heap.size 69 3 (.slice A (pickL t (p.take k)).length c) (pickL t (p.take k)).length (vcells (pickL t (p.take k)))
set_option maxHeartbeats 4000000 in
theorem convertV_any (g : Nat) (A P : Option Addr) (ca cp : Nat) (t : List V) (p : List Int) (w : World) (hg : w.cell? ⟨g, 0, none⟩ = some (.slice A t.length ca)) (hgl : g < w.heap.size) (ht : RdV w A t) (hp : RdI w P p) (lt : t.length ≤ maxLen) (lp : p.length ≤ 1000) :
    Calls Tryz.prog 88 #[.slice P p.length cp, .func (.func 89) #[] #[.pointer (some ⟨g, 0, none⟩)]] w (SaysV (pickL t p) w) := by
  have HT := Lib.hid ht; clear ht
  have HP := Lib.hid hp; clear hp
  have HG := Lib.hid hg; clear hg
  have hmk := make_vals p.length lp
  obtain ⟨i0, hi0, hz0, hz1, hz2⟩ := info_parts info_val
  have HI := Lib.hid (And.intro hi0 (And.intro hz0 (And.intro hz1 hz2))); clear hi0 hz0 hz1 hz2
  go_enter Tryz.func88, Tryz.ntmps88
  go_wp2
  go_loopw [5, 15] (fun out i wr => PickRel w t p out i wr) (fun _ i _ => p.length - (intOf i).toNat)
  case atStart =>
    exact ⟨0, rfl, Nat.zero_le _, (Below.refl _ _).alloc (Nat.le_refl _) _, _, _, rfl, World.ownsRow_made w _ p.length (Nat.le_refl _) (by unfold maxLen; omega) (size_madeCells _ _)⟩
  case round =>
    obtain ⟨k, rfl, hk, hB, A1, c1, rfl, hown⟩ := hrel
    have HO := Lib.hid hown; clear hown hmk
    have hlen : (pickL t (p.take k)).length ≤ k := Nat.le_trans (pick_len _ _) (List.length_take_le _ _)
    by_cases hlt : k < p.length
    · have hx := List.getElem?_eq_getElem hlt
      obtain ⟨b, o, rfl, hb, hc⟩ := (HP.out.on hB) k _ hx
      have HX := Lib.hid hx; clear hx
      generalize p[k] = x at HX hc
      cases hr : inR t.length x with
      | false =>
        have HR := Lib.hid hr
        go_wp2_with (go_at_call 89; refine (pick1_none _ _ _ _ t _ ((keep hB _ _ hgl).trans HG.out) (Nat.lt_of_lt_of_le hgl hB.size) lt HR.out).mono ?_; rintro e w2 ⟨rfl, h2⟩)
        go_roundw
        case rel =>
          have h3 : Below wr.heap.size wr (w2.alloc (.cells #[.int .i64 0, .int .i64 0, .string ByteArray.empty] 69)) := h2.alloc h2.size _
          refine ⟨k + 1, by go_num, by omega, on hB h3, A1, c1, by rw [pick_snoc_none HX.out HR.out], ?_⟩
          rw [pick_snoc_none HX.out HR.out]
          exact own_on HO.out h3
        case measure => simp [intOf]; omega
      | true =>
        obtain ⟨m, rfl⟩ := Int.eq_ofNat_of_zero_le (inR_iff.1 hr).1
        obtain ⟨⟨kv, nv, sv⟩, ev, el⟩ := col_some hr
        rw [Int.toNat_natCast] at ev
        have HS := Lib.hid (pick_snoc_some HX.out el)
        have HV := Lib.hid ev
        clear ev el hr
        obtain ⟨hi0, hz0, hz1, hz2⟩ := HI.out
        have HI0 := Lib.hid hi0; have HZ0 := Lib.hid hz0; have HZ1 := Lib.hid hz1; have HZ2 := Lib.hid hz2
        clear hi0 hz0 hz1 hz2
        go_wp2_with (first
          | (go_at_call 89
             refine (pick1_some _ _ _ _ t _ _ ((keep hB _ _ hgl).trans HG.out) (Nat.lt_of_lt_of_le hgl hB.size) (HT.out.on hB) lt HV.out).mono ?_
             rintro e w2 ⟨rfl, h2⟩)
          | (at_builtin
             refine wpList_append_own _ rfl (.tmp 26) (.tmp 28) _ rfl w.heap.size 69 i0 _ 3 32 Tryz.underlying25 HI0.out HZ0.out HZ1.out HZ2.out rfl (by omega) (.slice A1 (pickL t (p.take k)).length c1) (pickL t (p.take k)).length _ rfl
               (own_on HO.out ((h2.alloc h2.size _).alloc (by have := h2.size; simp; omega) _)) ⟨w2.heap.size + 1, 0, none⟩ 1 1 [.int .i64 kv, .int .i64 nv, .string sv] rfl (by simp) (news_two w2 _ #[.int .i64 kv, .int .i64 nv, .string sv] _) (by simp [Value.oneCell']) (by unfold maxLen; omega) (by omega) (by have := h2.size; have := hB.size; simp; omega) ?_
             intro v' w' ho' hg' _
             obtain ⟨A2, c2, rfl⟩ := own_form ho'))
        go_roundw
        case rel =>
          have hb3 : Below w.heap.size w _ := on hB ((h2.alloc h2.size (.cells #[.int .i64 kv, .int .i64 nv, .string sv] 69)).alloc (by have := h2.size; simp; omega) (.cells #[.int .i64 kv, .int .i64 nv, .string sv] 69))
          refine ⟨k + 1, by go_num, by omega, hb3.grown hg' hb3.size (own_base HO.out), A2, c2, by rw [HS.out]; simp, ?_⟩
          rw [HS.out]
          simpa [vcells_app, vcells_one] using ho'
        case measure => simp [intOf]; omega
    · have hke : k = p.length := by omega
      subst hke
      have HO' := HO.out
      rw [List.take_length] at HO'
      have HO2 := Lib.hid HO'; clear HO'
      have HL := Lib.hid (show (pickL t (p.take p.length)).length = (pickL t p).length by rw [List.take_length])
      clear hlen
      go_wp2
      go_ret
      exact ⟨A1, c1, by first | rfl | simp, own_rdV HO2.out, own_adr HO2.out, hB⟩

/-! ### Pick -/
set_option maxHeartbeats 1000000 in
theorem pick_any (A P : Option Addr) (ca cp : Nat) (t : List V) (p : List Int) (w : World) (ht : RdV w A t) (hp : RdI w P p) (lt : t.length ≤ maxLen) (lp : p.length ≤ 1000) :
    Calls Tryz.prog 71 #[.slice A t.length ca, .slice P p.length cp] w (SaysV (pickL t p) w) := by
  have HT := Lib.hid ht; clear ht
  have HP := Lib.hid hp; clear hp
  have hmf : ∀ (fn : Fn) (first cap : Array Value) (w : World), (Instr.makeFunc fn first cap).run Tryz.prog w = .ok (.func fn first cap) w := fun _ _ _ _ => rfl
  have hB : Below w.heap.size w (w.alloc (.cells #[.slice A t.length ca] 25)) := (Below.refl _ _).alloc (Nat.le_refl _) _
  go_enter Tryz.func71, Tryz.ntmps71
  go_wp2_with (go_at_call 88; refine (convertV_any w.heap.size A P ca cp t p _ (by simp [go_sem]) (by simp) (HT.out.on hB) (HP.out.on hB) lt lp).mono ?_; rintro e w2 ⟨A2, c2, rfl, h2, h3, h4⟩)
  go_ret
  exact ⟨A2, c2, rfl, h2, fun b o e => Nat.le_trans hB.size (h3 b o e), hB.trans (h4.mono hB.size)⟩
end Go.Proofs.YtpmkhpbhimmeiaaGreat

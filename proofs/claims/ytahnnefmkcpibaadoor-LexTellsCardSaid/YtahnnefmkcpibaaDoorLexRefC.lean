/-
  Contracts of the document's own lexer (antecedentref07): Key, Tokens; and of lex.Key, antecedentlaw07.same.
-/
import Derived.Test.YtahnnefmkcpibaaDoorLexRefB
import Derived.Test.YtahnnefmkcpibaaDoorLexAwake
import Derived.BigQuiet
namespace Go.Proofs.YtahnnefmkcpibaaDoor
open Go.RowKit FloM ValM Go.Shelf
set_option linter.unusedVariables false
set_option linter.unusedSimpArgs false

/-! ### Key -/
theorem key_in {l k : List UInt8} (h : k ∈ keysB) (e : l = k) : keyL l = true := by
  unfold keyL; rw [List.contains_iff_mem, e]; exact h
theorem key_out {l : List UInt8} (h : ∀ k ∈ keysB, l ≠ k) : keyL l = false := by
  rw [← Bool.not_eq_true]; unfold keyL; rw [List.contains_iff_mem]; exact fun hm => h _ hm rfl
theorem str_is {s : ByteArray} {k : List UInt8} (h : (s.toList == k) = true) : ls s = k := by rw [toList_ls, beq_iff_eq] at h; exact h
theorem str_not {s : ByteArray} {k : List UInt8} (h : (s.toList == k) = false) : ls s ≠ k := by rw [toList_ls, beq_eq_false_iff_ne] at h; exact h
set_option maxHeartbeats 4000000 in
theorem key_any (s : ByteArray) (w : World) : Calls Tryd.prog 11 #[.string s] w fun e w' => e = .returned (.bool (keyL (ls s))) ∧ w = w' := by
  cases g0 : (s.toList == [110, 111, 116]) with
  | true =>
    have HK := Lib.hid (key_in (k := [110, 111, 116]) (by decide) (str_is g0))
    go_enter Tryd.func11, Tryd.ntmps11
    go_wp2
    go_ret
    exact ⟨ret_bool (by rw [HK.out]), rfl⟩
  | false =>
  cases g1 : (s.toList == [105, 115]) with
  | true =>
    have HK := Lib.hid (key_in (k := [105, 115]) (by decide) (str_is g1))
    go_enter Tryd.func11, Tryd.ntmps11
    go_wp2
    go_ret
    exact ⟨ret_bool (by rw [HK.out]), rfl⟩
  | false =>
  cases g2 : (s.toList == [112, 108, 117, 115]) with
  | true =>
    have HK := Lib.hid (key_in (k := [112, 108, 117, 115]) (by decide) (str_is g2))
    go_enter Tryd.func11, Tryd.ntmps11
    go_wp2
    go_ret
    exact ⟨ret_bool (by rw [HK.out]), rfl⟩
  | false =>
  cases g3 : (s.toList == [109, 105, 110, 117, 115]) with
  | true =>
    have HK := Lib.hid (key_in (k := [109, 105, 110, 117, 115]) (by decide) (str_is g3))
    go_enter Tryd.func11, Tryd.ntmps11
    go_wp2
    go_ret
    exact ⟨ret_bool (by rw [HK.out]), rfl⟩
  | false =>
  cases g4 : (s.toList == [116, 105, 109, 101, 115]) with
  | true =>
    have HK := Lib.hid (key_in (k := [116, 105, 109, 101, 115]) (by decide) (str_is g4))
    go_enter Tryd.func11, Tryd.ntmps11
    go_wp2
    go_ret
    exact ⟨ret_bool (by rw [HK.out]), rfl⟩
  | false =>
  cases g5 : (s.toList == [119, 97, 108, 107]) with
  | true =>
    have HK := Lib.hid (key_in (k := [119, 97, 108, 107]) (by decide) (str_is g5))
    go_enter Tryd.func11, Tryd.ntmps11
    go_wp2
    go_ret
    exact ⟨ret_bool (by rw [HK.out]), rfl⟩
  | false =>
  cases g6 : (s.toList == [99, 111, 117, 110, 116]) with
  | true =>
    have HK := Lib.hid (key_in (k := [99, 111, 117, 110, 116]) (by decide) (str_is g6))
    go_enter Tryd.func11, Tryd.ntmps11
    go_wp2
    go_ret
    exact ⟨ret_bool (by rw [HK.out]), rfl⟩
  | false =>
  cases g7 : (s.toList == [115, 117, 109]) with
  | true =>
    have HK := Lib.hid (key_in (k := [115, 117, 109]) (by decide) (str_is g7))
    go_enter Tryd.func11, Tryd.ntmps11
    go_wp2
    go_ret
    exact ⟨ret_bool (by rw [HK.out]), rfl⟩
  | false =>
  cases g8 : (s.toList == [109, 105, 110]) with
  | true =>
    have HK := Lib.hid (key_in (k := [109, 105, 110]) (by decide) (str_is g8))
    go_enter Tryd.func11, Tryd.ntmps11
    go_wp2
    go_ret
    exact ⟨ret_bool (by rw [HK.out]), rfl⟩
  | false =>
  cases g9 : (s.toList == [109, 97, 120]) with
  | true =>
    have HK := Lib.hid (key_in (k := [109, 97, 120]) (by decide) (str_is g9))
    go_enter Tryd.func11, Tryd.ntmps11
    go_wp2
    go_ret
    exact ⟨ret_bool (by rw [HK.out]), rfl⟩
  | false =>
  cases g10 : (s.toList == [109, 101, 97, 110]) with
  | true =>
    have HK := Lib.hid (key_in (k := [109, 101, 97, 110]) (by decide) (str_is g10))
    go_enter Tryd.func11, Tryd.ntmps11
    go_wp2
    go_ret
    exact ⟨ret_bool (by rw [HK.out]), rfl⟩
  | false =>
  have HK := Lib.hid (key_out (l := ls s) (by
    intro k hk
    simp only [keysB, List.mem_cons, List.not_mem_nil, or_false] at hk
    rcases hk with rfl | rfl | rfl | rfl | rfl | rfl | rfl | rfl | rfl | rfl | rfl
    · exact str_not g0
    · exact str_not g1
    · exact str_not g2
    · exact str_not g3
    · exact str_not g4
    · exact str_not g5
    · exact str_not g6
    · exact str_not g7
    · exact str_not g8
    · exact str_not g9
    · exact str_not g10))
  go_enter Tryd.func11, Tryd.ntmps11
  go_wp2
  go_ret
  exact ⟨ret_bool (by rw [HK.out]), rfl⟩
set_option maxHeartbeats 4000000 in
theorem refKey_any (s : ByteArray) (w : World) : Calls Tryd.prog 12 #[.string s] w fun e w' => e = .returned (.bool (keyL (ls s))) ∧ Below w.heap.size w w' := by
  have hc : ∀ k, (h : k < 11) → (w.alloc (.cells (keysB.map fun b => Value.string (bs b)).toArray 9)).cell? ⟨w.heap.size, k, none⟩ = some (.string (bs (keysB[k]'(by simp [keysB]; exact h)))) := fun k h => by
    have := (row_new (t := 9) w (keysB.map fun b => Value.string (bs b))).cell k
    rw [this, List.getElem?_map, List.getElem?_eq_getElem (by simp [keysB]; exact h)]; rfl
  have hB : Below w.heap.size w (w.alloc (.cells (keysB.map fun b => Value.string (bs b)).toArray 9)) := (Below.refl _ w).alloc (Nat.le_refl _) _
  have e0 : w.alloc (.cells (keysB.map fun b => Value.string (bs b)).toArray 9) = w.alloc (.cells #[.string ⟨#[110, 111, 116]⟩, .string ⟨#[105, 115]⟩, .string ⟨#[112, 108, 117, 115]⟩, .string ⟨#[109, 105, 110, 117, 115]⟩, .string ⟨#[116, 105, 109, 101, 115]⟩, .string ⟨#[119, 97, 108, 107]⟩, .string ⟨#[99, 111, 117, 110, 116]⟩, .string ⟨#[115, 117, 109]⟩, .string ⟨#[109, 105, 110]⟩, .string ⟨#[109, 97, 120]⟩, .string ⟨#[109, 101, 97, 110]⟩] 9) := rfl
  rw [e0] at hc hB
  have HC := Lib.hid hc
  clear hc e0
  go_enter Tryd.func12, Tryd.ntmps12
  go_wp2
  generalize w.alloc (.cells #[.string ⟨#[110, 111, 116]⟩, .string ⟨#[105, 115]⟩, .string ⟨#[112, 108, 117, 115]⟩, .string ⟨#[109, 105, 110, 117, 115]⟩, .string ⟨#[116, 105, 109, 101, 115]⟩, .string ⟨#[119, 97, 108, 107]⟩, .string ⟨#[99, 111, 117, 110, 116]⟩, .string ⟨#[115, 117, 109]⟩, .string ⟨#[109, 105, 110]⟩, .string ⟨#[109, 97, 120]⟩, .string ⟨#[109, 101, 97, 110]⟩] 9) = w1 at HC hB ⊢
  go_loop [8] (fun v => ∃ k : Nat, k ≤ 11 ∧ v = .int .i64 k ∧ Hid (∀ j, (h : j < keysB.length) → j < k → ls s ≠ keysB[j])) (fun v => 11 - (intOf v).toNat)
  case atStart => exact ⟨0, by omega, rfl, Lib.hid fun j _ h => by omega⟩
  case round =>
    obtain ⟨k, hk, rfl, HA⟩ := hrel
    by_cases hlt : k < 11
    · have hcell := HC.out k hlt
      obtain ⟨u, hu⟩ : ∃ u, bs (keysB[k]'(by simp [keysB]; exact hlt)) = u := ⟨_, rfl⟩
      rw [hu] at hcell
      have HU := Lib.hid hu; clear hu
      cases hq : (u.toList == s.toList) with
      | true =>
        have HQ := Lib.hid hq
        go_wp2
        go_ret
        have hq' := HQ.out
        rw [toList_ls, toList_ls, beq_iff_eq] at hq'
        exact ⟨ret_bool (key_in (k := keysB[k]'(by simp [keysB]; exact hlt)) (List.getElem_mem _) (by rw [← hq', ← HU.out, ls_bs])).symm, hB⟩
      | false =>
        have HQ := Lib.hid hq
        go_wp2
        go_round
        case rel =>
          refine ⟨k + 1, by omega, by go_num, Lib.hid fun j h hj => ?_⟩
          rcases Nat.lt_or_ge j k with h' | h'
          · exact HA.out j h h'
          · obtain rfl : j = k := by omega
            have := HQ.out; rw [toList_ls, toList_ls, beq_eq_false_iff_ne] at this
            exact fun e => this (by rw [e, ← HU.out, ls_bs])
        case measure => simp [intOf]; omega
    · obtain rfl : k = 11 := by omega
      go_wp2
      go_ret
      have hf : keyL (ls s) = false := key_out fun x hx => by
        obtain ⟨j, hj, rfl⟩ := List.mem_iff_getElem.1 hx
        exact HA.out j hj hj
      exact ⟨ret_bool hf.symm, hB⟩

/-! ### Tokens -/
theorem toks_sep {c : UInt8} {r : List UInt8} (hc : sepC c = true) (a : Nat) : toksL a (c :: r) = toksL (a + 1) r := by
  rw [toks_skip a (c :: r), toks_skip (a + 1) r, span_yes hc]
  rw [show a + (spanL sepC r + 1) = a + 1 + spanL sepC r by omega]; rfl
set_option maxHeartbeats 1000000 in
theorem refTok_long (s : ByteArray) (w : World) (hs : 20000 < (s.size : Int)) :
    Calls Tryd.prog 7 #[.string s] w fun e w' => e = .returned (.tuple #[.slice none 0 0, .int .i64 0, .int .i64 4]) ∧ w = w' := by
  go_enter Tryd.func7, Tryd.ntmps7
  go_wp2
  go_ret3
  exact ⟨rfl, rfl⟩
theorem info_rtok : (Tryd.prog.info? 47).map (fun i => (i.zero, i.size, i.bytes)) = some (some (.agg #[.int .i64 0, .string ByteArray.empty, .int .i64 0]), 3, 32) := by kernel_rfl
/-- The document's Tokens at the head of its loop: k bytes are done. -/
def RTokRel (s : ByteArray) (w : World) (k : Nat) (ts : List Tk) (A : Option Addr) (c : Nat) (wr : World) : Prop := k ≤ s.size ∧ ts.length ≤ k ∧ toksL 0 (ls s) = (toksL k ((ls s).drop k)).lay ts ∧
  wr.ownsRow w.heap.size 47 3 (.slice A ts.length c) ts.length (tcells ts) ∧ Below w.heap.size w wr
set_option maxRecDepth 20000 in
set_option maxHeartbeats 8000000 in
theorem refTok_any (s : ByteArray) (w : World) (hs : ¬ 20000 < (s.size : Int)) :
    Calls Tryd.prog 7 #[.string s] w (SaysK (toksL 0 (ls s)) w) := by
  go_enter Tryd.func7, Tryd.ntmps7
  go_wp2
  go_loopw [5, 6] (fun u v wr => ∃ (k : Nat) (ts : List Tk) (A : Option Addr) (c : Nat), u = .slice A ts.length c ∧ v = .int .i64 (k : Nat) ∧ RTokRel s w k ts A c wr) (fun _ v _ => s.size - (intOf v).toNat)
  case atStart => exact ⟨0, [], none, 0, rfl, rfl, Nat.zero_le _, Nat.le_refl _, by rw [lay_nil]; rfl, own_nil _ _ _ _, Below.refl _ _⟩
  case round =>
    obtain ⟨k, ts, A, cp, rfl, rfl, hk, htk, hR, hown, hB⟩ := hrel
    have HR := Lib.hid hR; have HO := Lib.hid hown; have HB := Lib.hid hB
    clear hR hown hB
    by_cases hlt : k < s.size
    · cases hsp : sepC s[k] with
      | true =>
        have HS := Lib.hid hsp
        have hcs : ((s[k].toNat : Int) == 32) = true ∨ (((s[k].toNat : Int) == 32) = false ∧ ((s[k].toNat : Int) == 9) = true) ∨ (((s[k].toNat : Int) == 32) = false ∧ ((s[k].toNat : Int) == 9) = false ∧ ((s[k].toNat : Int) == 10) = true) := by
          simp only [sepC, decide_eq_true_eq] at hsp
          simp only [beq_iff_eq, beq_eq_false_iff_ne]; omega
        clear hsp
        rcases hcs with q0 | ⟨q0, q1⟩ | ⟨q0, q1, q2⟩
        all_goals
          go_wp2
          go_roundw
          case rel => exact ⟨k + 1, ts, A, cp, rfl, by go_num, by omega, by omega, by rw [HR.out, drop_c s k hlt, toks_sep HS.out], HO.out, HB.out⟩
          case measure => simp [intOf]; omega
      | false =>
        have h0 : spanL sepC ((ls s).drop k) = 0 := by rw [drop_c s k hlt, span_no hsp]
        have H0 := Lib.hid h0
        obtain ⟨q0, q1, q2⟩ : ((s[k].toNat : Int) == 32) = false ∧ ((s[k].toNat : Int) == 9) = false ∧ ((s[k].toNat : Int) == 10) = false := by
          simp only [sepC, decide_eq_false_iff_not] at hsp
          simp only [beq_eq_false_iff_ne]; omega
        clear hsp h0
        obtain ⟨i0, hi0, hz0, hz1, hz2⟩ := info_parts info_rtok
        have HI := Lib.hid (And.intro hi0 (And.intro hz0 (And.intro hz1 hz2)))
        clear hi0 hz0 hz1 hz2
        obtain ⟨kd, n, hm⟩ : ∃ kd n, measL ((ls s).drop k) = (kd, n) := ⟨_, _, rfl⟩
        obtain ⟨v, hv⟩ : ∃ v : ByteArray, ls v = ((ls s).drop k).take n := ⟨bs _, ls_bs _⟩
        have hnx : Hid (∀ W, Calls Tryd.prog 20 #[.string s, .int .i64 (k : Int)] W fun e w' => e = .returned (.tuple #[.agg #[.int .i64 (kd : Nat), .string v, .int .i64 (k : Nat)], .bool (okL kd (ls v))]) ∧ Below W.heap.size W w') := Lib.hid fun W => by
          have := refNext_any s k W (by omega) hlt
          unfold NextQ at this
          rw [hm] at this
          simp only [← hv, bs_ls] at this
          exact this
        cases ho : okL kd (ls v) with
        | false =>
          have hf : firstL ((ls s).drop k) = none := by unfold firstL; rw [hm, ← hv, ho]; rfl
          have hbad : toksL 0 (ls s) = .bad k := by
            rw [HR.out, toks_bad (by rw [H0.out, List.drop_zero, drop_c s k hlt]; simp) (by rw [H0.out]; simpa using hf), H0.out]; rfl
          have HBD := Lib.hid hbad
          rw [ho] at hnx
          clear hf hbad hm hv ho
          go_wp2_with (go_at_call 20; refine (hnx.out _).mono ?_; rintro e w2 ⟨rfl, hb⟩; have HB2 := Lib.hid hb; clear hb)
          go_ret3
          rw [HBD.out]
          exact ⟨rfl, (on HB.out HB2.out).alloc (on HB.out HB2.out).size _⟩
        | true =>
          have hf : firstL ((ls s).drop k) = some (kd, n) := by unfold firstL; rw [hm, ← hv, ho]; rfl
          have hp := first_pos hf
          rw [List.length_drop, ls_len] at hp
          have hvs : v.size = n := by rw [← ls_len, hv, List.length_take, List.length_drop, ls_len]; omega
          have hmore : toksL 0 (ls s) = (toksL (k + v.size) ((ls s).drop (k + v.size))).lay (ts ++ [⟨kd, ls v, k⟩]) := by
            rw [HR.out, toks_more (k := kd) (n := n) (by rw [H0.out]; simpa using hf), H0.out, lay_pre, hv, hvs]
            simp [List.drop_drop]
          have HM := Lib.hid hmore
          have hps : 0 < v.size ∧ k + v.size ≤ s.size := by omega
          rw [ho] at hnx
          clear hf hmore hm hv ho hvs hp
          obtain ⟨hp1, hp2⟩ := hps
          go_wp2_with (first | (go_at_call 20; refine (hnx.out _).mono ?_; rintro e w2 ⟨rfl, hb⟩; have HB2 := Lib.hid hb; have hw2 : w.heap.size ≤ w2.heap.size := (on HB.out hb).size; clear hb) | (at_builtin; refine wpList_append_own _ rfl (.tmp 43) (.tmp 45) _ rfl w.heap.size 47 i0 _ 3 32 Tryd.underlying27 HI.out.1 HI.out.2.1 HI.out.2.2.1 HI.out.2.2.2 rfl (by omega) (.slice A ts.length cp) ts.length _ rfl (own_on (own_on HO.out HB2.out) (((Below.refl _ _).alloc (Nat.le_refl _) _).alloc (by simp) _)) ⟨w2.heap.size + 1, 0, none⟩ 1 1 [.int .i64 (kd : Int), .string v, .int .i64 (k : Int)] rfl (by simp) (news_two w2 _ #[.int .i64 (kd : Int), .string v, .int .i64 (k : Int)] _) (by simp [Value.oneCell']) (by unfold maxLen; omega) (by omega) (by simp; omega) ?_; intro v' w' ho' hg' _; obtain ⟨A2, cp2, rfl⟩ := own_form ho'; have HO2 := Lib.hid ho'; have HG := Lib.hid hg'; have e3 := app_new hg' (fun e => by have := own_lt (own_on HO.out HB2.out) _ e.symm; omega) 1; simp only [List.getElem?_toArray, List.getElem?_cons_zero, List.getElem?_cons_succ] at e3; clear ho' hg'))
          go_roundw
          case rel =>
            have hbw : Below w.heap.size w w' := by
              have h1 := on (on HB.out HB2.out) (((Below.refl _ w2).alloc (Nat.le_refl _) (.cells #[.int .i64 (kd : Int), .string v, .int .i64 (k : Int)] 47)).alloc (by simp) (.cells #[.int .i64 (kd : Int), .string v, .int .i64 (k : Int)] 47))
              exact h1.grown HG.out h1.size (fun q hq => by have := own_base HO.out q hq; omega)
            have hlen : (ts ++ [(⟨kd, ls v, k⟩ : Tk)]).length = ts.length + 1 := by simp
            refine ⟨k + v.size, ts ++ [⟨kd, ls v, k⟩], A2, cp2, by rw [hlen], by go_num, hp2, by rw [hlen]; omega, HM.out, ?_, hbw⟩
            rw [hlen, tcells_app, tcells_one, bs_ls]
            exact HO2.out
          case measure => simp [intOf]; omega
    · obtain rfl : k = s.size := by omega
      have hfin : toksL 0 (ls s) = .good ts := by
        rw [HR.out, List.drop_of_length_le (by rw [ls_len]; exact Nat.le_refl _), toks_end rfl]; simp [Rs.lay]
      have HF := Lib.hid hfin
      clear hfin
      go_wp2
      go_ret3
      rw [HF.out]
      exact ⟨A, cp, rfl, own_rdK HO.out, HB.out⟩

/-! ### same -/
theorem bel_drawsR {B : Nat} {w u : World} (h : Below B w u) (k : Nat) : Below B w (u.drewN k) := ⟨h.os, h.tape, h.output, h.size, h.block⟩
set_option maxHeartbeats 4000000 in
theorem sameK_any (l : List Tk) (A B : Option Addr) (c d : Nat) (w : World) (hl : l.length ≤ 20000) (hA : RdK w A l) (hB : RdK w B l) :
    Calls Tryd.prog 8 #[.slice A l.length c, .slice B l.length d] w fun e w' => e = .returned (.bool true) ∧ Below w.heap.size w w' := by
  have HA := Lib.hid hA; have HB := Lib.hid hB
  clear hA hB
  go_enter Tryd.func8, Tryd.ntmps8
  go_wp2
  go_loopw [13] (fun v wr => ∃ q : Nat, v = .int .i64 (q : Nat) ∧ q ≤ l.length ∧ Below w.heap.size w wr) (fun v _ => l.length - (intOf v).toNat)
  case atStart => exact ⟨0, rfl, Nat.zero_le _, Below.refl _ _⟩
  case round =>
    obtain ⟨q, rfl, hq, hBr⟩ := hrel
    have HBR := Lib.hid hBr; clear hBr
    by_cases hlt : q < l.length
    · have hx := List.getElem?_eq_getElem hlt
      generalize l[q] = t at hx
      obtain ⟨b, o, rfl, hbl, c0, c1, c2⟩ := (HA.out.on HBR.out) q t hx
      obtain ⟨b', o', rfl, hbl', d0, d1, d2⟩ := (HB.out.on HBR.out) q t hx
      clear hx
      go_wp2
      go_quiet (fail)
      go_wp2
      go_roundw
      case rel => exact ⟨q + 1, by go_num, by omega, on HBR.out (by repeat (first | exact Below.refl _ _ | exact bel_drawsR (Below.refl _ _) _ | refine Below.drew ?_))⟩
      case measure => simp [intOf]; omega
    · obtain rfl : q = l.length := by omega
      go_wp2
      go_ret
      exact ⟨rfl, HBR.out⟩
end Go.Proofs.YtahnnefmkcpibaaDoor

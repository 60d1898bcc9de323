/-
  Contracts of package lex: Variable, valid, first.
-/
import Derived.Test.YtahljmddnfldlaaGreatDoorLexSpan
import Derived.Test.YtahljmddnfldlaaGreatDoorLexMem
import Derived.Test.YtahljmddnfldlaaGreatDoorValRow
namespace Go.Proofs.YtahljmddnfldlaaGreatDoor
open Go.RowKit FloM ValM Go.Shelf
set_option linter.unusedVariables false
set_option linter.unusedSimpArgs false

set_option maxRecDepth 20000 in
set_option maxHeartbeats 2000000 in
theorem variable_any (s : ByteArray) (w : World) (hs : s.size ≤ maxLen) :
    Calls Tryz.prog 63 #[.string s] w fun e w' => e = .returned (.bool (varL (ls s))) ∧ Below w.heap.size w w' := by
  have hB := Below.refl w.heap.size w
  have hv : varL (ls s) = (decide (0 < spanL uppC (ls s)) && decide (spanL nameC (ls s) = s.size) && decide (s.size ≤ 40)) := rfl
  have HU := Lib.hid fun W => spUpp s W hs
  have HN := Lib.hid fun W => spName s W hs
  obtain ⟨b, hb⟩ : ∃ b, varL (ls s) = b := ⟨_, rfl⟩
  rw [hb] at hv ⊢
  clear hb
  generalize spanL uppC (ls s) = n at *
  generalize spanL nameC (ls s) = m at *
  have HV := Lib.hid hv; clear hv
  unfold maxLen at hs
  by_cases h1 : 0 < (n : Int)
  · by_cases h2 : m = s.size
    · have h2' : ((m : Int) == (s.size : Int)) = true := by rw [h2]; simp
      have H2 := Lib.hid h2
      clear h2
      by_cases h3 : (s.size : Int) ≤ 40
      · go_enter Tryz.func63, Tryz.ntmps63
        go_wp2_with (go_at_call 79; first | ((with_reducible refine (HU.out _).mono ?_); rintro e w1 ⟨rfl, hb⟩; replace hB := on hB hb; clear hb) | ((with_reducible refine (HN.out _).mono ?_); rintro e w1 ⟨rfl, hb⟩; replace hB := on hB hb; clear hb))
        go_ret
        exact ⟨ret_bool (by rw [HV.out, decide_eq_true (by omega), decide_eq_true H2.out, decide_eq_true (by omega)]; rfl), hB⟩
      · go_enter Tryz.func63, Tryz.ntmps63
        go_wp2_with (go_at_call 79; first | ((with_reducible refine (HU.out _).mono ?_); rintro e w1 ⟨rfl, hb⟩; replace hB := on hB hb; clear hb) | ((with_reducible refine (HN.out _).mono ?_); rintro e w1 ⟨rfl, hb⟩; replace hB := on hB hb; clear hb))
        go_ret
        exact ⟨ret_bool (by rw [HV.out, decide_eq_false (p := s.size ≤ 40) (by omega), Bool.and_false]; first | rfl | (rw [decide_eq_false_iff_not]; omega)), hB⟩
    · have h2' : ((m : Int) == (s.size : Int)) = false := by rw [beq_eq_false_iff_ne]; omega
      have H2 := Lib.hid h2
      clear h2
      go_enter Tryz.func63, Tryz.ntmps63
      go_wp2_with (go_at_call 79; first | ((with_reducible refine (HU.out _).mono ?_); rintro e w1 ⟨rfl, hb⟩; replace hB := on hB hb; clear hb) | ((with_reducible refine (HN.out _).mono ?_); rintro e w1 ⟨rfl, hb⟩; replace hB := on hB hb; clear hb))
      go_ret
      exact ⟨ret_bool (by rw [HV.out, decide_eq_false H2.out, Bool.and_false, Bool.false_and]), hB⟩
  · go_enter Tryz.func63, Tryz.ntmps63
    go_wp2_with (go_at_call 79; first | ((with_reducible refine (HU.out _).mono ?_); rintro e w1 ⟨rfl, hb⟩; replace hB := on hB hb; clear hb) | ((with_reducible refine (HN.out _).mono ?_); rintro e w1 ⟨rfl, hb⟩; replace hB := on hB hb; clear hb))
    go_ret
    exact ⟨ret_bool (by rw [HV.out, decide_eq_false (p := 0 < n) (by omega), Bool.false_and, Bool.false_and]), hB⟩

/-! ### valid -/
set_option maxRecDepth 20000 in
set_option maxHeartbeats 4000000 in
theorem valid_any (k : Nat) (hk : k = 1 ∨ k = 2 ∨ k = 3 ∨ k = 4) (u : ByteArray) (a : Nat) (w : World) (hs : u.size ≤ maxLen) :
    Calls Tryz.prog 103 #[.agg #[.int .i64 (k : Int), .string u, .int .i64 (a : Int)]] w fun e w' => e = .returned (.bool (okL k (ls u))) ∧ Below w.heap.size w w' := by
  have hB : Below w.heap.size w (w.alloc (.cells #[.int .i64 (k : Int), .string u, .int .i64 (a : Int)] 92)) := (Below.refl _ w).alloc (Nat.le_refl _) _
  rcases hk with rfl | rfl | rfl | rfl
  · have H := Lib.hid (name_any u (w.alloc (.cells #[.int .i64 ((1 : Nat) : Int), .string u, .int .i64 (a : Int)] 92)) hs)
    have e : okL 1 (ls u) = name u := rfl
    rw [e]
    go_enter Tryz.func103, Tryz.ntmps103
    go_wp2_with (go_at_call 65; refine H.out.mono ?_; rintro e w1 ⟨rfl, rfl⟩)
    go_ret
    exact ⟨rfl, hB⟩
  · have H := Lib.hid (variable_any u (w.alloc (.cells #[.int .i64 ((2 : Nat) : Int), .string u, .int .i64 (a : Int)] 92)) hs)
    have e : okL 2 (ls u) = varL (ls u) := rfl
    rw [e]
    go_enter Tryz.func103, Tryz.ntmps103
    go_wp2_with (go_at_call 63; refine H.out.mono ?_; rintro e w1 ⟨rfl, hb⟩; replace hB := on hB hb)
    go_ret
    exact ⟨rfl, hB⟩
  · have H := Lib.hid (read_go u (w.alloc (.cells #[.int .i64 ((3 : Nat) : Int), .string u, .int .i64 (a : Int)] 92)) hs)
    have e : okL 3 (ls u) = (readV u).isSome := by show (readV (bs (ls u))).isSome = _; rw [bs_ls]
    rw [e]
    cases hr : readV u with
    | none =>
      have HR := Lib.hid hr; clear hr
      go_enter Tryz.func103, Tryz.ntmps103
      go_wp2_with (go_at_call 90; refine H.out.mono ?_; intro e w1 h; obtain ⟨rfl, hb⟩ := read_no HR.out h; replace hB := on hB hb; clear h hb)
      go_ret
      exact ⟨rfl, hB.alloc hB.size _⟩
    | some v =>
      have HR := Lib.hid hr; clear hr
      go_enter Tryz.func103, Tryz.ntmps103
      go_wp2_with (go_at_call 90; refine H.out.mono ?_; intro e w1 h; obtain ⟨rfl, hb⟩ := read_some HR.out h; replace hB := on hB hb; clear h hb)
      go_ret
      exact ⟨rfl, hB.alloc hB.size _⟩
  · have e : okL 4 (ls u) = !(u.toList.isEmpty) := by
      show decide (ls u ≠ []) = _
      rw [toList_ls]; cases ls u <;> rfl
    rw [e]
    go_enter Tryz.func103, Tryz.ntmps103
    go_wp2
    go_ret
    exact ⟨rfl, hB⟩

/-! ### first -/
def faultV (a k : Int) : Value := .iface 120 (.agg #[.int .i64 a, .int .i64 k])
/-- The token with which a text begins at a place, or a panic that says where it is wrong. -/
def FirstQ (o : Option (Nat × Nat)) (l : List UInt8) (a : Nat) (w : World) (e : Ending) (w' : World) : Prop :=
  (match o with
  | some (k, n) => e = .returned (.agg #[.int .i64 (k : Nat), .string (bs (l.take n)), .int .i64 (a : Int)])
  | none => e = .panicked [{ v := faultV (a : Int) 2, recovered := false }]) ∧ Below w.heap.size w w'
theorem meas_kind (l : List UInt8) : (measL l).1 = 1 ∨ (measL l).1 = 2 ∨ (measL l).1 = 3 ∨ (measL l).1 = 4 := by
  unfold measL
  split
  · exact .inl rfl
  split
  · exact .inr (.inl rfl)
  split
  · split
    · exact .inr (.inr (.inl rfl))
    split
    · exact .inr (.inr (.inl rfl))
    · exact .inr (.inr (.inr rfl))
  · exact .inr (.inr (.inr rfl))
set_option maxRecDepth 20000 in
set_option maxHeartbeats 4000000 in
theorem first_any (s : ByteArray) (a : Nat) (w : World) (hs : s.size ≤ maxLen) (ha : a < s.size) :
    Calls Tryz.prog 80 #[.string s, .int .i64 (a : Int)] w (FirstQ (firstL ((ls s).drop a)) ((ls s).drop a) a w) := by
  obtain ⟨u, hu⟩ : ∃ u, s.extract a s.size = u := ⟨_, rfl⟩
  have hlu : (ls s).drop a = ls u := by rw [← hu, extract_tail]
  have hus : u.size + a = s.size := by rw [← ls_len, ← hlu, List.length_drop, ls_len]; omega
  rw [hlu]
  obtain ⟨k, n, hm⟩ : ∃ k n, measL (ls u) = (k, n) := ⟨_, _, rfl⟩
  have hn : n ≤ u.size := by
    have := meas_le (l := ls u) (fun e => by have := ls_len u; rw [e] at this; simp at this; omega)
    rwa [hm] at this
  have hk := meas_kind (ls u)
  rw [hm] at hk
  have hM := measure_any u (w.alloc (.cells #[.int .i64 0, .string ByteArray.empty, .int .i64 0] 92)) (by unfold maxLen at hs ⊢; omega) (by omega)
  rw [hm] at hM
  obtain ⟨v, hv⟩ : ∃ v, s.extract a (a + n) = v := ⟨_, rfl⟩
  have hvl : ls v = (ls u).take n := by rw [← hv, ls_extract, hlu, Nat.add_sub_cancel_left]
  have hvb : bs ((ls u).take n) = v := by rw [← hvl, bs_ls]
  have hvs : v.size ≤ maxLen := by
    rw [← ls_len, hvl, List.length_take, ls_len]; unfold maxLen at hs ⊢; omega
  have HVD : Hid (∀ W, Calls Tryz.prog 103 #[.agg #[.int .i64 (k : Int), .string v, .int .i64 (a : Int)]] W fun e w' => e = .returned (.bool (okL k (ls v))) ∧ Below W.heap.size W w') := Lib.hid fun W => valid_any k hk v a W hvs
  have hf : firstL (ls u) = if okL k (ls v) then some (k, n) else none := by unfold firstL; rw [hm, hvl]
  rw [hf]
  have hb0 : Below w.heap.size w (w.alloc (.cells #[.int .i64 0, .string ByteArray.empty, .int .i64 0] 92)) := (Below.refl _ w).alloc (Nat.le_refl _) _
  have HM := Lib.hid hM; have H0 := Lib.hid hb0; have HVB := Lib.hid hvb
  clear hM hb0 hf hm hk hlu hvl hvb
  unfold maxLen at hs hvs
  have hn1 : a + n ≤ s.size := by omega
  have hsl : ∀ W : World, (Instr.slice 9 (.string s) (some (.int .i64 (a : Int))) (some (.int .i64 ((a : Int) + (n : Int)))) none).run Tryz.prog W = .ok (.string v) W := fun W => by
    have := run_slice_string (P := Tryz.prog) W 9 s .i64 .i64 (a : Int) ((a : Int) + (n : Int)) Tryz.underlying9 (by omega) (by omega) (by omega)
    rw [this, show ((a : Int) + (n : Int)).toNat = a + n by omega, show (a : Int).toNat = a by omega, hv]
  cases ho : okL k (ls v) with
  | true =>
    have HO := Lib.hid ho; clear ho
    go_enter Tryz.func80, Tryz.ntmps80
    go_wp2_with (first | (go_at_call 102; refine HM.out.mono ?_; rintro e w1 ⟨rfl, hb⟩; have HB1 := Lib.hid hb; have HR0 := Lib.hid (rowOn (row_new (t := 92) w [.int .i64 0, .string ByteArray.empty, .int .i64 0]) hb); clear hb) | (go_at_call 103; refine (HVD.out _).mono ?_; rw [HO.out]; rintro e w2 ⟨rfl, hb⟩; have HB2 := Lib.hid hb; have HR1 := Lib.hid (rowOn (row_new (t := 92) w1 [.int .i64 (k : Int), .string v, .int .i64 (a : Int)]) hb); have HR2 := Lib.hid (rowOn (Row.alloc HR0.out _) hb); have c0 := HR1.out.cell 0; have c1 := HR1.out.cell 1; have c2 := HR1.out.cell 2; have d0 := HR2.out.cell 0; have d1 := HR2.out.cell 1; have d2 := HR2.out.cell 2; have f0 := HR2.out.frozen 0; have f1 := HR2.out.frozen 1; have f2 := HR2.out.frozen 2; clear hb; simp only [List.getElem?_cons_zero, List.getElem?_cons_succ] at c0 c1 c2 d0 d1 d2))
    have hR := Row.set (pre := [.int .i64 (k : Int), .string v]) (post := []) (Row.set (pre := [.int .i64 (k : Int)]) (post := [.int .i64 0]) (Row.set (pre := []) (post := [.string ByteArray.empty, .int .i64 0]) HR2.out (.int .i64 (k : Int))) (.string v)) (.int .i64 (a : Int))
    have hB := on (on H0.out HB1.out) ((Below.refl w1.heap.size w1).alloc (Nat.le_refl _) (.cells #[.int .i64 (k : Int), .string v, .int .i64 (a : Int)] 92))
    have hB := on hB HB2.out
    refine bodyPost_ret (results_cell_row rfl _ _ w.heap.size _ _ _ _ rfl hR Tryz.underlying92 rfl (by kernel_rfl)) rfl ?_
    refine ⟨by show Ending.returned _ = Ending.returned (.agg #[_, .string (bs ((ls u).take n)), _]); rw [HVB.out]; rfl, ?_⟩
    exact ((hB.setCell (by simp) _).setCell (by simp) _).setCell (by simp) _
  | false =>
    have HO := Lib.hid ho; clear ho
    go_enter Tryz.func80, Tryz.ntmps80
    go_wp2_with (first | (go_at_call 102; refine HM.out.mono ?_; rintro e w1 ⟨rfl, hb⟩; have HB1 := Lib.hid hb; have HR0 := Lib.hid (rowOn (row_new (t := 92) w [.int .i64 0, .string ByteArray.empty, .int .i64 0]) hb); clear hb) | (go_at_call 103; refine (HVD.out _).mono ?_; rw [HO.out]; rintro e w2 ⟨rfl, hb⟩; have HB2 := Lib.hid hb; have HR1 := Lib.hid (rowOn (row_new (t := 92) w1 [.int .i64 (k : Int), .string v, .int .i64 (a : Int)]) hb); have HR2 := Lib.hid (rowOn (Row.alloc HR0.out _) hb); have c0 := HR1.out.cell 0; have c1 := HR1.out.cell 1; have c2 := HR1.out.cell 2; have d0 := HR2.out.cell 0; have d1 := HR2.out.cell 1; have d2 := HR2.out.cell 2; have f0 := HR2.out.frozen 0; have f1 := HR2.out.frozen 1; have f2 := HR2.out.frozen 2; clear hb; simp only [List.getElem?_cons_zero, List.getElem?_cons_succ] at c0 c1 c2 d0 d1 d2))
    have hB := on (on H0.out HB1.out) ((Below.refl w1.heap.size w1).alloc (Nat.le_refl _) (.cells #[.int .i64 (k : Int), .string v, .int .i64 (a : Int)] 92))
    have hB := on hB HB2.out
    exact ⟨rfl, rfl, hB⟩
end Go.Proofs.YtahljmddnfldlaaGreatDoor

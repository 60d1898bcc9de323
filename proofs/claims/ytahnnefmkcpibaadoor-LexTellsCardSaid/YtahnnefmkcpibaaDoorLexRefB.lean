/-
  Contracts of the document's own lexer (antecedentref07): next.
-/
import Derived.Test.YtahnnefmkcpibaaDoorLexRefA
import Derived.Test.YtahnnefmkcpibaaDoorValRefI
import Derived.Test.YtahnnefmkcpibaaDoorValRef
namespace Go.Proofs.YtahnnefmkcpibaaDoor
open Go.RowKit FloM ValM Go.Shelf
set_option linter.unusedVariables false
set_option linter.unusedSimpArgs false

/-- The token at a place, and whether it is one. -/
def NextQ (l : List UInt8) (a : Nat) (w : World) (e : Ending) (w' : World) : Prop :=
  e = .returned (.tuple #[.agg #[.int .i64 ((measL l).1 : Nat), .string (bs (l.take (measL l).2)), .int .i64 (a : Nat)], .bool (okL (measL l).1 (l.take (measL l).2))]) ∧ Below w.heap.size w w'
theorem next_fin {l : List UInt8} {a k n : Nat} {v : ByteArray} {b : Bool} {w : World} {e : Ending} {w' : World} (hm : measL l = (k, n)) (hv : ls v = l.take n) (hb : okL k (ls v) = b)
    (he : e = .returned (.tuple #[.agg #[.int .i64 (k : Nat), .string v, .int .i64 (a : Nat)], .bool b])) (hB : Below w.heap.size w w') : NextQ l a w e w' := by
  unfold NextQ
  rw [hm]
  simp only [← hv, bs_ls, hb]
  exact ⟨he, hB⟩
/-- What is cut out of a text. -/
theorem cut_s (s : ByteArray) (a n : Nat) (hs : s.size ≤ 20000) (h : a + n ≤ s.size) : ∃ v : ByteArray, ls v = ((ls s).drop a).take n ∧ v.size = n ∧ ∀ W : World, (Instr.slice 9 (.string s) (some (.int .i64 (a : Int))) (some (.int .i64 ((a : Int) + (n : Int)))) none).run Tryd.prog W = .ok (.string v) W := by
  have hl : ls (s.extract a (a + n)) = ((ls s).drop a).take n := by rw [ls_extract]; congr 1; omega
  refine ⟨_, hl, by rw [← ls_len, hl, List.length_take, List.length_drop, ls_len]; omega, fun W => ?_⟩
  have := run_slice_string (P := Tryd.prog) W 9 s .i64 .i64 (a : Int) ((a : Int) + (n : Int)) Tryd.underlying9 (by omega) (by omega) (by omega)
  rw [this, show ((a : Int) + (n : Int)).toNat = a + n by omega, show (a : Int).toNat = a by omega]
theorem drop_c (s : ByteArray) (a : Nat) (ha : a < s.size) : (ls s).drop a = s[a] :: (ls s).drop (a + 1) := drop_at (ls_at s a ha)
theorem name_ok (v : ByteArray) : okL 1 (ls v) = name v := rfl
theorem var_ok (v : ByteArray) : okL 2 (ls v) = varL (ls v) := rfl
theorem val_ok (v : ByteArray) : okL 3 (ls v) = (readV v).isSome := by show (readV (bs (ls v))).isSome = _; rw [bs_ls]
theorem len_cut {s : ByteArray} {a : Nat} (ha : a ≤ s.size) (p : UInt8 → Bool) : a + spanL p ((ls s).drop a) ≤ s.size := by
  have := span_le p ((ls s).drop a); rw [List.length_drop, ls_len] at this; omega
set_option maxRecDepth 20000 in
set_option maxHeartbeats 4000000 in
theorem refNext_low (s : ByteArray) (a : Nat) (w : World) (hs : s.size ≤ 20000) (ha : a < s.size) (hc : lowC s[a] = true) :
    Calls Tryd.prog 20 #[.string s, .int .i64 (a : Int)] w (NextQ ((ls s).drop a) a w) := by
  have hm := meas_low (r := (ls s).drop (a + 1)) hc
  rw [← drop_c s a ha] at hm
  have hn := len_cut (Nat.le_of_lt ha) (p := wordC)
  have hru := refRun_any s a true
  rw [runP_word] at hru
  obtain ⟨n, hnn⟩ : ∃ n, spanL wordC ((ls s).drop a) = n := ⟨_, rfl⟩
  rw [hnn] at hm hn hru
  obtain ⟨v, hv, hvs, hsl⟩ := cut_s s a n hs hn
  have HRU : Hid (∀ W, Calls Tryd.prog 30 #[.string s, .int .i64 (a : Int), .bool true] W fun e w' => e = .returned (.int .i64 (n : Nat)) ∧ W = w') := Lib.hid fun W => hru W (by unfold maxLen; omega) (by omega)
  have HNM := Lib.hid fun W => refName_any v W
  have HM := Lib.hid hm; have HV := Lib.hid hv; have HN := Lib.hid hnn
  simp only [lowC, decide_eq_true_eq] at hc
  have q1 : 97 ≤ (s[a].toNat : Int) := by omega
  have q2 : (s[a].toNat : Int) ≤ 122 := by omega
  clear hm hv hnn hru hc hvs
  have HB2 : Hid (Below w.heap.size w (w.alloc (.cells #[.int .i64 0, .string ByteArray.empty, .int .i64 0] 47))) := Lib.hid ((Below.refl _ w).alloc (Nat.le_refl _) _)
  go_enter Tryd.func20, Tryd.ntmps20
  go_wp2_with (first | (go_at_call 30; refine (HRU.out _).mono ?_; rintro e w1 ⟨rfl, rfl⟩) | (go_at_call 31; refine (HNM.out _).mono ?_; rintro e w2 ⟨rfl, h'⟩; replace HB2 := Lib.hid (on HB2.out h'); have HR2 := Lib.hid (rowOn (row_new (t := 47) w [.int .i64 0, .string ByteArray.empty, .int .i64 0]) h'); have d0 := HR2.out.cell 0; have d1 := HR2.out.cell 1; have d2 := HR2.out.cell 2; have f0 := HR2.out.frozen 0; have f1 := HR2.out.frozen 1; have f2 := HR2.out.frozen 2; have hz2 := HR2.out.lt; simp only [List.getElem?_cons_zero, List.getElem?_cons_succ] at d0 d1 d2; clear h'))
  obtain ⟨e0, e1, e2⟩ := fin3 (HR2.out) (.int .i64 1) (.string v) (.int .i64 (a : Int))
  refine bodyPost_ret (v := .tuple #[.agg #[.int .i64 1, .string v, .int .i64 (a : Int)], .bool (name v)]) (by simp [results, Tryd.results20, go_sem, e0, e1, e2]) rfl (next_fin (k := 1) HM.out HV.out (name_ok v) rfl (by repeat (first | exact HB2.out | exact Below.refl _ _ | refine Below.setCell ?_ (by simp) _ | refine Below.alloc ?_ (by first | exact Nat.le_refl _ | (have := HB2.out.size; omega) | simp) _)))
set_option maxRecDepth 20000 in
set_option maxHeartbeats 4000000 in
theorem refNext_upp (s : ByteArray) (a : Nat) (w : World) (hs : s.size ≤ 20000) (ha : a < s.size) (hc : uppC s[a] = true) :
    Calls Tryd.prog 20 #[.string s, .int .i64 (a : Int)] w (NextQ ((ls s).drop a) a w) := by
  have hm := meas_upp (r := (ls s).drop (a + 1)) hc
  rw [← drop_c s a ha] at hm
  have hn := len_cut (Nat.le_of_lt ha) (p := nameC)
  have hru := refRun_any s a false
  rw [runP_name] at hru
  obtain ⟨n, hnn⟩ : ∃ n, spanL nameC ((ls s).drop a) = n := ⟨_, rfl⟩
  rw [hnn] at hm hn hru
  obtain ⟨v, hv, hvs, hsl⟩ := cut_s s a n hs hn
  have HRU : Hid (∀ W, Calls Tryd.prog 30 #[.string s, .int .i64 (a : Int), .bool false] W fun e w' => e = .returned (.int .i64 (n : Nat)) ∧ W = w') := Lib.hid fun W => hru W (by unfold maxLen; omega) (by omega)
  have HNM := Lib.hid fun W => refVar_any v W (by unfold maxLen; omega)
  have HM := Lib.hid hm; have HV := Lib.hid hv; have HN := Lib.hid hnn
  simp only [uppC, decide_eq_true_eq] at hc
  have q0 : (s[a].toNat : Int) < 97 := by omega
  have r0 : decide (97 ≤ (s[a].toNat : Int)) = false := by rw [decide_eq_false_iff_not]; omega
  have q1 : 65 ≤ (s[a].toNat : Int) := by omega
  have q2 : (s[a].toNat : Int) ≤ 90 := by omega
  clear hm hv hnn hru hc hvs
  have HB2 : Hid (Below w.heap.size w (w.alloc (.cells #[.int .i64 0, .string ByteArray.empty, .int .i64 0] 47))) := Lib.hid ((Below.refl _ w).alloc (Nat.le_refl _) _)
  go_enter Tryd.func20, Tryd.ntmps20
  go_wp2_with (first | (go_at_call 30; refine (HRU.out _).mono ?_; rintro e w1 ⟨rfl, rfl⟩) | (go_at_call 10; refine (HNM.out _).mono ?_; rintro e w2 ⟨rfl, rfl⟩))
  obtain ⟨e0, e1, e2⟩ := fin3 (row_new (t := 47) w [.int .i64 0, .string ByteArray.empty, .int .i64 0]) (.int .i64 2) (.string v) (.int .i64 (a : Int))
  refine bodyPost_ret (v := .tuple #[.agg #[.int .i64 2, .string v, .int .i64 (a : Int)], .bool (varL (ls v))]) (by simp [results, Tryd.results20, go_sem, e0, e1, e2]) rfl (next_fin (k := 2) HM.out HV.out (var_ok v) rfl (by repeat (first | exact HB2.out | exact Below.refl _ _ | refine Below.setCell ?_ (by simp) _ | refine Below.alloc ?_ (by first | exact Nat.le_refl _ | (have := HB2.out.size; omega) | simp) _)))
set_option maxRecDepth 20000 in
set_option maxHeartbeats 4000000 in
theorem refNext_v35n (s : ByteArray) (a : Nat) (w : World) (hs : s.size ≤ 20000) (ha : a < s.size) (hc : s[a].toNat = 35) (v : ByteArray) (n : Nat) (hn : a + (1 + n) ≤ s.size) (hm : measL ((ls s).drop a) = (3, 1 + n)) (hv : ls v = ((ls s).drop a).take (1 + n)) (hsl : ∀ W : World, (Instr.slice 9 (.string s) (some (.int .i64 (a : Int))) (some (.int .i64 ((a : Int) + 1 + (n : Int)))) none).run Tryd.prog W = .ok (.string v) W)
    (HRU : Hid (∀ W, Calls Tryd.prog 30 #[.string s, .int .i64 ((a : Int) + 1), .bool false] W fun e w' => e = .returned (.int .i64 (n : Nat)) ∧ W = w')) (h : readV v = none) :
    Calls Tryd.prog 20 #[.string s, .int .i64 (a : Int)] w (NextQ ((ls s).drop a) a w) := by
  have HRD := Lib.hid fun W => refRead_go v W
  have H := Lib.hid h; have HM := Lib.hid hm; have HV := Lib.hid hv
  have q0 : (s[a].toNat : Int) < 97 := by omega
  have q0d : decide (97 ≤ (s[a].toNat : Int)) = false := by rw [decide_eq_false_iff_not]; omega
  have q1 : (s[a].toNat : Int) < 65 := by omega
  have q1d : decide (65 ≤ (s[a].toNat : Int)) = false := by rw [decide_eq_false_iff_not]; omega
  have q2 : ((s[a].toNat : Int) == 35) = true := by rw [beq_iff_eq]; omega
  clear h hm hv hc
  have HB2 : Hid (Below w.heap.size w (w.alloc (.cells #[.int .i64 0, .string ByteArray.empty, .int .i64 0] 47))) := Lib.hid ((Below.refl _ w).alloc (Nat.le_refl _) _)
  go_enter Tryd.func20, Tryd.ntmps20
  go_wp2_with (first | (go_at_call 30; refine (HRU.out _).mono ?_; rintro e w1 ⟨rfl, rfl⟩) | (go_at_call 32; refine (HRD.out _).mono ?_; intro e w2 h'; replace h' := read_no H.out h'; obtain ⟨rfl, h'⟩ := h'; replace HB2 := Lib.hid (on HB2.out h'); have HR2 := Lib.hid (rowOn (row_new (t := 47) w [.int .i64 0, .string ByteArray.empty, .int .i64 0]) h'); have d0 := HR2.out.cell 0; have d1 := HR2.out.cell 1; have d2 := HR2.out.cell 2; have f0 := HR2.out.frozen 0; have f1 := HR2.out.frozen 1; have f2 := HR2.out.frozen 2; have hz2 := HR2.out.lt; simp only [List.getElem?_cons_zero, List.getElem?_cons_succ] at d0 d1 d2; clear h'))
  have R3 := Row.set (pre := [.int .i64 3, .string v]) (post := []) (Row.set (pre := [.int .i64 3]) (post := [.int .i64 0]) (Row.set (pre := []) (post := [.string ByteArray.empty, .int .i64 0]) HR2.out (.int .i64 3)) (.string v)) (.int .i64 (a : Int))
  have a0 : ∀ o, _ := fun o => (Row.alloc R3 o).cell 0
  have a1 : ∀ o, _ := fun o => (Row.alloc R3 o).cell 1
  have a2 : ∀ o, _ := fun o => (Row.alloc R3 o).cell 2
  simp only [List.nil_append, List.cons_append, List.length_nil, List.length_cons, List.getElem?_cons_zero, List.getElem?_cons_succ] at a0 a1 a2
  obtain ⟨e0, e1, e2⟩ := fin3 (HR2.out) (.int .i64 3) (.string v) (.int .i64 (a : Int))
  refine bodyPost_ret (v := .tuple #[.agg #[.int .i64 3, .string v, .int .i64 (a : Int)], .bool false]) (by simp [results, Tryd.results20, go_sem, e0, e1, e2, a0, a1, a2]) rfl (next_fin (k := 3) HM.out HV.out (by rw [val_ok, H.out]; rfl) rfl (by repeat (first | exact HB2.out | exact Below.refl _ _ | refine Below.setCell ?_ (by simp) _ | refine Below.alloc ?_ (by have := HB2.out.size; first | exact Nat.le_refl _ | omega | (simp; omega) | simp) _)))
set_option maxRecDepth 20000 in
set_option maxHeartbeats 4000000 in
theorem refNext_v35y (s : ByteArray) (a : Nat) (w : World) (hs : s.size ≤ 20000) (ha : a < s.size) (hc : s[a].toNat = 35) (v : ByteArray) (n : Nat) (hn : a + (1 + n) ≤ s.size) (hm : measL ((ls s).drop a) = (3, 1 + n)) (hv : ls v = ((ls s).drop a).take (1 + n)) (hsl : ∀ W : World, (Instr.slice 9 (.string s) (some (.int .i64 (a : Int))) (some (.int .i64 ((a : Int) + 1 + (n : Int)))) none).run Tryd.prog W = .ok (.string v) W)
    (HRU : Hid (∀ W, Calls Tryd.prog 30 #[.string s, .int .i64 ((a : Int) + 1), .bool false] W fun e w' => e = .returned (.int .i64 (n : Nat)) ∧ W = w')) (x : V) (h : readV v = some x) :
    Calls Tryd.prog 20 #[.string s, .int .i64 (a : Int)] w (NextQ ((ls s).drop a) a w) := by
  have HRD := Lib.hid fun W => refRead_go v W
  have H := Lib.hid h; have HM := Lib.hid hm; have HV := Lib.hid hv
  have q0 : (s[a].toNat : Int) < 97 := by omega
  have q0d : decide (97 ≤ (s[a].toNat : Int)) = false := by rw [decide_eq_false_iff_not]; omega
  have q1 : (s[a].toNat : Int) < 65 := by omega
  have q1d : decide (65 ≤ (s[a].toNat : Int)) = false := by rw [decide_eq_false_iff_not]; omega
  have q2 : ((s[a].toNat : Int) == 35) = true := by rw [beq_iff_eq]; omega
  clear h hm hv hc
  have HB2 : Hid (Below w.heap.size w (w.alloc (.cells #[.int .i64 0, .string ByteArray.empty, .int .i64 0] 47))) := Lib.hid ((Below.refl _ w).alloc (Nat.le_refl _) _)
  go_enter Tryd.func20, Tryd.ntmps20
  go_wp2_with (first | (go_at_call 30; refine (HRU.out _).mono ?_; rintro e w1 ⟨rfl, rfl⟩) | (go_at_call 32; refine (HRD.out _).mono ?_; intro e w2 h'; replace h' := read_some H.out h'; obtain ⟨rfl, h'⟩ := h'; replace HB2 := Lib.hid (on HB2.out h'); have HR2 := Lib.hid (rowOn (row_new (t := 47) w [.int .i64 0, .string ByteArray.empty, .int .i64 0]) h'); have d0 := HR2.out.cell 0; have d1 := HR2.out.cell 1; have d2 := HR2.out.cell 2; have f0 := HR2.out.frozen 0; have f1 := HR2.out.frozen 1; have f2 := HR2.out.frozen 2; have hz2 := HR2.out.lt; simp only [List.getElem?_cons_zero, List.getElem?_cons_succ] at d0 d1 d2; clear h'))
  have R3 := Row.set (pre := [.int .i64 3, .string v]) (post := []) (Row.set (pre := [.int .i64 3]) (post := [.int .i64 0]) (Row.set (pre := []) (post := [.string ByteArray.empty, .int .i64 0]) HR2.out (.int .i64 3)) (.string v)) (.int .i64 (a : Int))
  have a0 : ∀ o, _ := fun o => (Row.alloc R3 o).cell 0
  have a1 : ∀ o, _ := fun o => (Row.alloc R3 o).cell 1
  have a2 : ∀ o, _ := fun o => (Row.alloc R3 o).cell 2
  simp only [List.nil_append, List.cons_append, List.length_nil, List.length_cons, List.getElem?_cons_zero, List.getElem?_cons_succ] at a0 a1 a2
  obtain ⟨e0, e1, e2⟩ := fin3 (HR2.out) (.int .i64 3) (.string v) (.int .i64 (a : Int))
  refine bodyPost_ret (v := .tuple #[.agg #[.int .i64 3, .string v, .int .i64 (a : Int)], .bool true]) (by simp [results, Tryd.results20, go_sem, e0, e1, e2, a0, a1, a2]) rfl (next_fin (k := 3) HM.out HV.out (by rw [val_ok, H.out]; rfl) rfl (by repeat (first | exact HB2.out | exact Below.refl _ _ | refine Below.setCell ?_ (by simp) _ | refine Below.alloc ?_ (by have := HB2.out.size; first | exact Nat.le_refl _ | omega | (simp; omega) | simp) _)))
theorem refNext_v35 (s : ByteArray) (a : Nat) (w : World) (hs : s.size ≤ 20000) (ha : a < s.size) (hc : s[a].toNat = 35) :
    Calls Tryd.prog 20 #[.string s, .int .i64 (a : Int)] w (NextQ ((ls s).drop a) a w) := by
  have hm := meas_hsh (r := (ls s).drop (a + 1)) hc
  rw [← drop_c s a ha] at hm
  have hn := len_cut (show a + 1 ≤ s.size by omega) (p := nameC)
  have hru := refRun_any s (a + 1) false
  rw [runP_name] at hru
  obtain ⟨n, hnn⟩ : ∃ n, spanL nameC ((ls s).drop (a + 1)) = n := ⟨_, rfl⟩
  rw [hnn] at hm hn hru
  obtain ⟨v, hv, hvs, hsl⟩ := cut_s s a (1 + n) hs (by omega)
  have hsl' : ∀ W : World, (Instr.slice 9 (.string s) (some (.int .i64 (a : Int))) (some (.int .i64 ((a : Int) + 1 + (n : Int)))) none).run Tryd.prog W = .ok (.string v) W := fun W => by
    have := hsl W; rwa [show (a : Int) + ((1 + n : Nat) : Int) = (a : Int) + 1 + (n : Int) by omega] at this
  have HRU : Hid (∀ W, Calls Tryd.prog 30 #[.string s, .int .i64 ((a : Int) + 1), .bool false] W fun e w' => e = .returned (.int .i64 (n : Nat)) ∧ W = w') := Lib.hid fun W => hru W (by unfold maxLen; omega) (by omega)
  cases h : readV v with
  | none => exact refNext_v35n s a w hs ha hc v n (by omega) hm hv hsl' HRU h
  | some x => exact refNext_v35y s a w hs ha hc v n (by omega) hm hv hsl' HRU x h
set_option maxRecDepth 20000 in
set_option maxHeartbeats 4000000 in
theorem refNext_vdgn (s : ByteArray) (a : Nat) (w : World) (hs : s.size ≤ 20000) (ha : a < s.size) (hc : digC s[a] = true) (v : ByteArray) (n : Nat) (hn : a + (1 + n) ≤ s.size) (hm : measL ((ls s).drop a) = (3, 1 + n)) (hv : ls v = ((ls s).drop a).take (1 + n)) (hsl : ∀ W : World, (Instr.slice 9 (.string s) (some (.int .i64 (a : Int))) (some (.int .i64 ((a : Int) + 1 + (n : Int)))) none).run Tryd.prog W = .ok (.string v) W)
    (HRU : Hid (∀ W, Calls Tryd.prog 30 #[.string s, .int .i64 ((a : Int) + 1), .bool false] W fun e w' => e = .returned (.int .i64 (n : Nat)) ∧ W = w')) (h : readV v = none) :
    Calls Tryd.prog 20 #[.string s, .int .i64 (a : Int)] w (NextQ ((ls s).drop a) a w) := by
  have HRD := Lib.hid fun W => refRead_go v W
  have H := Lib.hid h; have HM := Lib.hid hm; have HV := Lib.hid hv
  simp only [digC, decide_eq_true_eq] at hc
  have q0 : (s[a].toNat : Int) < 97 := by omega
  have q0d : decide (97 ≤ (s[a].toNat : Int)) = false := by rw [decide_eq_false_iff_not]; omega
  have q1 : (s[a].toNat : Int) < 65 := by omega
  have q1d : decide (65 ≤ (s[a].toNat : Int)) = false := by rw [decide_eq_false_iff_not]; omega
  have q2 : ((s[a].toNat : Int) == 35) = false := by rw [beq_eq_false_iff_ne]; omega
  have q3 : 48 ≤ (s[a].toNat : Int) := by omega
  have q4 : (s[a].toNat : Int) ≤ 57 := by omega
  clear h hm hv hc
  have HB2 : Hid (Below w.heap.size w (w.alloc (.cells #[.int .i64 0, .string ByteArray.empty, .int .i64 0] 47))) := Lib.hid ((Below.refl _ w).alloc (Nat.le_refl _) _)
  go_enter Tryd.func20, Tryd.ntmps20
  go_wp2_with (first | (go_at_call 30; refine (HRU.out _).mono ?_; rintro e w1 ⟨rfl, rfl⟩) | (go_at_call 32; refine (HRD.out _).mono ?_; intro e w2 h'; replace h' := read_no H.out h'; obtain ⟨rfl, h'⟩ := h'; replace HB2 := Lib.hid (on HB2.out h'); have HR2 := Lib.hid (rowOn (row_new (t := 47) w [.int .i64 0, .string ByteArray.empty, .int .i64 0]) h'); have d0 := HR2.out.cell 0; have d1 := HR2.out.cell 1; have d2 := HR2.out.cell 2; have f0 := HR2.out.frozen 0; have f1 := HR2.out.frozen 1; have f2 := HR2.out.frozen 2; have hz2 := HR2.out.lt; simp only [List.getElem?_cons_zero, List.getElem?_cons_succ] at d0 d1 d2; clear h'))
  have R3 := Row.set (pre := [.int .i64 3, .string v]) (post := []) (Row.set (pre := [.int .i64 3]) (post := [.int .i64 0]) (Row.set (pre := []) (post := [.string ByteArray.empty, .int .i64 0]) HR2.out (.int .i64 3)) (.string v)) (.int .i64 (a : Int))
  have a0 : ∀ o, _ := fun o => (Row.alloc R3 o).cell 0
  have a1 : ∀ o, _ := fun o => (Row.alloc R3 o).cell 1
  have a2 : ∀ o, _ := fun o => (Row.alloc R3 o).cell 2
  simp only [List.nil_append, List.cons_append, List.length_nil, List.length_cons, List.getElem?_cons_zero, List.getElem?_cons_succ] at a0 a1 a2
  obtain ⟨e0, e1, e2⟩ := fin3 (HR2.out) (.int .i64 3) (.string v) (.int .i64 (a : Int))
  refine bodyPost_ret (v := .tuple #[.agg #[.int .i64 3, .string v, .int .i64 (a : Int)], .bool false]) (by simp [results, Tryd.results20, go_sem, e0, e1, e2, a0, a1, a2]) rfl (next_fin (k := 3) HM.out HV.out (by rw [val_ok, H.out]; rfl) rfl (by repeat (first | exact HB2.out | exact Below.refl _ _ | refine Below.setCell ?_ (by simp) _ | refine Below.alloc ?_ (by have := HB2.out.size; first | exact Nat.le_refl _ | omega | (simp; omega) | simp) _)))
set_option maxRecDepth 20000 in
set_option maxHeartbeats 4000000 in
theorem refNext_vdgy (s : ByteArray) (a : Nat) (w : World) (hs : s.size ≤ 20000) (ha : a < s.size) (hc : digC s[a] = true) (v : ByteArray) (n : Nat) (hn : a + (1 + n) ≤ s.size) (hm : measL ((ls s).drop a) = (3, 1 + n)) (hv : ls v = ((ls s).drop a).take (1 + n)) (hsl : ∀ W : World, (Instr.slice 9 (.string s) (some (.int .i64 (a : Int))) (some (.int .i64 ((a : Int) + 1 + (n : Int)))) none).run Tryd.prog W = .ok (.string v) W)
    (HRU : Hid (∀ W, Calls Tryd.prog 30 #[.string s, .int .i64 ((a : Int) + 1), .bool false] W fun e w' => e = .returned (.int .i64 (n : Nat)) ∧ W = w')) (x : V) (h : readV v = some x) :
    Calls Tryd.prog 20 #[.string s, .int .i64 (a : Int)] w (NextQ ((ls s).drop a) a w) := by
  have HRD := Lib.hid fun W => refRead_go v W
  have H := Lib.hid h; have HM := Lib.hid hm; have HV := Lib.hid hv
  simp only [digC, decide_eq_true_eq] at hc
  have q0 : (s[a].toNat : Int) < 97 := by omega
  have q0d : decide (97 ≤ (s[a].toNat : Int)) = false := by rw [decide_eq_false_iff_not]; omega
  have q1 : (s[a].toNat : Int) < 65 := by omega
  have q1d : decide (65 ≤ (s[a].toNat : Int)) = false := by rw [decide_eq_false_iff_not]; omega
  have q2 : ((s[a].toNat : Int) == 35) = false := by rw [beq_eq_false_iff_ne]; omega
  have q3 : 48 ≤ (s[a].toNat : Int) := by omega
  have q4 : (s[a].toNat : Int) ≤ 57 := by omega
  clear h hm hv hc
  have HB2 : Hid (Below w.heap.size w (w.alloc (.cells #[.int .i64 0, .string ByteArray.empty, .int .i64 0] 47))) := Lib.hid ((Below.refl _ w).alloc (Nat.le_refl _) _)
  go_enter Tryd.func20, Tryd.ntmps20
  go_wp2_with (first | (go_at_call 30; refine (HRU.out _).mono ?_; rintro e w1 ⟨rfl, rfl⟩) | (go_at_call 32; refine (HRD.out _).mono ?_; intro e w2 h'; replace h' := read_some H.out h'; obtain ⟨rfl, h'⟩ := h'; replace HB2 := Lib.hid (on HB2.out h'); have HR2 := Lib.hid (rowOn (row_new (t := 47) w [.int .i64 0, .string ByteArray.empty, .int .i64 0]) h'); have d0 := HR2.out.cell 0; have d1 := HR2.out.cell 1; have d2 := HR2.out.cell 2; have f0 := HR2.out.frozen 0; have f1 := HR2.out.frozen 1; have f2 := HR2.out.frozen 2; have hz2 := HR2.out.lt; simp only [List.getElem?_cons_zero, List.getElem?_cons_succ] at d0 d1 d2; clear h'))
  have R3 := Row.set (pre := [.int .i64 3, .string v]) (post := []) (Row.set (pre := [.int .i64 3]) (post := [.int .i64 0]) (Row.set (pre := []) (post := [.string ByteArray.empty, .int .i64 0]) HR2.out (.int .i64 3)) (.string v)) (.int .i64 (a : Int))
  have a0 : ∀ o, _ := fun o => (Row.alloc R3 o).cell 0
  have a1 : ∀ o, _ := fun o => (Row.alloc R3 o).cell 1
  have a2 : ∀ o, _ := fun o => (Row.alloc R3 o).cell 2
  simp only [List.nil_append, List.cons_append, List.length_nil, List.length_cons, List.getElem?_cons_zero, List.getElem?_cons_succ] at a0 a1 a2
  obtain ⟨e0, e1, e2⟩ := fin3 (HR2.out) (.int .i64 3) (.string v) (.int .i64 (a : Int))
  refine bodyPost_ret (v := .tuple #[.agg #[.int .i64 3, .string v, .int .i64 (a : Int)], .bool true]) (by simp [results, Tryd.results20, go_sem, e0, e1, e2, a0, a1, a2]) rfl (next_fin (k := 3) HM.out HV.out (by rw [val_ok, H.out]; rfl) rfl (by repeat (first | exact HB2.out | exact Below.refl _ _ | refine Below.setCell ?_ (by simp) _ | refine Below.alloc ?_ (by have := HB2.out.size; first | exact Nat.le_refl _ | omega | (simp; omega) | simp) _)))
theorem refNext_vdg (s : ByteArray) (a : Nat) (w : World) (hs : s.size ≤ 20000) (ha : a < s.size) (hc : digC s[a] = true) :
    Calls Tryd.prog 20 #[.string s, .int .i64 (a : Int)] w (NextQ ((ls s).drop a) a w) := by
  have hm := meas_dig (r := (ls s).drop (a + 1)) hc
  rw [← drop_c s a ha] at hm
  have hn := len_cut (show a + 1 ≤ s.size by omega) (p := nameC)
  have hru := refRun_any s (a + 1) false
  rw [runP_name] at hru
  obtain ⟨n, hnn⟩ : ∃ n, spanL nameC ((ls s).drop (a + 1)) = n := ⟨_, rfl⟩
  rw [hnn] at hm hn hru
  obtain ⟨v, hv, hvs, hsl⟩ := cut_s s a (1 + n) hs (by omega)
  have hsl' : ∀ W : World, (Instr.slice 9 (.string s) (some (.int .i64 (a : Int))) (some (.int .i64 ((a : Int) + 1 + (n : Int)))) none).run Tryd.prog W = .ok (.string v) W := fun W => by
    have := hsl W; rwa [show (a : Int) + ((1 + n : Nat) : Int) = (a : Int) + 1 + (n : Int) by omega] at this
  have HRU : Hid (∀ W, Calls Tryd.prog 30 #[.string s, .int .i64 ((a : Int) + 1), .bool false] W fun e w' => e = .returned (.int .i64 (n : Nat)) ∧ W = w') := Lib.hid fun W => hru W (by unfold maxLen; omega) (by omega)
  cases h : readV v with
  | none => exact refNext_vdgn s a w hs ha hc v n (by omega) hm hv hsl' HRU h
  | some x => exact refNext_vdgy s a w hs ha hc v n (by omega) hm hv hsl' HRU x h
set_option maxRecDepth 20000 in
set_option maxHeartbeats 4000000 in
theorem refNext_vmnn (s : ByteArray) (a : Nat) (w : World) (hs : s.size ≤ 20000) (ha : a < s.size) (hc : s[a].toNat = 45) (h1 : a + 1 < s.size) (hd : digC s[a + 1] = true) (v : ByteArray) (n : Nat) (hn : a + (1 + n) ≤ s.size) (hm : measL ((ls s).drop a) = (3, 1 + n)) (hv : ls v = ((ls s).drop a).take (1 + n)) (hsl : ∀ W : World, (Instr.slice 9 (.string s) (some (.int .i64 (a : Int))) (some (.int .i64 ((a : Int) + 1 + (n : Int)))) none).run Tryd.prog W = .ok (.string v) W)
    (HRU : Hid (∀ W, Calls Tryd.prog 30 #[.string s, .int .i64 ((a : Int) + 1), .bool false] W fun e w' => e = .returned (.int .i64 (n : Nat)) ∧ W = w')) (h : readV v = none) :
    Calls Tryd.prog 20 #[.string s, .int .i64 (a : Int)] w (NextQ ((ls s).drop a) a w) := by
  have HRD := Lib.hid fun W => refRead_go v W
  have H := Lib.hid h; have HM := Lib.hid hm; have HV := Lib.hid hv
  simp only [digC, decide_eq_true_eq] at hd
  have q0 : (s[a].toNat : Int) < 97 := by omega
  have q0d : decide (97 ≤ (s[a].toNat : Int)) = false := by rw [decide_eq_false_iff_not]; omega
  have q1 : (s[a].toNat : Int) < 65 := by omega
  have q1d : decide (65 ≤ (s[a].toNat : Int)) = false := by rw [decide_eq_false_iff_not]; omega
  have q2 : ((s[a].toNat : Int) == 35) = false := by rw [beq_eq_false_iff_ne]; omega
  have q3 : (s[a].toNat : Int) < 48 := by omega
  have q3d : decide (48 ≤ (s[a].toNat : Int)) = false := by rw [decide_eq_false_iff_not]; omega
  have q4 : ((s[a].toNat : Int) == 45) = true := by rw [beq_iff_eq]; omega
  have q5 : (a : Int) + 1 < (s.size : Int) := by omega
  have q6 : 48 ≤ (s[a + 1].toNat : Int) := by omega
  have q7 : (s[a + 1].toNat : Int) ≤ 57 := by omega
  clear h hm hv hc hd
  have HB2 : Hid (Below w.heap.size w (w.alloc (.cells #[.int .i64 0, .string ByteArray.empty, .int .i64 0] 47))) := Lib.hid ((Below.refl _ w).alloc (Nat.le_refl _) _)
  go_enter Tryd.func20, Tryd.ntmps20
  go_wp2_with (first | (go_at_call 30; refine (HRU.out _).mono ?_; rintro e w1 ⟨rfl, rfl⟩) | (go_at_call 32; refine (HRD.out _).mono ?_; intro e w2 h'; replace h' := read_no H.out h'; obtain ⟨rfl, h'⟩ := h'; replace HB2 := Lib.hid (on HB2.out h'); have HR2 := Lib.hid (rowOn (row_new (t := 47) w [.int .i64 0, .string ByteArray.empty, .int .i64 0]) h'); have d0 := HR2.out.cell 0; have d1 := HR2.out.cell 1; have d2 := HR2.out.cell 2; have f0 := HR2.out.frozen 0; have f1 := HR2.out.frozen 1; have f2 := HR2.out.frozen 2; have hz2 := HR2.out.lt; simp only [List.getElem?_cons_zero, List.getElem?_cons_succ] at d0 d1 d2; clear h'))
  have R3 := Row.set (pre := [.int .i64 3, .string v]) (post := []) (Row.set (pre := [.int .i64 3]) (post := [.int .i64 0]) (Row.set (pre := []) (post := [.string ByteArray.empty, .int .i64 0]) HR2.out (.int .i64 3)) (.string v)) (.int .i64 (a : Int))
  have a0 : ∀ o, _ := fun o => (Row.alloc R3 o).cell 0
  have a1 : ∀ o, _ := fun o => (Row.alloc R3 o).cell 1
  have a2 : ∀ o, _ := fun o => (Row.alloc R3 o).cell 2
  simp only [List.nil_append, List.cons_append, List.length_nil, List.length_cons, List.getElem?_cons_zero, List.getElem?_cons_succ] at a0 a1 a2
  obtain ⟨e0, e1, e2⟩ := fin3 (HR2.out) (.int .i64 3) (.string v) (.int .i64 (a : Int))
  refine bodyPost_ret (v := .tuple #[.agg #[.int .i64 3, .string v, .int .i64 (a : Int)], .bool false]) (by simp [results, Tryd.results20, go_sem, e0, e1, e2, a0, a1, a2]) rfl (next_fin (k := 3) HM.out HV.out (by rw [val_ok, H.out]; rfl) rfl (by repeat (first | exact HB2.out | exact Below.refl _ _ | refine Below.setCell ?_ (by simp) _ | refine Below.alloc ?_ (by have := HB2.out.size; first | exact Nat.le_refl _ | omega | (simp; omega) | simp) _)))
set_option maxRecDepth 20000 in
set_option maxHeartbeats 4000000 in
theorem refNext_vmny (s : ByteArray) (a : Nat) (w : World) (hs : s.size ≤ 20000) (ha : a < s.size) (hc : s[a].toNat = 45) (h1 : a + 1 < s.size) (hd : digC s[a + 1] = true) (v : ByteArray) (n : Nat) (hn : a + (1 + n) ≤ s.size) (hm : measL ((ls s).drop a) = (3, 1 + n)) (hv : ls v = ((ls s).drop a).take (1 + n)) (hsl : ∀ W : World, (Instr.slice 9 (.string s) (some (.int .i64 (a : Int))) (some (.int .i64 ((a : Int) + 1 + (n : Int)))) none).run Tryd.prog W = .ok (.string v) W)
    (HRU : Hid (∀ W, Calls Tryd.prog 30 #[.string s, .int .i64 ((a : Int) + 1), .bool false] W fun e w' => e = .returned (.int .i64 (n : Nat)) ∧ W = w')) (x : V) (h : readV v = some x) :
    Calls Tryd.prog 20 #[.string s, .int .i64 (a : Int)] w (NextQ ((ls s).drop a) a w) := by
  have HRD := Lib.hid fun W => refRead_go v W
  have H := Lib.hid h; have HM := Lib.hid hm; have HV := Lib.hid hv
  simp only [digC, decide_eq_true_eq] at hd
  have q0 : (s[a].toNat : Int) < 97 := by omega
  have q0d : decide (97 ≤ (s[a].toNat : Int)) = false := by rw [decide_eq_false_iff_not]; omega
  have q1 : (s[a].toNat : Int) < 65 := by omega
  have q1d : decide (65 ≤ (s[a].toNat : Int)) = false := by rw [decide_eq_false_iff_not]; omega
  have q2 : ((s[a].toNat : Int) == 35) = false := by rw [beq_eq_false_iff_ne]; omega
  have q3 : (s[a].toNat : Int) < 48 := by omega
  have q3d : decide (48 ≤ (s[a].toNat : Int)) = false := by rw [decide_eq_false_iff_not]; omega
  have q4 : ((s[a].toNat : Int) == 45) = true := by rw [beq_iff_eq]; omega
  have q5 : (a : Int) + 1 < (s.size : Int) := by omega
  have q6 : 48 ≤ (s[a + 1].toNat : Int) := by omega
  have q7 : (s[a + 1].toNat : Int) ≤ 57 := by omega
  clear h hm hv hc hd
  have HB2 : Hid (Below w.heap.size w (w.alloc (.cells #[.int .i64 0, .string ByteArray.empty, .int .i64 0] 47))) := Lib.hid ((Below.refl _ w).alloc (Nat.le_refl _) _)
  go_enter Tryd.func20, Tryd.ntmps20
  go_wp2_with (first | (go_at_call 30; refine (HRU.out _).mono ?_; rintro e w1 ⟨rfl, rfl⟩) | (go_at_call 32; refine (HRD.out _).mono ?_; intro e w2 h'; replace h' := read_some H.out h'; obtain ⟨rfl, h'⟩ := h'; replace HB2 := Lib.hid (on HB2.out h'); have HR2 := Lib.hid (rowOn (row_new (t := 47) w [.int .i64 0, .string ByteArray.empty, .int .i64 0]) h'); have d0 := HR2.out.cell 0; have d1 := HR2.out.cell 1; have d2 := HR2.out.cell 2; have f0 := HR2.out.frozen 0; have f1 := HR2.out.frozen 1; have f2 := HR2.out.frozen 2; have hz2 := HR2.out.lt; simp only [List.getElem?_cons_zero, List.getElem?_cons_succ] at d0 d1 d2; clear h'))
  have R3 := Row.set (pre := [.int .i64 3, .string v]) (post := []) (Row.set (pre := [.int .i64 3]) (post := [.int .i64 0]) (Row.set (pre := []) (post := [.string ByteArray.empty, .int .i64 0]) HR2.out (.int .i64 3)) (.string v)) (.int .i64 (a : Int))
  have a0 : ∀ o, _ := fun o => (Row.alloc R3 o).cell 0
  have a1 : ∀ o, _ := fun o => (Row.alloc R3 o).cell 1
  have a2 : ∀ o, _ := fun o => (Row.alloc R3 o).cell 2
  simp only [List.nil_append, List.cons_append, List.length_nil, List.length_cons, List.getElem?_cons_zero, List.getElem?_cons_succ] at a0 a1 a2
  obtain ⟨e0, e1, e2⟩ := fin3 (HR2.out) (.int .i64 3) (.string v) (.int .i64 (a : Int))
  refine bodyPost_ret (v := .tuple #[.agg #[.int .i64 3, .string v, .int .i64 (a : Int)], .bool true]) (by simp [results, Tryd.results20, go_sem, e0, e1, e2, a0, a1, a2]) rfl (next_fin (k := 3) HM.out HV.out (by rw [val_ok, H.out]; rfl) rfl (by repeat (first | exact HB2.out | exact Below.refl _ _ | refine Below.setCell ?_ (by simp) _ | refine Below.alloc ?_ (by have := HB2.out.size; first | exact Nat.le_refl _ | omega | (simp; omega) | simp) _)))
theorem refNext_vmn (s : ByteArray) (a : Nat) (w : World) (hs : s.size ≤ 20000) (ha : a < s.size) (hc : s[a].toNat = 45) (h1 : a + 1 < s.size) (hd : digC s[a + 1] = true) :
    Calls Tryd.prog 20 #[.string s, .int .i64 (a : Int)] w (NextQ ((ls s).drop a) a w) := by
  have hm := meas_min (r := (ls s).drop (a + 1 + 1)) hc hd
  rw [← drop_c s (a + 1) h1, ← drop_c s a ha] at hm
  have hn := len_cut (show a + 1 ≤ s.size by omega) (p := nameC)
  have hru := refRun_any s (a + 1) false
  rw [runP_name] at hru
  obtain ⟨n, hnn⟩ : ∃ n, spanL nameC ((ls s).drop (a + 1)) = n := ⟨_, rfl⟩
  rw [hnn] at hm hn hru
  obtain ⟨v, hv, hvs, hsl⟩ := cut_s s a (1 + n) hs (by omega)
  have hsl' : ∀ W : World, (Instr.slice 9 (.string s) (some (.int .i64 (a : Int))) (some (.int .i64 ((a : Int) + 1 + (n : Int)))) none).run Tryd.prog W = .ok (.string v) W := fun W => by
    have := hsl W; rwa [show (a : Int) + ((1 + n : Nat) : Int) = (a : Int) + 1 + (n : Int) by omega] at this
  have HRU : Hid (∀ W, Calls Tryd.prog 30 #[.string s, .int .i64 ((a : Int) + 1), .bool false] W fun e w' => e = .returned (.int .i64 (n : Nat)) ∧ W = w') := Lib.hid fun W => hru W (by unfold maxLen; omega) (by omega)
  cases h : readV v with
  | none => exact refNext_vmnn s a w hs ha hc h1 hd v n (by omega) hm hv hsl' HRU h
  | some x => exact refNext_vmny s a w hs ha hc h1 hd v n (by omega) hm hv hsl' HRU x h
set_option maxRecDepth 20000 in
set_option maxHeartbeats 4000000 in
theorem refNext_ma (s : ByteArray) (a : Nat) (w : World) (hs : s.size ≤ 20000) (ha : a < s.size) (n : Nat) (hnn : markL ((ls s).drop a) = n) (hm : measL ((ls s).drop a) = (4, n)) (hn : a + n ≤ s.size) (hc : s[a].toNat < 48) (h35 : s[a].toNat ≠ 35) (h45 : s[a].toNat ≠ 45) :
    Calls Tryd.prog 20 #[.string s, .int .i64 (a : Int)] w (NextQ ((ls s).drop a) a w) := by
  obtain ⟨v, hv, hvs, hsl⟩ := cut_s s a n hs hn
  have hmk := refMark_any s a
  rw [hnn] at hmk
  have HMK : Hid (∀ W, Calls Tryd.prog 33 #[.string s, .int .i64 (a : Int)] W fun e w' => e = .returned (.int .i64 (n : Nat)) ∧ W = w') := Lib.hid fun W => hmk W hs ha
  have hok : okL 4 (ls v) = decide (0 < (n : Int)) := by
    show decide (ls v ≠ []) = _
    have := ls_len v
    rw [hvs] at this
    cases hl : ls v with
    | nil => rw [hl] at this; simp at this; simp; omega
    | cons x r => rw [hl] at this; simp at this; simp; omega
  have HM := Lib.hid hm; have HV := Lib.hid hv; have HN := Lib.hid hnn; have HOK := Lib.hid hok
  have q0 : (s[a].toNat : Int) < 97 := by omega
  have q0d : decide (97 ≤ (s[a].toNat : Int)) = false := by rw [decide_eq_false_iff_not]; omega
  have q1 : (s[a].toNat : Int) < 65 := by omega
  have q1d : decide (65 ≤ (s[a].toNat : Int)) = false := by rw [decide_eq_false_iff_not]; omega
  have q2 : ((s[a].toNat : Int) == 35) = false := by rw [beq_eq_false_iff_ne]; omega
  have q3 : (s[a].toNat : Int) < 48 := by omega
  have q3d : decide (48 ≤ (s[a].toNat : Int)) = false := by rw [decide_eq_false_iff_not]; omega
  have q4 : ((s[a].toNat : Int) == 45) = false := by rw [beq_eq_false_iff_ne]; omega
  clear hm hv hnn hmk hok hvs hc h35 h45
  have HB2 : Hid (Below w.heap.size w (w.alloc (.cells #[.int .i64 0, .string ByteArray.empty, .int .i64 0] 47))) := Lib.hid ((Below.refl _ w).alloc (Nat.le_refl _) _)
  by_cases h0 : 0 < (n : Int)
  · go_enter Tryd.func20, Tryd.ntmps20
    go_wp2_with (go_at_call 33; refine (HMK.out _).mono ?_; rintro e w1 ⟨rfl, rfl⟩)
    have h0n : 0 < n := by omega
    obtain ⟨e0, e1, e2⟩ := fin3 (row_new (t := 47) w [.int .i64 0, .string ByteArray.empty, .int .i64 0]) (.int .i64 4) (.string v) (.int .i64 (a : Int))
    refine bodyPost_ret (v := .tuple #[.agg #[.int .i64 4, .string v, .int .i64 (a : Int)], .bool true]) (by simp [results, Tryd.results20, go_sem, e0, e1, e2, h0n]) rfl (next_fin (k := 4) HM.out HV.out (by rw [HOK.out, decide_eq_true (by omega)]) rfl (by repeat (first | exact HB2.out | exact Below.refl _ _ | refine Below.setCell ?_ (by simp) _ | refine Below.alloc ?_ (by have := HB2.out.size; first | exact Nat.le_refl _ | omega | (simp; omega) | simp) _)))
  · go_enter Tryd.func20, Tryd.ntmps20
    go_wp2_with (go_at_call 33; refine (HMK.out _).mono ?_; rintro e w1 ⟨rfl, rfl⟩)
    have h0n : n = 0 := by omega
    obtain ⟨e0, e1, e2⟩ := fin3 (row_new (t := 47) w [.int .i64 0, .string ByteArray.empty, .int .i64 0]) (.int .i64 4) (.string v) (.int .i64 (a : Int))
    refine bodyPost_ret (v := .tuple #[.agg #[.int .i64 4, .string v, .int .i64 (a : Int)], .bool false]) (by simp [results, Tryd.results20, go_sem, e0, e1, e2, h0n]) rfl (next_fin (k := 4) HM.out HV.out (by rw [HOK.out, decide_eq_false (by omega)]) rfl (by repeat (first | exact HB2.out | exact Below.refl _ _ | refine Below.setCell ?_ (by simp) _ | refine Below.alloc ?_ (by have := HB2.out.size; first | exact Nat.le_refl _ | omega | (simp; omega) | simp) _)))
set_option maxRecDepth 20000 in
set_option maxHeartbeats 4000000 in
theorem refNext_mb (s : ByteArray) (a : Nat) (w : World) (hs : s.size ≤ 20000) (ha : a < s.size) (n : Nat) (hnn : markL ((ls s).drop a) = n) (hm : measL ((ls s).drop a) = (4, n)) (hn : a + n ≤ s.size) (hc : 57 < s[a].toNat) (hd : s[a].toNat < 65) :
    Calls Tryd.prog 20 #[.string s, .int .i64 (a : Int)] w (NextQ ((ls s).drop a) a w) := by
  obtain ⟨v, hv, hvs, hsl⟩ := cut_s s a n hs hn
  have hmk := refMark_any s a
  rw [hnn] at hmk
  have HMK : Hid (∀ W, Calls Tryd.prog 33 #[.string s, .int .i64 (a : Int)] W fun e w' => e = .returned (.int .i64 (n : Nat)) ∧ W = w') := Lib.hid fun W => hmk W hs ha
  have hok : okL 4 (ls v) = decide (0 < (n : Int)) := by
    show decide (ls v ≠ []) = _
    have := ls_len v
    rw [hvs] at this
    cases hl : ls v with
    | nil => rw [hl] at this; simp at this; simp; omega
    | cons x r => rw [hl] at this; simp at this; simp; omega
  have HM := Lib.hid hm; have HV := Lib.hid hv; have HN := Lib.hid hnn; have HOK := Lib.hid hok
  have q0 : (s[a].toNat : Int) < 97 := by omega
  have q0d : decide (97 ≤ (s[a].toNat : Int)) = false := by rw [decide_eq_false_iff_not]; omega
  have q1 : (s[a].toNat : Int) < 65 := by omega
  have q1d : decide (65 ≤ (s[a].toNat : Int)) = false := by rw [decide_eq_false_iff_not]; omega
  have q2 : ((s[a].toNat : Int) == 35) = false := by rw [beq_eq_false_iff_ne]; omega
  have q3 : 48 ≤ (s[a].toNat : Int) := by omega
  have q3b : 57 < (s[a].toNat : Int) := by omega
  have q3bd : decide ((s[a].toNat : Int) ≤ 57) = false := by rw [decide_eq_false_iff_not]; omega
  have q4 : ((s[a].toNat : Int) == 45) = false := by rw [beq_eq_false_iff_ne]; omega
  clear hm hv hnn hmk hok hvs hc hd
  have HB2 : Hid (Below w.heap.size w (w.alloc (.cells #[.int .i64 0, .string ByteArray.empty, .int .i64 0] 47))) := Lib.hid ((Below.refl _ w).alloc (Nat.le_refl _) _)
  by_cases h0 : 0 < (n : Int)
  · go_enter Tryd.func20, Tryd.ntmps20
    go_wp2_with (go_at_call 33; refine (HMK.out _).mono ?_; rintro e w1 ⟨rfl, rfl⟩)
    have h0n : 0 < n := by omega
    obtain ⟨e0, e1, e2⟩ := fin3 (row_new (t := 47) w [.int .i64 0, .string ByteArray.empty, .int .i64 0]) (.int .i64 4) (.string v) (.int .i64 (a : Int))
    refine bodyPost_ret (v := .tuple #[.agg #[.int .i64 4, .string v, .int .i64 (a : Int)], .bool true]) (by simp [results, Tryd.results20, go_sem, e0, e1, e2, h0n]) rfl (next_fin (k := 4) HM.out HV.out (by rw [HOK.out, decide_eq_true (by omega)]) rfl (by repeat (first | exact HB2.out | exact Below.refl _ _ | refine Below.setCell ?_ (by simp) _ | refine Below.alloc ?_ (by have := HB2.out.size; first | exact Nat.le_refl _ | omega | (simp; omega) | simp) _)))
  · go_enter Tryd.func20, Tryd.ntmps20
    go_wp2_with (go_at_call 33; refine (HMK.out _).mono ?_; rintro e w1 ⟨rfl, rfl⟩)
    have h0n : n = 0 := by omega
    obtain ⟨e0, e1, e2⟩ := fin3 (row_new (t := 47) w [.int .i64 0, .string ByteArray.empty, .int .i64 0]) (.int .i64 4) (.string v) (.int .i64 (a : Int))
    refine bodyPost_ret (v := .tuple #[.agg #[.int .i64 4, .string v, .int .i64 (a : Int)], .bool false]) (by simp [results, Tryd.results20, go_sem, e0, e1, e2, h0n]) rfl (next_fin (k := 4) HM.out HV.out (by rw [HOK.out, decide_eq_false (by omega)]) rfl (by repeat (first | exact HB2.out | exact Below.refl _ _ | refine Below.setCell ?_ (by simp) _ | refine Below.alloc ?_ (by have := HB2.out.size; first | exact Nat.le_refl _ | omega | (simp; omega) | simp) _)))
set_option maxRecDepth 20000 in
set_option maxHeartbeats 4000000 in
theorem refNext_mc (s : ByteArray) (a : Nat) (w : World) (hs : s.size ≤ 20000) (ha : a < s.size) (n : Nat) (hnn : markL ((ls s).drop a) = n) (hm : measL ((ls s).drop a) = (4, n)) (hn : a + n ≤ s.size) (hc : 90 < s[a].toNat) (hd : s[a].toNat < 97) :
    Calls Tryd.prog 20 #[.string s, .int .i64 (a : Int)] w (NextQ ((ls s).drop a) a w) := by
  obtain ⟨v, hv, hvs, hsl⟩ := cut_s s a n hs hn
  have hmk := refMark_any s a
  rw [hnn] at hmk
  have HMK : Hid (∀ W, Calls Tryd.prog 33 #[.string s, .int .i64 (a : Int)] W fun e w' => e = .returned (.int .i64 (n : Nat)) ∧ W = w') := Lib.hid fun W => hmk W hs ha
  have hok : okL 4 (ls v) = decide (0 < (n : Int)) := by
    show decide (ls v ≠ []) = _
    have := ls_len v
    rw [hvs] at this
    cases hl : ls v with
    | nil => rw [hl] at this; simp at this; simp; omega
    | cons x r => rw [hl] at this; simp at this; simp; omega
  have HM := Lib.hid hm; have HV := Lib.hid hv; have HN := Lib.hid hnn; have HOK := Lib.hid hok
  have q0 : (s[a].toNat : Int) < 97 := by omega
  have q0d : decide (97 ≤ (s[a].toNat : Int)) = false := by rw [decide_eq_false_iff_not]; omega
  have q1 : 65 ≤ (s[a].toNat : Int) := by omega
  have q1b : 90 < (s[a].toNat : Int) := by omega
  have q1bd : decide ((s[a].toNat : Int) ≤ 90) = false := by rw [decide_eq_false_iff_not]; omega
  have q2 : ((s[a].toNat : Int) == 35) = false := by rw [beq_eq_false_iff_ne]; omega
  have q3 : 48 ≤ (s[a].toNat : Int) := by omega
  have q3b : 57 < (s[a].toNat : Int) := by omega
  have q3bd : decide ((s[a].toNat : Int) ≤ 57) = false := by rw [decide_eq_false_iff_not]; omega
  have q4 : ((s[a].toNat : Int) == 45) = false := by rw [beq_eq_false_iff_ne]; omega
  clear hm hv hnn hmk hok hvs hc hd
  have HB2 : Hid (Below w.heap.size w (w.alloc (.cells #[.int .i64 0, .string ByteArray.empty, .int .i64 0] 47))) := Lib.hid ((Below.refl _ w).alloc (Nat.le_refl _) _)
  by_cases h0 : 0 < (n : Int)
  · go_enter Tryd.func20, Tryd.ntmps20
    go_wp2_with (go_at_call 33; refine (HMK.out _).mono ?_; rintro e w1 ⟨rfl, rfl⟩)
    have h0n : 0 < n := by omega
    obtain ⟨e0, e1, e2⟩ := fin3 (row_new (t := 47) w [.int .i64 0, .string ByteArray.empty, .int .i64 0]) (.int .i64 4) (.string v) (.int .i64 (a : Int))
    refine bodyPost_ret (v := .tuple #[.agg #[.int .i64 4, .string v, .int .i64 (a : Int)], .bool true]) (by simp [results, Tryd.results20, go_sem, e0, e1, e2, h0n]) rfl (next_fin (k := 4) HM.out HV.out (by rw [HOK.out, decide_eq_true (by omega)]) rfl (by repeat (first | exact HB2.out | exact Below.refl _ _ | refine Below.setCell ?_ (by simp) _ | refine Below.alloc ?_ (by have := HB2.out.size; first | exact Nat.le_refl _ | omega | (simp; omega) | simp) _)))
  · go_enter Tryd.func20, Tryd.ntmps20
    go_wp2_with (go_at_call 33; refine (HMK.out _).mono ?_; rintro e w1 ⟨rfl, rfl⟩)
    have h0n : n = 0 := by omega
    obtain ⟨e0, e1, e2⟩ := fin3 (row_new (t := 47) w [.int .i64 0, .string ByteArray.empty, .int .i64 0]) (.int .i64 4) (.string v) (.int .i64 (a : Int))
    refine bodyPost_ret (v := .tuple #[.agg #[.int .i64 4, .string v, .int .i64 (a : Int)], .bool false]) (by simp [results, Tryd.results20, go_sem, e0, e1, e2, h0n]) rfl (next_fin (k := 4) HM.out HV.out (by rw [HOK.out, decide_eq_false (by omega)]) rfl (by repeat (first | exact HB2.out | exact Below.refl _ _ | refine Below.setCell ?_ (by simp) _ | refine Below.alloc ?_ (by have := HB2.out.size; first | exact Nat.le_refl _ | omega | (simp; omega) | simp) _)))
set_option maxRecDepth 20000 in
set_option maxHeartbeats 4000000 in
theorem refNext_md (s : ByteArray) (a : Nat) (w : World) (hs : s.size ≤ 20000) (ha : a < s.size) (n : Nat) (hnn : markL ((ls s).drop a) = n) (hm : measL ((ls s).drop a) = (4, n)) (hn : a + n ≤ s.size) (hc : 122 < s[a].toNat) :
    Calls Tryd.prog 20 #[.string s, .int .i64 (a : Int)] w (NextQ ((ls s).drop a) a w) := by
  obtain ⟨v, hv, hvs, hsl⟩ := cut_s s a n hs hn
  have hmk := refMark_any s a
  rw [hnn] at hmk
  have HMK : Hid (∀ W, Calls Tryd.prog 33 #[.string s, .int .i64 (a : Int)] W fun e w' => e = .returned (.int .i64 (n : Nat)) ∧ W = w') := Lib.hid fun W => hmk W hs ha
  have hok : okL 4 (ls v) = decide (0 < (n : Int)) := by
    show decide (ls v ≠ []) = _
    have := ls_len v
    rw [hvs] at this
    cases hl : ls v with
    | nil => rw [hl] at this; simp at this; simp; omega
    | cons x r => rw [hl] at this; simp at this; simp; omega
  have HM := Lib.hid hm; have HV := Lib.hid hv; have HN := Lib.hid hnn; have HOK := Lib.hid hok
  have q0 : 97 ≤ (s[a].toNat : Int) := by omega
  have q0b : 122 < (s[a].toNat : Int) := by omega
  have q0bd : decide ((s[a].toNat : Int) ≤ 122) = false := by rw [decide_eq_false_iff_not]; omega
  have q1 : 65 ≤ (s[a].toNat : Int) := by omega
  have q1b : 90 < (s[a].toNat : Int) := by omega
  have q1bd : decide ((s[a].toNat : Int) ≤ 90) = false := by rw [decide_eq_false_iff_not]; omega
  have q2 : ((s[a].toNat : Int) == 35) = false := by rw [beq_eq_false_iff_ne]; omega
  have q3 : 48 ≤ (s[a].toNat : Int) := by omega
  have q3b : 57 < (s[a].toNat : Int) := by omega
  have q3bd : decide ((s[a].toNat : Int) ≤ 57) = false := by rw [decide_eq_false_iff_not]; omega
  have q4 : ((s[a].toNat : Int) == 45) = false := by rw [beq_eq_false_iff_ne]; omega
  clear hm hv hnn hmk hok hvs hc
  have HB2 : Hid (Below w.heap.size w (w.alloc (.cells #[.int .i64 0, .string ByteArray.empty, .int .i64 0] 47))) := Lib.hid ((Below.refl _ w).alloc (Nat.le_refl _) _)
  by_cases h0 : 0 < (n : Int)
  · go_enter Tryd.func20, Tryd.ntmps20
    go_wp2_with (go_at_call 33; refine (HMK.out _).mono ?_; rintro e w1 ⟨rfl, rfl⟩)
    have h0n : 0 < n := by omega
    obtain ⟨e0, e1, e2⟩ := fin3 (row_new (t := 47) w [.int .i64 0, .string ByteArray.empty, .int .i64 0]) (.int .i64 4) (.string v) (.int .i64 (a : Int))
    refine bodyPost_ret (v := .tuple #[.agg #[.int .i64 4, .string v, .int .i64 (a : Int)], .bool true]) (by simp [results, Tryd.results20, go_sem, e0, e1, e2, h0n]) rfl (next_fin (k := 4) HM.out HV.out (by rw [HOK.out, decide_eq_true (by omega)]) rfl (by repeat (first | exact HB2.out | exact Below.refl _ _ | refine Below.setCell ?_ (by simp) _ | refine Below.alloc ?_ (by have := HB2.out.size; first | exact Nat.le_refl _ | omega | (simp; omega) | simp) _)))
  · go_enter Tryd.func20, Tryd.ntmps20
    go_wp2_with (go_at_call 33; refine (HMK.out _).mono ?_; rintro e w1 ⟨rfl, rfl⟩)
    have h0n : n = 0 := by omega
    obtain ⟨e0, e1, e2⟩ := fin3 (row_new (t := 47) w [.int .i64 0, .string ByteArray.empty, .int .i64 0]) (.int .i64 4) (.string v) (.int .i64 (a : Int))
    refine bodyPost_ret (v := .tuple #[.agg #[.int .i64 4, .string v, .int .i64 (a : Int)], .bool false]) (by simp [results, Tryd.results20, go_sem, e0, e1, e2, h0n]) rfl (next_fin (k := 4) HM.out HV.out (by rw [HOK.out, decide_eq_false (by omega)]) rfl (by repeat (first | exact HB2.out | exact Below.refl _ _ | refine Below.setCell ?_ (by simp) _ | refine Below.alloc ?_ (by have := HB2.out.size; first | exact Nat.le_refl _ | omega | (simp; omega) | simp) _)))
set_option maxRecDepth 20000 in
set_option maxHeartbeats 4000000 in
theorem refNext_me (s : ByteArray) (a : Nat) (w : World) (hs : s.size ≤ 20000) (ha : a < s.size) (n : Nat) (hnn : markL ((ls s).drop a) = n) (hm : measL ((ls s).drop a) = (4, n)) (hn : a + n ≤ s.size) (hc : s[a].toNat = 45) (h1 : ¬ a + 1 < s.size) :
    Calls Tryd.prog 20 #[.string s, .int .i64 (a : Int)] w (NextQ ((ls s).drop a) a w) := by
  obtain ⟨v, hv, hvs, hsl⟩ := cut_s s a n hs hn
  have hmk := refMark_any s a
  rw [hnn] at hmk
  have HMK : Hid (∀ W, Calls Tryd.prog 33 #[.string s, .int .i64 (a : Int)] W fun e w' => e = .returned (.int .i64 (n : Nat)) ∧ W = w') := Lib.hid fun W => hmk W hs ha
  have hok : okL 4 (ls v) = decide (0 < (n : Int)) := by
    show decide (ls v ≠ []) = _
    have := ls_len v
    rw [hvs] at this
    cases hl : ls v with
    | nil => rw [hl] at this; simp at this; simp; omega
    | cons x r => rw [hl] at this; simp at this; simp; omega
  have HM := Lib.hid hm; have HV := Lib.hid hv; have HN := Lib.hid hnn; have HOK := Lib.hid hok
  have q0 : (s[a].toNat : Int) < 97 := by omega
  have q0d : decide (97 ≤ (s[a].toNat : Int)) = false := by rw [decide_eq_false_iff_not]; omega
  have q1 : (s[a].toNat : Int) < 65 := by omega
  have q1d : decide (65 ≤ (s[a].toNat : Int)) = false := by rw [decide_eq_false_iff_not]; omega
  have q2 : ((s[a].toNat : Int) == 35) = false := by rw [beq_eq_false_iff_ne]; omega
  have q3 : (s[a].toNat : Int) < 48 := by omega
  have q3d : decide (48 ≤ (s[a].toNat : Int)) = false := by rw [decide_eq_false_iff_not]; omega
  have q4 : ((s[a].toNat : Int) == 45) = true := by rw [beq_iff_eq]; omega
  have q5 : ¬ (a : Int) + 1 < (s.size : Int) := by omega
  have q5d : decide ((a : Int) + 1 < (s.size : Int)) = false := by rw [decide_eq_false_iff_not]; omega
  clear hm hv hnn hmk hok hvs hc
  have HB2 : Hid (Below w.heap.size w (w.alloc (.cells #[.int .i64 0, .string ByteArray.empty, .int .i64 0] 47))) := Lib.hid ((Below.refl _ w).alloc (Nat.le_refl _) _)
  by_cases h0 : 0 < (n : Int)
  · go_enter Tryd.func20, Tryd.ntmps20
    go_wp2_with (go_at_call 33; refine (HMK.out _).mono ?_; rintro e w1 ⟨rfl, rfl⟩)
    have h0n : 0 < n := by omega
    obtain ⟨e0, e1, e2⟩ := fin3 (row_new (t := 47) w [.int .i64 0, .string ByteArray.empty, .int .i64 0]) (.int .i64 4) (.string v) (.int .i64 (a : Int))
    refine bodyPost_ret (v := .tuple #[.agg #[.int .i64 4, .string v, .int .i64 (a : Int)], .bool true]) (by simp [results, Tryd.results20, go_sem, e0, e1, e2, h0n]) rfl (next_fin (k := 4) HM.out HV.out (by rw [HOK.out, decide_eq_true (by omega)]) rfl (by repeat (first | exact HB2.out | exact Below.refl _ _ | refine Below.setCell ?_ (by simp) _ | refine Below.alloc ?_ (by have := HB2.out.size; first | exact Nat.le_refl _ | omega | (simp; omega) | simp) _)))
  · go_enter Tryd.func20, Tryd.ntmps20
    go_wp2_with (go_at_call 33; refine (HMK.out _).mono ?_; rintro e w1 ⟨rfl, rfl⟩)
    have h0n : n = 0 := by omega
    obtain ⟨e0, e1, e2⟩ := fin3 (row_new (t := 47) w [.int .i64 0, .string ByteArray.empty, .int .i64 0]) (.int .i64 4) (.string v) (.int .i64 (a : Int))
    refine bodyPost_ret (v := .tuple #[.agg #[.int .i64 4, .string v, .int .i64 (a : Int)], .bool false]) (by simp [results, Tryd.results20, go_sem, e0, e1, e2, h0n]) rfl (next_fin (k := 4) HM.out HV.out (by rw [HOK.out, decide_eq_false (by omega)]) rfl (by repeat (first | exact HB2.out | exact Below.refl _ _ | refine Below.setCell ?_ (by simp) _ | refine Below.alloc ?_ (by have := HB2.out.size; first | exact Nat.le_refl _ | omega | (simp; omega) | simp) _)))
set_option maxRecDepth 20000 in
set_option maxHeartbeats 4000000 in
theorem refNext_mf (s : ByteArray) (a : Nat) (w : World) (hs : s.size ≤ 20000) (ha : a < s.size) (n : Nat) (hnn : markL ((ls s).drop a) = n) (hm : measL ((ls s).drop a) = (4, n)) (hn : a + n ≤ s.size) (hc : s[a].toNat = 45) (h1 : a + 1 < s.size) (hd : s[a + 1].toNat < 48) :
    Calls Tryd.prog 20 #[.string s, .int .i64 (a : Int)] w (NextQ ((ls s).drop a) a w) := by
  obtain ⟨v, hv, hvs, hsl⟩ := cut_s s a n hs hn
  have hmk := refMark_any s a
  rw [hnn] at hmk
  have HMK : Hid (∀ W, Calls Tryd.prog 33 #[.string s, .int .i64 (a : Int)] W fun e w' => e = .returned (.int .i64 (n : Nat)) ∧ W = w') := Lib.hid fun W => hmk W hs ha
  have hok : okL 4 (ls v) = decide (0 < (n : Int)) := by
    show decide (ls v ≠ []) = _
    have := ls_len v
    rw [hvs] at this
    cases hl : ls v with
    | nil => rw [hl] at this; simp at this; simp; omega
    | cons x r => rw [hl] at this; simp at this; simp; omega
  have HM := Lib.hid hm; have HV := Lib.hid hv; have HN := Lib.hid hnn; have HOK := Lib.hid hok
  have q0 : (s[a].toNat : Int) < 97 := by omega
  have q0d : decide (97 ≤ (s[a].toNat : Int)) = false := by rw [decide_eq_false_iff_not]; omega
  have q1 : (s[a].toNat : Int) < 65 := by omega
  have q1d : decide (65 ≤ (s[a].toNat : Int)) = false := by rw [decide_eq_false_iff_not]; omega
  have q2 : ((s[a].toNat : Int) == 35) = false := by rw [beq_eq_false_iff_ne]; omega
  have q3 : (s[a].toNat : Int) < 48 := by omega
  have q3d : decide (48 ≤ (s[a].toNat : Int)) = false := by rw [decide_eq_false_iff_not]; omega
  have q4 : ((s[a].toNat : Int) == 45) = true := by rw [beq_iff_eq]; omega
  have q5 : (a : Int) + 1 < (s.size : Int) := by omega
  have q6 : (s[a + 1].toNat : Int) < 48 := by omega
  have q6d : decide (48 ≤ (s[a + 1].toNat : Int)) = false := by rw [decide_eq_false_iff_not]; omega
  clear hm hv hnn hmk hok hvs hc hd
  have HB2 : Hid (Below w.heap.size w (w.alloc (.cells #[.int .i64 0, .string ByteArray.empty, .int .i64 0] 47))) := Lib.hid ((Below.refl _ w).alloc (Nat.le_refl _) _)
  by_cases h0 : 0 < (n : Int)
  · go_enter Tryd.func20, Tryd.ntmps20
    go_wp2_with (go_at_call 33; refine (HMK.out _).mono ?_; rintro e w1 ⟨rfl, rfl⟩)
    have h0n : 0 < n := by omega
    obtain ⟨e0, e1, e2⟩ := fin3 (row_new (t := 47) w [.int .i64 0, .string ByteArray.empty, .int .i64 0]) (.int .i64 4) (.string v) (.int .i64 (a : Int))
    refine bodyPost_ret (v := .tuple #[.agg #[.int .i64 4, .string v, .int .i64 (a : Int)], .bool true]) (by simp [results, Tryd.results20, go_sem, e0, e1, e2, h0n]) rfl (next_fin (k := 4) HM.out HV.out (by rw [HOK.out, decide_eq_true (by omega)]) rfl (by repeat (first | exact HB2.out | exact Below.refl _ _ | refine Below.setCell ?_ (by simp) _ | refine Below.alloc ?_ (by have := HB2.out.size; first | exact Nat.le_refl _ | omega | (simp; omega) | simp) _)))
  · go_enter Tryd.func20, Tryd.ntmps20
    go_wp2_with (go_at_call 33; refine (HMK.out _).mono ?_; rintro e w1 ⟨rfl, rfl⟩)
    have h0n : n = 0 := by omega
    obtain ⟨e0, e1, e2⟩ := fin3 (row_new (t := 47) w [.int .i64 0, .string ByteArray.empty, .int .i64 0]) (.int .i64 4) (.string v) (.int .i64 (a : Int))
    refine bodyPost_ret (v := .tuple #[.agg #[.int .i64 4, .string v, .int .i64 (a : Int)], .bool false]) (by simp [results, Tryd.results20, go_sem, e0, e1, e2, h0n]) rfl (next_fin (k := 4) HM.out HV.out (by rw [HOK.out, decide_eq_false (by omega)]) rfl (by repeat (first | exact HB2.out | exact Below.refl _ _ | refine Below.setCell ?_ (by simp) _ | refine Below.alloc ?_ (by have := HB2.out.size; first | exact Nat.le_refl _ | omega | (simp; omega) | simp) _)))
set_option maxRecDepth 20000 in
set_option maxHeartbeats 4000000 in
theorem refNext_mg (s : ByteArray) (a : Nat) (w : World) (hs : s.size ≤ 20000) (ha : a < s.size) (n : Nat) (hnn : markL ((ls s).drop a) = n) (hm : measL ((ls s).drop a) = (4, n)) (hn : a + n ≤ s.size) (hc : s[a].toNat = 45) (h1 : a + 1 < s.size) (hd : 57 < s[a + 1].toNat) :
    Calls Tryd.prog 20 #[.string s, .int .i64 (a : Int)] w (NextQ ((ls s).drop a) a w) := by
  obtain ⟨v, hv, hvs, hsl⟩ := cut_s s a n hs hn
  have hmk := refMark_any s a
  rw [hnn] at hmk
  have HMK : Hid (∀ W, Calls Tryd.prog 33 #[.string s, .int .i64 (a : Int)] W fun e w' => e = .returned (.int .i64 (n : Nat)) ∧ W = w') := Lib.hid fun W => hmk W hs ha
  have hok : okL 4 (ls v) = decide (0 < (n : Int)) := by
    show decide (ls v ≠ []) = _
    have := ls_len v
    rw [hvs] at this
    cases hl : ls v with
    | nil => rw [hl] at this; simp at this; simp; omega
    | cons x r => rw [hl] at this; simp at this; simp; omega
  have HM := Lib.hid hm; have HV := Lib.hid hv; have HN := Lib.hid hnn; have HOK := Lib.hid hok
  have q0 : (s[a].toNat : Int) < 97 := by omega
  have q0d : decide (97 ≤ (s[a].toNat : Int)) = false := by rw [decide_eq_false_iff_not]; omega
  have q1 : (s[a].toNat : Int) < 65 := by omega
  have q1d : decide (65 ≤ (s[a].toNat : Int)) = false := by rw [decide_eq_false_iff_not]; omega
  have q2 : ((s[a].toNat : Int) == 35) = false := by rw [beq_eq_false_iff_ne]; omega
  have q3 : (s[a].toNat : Int) < 48 := by omega
  have q3d : decide (48 ≤ (s[a].toNat : Int)) = false := by rw [decide_eq_false_iff_not]; omega
  have q4 : ((s[a].toNat : Int) == 45) = true := by rw [beq_iff_eq]; omega
  have q5 : (a : Int) + 1 < (s.size : Int) := by omega
  have q6 : 48 ≤ (s[a + 1].toNat : Int) := by omega
  have q7 : 57 < (s[a + 1].toNat : Int) := by omega
  have q7d : decide ((s[a + 1].toNat : Int) ≤ 57) = false := by rw [decide_eq_false_iff_not]; omega
  clear hm hv hnn hmk hok hvs hc hd
  have HB2 : Hid (Below w.heap.size w (w.alloc (.cells #[.int .i64 0, .string ByteArray.empty, .int .i64 0] 47))) := Lib.hid ((Below.refl _ w).alloc (Nat.le_refl _) _)
  by_cases h0 : 0 < (n : Int)
  · go_enter Tryd.func20, Tryd.ntmps20
    go_wp2_with (go_at_call 33; refine (HMK.out _).mono ?_; rintro e w1 ⟨rfl, rfl⟩)
    have h0n : 0 < n := by omega
    obtain ⟨e0, e1, e2⟩ := fin3 (row_new (t := 47) w [.int .i64 0, .string ByteArray.empty, .int .i64 0]) (.int .i64 4) (.string v) (.int .i64 (a : Int))
    refine bodyPost_ret (v := .tuple #[.agg #[.int .i64 4, .string v, .int .i64 (a : Int)], .bool true]) (by simp [results, Tryd.results20, go_sem, e0, e1, e2, h0n]) rfl (next_fin (k := 4) HM.out HV.out (by rw [HOK.out, decide_eq_true (by omega)]) rfl (by repeat (first | exact HB2.out | exact Below.refl _ _ | refine Below.setCell ?_ (by simp) _ | refine Below.alloc ?_ (by have := HB2.out.size; first | exact Nat.le_refl _ | omega | (simp; omega) | simp) _)))
  · go_enter Tryd.func20, Tryd.ntmps20
    go_wp2_with (go_at_call 33; refine (HMK.out _).mono ?_; rintro e w1 ⟨rfl, rfl⟩)
    have h0n : n = 0 := by omega
    obtain ⟨e0, e1, e2⟩ := fin3 (row_new (t := 47) w [.int .i64 0, .string ByteArray.empty, .int .i64 0]) (.int .i64 4) (.string v) (.int .i64 (a : Int))
    refine bodyPost_ret (v := .tuple #[.agg #[.int .i64 4, .string v, .int .i64 (a : Int)], .bool false]) (by simp [results, Tryd.results20, go_sem, e0, e1, e2, h0n]) rfl (next_fin (k := 4) HM.out HV.out (by rw [HOK.out, decide_eq_false (by omega)]) rfl (by repeat (first | exact HB2.out | exact Below.refl _ _ | refine Below.setCell ?_ (by simp) _ | refine Below.alloc ?_ (by have := HB2.out.size; first | exact Nat.le_refl _ | omega | (simp; omega) | simp) _)))
theorem refNext_any (s : ByteArray) (a : Nat) (w : World) (hs : s.size ≤ 20000) (ha : a < s.size) :
    Calls Tryd.prog 20 #[.string s, .int .i64 (a : Int)] w (NextQ ((ls s).drop a) a w) := by
  cases h1 : lowC s[a] with
  | true => exact refNext_low s a w hs ha h1
  | false =>
  cases h2 : uppC s[a] with
  | true => exact refNext_upp s a w hs ha h2
  | false =>
  by_cases h3 : s[a].toNat = 35
  · exact refNext_v35 s a w hs ha h3
  cases h4 : digC s[a] with
  | true => exact refNext_vdg s a w hs ha h4
  | false =>
  have hcs : (s[a].toNat = 45 ∧ ∃ h : a + 1 < s.size, digC s[a + 1] = true) ∨ (s[a].toNat = 45 → ∀ d r, (ls s).drop (a + 1) = d :: r → digC d = false) := by
    by_cases h45 : s[a].toNat = 45
    · by_cases hl : a + 1 < s.size
      · cases hd : digC s[a + 1] with
        | true => exact .inl ⟨h45, hl, hd⟩
        | false => exact .inr fun _ d r hr => by rw [drop_c s (a + 1) hl] at hr; injection hr with hr _; rw [← hr]; exact hd
      · exact .inr fun _ d r hr => by
          have := congrArg List.length hr; rw [List.length_drop, ls_len] at this; simp at this; omega
    · exact .inr fun h => absurd h h45
  rcases hcs with ⟨h45, hl, hd⟩ | h5
  · exact refNext_vmn s a w hs ha h45 hl hd
  have hm := meas_mrk (r := (ls s).drop (a + 1)) h1 h2 h3 h4 h5
  rw [← drop_c s a ha] at hm
  have hle := meas_le (l := (ls s).drop a) (by rw [drop_c s a ha]; simp)
  rw [hm, List.length_drop, ls_len] at hle
  have hn : a + markL ((ls s).drop a) ≤ s.size := by simp only at hle; omega
  simp only [lowC, uppC, digC, decide_eq_false_iff_not] at h1 h2 h4
  by_cases h45 : s[a].toNat = 45
  · by_cases hl : a + 1 < s.size
    · have hd := h5 h45 _ _ (drop_c s (a + 1) hl)
      simp only [digC, decide_eq_false_iff_not] at hd
      by_cases h48 : s[a + 1].toNat < 48
      · exact refNext_mf s a w hs ha _ rfl hm hn h45 hl h48
      · exact refNext_mg s a w hs ha _ rfl hm hn h45 hl (by omega)
    · exact refNext_me s a w hs ha _ rfl hm hn h45 hl
  by_cases k1 : s[a].toNat < 48
  · exact refNext_ma s a w hs ha _ rfl hm hn k1 h3 h45
  by_cases k2 : s[a].toNat < 65
  · exact refNext_mb s a w hs ha _ rfl hm hn (by omega) k2
  by_cases k3 : s[a].toNat < 97
  · exact refNext_mc s a w hs ha _ rfl hm hn (by omega) k3
  · exact refNext_md s a w hs ha _ rfl hm hn (by omega)
end Go.Proofs.YtahnnefmkcpibaaDoor

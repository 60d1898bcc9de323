/-
  Package show: texts joined; terms.
-/
import Derived.Test.YtahljmddnfldlaaGreatDoorJoinLay
import Derived.Test.YtahljmddnfldlaaGreatDoorShwPw
import Derived.Test.YtahljmddnfldlaaGreatDoorPrsTop
import Derived.Test.YtahljmddnfldlaaGreatDoorLexTok
import Derived.Test.YtahljmddnfldlaaGreatDoorValG
import Derived.Deep.RegionHeld3
import Derived.RegionTactic
import Derived.Deep.CutRange
import Derived.Laws.MakeOwn
import Derived.Deep.OwnRows
import Derived.Deep.MidRow
namespace Go.Proofs.YtahljmddnfldlaaGreatDoor
open Go.RowKit FloM ValM Go.Shelf
set_option linter.unusedVariables false
set_option linter.unusedSimpArgs false
/-! ### Texts -/
def wholeX (l : List (List UInt8)) : List UInt8 := if [] ∈ l then [] else l.flatten
def TxAt (w : World) (b o : Nat) (xs : List (List UInt8)) : Prop := ∀ (j : Nat) x, xs[j]? = some x → w.cell? ⟨b, o + j, none⟩ = some (.string (bs x))
theorem join_any (b o c : Nat) (xs : List (List UInt8)) (sep : List UInt8) (w : World) (hx : TxAt w b o xs) (hb : b < w.heap.size) (hN : xs.length ≤ 1000) (hc : xs.length ≤ c) (hl : (Lib.join xs sep).length ≤ 140737488355328) :
    Calls Tryz.prog 42 #[.slice (some ⟨b, o, none⟩) xs.length c, .string (bs sep)] w fun e w' => e = .returned (.string (bs (Lib.join xs sep))) ∧ Below w.heap.size w w' := by
  have e1 : (xs.map bs).map (fun x => x.data.toList) = xs := by rw [List.map_map]; exact List.map_id _
  have e2 : (bs sep).data.toList = sep := rfl
  have h := Any.strings_Join Tryz.joinL Tryz.joinX b o c (xs.map bs) (bs sep) w (fun j x hj => by
    rw [List.getElem?_map] at hj
    cases hq : xs[j]? with
    | none => rw [hq] at hj; cases hj
    | some y => rw [hq] at hj; injection hj with hj; subst hj; exact hx j y hq) hb (by rw [List.length_map]; omega) (by rw [List.length_map]; exact hc) (by rw [e1, e2]; exact hl)
  rw [e1, e2, List.length_map] at h
  exact h
theorem contains_any (b o c : Nat) (xs : List (List UInt8)) (w : World) (hx : TxAt w b o xs) (hN : xs.length ≤ 1000) :
    Calls Tryz.prog 43 #[.slice (some ⟨b, o, none⟩) xs.length c, .string ⟨#[]⟩] w fun e w' => e = .returned (.bool (decide ([] ∈ xs))) ∧ w' = w := by
  have h := Any.slices_Contains_string Tryz.containsL b o xs.length c (xs.map bs) ⟨#[]⟩ w (by rw [List.length_map]; omega) (by omega) (fun j hj => by
    rw [List.length_map] at hj
    have h2 := hx j _ (List.getElem?_eq_getElem hj)
    rw [h2]
    have : (xs.map bs).getD j ByteArray.empty = bs xs[j] := by rw [List.getD_eq_getElem?_getD, List.getElem?_map, List.getElem?_eq_getElem hj]; rfl
    rw [this])
  rw [List.take_of_length_le (by rw [List.length_map]; exact Nat.le_refl _)] at h
  have e : Lib.containsS (xs.map bs) ⟨#[]⟩ = decide ([] ∈ xs) := by
    rw [Bool.eq_iff_iff, Lib.containsS_iff, decide_eq_true_eq]
    constructor
    · intro h
      obtain ⟨y, hy, he⟩ := List.mem_map.1 h
      have : y = [] := by have := congrArg ls he; rw [ls_bs] at this; exact this
      rw [← this]; exact hy
    · intro h; exact List.mem_map.2 ⟨[], h, rfl⟩
  rw [e] at h
  exact h
theorem joinTail_flat : ∀ r : List (List UInt8), Lib.joinTail [] r = r.flatten
  | [] => rfl
  | x :: r => by have := joinTail_flat r; unfold Lib.joinTail at this ⊢; rw [List.map_cons, List.flatten_cons, this]; rfl
theorem join_flat : ∀ xs : List (List UInt8), Lib.join xs [] = xs.flatten
  | [] => rfl
  | x :: r => by rw [Lib.join_cons, joinTail_flat]; rfl
set_option maxRecDepth 20000 in
set_option maxHeartbeats 4000000 in
theorem whole_any (b o c : Nat) (xs : List (List UInt8)) (w : World) (hx : TxAt w b o xs) (hb : b < w.heap.size) (hN : xs.length ≤ 1000) (hc : xs.length ≤ c) (hl : xs.flatten.length ≤ 140737488355328) :
    Calls Tryz.prog 21 #[.slice (some ⟨b, o, none⟩) xs.length c] w fun e w' => e = .returned (.string (bs (wholeX xs))) ∧ Below w.heap.size w w' := by
  have HC := Lib.hid (contains_any b o c xs w hx hN)
  have HJ := Lib.hid (join_any b o c xs [] w hx hb hN hc (by rw [join_flat]; exact hl))
  rw [join_flat] at HJ
  unfold wholeX
  clear hx hl
  by_cases h : [] ∈ xs
  · rw [if_pos h]
    rw [decide_eq_true h] at HC
    clear HJ h
    go_enter Tryz.func21, Tryz.ntmps21
    go_wp2_with (go_at_call 43; refine HC.out.mono ?_; rintro e w2 ⟨rfl, rfl⟩)
    go_ret
    exact ⟨rfl, Below.refl _ _⟩
  · rw [if_neg h]
    rw [decide_eq_false h] at HC
    clear h
    go_enter Tryz.func21, Tryz.ntmps21
    go_wp2_with (first
      | (go_at_call 43; refine HC.out.mono ?_; rintro e w2 ⟨rfl, rfl⟩)
      | (go_at_call 42; refine HJ.out.mono ?_; rintro e w3 ⟨rfl, hb3⟩; have HB3 := Lib.hid hb3; clear hb3))
    go_ret
    exact ⟨rfl, HB3.out⟩
/-- The parts are given one by one. -/
theorem tx_new (w : World) (T : TypeId) (xs : List ByteArray) : TxAt (w.alloc (.cells (xs.map fun x => Value.string x).toArray T)) w.heap.size 0 (xs.map ls) := fun j x hj => by
  have hr := (row_new (t := T) w (xs.map fun x => Value.string x)).cell j
  rw [Nat.zero_add, hr]
  rw [List.getElem?_map] at hj ⊢
  cases hq : xs[j]? with
  | none => rw [hq] at hj; cases hj
  | some y => rw [hq] at hj; injection hj with hj; subst hj; rw [Option.map_some, bs_ls]
theorem whole_parts (w : World) (xs : List ByteArray) (hN : xs.length ≤ 10) (hl : (xs.map ls).flatten.length ≤ 140737488355328) :
    Calls Tryz.prog 21 #[.slice (some ⟨w.heap.size, 0, none⟩) xs.length xs.length] (w.alloc (.cells (xs.map fun x => Value.string x).toArray 9)) fun e w' => e = .returned (.string (bs (wholeX (xs.map ls)))) ∧ Below w.heap.size w w' := by
  have h := whole_any w.heap.size 0 xs.length (xs.map ls) (w.alloc (.cells (xs.map fun x => Value.string x).toArray 9)) (tx_new w _ xs) (by simp) (by rw [List.length_map]; omega) (by rw [List.length_map]; exact Nat.le_refl _) hl
  rw [List.length_map] at h
  refine h.mono ?_
  rintro e w' ⟨rfl, hb⟩
  exact ⟨rfl, on ((Below.refl _ _).alloc (Nat.le_refl _) _) hb⟩
theorem whole_lists (w : World) (xs : List (List UInt8)) (hN : xs.length ≤ 10) (hl : xs.flatten.length ≤ 140737488355328) :
    Calls Tryz.prog 21 #[.slice (some ⟨w.heap.size, 0, none⟩) xs.length xs.length] (w.alloc (.cells (xs.map fun x => Value.string (bs x)).toArray 9)) fun e w' => e = .returned (.string (bs (wholeX xs))) ∧ Below w.heap.size w w' := by
  have e : (xs.map bs).map ls = xs := by rw [List.map_map]; conv => rhs; rw [← List.map_id xs]
                                         exact List.map_congr_left fun x _ => ls_bs x
  have h := whole_parts w (xs.map bs) (by rw [List.length_map]; exact hN) (by rw [e]; exact hl)
  rw [e, List.length_map, List.map_map] at h
  exact h
/-! ### Terms -/
def isV0 (x : V) : Bool := decide (x.k = 0) && decide (x.n = 0) && decide (ls x.s = [])
theorem isV0_iff (x : V) : isV0 x = true ↔ x = v0 := by
  unfold isV0
  simp only [Bool.and_eq_true, decide_eq_true_eq]
  constructor
  · rintro ⟨⟨h1, h2⟩, h3⟩
    obtain ⟨k, n, s⟩ := x
    simp only at h1 h2 h3
    have : s = ByteArray.empty := by rw [← bs_ls s, h3]; rfl
    rw [h1, h2, this]; rfl
  · rintro rfl; exact ⟨⟨rfl, rfl⟩, rfl⟩
def varX (t : Tm) : List UInt8 := if (varL t.v && isV0 t.x) = true then t.v else []
def termX (t : Tm) : List UInt8 := if t.v = [] then textV t.x else varX t
def TmOk (t : Tm) : Prop := t.v.length ≤ maxLen ∧ t.x.s.size ≤ maxLen ∧ (-9223372036854775808 ≤ t.x.n ∧ t.x.n < 9223372036854775808)
theorem varL_len {l : List UInt8} (h : varL l = true) : l.length ≤ 40 := by unfold varL at h; simp only [Bool.and_eq_true, decide_eq_true_eq] at h; exact h.2
theorem varX_len (t : Tm) : (varX t).length ≤ 40 := by
  unfold varX
  split
  · rename_i h; rw [Bool.and_eq_true] at h; exact varL_len h.1
  · simp
theorem termX_len {t : Tm} (h : TmOk t) : (termX t).length ≤ 40 := by
  unfold termX
  split
  · have := textV_len t.x h.2.2; rw [bs_size] at this; exact this
  · exact varX_len t
set_option maxRecDepth 20000 in
set_option maxHeartbeats 4000000 in
theorem variable_tm (t : Tm) (w : World) (ht : TmOk t) : Calls Tryz.prog 39 #[.agg #[.string (bs t.v), .int .i64 t.x.k, .int .i64 t.x.n, .string t.x.s]] w fun e w' => e = .returned (.string (bs (varX t))) ∧ Below w.heap.size w w' := by
  obtain ⟨v, k, n, s⟩ := t
  have HV := Lib.hid (fun W => variable_any (bs v) W (by rw [bs_size]; exact ht.1))
  rw [ls_bs] at HV
  have HRow := Lib.hid (row_new (t := 48) w [.string (bs v), .int .i64 k, .int .i64 n, .string s])
  have HB := Lib.hid ((Below.refl w.heap.size w).alloc (Nat.le_refl _) (.cells #[.string (bs v), .int .i64 k, .int .i64 n, .string s] 48))
  clear ht
  cases hv : varL v with
  | false =>
    have HE : Hid (varX ⟨v, k, n, s⟩ = []) := Lib.hid (by unfold varX; rw [hv]; rfl)
    rw [hv] at HV
    rw [HE.out]
    go_enter Tryz.func39, Tryz.ntmps39
    go_wp2_with (go_at_call 63; refine (HV.out _).mono ?_; rintro e w2 ⟨rfl, hb2⟩; have HB2 := Lib.hid (on HB.out hb2); have s0 := (rowOn HRow.out hb2).cell 0; have s1 := (rowOn HRow.out hb2).cell 1; have s2 := (rowOn HRow.out hb2).cell 2; have s3 := (rowOn HRow.out hb2).cell 3; simp only [List.getElem?_cons_zero, List.getElem?_cons_succ] at s0 s1 s2 s3; clear hb2)
    go_ret
    exact ⟨rfl, HB2.out⟩
  | true =>
    rw [hv] at HV
    by_cases hk : k = 0
    · by_cases hn : n = 0
      · by_cases hs : s = ⟨#[]⟩
        · have HE : Hid (varX ⟨v, k, n, s⟩ = v) := Lib.hid (by unfold varX isV0; simp only; rw [hv, hk, hn, hs]; rfl)
          rw [HE.out]
          subst hk hn hs
          go_enter Tryz.func39, Tryz.ntmps39
          go_wp2_with (go_at_call 63; refine (HV.out _).mono ?_; rintro e w2 ⟨rfl, hb2⟩; have HB2 := Lib.hid (on HB.out hb2); have s0 := (rowOn HRow.out hb2).cell 0; have s1 := (rowOn HRow.out hb2).cell 1; have s2 := (rowOn HRow.out hb2).cell 2; have s3 := (rowOn HRow.out hb2).cell 3; simp only [List.getElem?_cons_zero, List.getElem?_cons_succ] at s0 s1 s2 s3; clear hb2)
          go_ret
          exact ⟨rfl, HB2.out⟩
        · have HE : Hid (varX ⟨v, k, n, s⟩ = []) := Lib.hid (by
            unfold varX isV0; simp only
            have : decide (ls s = []) = false := by simp; intro h; exact hs (by rw [← bs_ls s, h]; rfl)
            rw [this]; simp)
          rw [HE.out]
          have hsl : ¬ s.toList = [] := by rw [toList_ls]; intro h; exact hs (by rw [← bs_ls s, h]; rfl)
          subst hk hn
          clear hs
          go_enter Tryz.func39, Tryz.ntmps39
          go_wp2_with (go_at_call 63; refine (HV.out _).mono ?_; rintro e w2 ⟨rfl, hb2⟩; have HB2 := Lib.hid (on HB.out hb2); have s0 := (rowOn HRow.out hb2).cell 0; have s1 := (rowOn HRow.out hb2).cell 1; have s2 := (rowOn HRow.out hb2).cell 2; have s3 := (rowOn HRow.out hb2).cell 3; simp only [List.getElem?_cons_zero, List.getElem?_cons_succ] at s0 s1 s2 s3; clear hb2)
          go_ret
          exact ⟨rfl, HB2.out⟩
      · have HE : Hid (varX ⟨v, k, n, s⟩ = []) := Lib.hid (by unfold varX isV0; simp [hn])
        rw [HE.out]
        subst hk
        go_enter Tryz.func39, Tryz.ntmps39
        go_wp2_with (go_at_call 63; refine (HV.out _).mono ?_; rintro e w2 ⟨rfl, hb2⟩; have HB2 := Lib.hid (on HB.out hb2); have s0 := (rowOn HRow.out hb2).cell 0; have s1 := (rowOn HRow.out hb2).cell 1; have s2 := (rowOn HRow.out hb2).cell 2; have s3 := (rowOn HRow.out hb2).cell 3; simp only [List.getElem?_cons_zero, List.getElem?_cons_succ] at s0 s1 s2 s3; clear hb2)
        go_ret
        exact ⟨rfl, HB2.out⟩
    · have HE : Hid (varX ⟨v, k, n, s⟩ = []) := Lib.hid (by unfold varX isV0; simp [hk])
      rw [HE.out]
      go_enter Tryz.func39, Tryz.ntmps39
      go_wp2_with (go_at_call 63; refine (HV.out _).mono ?_; rintro e w2 ⟨rfl, hb2⟩; have HB2 := Lib.hid (on HB.out hb2); have s0 := (rowOn HRow.out hb2).cell 0; have s1 := (rowOn HRow.out hb2).cell 1; have s2 := (rowOn HRow.out hb2).cell 2; have s3 := (rowOn HRow.out hb2).cell 3; simp only [List.getElem?_cons_zero, List.getElem?_cons_succ] at s0 s1 s2 s3; clear hb2)
      go_ret
      exact ⟨rfl, HB2.out⟩
set_option maxRecDepth 20000 in
set_option maxHeartbeats 4000000 in
theorem term_tm (t : Tm) (w : World) (ht : TmOk t) : Calls Tryz.prog 40 #[.agg #[.string (bs t.v), .int .i64 t.x.k, .int .i64 t.x.n, .string t.x.s]] w fun e w' => e = .returned (.string (bs (termX t))) ∧ Below w.heap.size w w' := by
  have HV := Lib.hid (fun W => variable_tm t W ht)
  have HT : Hid (∀ W, Calls Tryz.prog 64 #[.agg #[.int .i64 t.x.k, .int .i64 t.x.n, .string t.x.s]] W fun e w' => e = .returned (.string (bs (textV t.x))) ∧ Below W.heap.size W w') := Lib.hid (fun W => text_go t.x.k t.x.n t.x.s W ht.2.1 ht.2.2.1 ht.2.2.2)
  obtain ⟨v, x⟩ := t
  have HB := Lib.hid ((Below.refl w.heap.size w).alloc (Nat.le_refl _) (.cells #[.string (bs v), .int .i64 x.k, .int .i64 x.n, .string x.s] 48))
  simp only at HV HT ⊢
  clear ht
  by_cases hv : v = []
  · have HE : Hid (termX ⟨v, x⟩ = textV x) := Lib.hid (by unfold termX; rw [if_pos hv])
    rw [HE.out]
    have f2 : ((bs v).toList == []) = true := by rw [bsl, hv]; rfl
    clear hv HV
    go_enter Tryz.func40, Tryz.ntmps40
    go_wp2_with (go_at_call 64; refine (HT.out _).mono ?_; rintro e w2 ⟨rfl, hb2⟩; have HB2 := Lib.hid (on HB.out hb2); clear hb2)
    go_ret
    exact ⟨rfl, HB2.out⟩
  · have HE : Hid (termX ⟨v, x⟩ = varX ⟨v, x⟩) := Lib.hid (by unfold termX; rw [if_neg hv])
    rw [HE.out]
    have f2 : ((bs v).toList == []) = false := by rw [bsl, beq_eq_false_iff_ne]; exact hv
    clear hv HT
    go_enter Tryz.func40, Tryz.ntmps40
    go_wp2_with (go_at_call 39; refine (HV.out _).mono ?_; rintro e w2 ⟨rfl, hb2⟩; have HB2 := Lib.hid (on HB.out hb2); clear hb2)
    go_ret
    exact ⟨rfl, HB2.out⟩
/-! ### The words of folds -/
def foldW (k : Int) : List UInt8 := if k = 1 then [99, 111, 117, 110, 116] else if k = 2 then [115, 117, 109] else if k = 3 then [109, 105, 110] else if k = 4 then [109, 97, 120] else if k = 5 then [109, 101, 97, 110] else []
theorem foldW_len (k : Int) : (foldW k).length ≤ 5 := by unfold foldW; repeat (first | split | decide | simp)
set_option maxRecDepth 20000 in
set_option maxHeartbeats 4000000 in
theorem foldWord_any (k : Int) (w : World) : Calls Tryz.prog 38 #[.int .i64 k] w fun e w' => e = .returned (.string (bs (foldW k))) ∧ w' = w := by
  by_cases h : k = 1 ∨ k = 2 ∨ k = 3 ∨ k = 4 ∨ k = 5
  · rcases h with rfl | rfl | rfl | rfl | rfl
    all_goals
      go_enter Tryz.func38, Tryz.ntmps38
      go_wp2
      go_ret
      exact ⟨rfl, rfl⟩
  · have g1 : (k == 1) = false := by rw [beq_eq_false_iff_ne]; omega
    have g2 : (k == 2) = false := by rw [beq_eq_false_iff_ne]; omega
    have g3 : (k == 3) = false := by rw [beq_eq_false_iff_ne]; omega
    have g4 : (k == 4) = false := by rw [beq_eq_false_iff_ne]; omega
    have g5 : (k == 5) = false := by rw [beq_eq_false_iff_ne]; omega
    have e : foldW k = [] := by unfold foldW; rw [if_neg (by omega), if_neg (by omega), if_neg (by omega), if_neg (by omega), if_neg (by omega)]
    rw [e]
    clear h e
    go_enter Tryz.func38, Tryz.ntmps38
    go_wp2
    go_ret
    exact ⟨rfl, rfl⟩
end Go.Proofs.YtahljmddnfldlaaGreatDoor
namespace Go.Proofs.YtahljmddnfldlaaGreatDoor
open Go.RowKit FloM ValM Go.Shelf
set_option linter.unusedVariables false
set_option linter.unusedSimpArgs false
def argX (fold : Int) (m : Nat) (t : Tm) : List UInt8 := if m = 0 ∧ fold ≠ 0 then wholeX [foldW fold, [40], varX t, [41]] else termX t
/-- What is left to count, and the fold, in blocks of their own. -/
structure LfAt (gl gf : Nat) (m : Int) (fold : Int) (V : World) : Prop where
  l : Row 3 V gl [.int .i64 m]
  f : Row 3 V gf [.int .i64 fold]
def Head1Q (gl gf m : Nat) (fold : Int) (x : List UInt8) (V : World) (e : Ending) (w' : World) : Prop := e = .returned (.string (bs x)) ∧ LfAt gl gf m fold w' ∧ Fr (· = gl) V.heap.size V w'
theorem LfAt.on {gl gf : Nat} {m fold : Int} {V V' : World} (h : LfAt gl gf m fold V) (hb : Below V.heap.size V V') : LfAt gl gf m fold V' := ⟨rowOn h.l hb, rowOn h.f hb⟩
set_option maxRecDepth 20000 in
set_option maxHeartbeats 4000000 in
theorem head1_term (gl gf m : Nat) (fold : Int) (t : Tm) (V : World) (hV : LfAt gl gf ((m : Int) + 1) fold V) (hne : gl ≠ gf) (ht : TmOk t) (hm : m ≤ 1000) (h : m = 0 → fold = 0) :
    Calls Tryz.prog 37 #[.agg #[.string (bs t.v), .int .i64 t.x.k, .int .i64 t.x.n, .string t.x.s], .pointer (some ⟨gl, 0, none⟩), .pointer (some ⟨gf, 0, none⟩)] V (Head1Q gl gf m fold (termX t) V) := by
  have HT := Lib.hid (fun W => term_tm t W ht)
  have hl := hV.l.cell 0; have hlf := hV.l.frozen 0; have hf := hV.f.cell 0
  simp only [List.getElem?_cons_zero] at hl hf
  have hL : gl < V.heap.size := hV.l.lt
  have hF : gf < V.heap.size := hV.f.lt
  have hmw : IntKind.i64.wrap (m : Int) = (m : Int) := by rw [IntKind.wrap_i64]; omega
  have hne2 : gf ≠ gl := fun e => hne e.symm
  have HEnd : Hid (∀ w2, Below (V.setCell ⟨gl, 0, none⟩ (.int .i64 m)).heap.size (V.setCell ⟨gl, 0, none⟩ (.int .i64 m)) w2 → LfAt gl gf m fold w2 ∧ Fr (· = gl) V.heap.size V w2) := Lib.hid fun w2 hb => by
    have h1 : Row 3 (V.setCell ⟨gl, 0, none⟩ (.int .i64 m)) gl [.int .i64 m] := Row.set (pre := []) (post := []) hV.l _
    have h2 : Row 3 (V.setCell ⟨gl, 0, none⟩ (.int .i64 m)) gf [.int .i64 fold] := hV.f.far (by simpa using hne2) _
    have hs : (V.setCell ⟨gl, 0, none⟩ (.int .i64 m)).heap.size = V.heap.size := by simp [World.setCell]
    exact ⟨⟨rowOn h1 hb, rowOn h2 hb⟩, (fr_set V gl 0 _ _).trans (Fr.of (by rw [hs] at hb; exact hb))⟩
  clear hV
  obtain ⟨v, x⟩ := t
  simp only at HT ⊢
  clear ht
  by_cases h0 : m = 0
  · obtain rfl := h h0
    subst h0
    clear h
    go_enter Tryz.func37, Tryz.ntmps37
    go_wp2_with (go_at_call 40; refine (HT.out _).mono ?_; rintro e w2 ⟨rfl, hb2⟩; have HB2 := Lib.hid (on ((Below.refl _ _).alloc (Nat.le_refl _) _) hb2); clear hb2)
    go_ret
    exact ⟨rfl, HEnd.out _ HB2.out⟩
  · have g0 : ((m : Int) == 0) = false := by rw [beq_eq_false_iff_ne]; omega
    clear h h0
    go_enter Tryz.func37, Tryz.ntmps37
    go_wp2_with (go_at_call 40; refine (HT.out _).mono ?_; rintro e w2 ⟨rfl, hb2⟩; have HB2 := Lib.hid (on ((Below.refl _ _).alloc (Nat.le_refl _) _) hb2); clear hb2)
    go_ret
    exact ⟨rfl, HEnd.out _ HB2.out⟩
set_option maxRecDepth 20000 in
set_option maxHeartbeats 4000000 in
theorem head1_fold (gl gf : Nat) (fold : Int) (t : Tm) (V : World) (hV : LfAt gl gf 1 fold V) (hne : gl ≠ gf) (ht : TmOk t) (hf0 : fold ≠ 0) :
    Calls Tryz.prog 37 #[.agg #[.string (bs t.v), .int .i64 t.x.k, .int .i64 t.x.n, .string t.x.s], .pointer (some ⟨gl, 0, none⟩), .pointer (some ⟨gf, 0, none⟩)] V (Head1Q gl gf 0 fold (wholeX [foldW fold, [40], varX t, [41]]) V) := by
  have HT := Lib.hid (fun W => variable_tm t W ht)
  have HF := Lib.hid (fun W => foldWord_any fold W)
  have hl := hV.l.cell 0; have hlf := hV.l.frozen 0; have hf := hV.f.cell 0
  simp only [List.getElem?_cons_zero] at hl hf
  have hL : gl < V.heap.size := hV.l.lt
  have hF : gf < V.heap.size := hV.f.lt
  have hne2 : gf ≠ gl := fun e => hne e.symm
  have g0 : (fold != 0) = true := by simpa using hf0
  have h2 : Row 3 (V.setCell ⟨gl, 0, none⟩ (.int .i64 0)) gf [.int .i64 fold] := hV.f.far (by simpa using hne2) _
  have HEnd : Hid (∀ w2, Below (V.setCell ⟨gl, 0, none⟩ (.int .i64 0)).heap.size (V.setCell ⟨gl, 0, none⟩ (.int .i64 0)) w2 → LfAt gl gf (0 : Nat) fold w2 ∧ Fr (· = gl) V.heap.size V w2) := Lib.hid fun w2 hb => by
    have h1 : Row 3 (V.setCell ⟨gl, 0, none⟩ (.int .i64 0)) gl [.int .i64 0] := Row.set (pre := []) (post := []) hV.l _
    have hs : (V.setCell ⟨gl, 0, none⟩ (.int .i64 0)).heap.size = V.heap.size := by simp [World.setCell]
    exact ⟨⟨rowOn h1 hb, rowOn h2 hb⟩, (fr_set V gl 0 _ _).trans (Fr.of (by rw [hs] at hb; exact hb))⟩
  have hlen1 := foldW_len fold
  have hlen2 := varX_len t
  have HWh : Hid (∀ W, Calls Tryz.prog 21 #[.slice (some ⟨W.heap.size, 0, none⟩) 4 4] (W.alloc (.cells #[.string (bs (foldW fold)), .string ⟨#[40]⟩, .string (bs (varX t)), .string ⟨#[41]⟩] 9)) fun e w' => e = .returned (.string (bs (wholeX [foldW fold, [40], varX t, [41]]))) ∧ Below W.heap.size W w') := Lib.hid fun W => by
    exact whole_lists W [foldW fold, [40], varX t, [41]] (by simp) (by simp; omega)
  obtain ⟨v, x⟩ := t
  simp only at HT ⊢
  clear ht hV hlen1 hlen2
  generalize wholeX [foldW fold, [40], varX ⟨v, x⟩, [41]] = R at *
  generalize foldW fold = FW at *
  generalize varX ⟨v, x⟩ = VX at *
  go_enter Tryz.func37, Tryz.ntmps37
  go_upto_region 3 with fail
  generalize hW2 : World.alloc (World.setCell V _ _) _ = W2
  have hbW : Below (V.setCell ⟨gl, 0, none⟩ (.int .i64 0)).heap.size (V.setCell ⟨gl, 0, none⟩ (.int .i64 0)) W2 := hW2 ▸ (Below.refl _ _).alloc (Nat.le_refl _) _
  have hsz : (V.setCell ⟨gl, 0, none⟩ (.int .i64 0)).heap.size = V.heap.size := by simp [World.setCell]
  have hlt : V.heap.size < W2.heap.size := by rw [← hW2]; simp [World.setCell]
  have hgf : gf < W2.heap.size := by omega
  have hrow : Row 48 W2 V.heap.size [.string (bs v), .int .i64 x.k, .int .i64 x.n, .string x.s] := by rw [← hW2]; exact row_atC (w := V.setCell ⟨gl, 0, none⟩ (.int .i64 0)) hsz [.string (bs v), .int .i64 x.k, .int .i64 x.n, .string x.s]
  have hrf : Row 3 W2 gf [.int .i64 fold] := rowOn h2 hbW
  clear hW2
  have HBW := Lib.hid hbW
  have HS : Hid (∀ u, Below W2.heap.size W2 u → (Below W2.heap.size W2 u ∧ u.cell? ⟨gf, 0, none⟩ = some (.int .i64 fold) ∧ u.cell? ⟨V.heap.size, 0, none⟩ = some (.string (bs v)) ∧ u.cell? ⟨V.heap.size, 1, none⟩ = some (.int .i64 x.k) ∧ u.cell? ⟨V.heap.size, 2, none⟩ = some (.int .i64 x.n) ∧ u.cell? ⟨V.heap.size, 3, none⟩ = some (.string x.s))) := Lib.hid fun u hu => ⟨hu, (rowOn hrf hu).cell 0, (rowOn hrow hu).cell 0, (rowOn hrow hu).cell 1, (rowOn hrow hu).cell 2, (rowOn hrow hu).cell 3⟩
  have h4 : Below W2.heap.size W2 W2.drew := (Below.refl _ _).drew
  clear hrow hrf h2 hbW hl hlf hf
  go_region_held3 (fun u => Below W2.heap.size W2 u ∧ u.cell? ⟨gf, 0, none⟩ = some (.int .i64 fold) ∧ u.cell? ⟨V.heap.size, 0, none⟩ = some (.string (bs v)) ∧ u.cell? ⟨V.heap.size, 1, none⟩ = some (.int .i64 x.k) ∧ u.cell? ⟨V.heap.size, 2, none⟩ = some (.int .i64 x.n) ∧ u.cell? ⟨V.heap.size, 3, none⟩ = some (.string x.s))
    (exact HS.out _ (by first | exact Below.refl _ _ | exact h4 | exact h4.alloc (by have := h4.size; omega) _))
    ((first
      | (go_at_call 38; refine (HF.out _).mono ?_; rintro e w3 ⟨rfl, rfl⟩)
      | (go_at_call 39; refine (HT.out _).mono ?_; rintro e w3 ⟨rfl, hb3⟩; replace h4 := on h4 hb3; clear hb3)
      | (go_at_call 21; refine (HWh.out _).mono ?_; rintro e w3 ⟨rfl, hb3⟩; replace h4 := on h4 hb3; clear hb3)))
  all_goals
    go_wp2
    go_ret
    exact ⟨rfl, HEnd.out _ (on HBW.out h4)⟩
theorem head1_any (gl gf m : Nat) (fold : Int) (t : Tm) (V : World) (hV : LfAt gl gf ((m : Int) + 1) fold V) (hne : gl ≠ gf) (ht : TmOk t) (hm : m ≤ 1000) :
    Calls Tryz.prog 37 #[.agg #[.string (bs t.v), .int .i64 t.x.k, .int .i64 t.x.n, .string t.x.s], .pointer (some ⟨gl, 0, none⟩), .pointer (some ⟨gf, 0, none⟩)] V (Head1Q gl gf m fold (argX fold m t) V) := by
  unfold argX
  by_cases h : m = 0 ∧ fold ≠ 0
  · obtain ⟨rfl, h0⟩ := h
    rw [if_pos ⟨rfl, h0⟩]
    exact head1_fold gl gf fold t V hV hne ht h0
  · rw [if_neg h]
    exact head1_term gl gf m fold t V hV hne ht hm (fun h0 => Decidable.byContradiction fun h1 => h ⟨h0, h1⟩)
theorem argX_len {fold : Int} {m : Nat} {t : Tm} (ht : TmOk t) : (argX fold m t).length ≤ 60 := by
  unfold argX
  split
  · unfold wholeX
    have := foldW_len fold; have := varX_len t
    split
    · simp
    · simp; omega
  · have := termX_len ht; omega
end Go.Proofs.YtahljmddnfldlaaGreatDoor
namespace Go.Proofs.YtahljmddnfldlaaGreatDoor
open Go.RowKit FloM ValM Go.Shelf
set_option linter.unusedVariables false
set_option linter.unusedSimpArgs false
/-- A literal, a rule, a program with any integers as kinds and folds. -/
structure LtI where
  k : Int
  m : AmA
  o : List UInt8
  a : Tm
  b : Tm
  c : Tm
  pA : Option Addr
  pc : Nat
  p : List SI
def ltIC (x : LtI) : List Value := [.int .i64 x.k, .string (bs x.m.p), .slice x.m.A x.m.a.length x.m.c, .string (bs x.o), .string (bs x.a.v), .int .i64 x.a.x.k, .int .i64 x.a.x.n, .string x.a.x.s, .string (bs x.b.v), .int .i64 x.b.x.k, .int .i64 x.b.x.n, .string x.b.x.s, .string (bs x.c.v), .int .i64 x.c.x.k, .int .i64 x.c.x.n, .string x.c.x.s, .slice x.pA x.p.length x.pc]
structure RlI where
  h : AmA
  f : Int
  A : Option Addr
  c : Nat
  b : List LtI
def rlIC (x : RlI) : List Value := [.string (bs x.h.p), .slice x.h.A x.h.a.length x.h.c, .int .i64 x.f, .slice x.A x.b.length x.c]
structure PgI where
  A : Option Addr
  c : Nat
  r : List RlI
  q : AmA
def AmOk (x : AmA) : Prop := x.p.length ≤ maxLen ∧ ∀ t ∈ x.a, TmOk t
def LtI.rd (W : World) (x : LtI) : Prop := x.m.rd W ∧ RdX 2 siC W x.pA x.p
def LtI.ok (x : LtI) : Prop := AmOk x.m ∧ x.o.length ≤ maxLen ∧ TmOk x.a ∧ TmOk x.b ∧ TmOk x.c ∧ ∀ s ∈ x.p, s.2.size ≤ maxLen
def RlI.rd (W : World) (x : RlI) : Prop := x.h.rd W ∧ RdX 17 ltIC W x.A x.b ∧ ∀ y ∈ x.b, y.rd W
def RlI.ok (x : RlI) : Prop := AmOk x.h ∧ (-9223372036854775808 ≤ x.f ∧ x.f < 9223372036854775808) ∧ ∀ y ∈ x.b, y.ok
def PgI.rd (W : World) (x : PgI) : Prop := RdX 4 rlIC W x.A x.r ∧ (∀ y ∈ x.r, y.rd W) ∧ x.q.rd W
def PgI.ok (x : PgI) : Prop := (∀ y ∈ x.r, y.ok) ∧ AmOk x.q
section
variable {W W' : World}
theorem LtI.rd.on {x : LtI} (h : x.rd W) (hb : Below W.heap.size W W') : x.rd W' := ⟨AmA.rd.on h.1 hb, RdX.on h.2 hb⟩
theorem RlI.rd.on {x : RlI} (h : x.rd W) (hb : Below W.heap.size W W') : x.rd W' := ⟨AmA.rd.on h.1 hb, RdX.on h.2.1 hb, fun y hy => (h.2.2 y hy).on hb⟩
theorem PgI.rd.on {x : PgI} (h : x.rd W) (hb : Below W.heap.size W W') : x.rd W' := ⟨RdX.on h.1 hb, fun y hy => (h.2.1 y hy).on hb, AmA.rd.on h.2.2 hb⟩
end
theorem RdX.onF {β : Type} {sz : Nat} {cl : β → List Value} {X : Nat → Prop} {W W' : World} {A : Option Addr} {l : List β} (h : RdX sz cl W A l) (hx : l ≠ [] → ∀ a, A = some a → ¬ X a.block) (hb : Fr X W.heap.size W W') : RdX sz cl W' A l := ⟨h.1, fun i x hi => by
  obtain ⟨b, o, e, hl, hc⟩ := h.2 i x hi
  exact ⟨b, o, e, Nat.lt_of_lt_of_le hl hb.size, fun j v hj => (World.cell?_of_block (hb.block b hl (hx (fun e0 => by rw [e0] at hi; simp at hi) _ e))).trans (hc j v hj)⟩⟩
/-! ### A row of texts that grows -/
def listX (most : Nat) (gap : List UInt8) (ts : List (List UInt8)) : List UInt8 × Bool := if most < ts.length then ([], false) else (Lib.join ts gap, !decide ([] ∈ ts))
def txF (ts : List (List UInt8)) (k : Nat) : Nat → Value := fun i => if i < k then .string (bs (ts.getD i [])) else .string ByteArray.empty
theorem txF_zero (ts : List (List UInt8)) (i : Nat) : txF ts 0 i = .string ByteArray.empty := by unfold txF; rw [if_neg (by omega)]
theorem txF_set {ts : List (List UInt8)} {k n : Nat} {w : World} {g : Nat} {t : TypeId} {x : List UInt8} (h : w.rowIs g t n (txF ts k)) (hx : ts[k]? = some x) : (w.setCell ⟨g, k, none⟩ (.string (bs x))).rowIs g t n (txF ts (k + 1)) := by
  refine (h.set k (.string (bs x))).congr fun i _ => ?_
  simp only [txF]
  by_cases e : i = k
  · subst e
    rw [if_pos rfl, if_pos (by omega), List.getD_eq_getElem?_getD, hx]; rfl
  · rw [if_neg e]
    by_cases h1 : i < k
    · rw [if_pos h1, if_pos (by omega)]
    · rw [if_neg h1, if_neg (by omega)]
theorem txF_all {ts : List (List UInt8)} {w : World} {g : Nat} {t : TypeId} (h : w.rowIs g t ts.length (txF ts ts.length)) : TxAt w g 0 ts := fun j x hj => by
  have hlt := (List.getElem?_eq_some_iff.1 hj).1
  rw [Nat.zero_add, h.cell hlt]
  unfold txF
  rw [if_pos hlt, List.getD_eq_getElem?_getD, hj]; rfl
theorem TxAt.on {w w' : World} {b o : Nat} {xs : List (List UInt8)} (h : TxAt w b o xs) (hb : Below w.heap.size w w') (hl : b < w.heap.size) : TxAt w' b o xs := fun j x hj => (keep hb _ _ hl).trans (h j x hj)
theorem lens_le : ∀ (ts : List (List UInt8)) (B : Nat), (∀ x ∈ ts, x.length ≤ B) → Lib.lens ts ≤ B * ts.length
  | [], B, _ => by simp [Lib.lens]
  | x :: r, B, h => by
    have h1 := lens_le r B (fun y hy => h y (by simp [hy]))
    have h2 := h x (by simp)
    have e : Lib.lens (x :: r) = x.length + Lib.lens r := by simp [Lib.lens]
    rw [e, List.length_cons, Nat.mul_succ]; omega
theorem join_le {ts : List (List UInt8)} {gap : List UInt8} {B : Nat} (h : ∀ x ∈ ts, x.length ≤ B) : (Lib.join ts gap).length ≤ (B + gap.length) * ts.length := by
  cases ts with
  | nil => simp [Lib.join_nil]
  | cons x r =>
    rw [Lib.join_length]
    have h1 := lens_le (x :: r) B h
    have e : (B + gap.length) * (x :: r).length = B * (x :: r).length + gap.length * (x :: r).length := Nat.add_mul _ _ _
    rw [e]
    have : gap.length * r.length ≤ gap.length * (x :: r).length := Nat.mul_le_mul_left _ (by simp)
    omega
theorem info_string : (Tryz.prog.info? 9).map (fun i => (i.zero, i.size, i.bytes)) = some (some (.string ByteArray.empty), 1, 16) := by kernel_rfl
end Go.Proofs.YtahljmddnfldlaaGreatDoor
namespace Go.Proofs.YtahljmddnfldlaaGreatDoor
open Go.RowKit FloM ValM Go.Shelf
set_option linter.unusedVariables false
set_option linter.unusedSimpArgs false
def ListRelRule (l : List RlI) (W : World) (ts : List (List UInt8)) (i : Value) (wr : World) : Prop := ∃ k : Nat, i = .int .i64 (k : Nat) ∧ k ≤ l.length ∧ wr.rowIs W.heap.size 9 l.length (txF ts k) ∧ Below W.heap.size W wr
set_option maxRecDepth 20000 in
set_option maxHeartbeats 8000000 in
theorem listRule_any (A : Option Addr) (c : Nat) (l : List RlI) (W : World) (hr : RdX 4 rlIC W A l) (tx : RlI → List UInt8) (hf : ∀ x ∈ l, ∀ V, Below W.heap.size W V → Calls Tryz.prog 26 #[.agg #[.string (bs x.h.p), .slice x.h.A x.h.a.length x.h.c, .int .i64 x.f, .slice x.A x.b.length x.c]] V fun e w' => e = .returned (.string (bs (tx x))) ∧ Below V.heap.size V w') (hlen : ∀ x ∈ l, (tx x).length ≤ 1000000) (most : Nat) (hmost : most ≤ 1000) (gap : List UInt8) (hgap : gap.length ≤ 10) :
    Calls Tryz.prog 25 #[.slice A l.length c, .int .i64 (most : Nat), .string (bs gap), .func (.func 26) #[] #[]] W fun e w' => e = .returned (.tuple #[.string (bs (listX most gap (l.map tx)).1), .bool (listX most gap (l.map tx)).2]) ∧ Below W.heap.size W w' := by
  have hmx : l.length ≤ 9223372036854775807 := Nat.le_trans hr.1 (by decide)
  have htl : (l.map tx).length = l.length := by simp
  unfold listX
  rw [htl]
  by_cases hm : most < l.length
  · have hg : (most : Int) < (l.length : Int) := by omega
    rw [if_pos hm]
    clear hr hf hlen htl
    go_enter Tryz.func25, Tryz.ntmps25
    go_wp2
    go_ret2
    exact ⟨rfl, Below.refl _ _⟩
  · have hg : ¬ (most : Int) < (l.length : Int) := by omega
    rw [if_neg hm]
    have hmk := fun W => run_make_row' (P := Tryz.prog) 78 9 (.string ByteArray.empty) 16 Tryz.underlying78 info_string rfl .i64 .i64 l.length (by omega) (by omega) W
    have HR := Lib.hid hr; have HFN := Lib.hid hf
    have HTS : Hid (∀ k x, l[k]? = some x → (l.map tx)[k]? = some (tx x)) := Lib.hid fun k x hx => by rw [List.getElem?_map, hx]; rfl
    have HJL : Hid ((Lib.join (l.map tx) gap).length ≤ 140737488355328) := Lib.hid (by
      have h := join_le (ts := (l.map tx)) (gap := gap) (B := 1000000) (fun y hy => by obtain ⟨x, hx, rfl⟩ := List.mem_map.1 hy; exact hlen x hx)
      have h2 : (1000000 + gap.length) * (l.map tx).length ≤ 1000010 * 1000 := Nat.mul_le_mul (by omega) (by omega)
      omega)
    clear hr hf hlen
    generalize (l.map tx) = ts at *
    go_enter Tryz.func25, Tryz.ntmps25
    go_wp2
    go_loopw [22] (fun i wr => ListRelRule l W ts i wr) (fun i _ => l.length - (intOf i).toNat)
    case atStart =>
      refine ⟨0, rfl, Nat.zero_le _, ?_, (Below.refl _ _).alloc (Nat.le_refl _) _⟩
      exact (World.rowIs_made W (.string ByteArray.empty) l.length 9).congr fun i _ => (txF_zero ts i).symm
    case round =>
      obtain ⟨k, rfl, hk, hrow, hB⟩ := hrel
      have HB := Lib.hid hB
      have HROW := Lib.hid hrow
      clear hrow hmk
      have hW0 : W.heap.size < wr.heap.size := HROW.out.lt
      by_cases hlt : k < l.length
      · obtain ⟨x, hx⟩ : ∃ x, l[k]? = some x := ⟨_, List.getElem?_eq_getElem hlt⟩
        obtain ⟨b, o, rfl, hbl, hc⟩ := (HR.out.on hB).2 k x hx
        have HX := Lib.hid hx
        have x0 := hc 0 _ rfl
        have x1 := hc 1 _ rfl
        have x2 := hc 2 _ rfl
        have x3 := hc 3 _ rfl
        rw [Nat.add_zero] at x0
        have HT := Lib.hid (HTS.out k x hx)
        have hb1 : Below wr.heap.size wr (wr.alloc (.cells #[.string (bs x.h.p), .slice x.h.A x.h.a.length x.h.c, .int .i64 x.f, .slice x.A x.b.length x.c] 33)) := (Below.refl _ _).alloc (Nat.le_refl _) _
        have HB1 := Lib.hid hb1
        have HF : Hid (Calls Tryz.prog 26 #[.agg #[.string (bs x.h.p), .slice x.h.A x.h.a.length x.h.c, .int .i64 x.f, .slice x.A x.b.length x.c]] (wr.alloc (.cells #[.string (bs x.h.p), .slice x.h.A x.h.a.length x.h.c, .int .i64 x.f, .slice x.A x.b.length x.c] 33)) fun e w' => e = .returned (.string (bs (tx x))) ∧ Below (wr.alloc (.cells #[.string (bs x.h.p), .slice x.h.A x.h.a.length x.h.c, .int .i64 x.f, .slice x.A x.b.length x.c] 33)).heap.size (wr.alloc (.cells #[.string (bs x.h.p), .slice x.h.A x.h.a.length x.h.c, .int .i64 x.f, .slice x.A x.b.length x.c] 33)) w') := Lib.hid (HFN.out x (List.mem_of_getElem? hx) _ (on hB HB1.out))
        clear hc hx hB hb1
        go_wp2_with (go_at_call 26; refine HF.out.mono ?_; rintro e w2 ⟨rfl, hb2⟩; have hrow2 : w2.rowIs W.heap.size 9 l.length (txF ts k) := (HROW.out.alloc _).of_block (hb2.block _ (by simp; omega)); have hcell := hrow2.cell hlt; have hfro := hrow2.frozen k; have HROW2 := Lib.hid hrow2; have HB2 := Lib.hid (on (on HB.out HB1.out) hb2); clear hb2 hrow2)
        go_roundw
        case rel => exact ⟨k + 1, by go_num, by omega, txF_set HROW2.out HT.out, HB2.out.setCell (Nat.le_refl _) _⟩
        case measure => simp [intOf]; omega
      · obtain rfl : k = l.length := by omega
        have htx : TxAt wr W.heap.size 0 ts := txF_all (by rw [htl]; exact HROW.out)
        have hn : ts.length ≤ 1000 := by omega
        have HJ : Hid (Calls Tryz.prog 42 #[.slice (some ⟨W.heap.size, 0, none⟩) l.length l.length, .string (bs gap)] wr fun e w' => e = .returned (.string (bs (Lib.join ts gap))) ∧ Below wr.heap.size wr w') := Lib.hid (by
          have h := join_any W.heap.size 0 ts.length ts gap wr htx hW0 hn (Nat.le_refl _) HJL.out
          rw [htl] at h; exact h)
        have HC : Hid (∀ V, Below wr.heap.size wr V → Calls Tryz.prog 43 #[.slice (some ⟨W.heap.size, 0, none⟩) l.length l.length, .string ⟨#[]⟩] V fun e w' => e = .returned (.bool (decide ([] ∈ ts))) ∧ w' = V) := Lib.hid fun V hV => by
          have h := contains_any W.heap.size 0 ts.length ts V (htx.on hV hW0) hn
          rw [htl] at h; exact h
        clear htx hB
        go_wp2_with (first
          | (go_at_call 42; refine HJ.out.mono ?_; rintro e w2 ⟨rfl, hb2⟩; have HB2 := Lib.hid hb2; clear hb2)
          | (go_at_call 43; refine (HC.out _ (by first | exact HB2.out | exact HB2.out.drew)).mono ?_; rintro e w3 ⟨rfl, rfl⟩))
        go_ret2
        exact ⟨rfl, on HB.out HB2.out⟩
end Go.Proofs.YtahljmddnfldlaaGreatDoor
namespace Go.Proofs.YtahljmddnfldlaaGreatDoor
open Go.RowKit FloM ValM Go.Shelf
set_option linter.unusedVariables false
set_option linter.unusedSimpArgs false
def ListRelLiteral (l : List LtI) (W : World) (ts : List (List UInt8)) (i : Value) (wr : World) : Prop := ∃ k : Nat, i = .int .i64 (k : Nat) ∧ k ≤ l.length ∧ wr.rowIs W.heap.size 9 l.length (txF ts k) ∧ Below W.heap.size W wr
set_option maxRecDepth 20000 in
set_option maxHeartbeats 8000000 in
theorem listLiteral_any (A : Option Addr) (c : Nat) (l : List LtI) (W : World) (hr : RdX 17 ltIC W A l) (tx : LtI → List UInt8) (hf : ∀ x ∈ l, ∀ V, Below W.heap.size W V → Calls Tryz.prog 20 #[.agg (ltIC x).toArray] V fun e w' => e = .returned (.string (bs (tx x))) ∧ Below V.heap.size V w') (hlen : ∀ x ∈ l, (tx x).length ≤ 1000000) (most : Nat) (hmost : most ≤ 1000) (gap : List UInt8) (hgap : gap.length ≤ 10) :
    Calls Tryz.prog 19 #[.slice A l.length c, .int .i64 (most : Nat), .string (bs gap), .func (.func 20) #[] #[]] W fun e w' => e = .returned (.tuple #[.string (bs (listX most gap (l.map tx)).1), .bool (listX most gap (l.map tx)).2]) ∧ Below W.heap.size W w' := by
  have hmx : l.length ≤ 9223372036854775807 := Nat.le_trans hr.1 (by decide)
  have htl : (l.map tx).length = l.length := by simp
  unfold listX
  rw [htl]
  by_cases hm : most < l.length
  · have hg : (most : Int) < (l.length : Int) := by omega
    rw [if_pos hm]
    clear hr hf hlen htl
    go_enter Tryz.func19, Tryz.ntmps19
    go_wp2
    go_ret2
    exact ⟨rfl, Below.refl _ _⟩
  · have hg : ¬ (most : Int) < (l.length : Int) := by omega
    rw [if_neg hm]
    have hmk := fun W => run_make_row' (P := Tryz.prog) 78 9 (.string ByteArray.empty) 16 Tryz.underlying78 info_string rfl .i64 .i64 l.length (by omega) (by omega) W
    have HR := Lib.hid hr; have HFN := Lib.hid hf
    have HTS : Hid (∀ k x, l[k]? = some x → (l.map tx)[k]? = some (tx x)) := Lib.hid fun k x hx => by rw [List.getElem?_map, hx]; rfl
    have HJL : Hid ((Lib.join (l.map tx) gap).length ≤ 140737488355328) := Lib.hid (by
      have h := join_le (ts := (l.map tx)) (gap := gap) (B := 1000000) (fun y hy => by obtain ⟨x, hx, rfl⟩ := List.mem_map.1 hy; exact hlen x hx)
      have h2 : (1000000 + gap.length) * (l.map tx).length ≤ 1000010 * 1000 := Nat.mul_le_mul (by omega) (by omega)
      omega)
    clear hr hf hlen
    generalize (l.map tx) = ts at *
    go_enter Tryz.func19, Tryz.ntmps19
    go_wp2
    go_loopw [22] (fun i wr => ListRelLiteral l W ts i wr) (fun i _ => l.length - (intOf i).toNat)
    case atStart =>
      refine ⟨0, rfl, Nat.zero_le _, ?_, (Below.refl _ _).alloc (Nat.le_refl _) _⟩
      exact (World.rowIs_made W (.string ByteArray.empty) l.length 9).congr fun i _ => (txF_zero ts i).symm
    case round =>
      obtain ⟨k, rfl, hk, hrow, hB⟩ := hrel
      have HB := Lib.hid hB
      have HROW := Lib.hid hrow
      clear hrow hmk
      have hW0 : W.heap.size < wr.heap.size := HROW.out.lt
      by_cases hlt : k < l.length
      · obtain ⟨x, hx⟩ : ∃ x, l[k]? = some x := ⟨_, List.getElem?_eq_getElem hlt⟩
        obtain ⟨b, o, rfl, hbl, hc⟩ := (HR.out.on hB).2 k x hx
        have HX := Lib.hid hx
        have HT := Lib.hid (HTS.out k x hx)
        have HRG : Hid (wr.rangeAt b (o + k * 17) (ltIC x)) := Lib.hid (fun j v hj => hc j v hj)
        have hall : (ltIC x).all (·.oneCell') = true := rfl
        have HCA : Hid (∀ w1, Below wr.heap.size wr w1 → Calls Tryz.prog 20 #[.agg (ltIC x).toArray] w1 fun e w' => e = .returned (.string (bs (tx x))) ∧ Below w1.heap.size w1 w') := Lib.hid fun w1 h1 => HFN.out x (List.mem_of_getElem? hx) _ (on hB h1)
        clear hc hx hB
        go_wp2_with (first
          | (refine wpList_load_mid rfl 52 (.tmp 25) rfl b (o + k * 17) rfl (ltIC x) _ HRG.out Tryz.underlying52 rfl (by kernel_rfl) ?_)
          | (refine wpList_storeR rfl 52 (.tmp 12) (.tmp 26) rfl wr.heap.size 0 rfl (.agg (ltIC x).toArray) rfl (ltIC x) rfl (pre := []) (old := [.int .i64 0, .string ByteArray.empty, .slice none 0 0, .string ByteArray.empty, .string ByteArray.empty, .int .i64 0, .int .i64 0, .string ByteArray.empty, .string ByteArray.empty, .int .i64 0, .int .i64 0, .string ByteArray.empty, .string ByteArray.empty, .int .i64 0, .int .i64 0, .string ByteArray.empty, .slice none 0 0]) (post := []) (row_new wr [.int .i64 0, .string ByteArray.empty, .slice none 0 0, .string ByteArray.empty, .string ByteArray.empty, .int .i64 0, .int .i64 0, .string ByteArray.empty, .string ByteArray.empty, .int .i64 0, .int .i64 0, .string ByteArray.empty, .string ByteArray.empty, .int .i64 0, .int .i64 0, .string ByteArray.empty, .slice none 0 0]) rfl rfl (by kernel_rfl) hall ?_; intro w1 hR hF hs; have HB1 : Hid (Below wr.heap.size wr w1) := Lib.hid (((Below.refl _ _).alloc (Nat.le_refl _) _).trans ((hF wr.heap.size).below (Nat.le_refl _) (fun k hk e => by omega))); have hlt1 : wr.heap.size < w1.heap.size := (by rw [hs]; simp); have HR1 : Hid (w1.rangeAt wr.heap.size 0 (ltIC x)) := Lib.hid (fun j v hj => by have hR2 : Row 52 w1 wr.heap.size (ltIC x) := (by simpa using hR); rw [Nat.zero_add]; exact (hR2.cell j).trans hj); clear hR hF hs)
          | (refine wpList_load_mid rfl 52 (.tmp 12) rfl wr.heap.size 0 rfl (ltIC x) _ HR1.out Tryz.underlying52 rfl (by kernel_rfl) ?_)
          | (go_at_call 20; refine (HCA.out _ HB1.out).mono ?_; rintro e w2 ⟨rfl, hb2⟩; have hrow2 : w2.rowIs W.heap.size 9 l.length (txF ts k) := (HROW.out.of_block (HB1.out.block _ (by omega))).of_block (hb2.block _ (by omega)); have hcell := hrow2.cell hlt; have hfro := hrow2.frozen k; have HROW2 := Lib.hid hrow2; have HB2 := Lib.hid (on (on HB.out HB1.out) hb2); clear hb2 hrow2))
        go_roundw
        case rel => exact ⟨k + 1, by go_num, by omega, txF_set HROW2.out HT.out, HB2.out.setCell (Nat.le_refl _) _⟩
        case measure => simp [intOf]; omega
      · obtain rfl : k = l.length := by omega
        have htx : TxAt wr W.heap.size 0 ts := txF_all (by rw [htl]; exact HROW.out)
        have hn : ts.length ≤ 1000 := by omega
        have HJ : Hid (Calls Tryz.prog 42 #[.slice (some ⟨W.heap.size, 0, none⟩) l.length l.length, .string (bs gap)] wr fun e w' => e = .returned (.string (bs (Lib.join ts gap))) ∧ Below wr.heap.size wr w') := Lib.hid (by
          have h := join_any W.heap.size 0 ts.length ts gap wr htx hW0 hn (Nat.le_refl _) HJL.out
          rw [htl] at h; exact h)
        have HC : Hid (∀ V, Below wr.heap.size wr V → Calls Tryz.prog 43 #[.slice (some ⟨W.heap.size, 0, none⟩) l.length l.length, .string ⟨#[]⟩] V fun e w' => e = .returned (.bool (decide ([] ∈ ts))) ∧ w' = V) := Lib.hid fun V hV => by
          have h := contains_any W.heap.size 0 ts.length ts V (htx.on hV hW0) hn
          rw [htl] at h; exact h
        clear htx hB
        go_wp2_with (first
          | (go_at_call 42; refine HJ.out.mono ?_; rintro e w2 ⟨rfl, hb2⟩; have HB2 := Lib.hid hb2; clear hb2)
          | (go_at_call 43; refine (HC.out _ (by first | exact HB2.out | exact HB2.out.drew)).mono ?_; rintro e w3 ⟨rfl, rfl⟩))
        go_ret2
        exact ⟨rfl, on HB.out HB2.out⟩
end Go.Proofs.YtahljmddnfldlaaGreatDoor
namespace Go.Proofs.YtahljmddnfldlaaGreatDoor
open Go.RowKit FloM ValM Go.Shelf
set_option linter.unusedVariables false
set_option linter.unusedSimpArgs false
def argsX (fold : Int) (l : List Tm) : List (List UInt8) := l.mapIdx fun j x => argX fold (l.length - 1 - j) x
theorem args_mem {fold : Int} {l : List Tm} {y : List UInt8} (h : y ∈ argsX fold l) : ∃ j x, x ∈ l ∧ argX fold (l.length - 1 - j) x = y := by
  obtain ⟨i, hi, e⟩ := List.mem_iff_getElem.1 h
  unfold argsX at hi e
  rw [List.getElem_mapIdx] at e
  exact ⟨i, _, List.getElem_mem _, e⟩
theorem fr_off {X : Nat → Prop} (w : World) (D : Nat) (v : Value) {B : Nat} {o : Nat} (hB : B ≤ D) : Fr X B w (w.setCell ⟨D, o, none⟩ v) := Fr.of ((Below.refl B w).setCell hB _)
theorem rowSet {t : TypeId} {w : World} {g D o : Nat} {cs : List Value} {v : Value} (h : Row t w g cs) (hne : g ≠ D) : Row t (w.setCell ⟨D, o, none⟩ v) g cs := h.far hne v
def ListRelTerm (l : List Tm) (W : World) (ts : List (List UInt8)) (gl gf : Nat) (fold : Int) (i : Value) (wr : World) : Prop := ∃ k : Nat, i = .int .i64 (k : Nat) ∧ k ≤ l.length ∧ wr.rowIs W.heap.size 9 l.length (txF ts k) ∧ LfAt gl gf ((l.length : Int) - k) fold wr ∧ Fr (· = gl) W.heap.size W wr
set_option maxRecDepth 20000 in
set_option maxHeartbeats 8000000 in
theorem listTerm_any (A : Option Addr) (c : Nat) (l : List Tm) (W : World) (hr : RdX 4 tmC W A l) (gl gf : Nat) (fold : Int) (hS : LfAt gl gf (l.length : Nat) fold W) (hne : gl ≠ gf) (hoff : l ≠ [] → ∀ a, A = some a → a.block ≠ gl) (hok : ∀ x ∈ l, TmOk x) (most : Nat) (hmost : most ≤ 1000) (gap : List UInt8) (hgap : gap.length ≤ 10) :
    Calls Tryz.prog 36 #[.slice A l.length c, .int .i64 (most : Nat), .string (bs gap), .func (.func 37) #[] #[.pointer (some ⟨gl, 0, none⟩), .pointer (some ⟨gf, 0, none⟩)]] W fun e w' => e = .returned (.tuple #[.string (bs (listX most gap (argsX fold l)).1), .bool (listX most gap (argsX fold l)).2]) ∧ (most < l.length ∨ LfAt gl gf (0 : Nat) fold w') ∧ Fr (· = gl) W.heap.size W w' := by
  have hmx : l.length ≤ 9223372036854775807 := Nat.le_trans hr.1 (by decide)
  have htl : (argsX fold l).length = l.length := by simp [argsX]
  unfold listX
  rw [htl]
  by_cases hm : most < l.length
  · have hg : (most : Int) < (l.length : Int) := by omega
    rw [if_pos hm]
    clear hr hoff hok htl
    go_enter Tryz.func36, Tryz.ntmps36
    go_wp2
    go_ret2
    exact ⟨rfl, .inl hm, Fr.refl _ _ _⟩
  · have hg : ¬ (most : Int) < (l.length : Int) := by omega
    rw [if_neg hm]
    have hmk := fun W => run_make_row' (P := Tryz.prog) 78 9 (.string ByteArray.empty) 16 Tryz.underlying78 info_string rfl .i64 .i64 l.length (by omega) (by omega) W
    have HR := Lib.hid hr; have HOF := Lib.hid hoff; have HOK := Lib.hid hok; have HST := Lib.hid hS
    have HTS : Hid (∀ k x, l[k]? = some x → (argsX fold l)[k]? = some (argX fold (l.length - 1 - k) x)) := Lib.hid fun k x hx => by unfold argsX; rw [List.getElem?_mapIdx, hx]; rfl
    have HJL : Hid ((Lib.join (argsX fold l) gap).length ≤ 140737488355328) := Lib.hid (by
      have h := join_le (ts := (argsX fold l)) (gap := gap) (B := 1000000) (fun y hy => by obtain ⟨j, x, hx, rfl⟩ := args_mem hy; have := argX_len (fold := fold) (m := l.length - 1 - j) (hok x hx); omega)
      have h2 : (1000000 + gap.length) * (argsX fold l).length ≤ 1000010 * 1000 := Nat.mul_le_mul (by omega) (by omega)
      omega)
    clear hr hoff hok
    generalize (argsX fold l) = ts at *
    go_enter Tryz.func36, Tryz.ntmps36
    go_wp2
    go_loopw [22] (fun i wr => ListRelTerm l W ts gl gf fold i wr) (fun i _ => l.length - (intOf i).toNat)
    case atStart =>
      refine ⟨0, rfl, Nat.zero_le _, ?_, by rw [show ((l.length : Int) - (0 : Nat)) = (l.length : Nat) by omega]; exact HST.out.on ((Below.refl _ _).alloc (Nat.le_refl _) _), Fr.of ((Below.refl _ _).alloc (Nat.le_refl _) _)⟩
      exact (World.rowIs_made W (.string ByteArray.empty) l.length 9).congr fun i _ => (txF_zero ts i).symm
    case round =>
      obtain ⟨k, rfl, hk, hrow, hS, hB⟩ := hrel
      have HB := Lib.hid hB; have HS := Lib.hid hS
      have HROW := Lib.hid hrow
      clear hrow hmk hS
      have hW0 : W.heap.size < wr.heap.size := HROW.out.lt
      have hg0 : gl ≠ W.heap.size := Nat.ne_of_lt HST.out.l.lt
      have hg1 : gf ≠ W.heap.size := Nat.ne_of_lt HST.out.f.lt
      by_cases hlt : k < l.length
      · obtain ⟨x, hx⟩ : ∃ x, l[k]? = some x := ⟨_, List.getElem?_eq_getElem hlt⟩
        obtain ⟨b, o, rfl, hbl, hc⟩ := (HR.out.onF HOF.out hB).2 k x hx
        have HX := Lib.hid hx
        have x0 := hc 0 _ rfl
        have x1 := hc 1 _ rfl
        have x2 := hc 2 _ rfl
        have x3 := hc 3 _ rfl
        rw [Nat.add_zero] at x0
        have HT := Lib.hid (HTS.out k x hx)
        have hb1 : Below wr.heap.size wr (wr.alloc (.cells #[.string (bs x.v), .int .i64 x.x.k, .int .i64 x.x.n, .string x.x.s] 48)) := (Below.refl _ _).alloc (Nat.le_refl _) _
        have HB1 := Lib.hid hb1
        have HF : Hid (Calls Tryz.prog 37 #[.agg #[.string (bs x.v), .int .i64 x.x.k, .int .i64 x.x.n, .string x.x.s], .pointer (some ⟨gl, 0, none⟩), .pointer (some ⟨gf, 0, none⟩)] (wr.alloc (.cells #[.string (bs x.v), .int .i64 x.x.k, .int .i64 x.x.n, .string x.x.s] 48)) (Head1Q gl gf (l.length - 1 - k) fold (argX fold (l.length - 1 - k) x) (wr.alloc (.cells #[.string (bs x.v), .int .i64 x.x.k, .int .i64 x.x.n, .string x.x.s] 48)))) := Lib.hid (head1_any gl gf (l.length - 1 - k) fold x _ (by have h := HS.out.on HB1.out; rw [show ((l.length : Int) - k) = ((l.length - 1 - k : Nat) : Int) + 1 by omega] at h; exact h) hne (HOK.out x (List.mem_of_getElem? hx)) (by omega))
        clear hc hx hB hb1
        go_wp2_with (go_at_call 37; refine HF.out.mono ?_; rintro e w2 ⟨rfl, hS2, hb2⟩; have hrow2 : w2.rowIs W.heap.size 9 l.length (txF ts k) := (HROW.out.alloc _).of_block (hb2.block _ (by simp; omega) (fun e => hg0 e.symm)); have hcell := hrow2.cell hlt; have hfro := hrow2.frozen k; have HROW2 := Lib.hid hrow2; have HB2 := Lib.hid (HB.out.trans (((Fr.of HB1.out).trans (hb2.mono HB1.out.size)).mono (Nat.le_of_lt hW0))); have HS2 := Lib.hid hS2; clear hS2; clear hb2 hrow2)
        go_roundw
        case rel => exact ⟨k + 1, by go_num, by omega, txF_set HROW2.out HT.out, by have h := HS2.out; rw [show (((l.length - 1 - k : Nat)) : Int) = (l.length : Int) - ((k + 1 : Nat) : Int) by omega] at h; exact ⟨rowSet h.l hg0, rowSet h.f hg1⟩, HB2.out.trans (fr_off _ _ _ (Nat.le_refl _))⟩
        case measure => simp [intOf]; omega
      · obtain rfl : k = l.length := by omega
        have htx : TxAt wr W.heap.size 0 ts := txF_all (by rw [htl]; exact HROW.out)
        have hn : ts.length ≤ 1000 := by omega
        have HJ : Hid (Calls Tryz.prog 42 #[.slice (some ⟨W.heap.size, 0, none⟩) l.length l.length, .string (bs gap)] wr fun e w' => e = .returned (.string (bs (Lib.join ts gap))) ∧ Below wr.heap.size wr w') := Lib.hid (by
          have h := join_any W.heap.size 0 ts.length ts gap wr htx hW0 hn (Nat.le_refl _) HJL.out
          rw [htl] at h; exact h)
        have HC : Hid (∀ V, Below wr.heap.size wr V → Calls Tryz.prog 43 #[.slice (some ⟨W.heap.size, 0, none⟩) l.length l.length, .string ⟨#[]⟩] V fun e w' => e = .returned (.bool (decide ([] ∈ ts))) ∧ w' = V) := Lib.hid fun V hV => by
          have h := contains_any W.heap.size 0 ts.length ts V (htx.on hV hW0) hn
          rw [htl] at h; exact h
        clear htx hB
        go_wp2_with (first
          | (go_at_call 42; refine HJ.out.mono ?_; rintro e w2 ⟨rfl, hb2⟩; have HB2 := Lib.hid hb2; clear hb2)
          | (go_at_call 43; refine (HC.out _ (by first | exact HB2.out | exact HB2.out.drew)).mono ?_; rintro e w3 ⟨rfl, rfl⟩))
        go_ret2
        exact ⟨rfl, .inr (by have h := HS.out; rw [show ((l.length : Int) - (l.length : Nat)) = (0 : Nat) by omega] at h; exact h.on HB2.out), HB.out.trans ((Fr.of HB2.out).mono (Nat.le_of_lt hW0))⟩
end Go.Proofs.YtahljmddnfldlaaGreatDoor
namespace Go.Proofs.YtahljmddnfldlaaGreatDoor
open Go.RowKit FloM ValM Go.Shelf
set_option linter.unusedVariables false
set_option linter.unusedSimpArgs false
def joinA (fold : Int) (a : List Tm) : List UInt8 := Lib.join (argsX fold a) [44, 32]
def headX (p : List UInt8) (a : List Tm) (fold : Int) : List UInt8 :=
  if 8 < a.length ∨ [] ∈ argsX fold a ∨ predL p = false then [] else if a = [] then (if fold ≠ 0 then [] else p) else p ++ [40] ++ joinA fold a ++ [41]
def atomX (x : AmA) : List UInt8 := headX x.p x.a 0
theorem args_nil (fold : Int) (a : List Tm) : argsX fold a = [] ↔ a = [] := by
  constructor
  · intro h; have := congrArg List.length h; simp [argsX] at this; exact this
  · rintro rfl; rfl
theorem joinA_ne {fold : Int} {a : List Tm} (h : [] ∉ argsX fold a) (ha : a ≠ []) : joinA fold a ≠ [] := by
  unfold joinA
  cases hq : argsX fold a with
  | nil => exact absurd ((args_nil _ _).1 hq) ha
  | cons x r =>
    rw [hq] at h
    rw [Lib.join_cons]
    intro e
    have : x = [] := (List.append_eq_nil_iff.1 e).1
    exact h (by simp [this])
theorem joinA_len {fold : Int} {a : List Tm} (hok : ∀ t ∈ a, TmOk t) (h8 : a.length ≤ 8) : (joinA fold a).length ≤ 500 := by
  have h := join_le (ts := argsX fold a) (gap := [44, 32]) (B := 60) (fun y hy => by obtain ⟨j, x, hx, rfl⟩ := args_mem hy; exact argX_len (hok x hx))
  have e : (argsX fold a).length = a.length := by simp [argsX]
  rw [e] at h
  have e2 : ((60 + [44, 32].length : Nat)) = 62 := by rfl
  have : (60 + ([44, 32] : List UInt8).length) * a.length ≤ 62 * 8 := Nat.mul_le_mul (by decide) h8
  unfold joinA; omega
theorem headX_len {p : List UInt8} {a : List Tm} {fold : Int} (hok : ∀ t ∈ a, TmOk t) : (headX p a fold).length ≤ 600 := by
  unfold headX
  split
  · simp
  · rename_i h
    simp only [not_or, Bool.not_eq_false] at h
    have h1 := pred_len h.2.2
    split
    · split
      · simp
      · omega
    · have := joinA_len (fold := fold) hok (by omega)
      simp; omega
set_option maxRecDepth 20000 in
set_option maxHeartbeats 8000000 in
theorem head_any (x : AmA) (fold : Int) (W : World) (hx : x.rd W) (hok : AmOk x) :
    Calls Tryz.prog 18 #[.agg #[.string (bs x.p), .slice x.A x.a.length x.c], .int .i64 fold] W fun e w' => e = .returned (.string (bs (headX x.p x.a fold))) ∧ Below W.heap.size W w' := by
  obtain ⟨p, A, c, a⟩ := x
  simp only
  have hrd : RdX 4 tmC W A a := hx
  have hmf : ∀ (fn : Fn) (first cap : Array Value) (w : World), (Instr.makeFunc fn first cap).run Tryz.prog w = .ok (.func fn first cap) w := fun _ _ _ _ => rfl
  -- the three blocks of its own
  have hb1 : Below W.heap.size W (W.alloc (.cells #[.string (bs p), .slice A a.length c] 25)) := (Below.refl _ _).alloc (Nat.le_refl _) _
  have hb2 := hb1.alloc hb1.size (.cells #[.int .i64 fold] 3)
  have hb3 := hb2.alloc hb2.size (.cells #[.int .i64 (a.length : Nat)] 3)
  have rA := ((row_new (t := 25) W [.string (bs p), .slice A a.length c]).alloc (.cells #[.int .i64 fold] 3)).alloc (.cells #[.int .i64 (a.length : Nat)] 3)
  have rF := (row_new (t := 3) (W.alloc (.cells #[.string (bs p), .slice A a.length c] 25)) [.int .i64 fold]).alloc (.cells #[.int .i64 (a.length : Nat)] 3)
  have rL := row_new (t := 3) ((W.alloc (.cells #[.string (bs p), .slice A a.length c] 25)).alloc (.cells #[.int .i64 fold] 3)) [.int .i64 (a.length : Nat)]
  simp only [World.size_alloc] at rA rF rL
  have hl0 := listTerm_any A c a (((W.alloc (.cells #[.string (bs p), .slice A a.length c] 25)).alloc (.cells #[.int .i64 fold] 3)).alloc (.cells #[.int .i64 (a.length : Nat)] 3)) (hrd.on hb3) (W.heap.size + 1 + 1) (W.heap.size + 1) fold ⟨rL, rF⟩ (by omega) (fun hne ad had => by
    obtain ⟨y, hy⟩ : ∃ y, a[0]? = some y := ⟨_, List.getElem?_eq_getElem (List.length_pos_iff.2 hne)⟩
    obtain ⟨b, o, e, hb, _⟩ := hrd.2 0 y hy
    rw [e] at had; injection had with had; subst had; simp only; omega) hok.2 8 (by decide) [44, 32] (by decide)
  have HL : Hid (Calls Tryz.prog 36 #[.slice A a.length c, .int .i64 8, .string ⟨#[44, 32]⟩, .func (.func 37) #[] #[.pointer (some ⟨W.heap.size + 1 + 1, 0, none⟩), .pointer (some ⟨W.heap.size + 1, 0, none⟩)]] (((W.alloc (.cells #[.string (bs p), .slice A a.length c] 25)).alloc (.cells #[.int .i64 fold] 3)).alloc (.cells #[.int .i64 (a.length : Nat)] 3)) fun e w' => e = .returned (.tuple #[.string (bs (listX 8 [44, 32] (argsX fold a)).1), .bool (listX 8 [44, 32] (argsX fold a)).2]) ∧ Below W.heap.size W w' ∧ Row 25 w' W.heap.size [.string (bs p), .slice A a.length c] ∧ Row 3 w' (W.heap.size + 1) [.int .i64 fold]) := Lib.hid (hl0.mono (by
    rintro e w' ⟨rfl, _, hF⟩
    simp only [World.size_alloc] at hF
    refine ⟨rfl, hb3.trans (hF.below (by omega) (fun k hk e => by omega)), rA.fr hF (by omega) (by show ¬ W.heap.size = W.heap.size + 1 + 1; omega), rF.fr hF (by omega) (by show ¬ W.heap.size + 1 = W.heap.size + 1 + 1; omega)⟩))
  have HP := Lib.hid (fun V => showPred_any (bs p) V (by rw [bs_size]; exact hok.1))
  rw [ls_bs] at HP
  have hjl : a.length ≤ 8 → (joinA fold a).length ≤ 500 := fun h => joinA_len hok.2 h
  clear hl0 rA rF rL hb1 hb2 hb3 hrd hx
  have hlX : listX 8 [44, 32] (argsX fold a) = if 8 < a.length then ([], false) else (joinA fold a, !decide ([] ∈ argsX fold a)) := by unfold listX joinA; simp [argsX]
  rw [hlX] at HL
  clear hlX hok
  by_cases h8 : 8 < a.length
  · rw [if_pos h8] at HL
    have e : headX p a fold = [] := by unfold headX; rw [if_pos (.inl h8)]
    rw [e]
    clear e h8 hjl
    go_enter Tryz.func18, Tryz.ntmps18
    go_wp2_with (go_at_call 36; refine HL.out.mono ?_; rintro e w2 ⟨rfl, hb2, hA, hF⟩; have HB2 := Lib.hid hb2; clear hb2 hA hF)
    go_ret
    exact ⟨rfl, HB2.out⟩
  · rw [if_neg h8] at HL
    by_cases hin : [] ∈ argsX fold a
    · rw [decide_eq_true hin] at HL
      have e : headX p a fold = [] := by unfold headX; rw [if_pos (.inr (.inl hin))]
      rw [e]
      clear e h8 hjl hin
      go_enter Tryz.func18, Tryz.ntmps18
      go_wp2_with (go_at_call 36; refine HL.out.mono ?_; rintro e w2 ⟨rfl, hb2, hA, hF⟩; have HB2 := Lib.hid hb2; clear hb2 hA hF)
      go_ret
      exact ⟨rfl, HB2.out⟩
    · rw [decide_eq_false hin] at HL
      cases hp : predL p with
      | false =>
        rw [hp] at HP
        have e : headX p a fold = [] := by unfold headX; rw [if_pos (.inr (.inr hp))]
        rw [e]
        clear e h8 hjl hin hp
        go_enter Tryz.func18, Tryz.ntmps18
        go_wp2_with (first
          | (go_at_call 36; refine HL.out.mono ?_; rintro e w2 ⟨rfl, hb2, hA, hF⟩; have HB2 := Lib.hid hb2; have a0 := hA.cell 0; simp only [List.getElem?_cons_zero] at a0; clear hb2 hA hF)
          | (go_at_call 41; refine (HP.out _).mono ?_; rintro e w3 ⟨rfl, rfl⟩))
        go_ret
        exact ⟨rfl, HB2.out⟩
      | true =>
        rw [hp] at HP
        by_cases ha : a = []
        · have hj : joinA fold a = [] := by rw [ha]; rfl
          rw [hj, show bs [] = ⟨#[]⟩ from rfl] at HL
          by_cases hf : fold = 0
          · have e : headX p a fold = p := by unfold headX; rw [if_neg (by rw [hp]; simp [h8, hin]), if_pos ha, if_neg (by simpa using hf)]
            rw [e]
            subst hf
            clear e h8 hjl hin hp ha hj
            go_enter Tryz.func18, Tryz.ntmps18
            go_wp2_with (first
              | (go_at_call 36; refine HL.out.mono ?_; rintro e w2 ⟨rfl, hb2, hA, hF⟩; have HB2 := Lib.hid hb2; have a0 := hA.cell 0; have f0 := hF.cell 0; simp only [List.getElem?_cons_zero] at a0 f0; clear hb2 hA hF)
              | (go_at_call 41; refine (HP.out _).mono ?_; rintro e w3 ⟨rfl, rfl⟩))
            go_ret
            exact ⟨rfl, HB2.out⟩
          · have e : headX p a fold = [] := by unfold headX; rw [if_neg (by rw [hp]; simp [h8, hin]), if_pos ha, if_pos hf]
            have hfb : (fold != 0) = true := by simpa using hf
            rw [e]
            clear e h8 hjl hin hp ha hj
            go_enter Tryz.func18, Tryz.ntmps18
            go_wp2_with (first
              | (go_at_call 36; refine HL.out.mono ?_; rintro e w2 ⟨rfl, hb2, hA, hF⟩; have HB2 := Lib.hid hb2; have a0 := hA.cell 0; have f0 := hF.cell 0; simp only [List.getElem?_cons_zero] at a0 f0; clear hb2 hA hF)
              | (go_at_call 41; refine (HP.out _).mono ?_; rintro e w3 ⟨rfl, rfl⟩))
            go_ret
            exact ⟨rfl, HB2.out⟩
        · have hjn := joinA_ne hin ha
          have hjl2 := hjl (by omega)
          have hpl := pred_len hp
          have e : headX p a fold = wholeX [p, [40], joinA fold a, [41]] := by
            unfold headX wholeX
            rw [if_neg (by rw [hp]; simp [h8, hin]), if_neg ha, if_neg (by simp [predL_ne hp, hjn])]
            simp
          rw [e]
          have HWh : Hid (∀ V, Calls Tryz.prog 21 #[.slice (some ⟨V.heap.size, 0, none⟩) 4 4] (V.alloc (.cells #[.string (bs p), .string ⟨#[40]⟩, .string (bs (joinA fold a)), .string ⟨#[41]⟩] 9)) fun e w' => e = .returned (.string (bs (wholeX [p, [40], joinA fold a, [41]]))) ∧ Below V.heap.size V w') := Lib.hid fun V => whole_lists V [p, [40], joinA fold a, [41]] (by simp) (by simp; omega)
          have f2 : ((bs (joinA fold a)).toList == []) = false := by rw [bsl, beq_eq_false_iff_ne]; exact hjn
          clear e h8 hjl hin hp ha hjn hjl2 hpl
          generalize wholeX [p, [40], joinA fold a, [41]] = R at *
          generalize joinA fold a = J at *
          go_enter Tryz.func18, Tryz.ntmps18
          go_wp2_with (first
            | (go_at_call 36; refine HL.out.mono ?_; rintro e w2 ⟨rfl, hb2, hA, hF⟩; have HB2 := Lib.hid hb2; have a0 := hA.cell 0; simp only [List.getElem?_cons_zero] at a0; clear hb2 hA hF)
            | (go_at_call 41; refine (HP.out _).mono ?_; rintro e w3 ⟨rfl, rfl⟩)
            | (go_at_call 21; refine (HWh.out _).mono ?_; rintro e w4 ⟨rfl, hb4⟩; have HB4 := Lib.hid (on HB2.out hb4); clear hb4))
          go_ret
          exact ⟨rfl, HB4.out⟩
end Go.Proofs.YtahljmddnfldlaaGreatDoor
namespace Go.Proofs.YtahljmddnfldlaaGreatDoor
open Go.RowKit FloM ValM Go.Shelf
set_option linter.unusedVariables false
set_option linter.unusedSimpArgs false
set_option maxRecDepth 20000 in
set_option maxHeartbeats 4000000 in
theorem atom9_any (x : AmA) (W : World) (hx : x.rd W) (hok : AmOk x) :
    Calls Tryz.prog 12 #[.agg #[.string (bs x.p), .slice x.A x.a.length x.c]] W fun e w' => e = .returned (.string (bs (atomX x))) ∧ Below W.heap.size W w' := by
  have hb1 : Below W.heap.size W (W.alloc (.cells #[.string (bs x.p), .slice x.A x.a.length x.c] 25)) := (Below.refl _ _).alloc (Nat.le_refl _) _
  have HB := Lib.hid hb1
  have HH := Lib.hid (head_any x 0 _ (AmA.rd.on hx hb1) hok)
  unfold atomX
  clear hb1 hx hok
  generalize headX x.p x.a 0 = R at *
  obtain ⟨p, A, c, a⟩ := x
  simp only at *
  go_enter Tryz.func12, Tryz.ntmps12
  go_wp2_with (go_at_call 18; refine HH.out.mono ?_; rintro e w2 ⟨rfl, hb2⟩; have HB2 := Lib.hid (on HB.out hb2); clear hb2)
  go_ret
  exact ⟨rfl, HB2.out⟩
/-! ### Rules -/
def joinB (ts : List (List UInt8)) : List UInt8 := Lib.join ts [44, 32]
def ruleT (h : List UInt8) (ts : List (List UInt8)) : List UInt8 :=
  if 12 < ts.length ∨ [] ∈ ts ∨ h = [] then [] else if ts = [] then h ++ [46] else h ++ [32, 58, 45, 32] ++ joinB ts ++ [46]
def ruleX (tx : LtI → List UInt8) (x : RlI) : List UInt8 := ruleT (headX x.h.p x.h.a x.f) (x.b.map tx)
theorem joinB_ne {ts : List (List UInt8)} (h : [] ∉ ts) (ha : ts ≠ []) : joinB ts ≠ [] := by
  unfold joinB
  cases ts with
  | nil => exact absurd rfl ha
  | cons x r =>
    rw [Lib.join_cons]
    intro e
    have : x = [] := (List.append_eq_nil_iff.1 e).1
    exact h (by simp [this])
theorem joinB_len {ts : List (List UInt8)} {B : Nat} (h : ∀ y ∈ ts, y.length ≤ B) (h12 : ts.length ≤ 12) : (joinB ts).length ≤ (B + 2) * 12 := by
  have h2 := join_le (ts := ts) (gap := [44, 32]) (B := B) h
  exact Nat.le_trans h2 (Nat.mul_le_mul (Nat.le_refl _) h12)
theorem ruleT_len {h : List UInt8} {ts : List (List UInt8)} {B : Nat} (hh : h.length ≤ 600) (ht : ∀ y ∈ ts, y.length ≤ B) : (ruleT h ts).length ≤ 700 + (B + 2) * 12 := by
  unfold ruleT
  split
  · simp
  · rename_i hc
    simp only [not_or] at hc
    split
    · simp; omega
    · have := joinB_len ht (by omega)
      simp; omega
def LitH (x : RlI) (tx : LtI → List UInt8) (W : World) : Prop := ∀ y ∈ x.b, ∀ V, Below W.heap.size W V → Calls Tryz.prog 20 #[.agg (ltIC y).toArray] V fun e w' => e = .returned (.string (bs (tx y))) ∧ Below V.heap.size V w'
theorem whole2 (V : World) (a b : List UInt8) (h : a.length + b.length ≤ 100000000) : Calls Tryz.prog 21 #[.slice (some ⟨V.heap.size, 0, none⟩) 2 2] (V.alloc (.cells #[.string (bs a), .string (bs b)] 9)) fun e w' => e = .returned (.string (bs (wholeX [a, b]))) ∧ Below V.heap.size V w' := whole_lists V [a, b] (by simp) (by simp; omega)
theorem whole3 (V : World) (a b c : List UInt8) (h : a.length + b.length + c.length ≤ 100000000) : Calls Tryz.prog 21 #[.slice (some ⟨V.heap.size, 0, none⟩) 3 3] (V.alloc (.cells #[.string (bs a), .string (bs b), .string (bs c)] 9)) fun e w' => e = .returned (.string (bs (wholeX [a, b, c]))) ∧ Below V.heap.size V w' := whole_lists V [a, b, c] (by simp) (by simp; omega)
theorem whole4 (V : World) (a b c d : List UInt8) (h : a.length + b.length + c.length + d.length ≤ 100000000) : Calls Tryz.prog 21 #[.slice (some ⟨V.heap.size, 0, none⟩) 4 4] (V.alloc (.cells #[.string (bs a), .string (bs b), .string (bs c), .string (bs d)] 9)) fun e w' => e = .returned (.string (bs (wholeX [a, b, c, d]))) ∧ Below V.heap.size V w' := whole_lists V [a, b, c, d] (by simp) (by simp; omega)
set_option maxRecDepth 20000 in
set_option maxHeartbeats 8000000 in
theorem rule9_any (x : RlI) (W : World) (hx : x.rd W) (hok : x.ok) (tx : LtI → List UInt8) (hlit : LitH x tx W) (hlen : ∀ y ∈ x.b, (tx y).length ≤ 100000) :
    Calls Tryz.prog 7 #[.agg #[.string (bs x.h.p), .slice x.h.A x.h.a.length x.h.c, .int .i64 x.f, .slice x.A x.b.length x.c]] W fun e w' => e = .returned (.string (bs (ruleX tx x))) ∧ Below W.heap.size W w' := by
  have hb1 : Below W.heap.size W (W.alloc (.cells #[.string (bs x.h.p), .slice x.h.A x.h.a.length x.h.c, .int .i64 x.f, .slice x.A x.b.length x.c] 33)) := (Below.refl _ _).alloc (Nat.le_refl _) _
  have HB := Lib.hid hb1
  have HRow := Lib.hid (row_new (t := 33) W [.string (bs x.h.p), .slice x.h.A x.h.a.length x.h.c, .int .i64 x.f, .slice x.A x.b.length x.c])
  have HH := Lib.hid (head_any x.h x.f _ (AmA.rd.on hx.1 hb1) hok.1)
  have HL : Hid (∀ V, Below W.heap.size W V → Calls Tryz.prog 19 #[.slice x.A x.b.length x.c, .int .i64 12, .string ⟨#[44, 32]⟩, .func (.func 20) #[] #[]] V fun e w' => e = .returned (.tuple #[.string (bs (listX 12 [44, 32] (x.b.map tx)).1), .bool (listX 12 [44, 32] (x.b.map tx)).2]) ∧ Below V.heap.size V w') := Lib.hid fun V hV => listLiteral_any x.A x.c x.b V (hx.2.1.on hV) tx (fun y hy V' hV' => hlit y hy V' (on hV hV')) (fun y hy => by have := hlen y hy; omega) 12 (by decide) [44, 32] (by decide)
  have hlX : listX 12 [44, 32] (x.b.map tx) = if 12 < (x.b.map tx).length then ([], false) else (joinB (x.b.map tx), !decide ([] ∈ x.b.map tx)) := rfl
  rw [hlX] at HL
  have hhl := headX_len (p := x.h.p) (fold := x.f) hok.1.2
  have hjl : (x.b.map tx).length ≤ 12 → (joinB (x.b.map tx)).length ≤ (100000 + 2) * 12 := fun h => joinB_len (fun y hy => by obtain ⟨z, hz, rfl⟩ := List.mem_map.1 hy; exact hlen z hz) h
  unfold ruleX
  clear hlX hb1 hx hlit hlen hok
  generalize x.b.map tx = ts at *
  generalize headX x.h.p x.h.a x.f = H at *
  obtain ⟨⟨p, Ah, ch, a⟩, f, A, c, b⟩ := x
  simp only at *
  by_cases h12 : 12 < ts.length
  · rw [if_pos h12] at HL
    have e : ruleT H ts = [] := by unfold ruleT; rw [if_pos (.inl h12)]
    rw [e]
    clear e h12 hjl hhl
    go_enter Tryz.func7, Tryz.ntmps7
    go_wp2_with (first
      | (go_at_call 18; refine HH.out.mono ?_; rintro e w2 ⟨rfl, hb2⟩; have HB2 := Lib.hid (on HB.out hb2); have s3 := (rowOn HRow.out hb2).cell 3; simp only [List.getElem?_cons_zero, List.getElem?_cons_succ] at s3; clear hb2)
      | (go_at_call 19; refine (HL.out _ HB2.out).mono ?_; rintro e w3 ⟨rfl, hb3⟩; have HB3 := Lib.hid (on HB2.out hb3); clear hb3))
    go_ret
    exact ⟨rfl, HB3.out⟩
  · rw [if_neg h12] at HL
    by_cases hin : [] ∈ ts
    · rw [decide_eq_true hin] at HL
      have e : ruleT H ts = [] := by unfold ruleT; rw [if_pos (.inr (.inl hin))]
      rw [e]
      clear e h12 hjl hhl hin
      go_enter Tryz.func7, Tryz.ntmps7
      go_wp2_with (first
        | (go_at_call 18; refine HH.out.mono ?_; rintro e w2 ⟨rfl, hb2⟩; have HB2 := Lib.hid (on HB.out hb2); have s3 := (rowOn HRow.out hb2).cell 3; simp only [List.getElem?_cons_zero, List.getElem?_cons_succ] at s3; clear hb2)
        | (go_at_call 19; refine (HL.out _ HB2.out).mono ?_; rintro e w3 ⟨rfl, hb3⟩; have HB3 := Lib.hid (on HB2.out hb3); clear hb3))
      go_ret
      exact ⟨rfl, HB3.out⟩
    · rw [decide_eq_false hin] at HL
      by_cases ht : ts = []
      · have e : ruleT H ts = wholeX [H, [46]] := by
          unfold ruleT wholeX
          by_cases hH : H = []
          · rw [if_pos (by simp [hH]), if_pos (by simp [hH])]
          · rw [if_neg (by simp [h12, hin, hH]), if_pos ht, if_neg (by simp; exact hH)]; simp
        rw [e]
        have hj : bs (joinB ts) = ⟨#[]⟩ := by rw [ht]; rfl
        rw [hj] at HL
        have HW : Hid (∀ V, Calls Tryz.prog 21 #[.slice (some ⟨V.heap.size, 0, none⟩) 2 2] (V.alloc (.cells #[.string (bs H), .string ⟨#[46]⟩] 9)) fun e w' => e = .returned (.string (bs (wholeX [H, [46]]))) ∧ Below V.heap.size V w') := Lib.hid fun V => whole2 V H [46] (by simp; omega)
        clear e h12 hjl hhl hin ht hj
        generalize wholeX [H, [46]] = R at *
        go_enter Tryz.func7, Tryz.ntmps7
        go_wp2_with (first
          | (go_at_call 18; refine HH.out.mono ?_; rintro e w2 ⟨rfl, hb2⟩; have HB2 := Lib.hid (on HB.out hb2); have s3 := (rowOn HRow.out hb2).cell 3; simp only [List.getElem?_cons_zero, List.getElem?_cons_succ] at s3; clear hb2)
          | (go_at_call 19; refine (HL.out _ HB2.out).mono ?_; rintro e w3 ⟨rfl, hb3⟩; have HB3 := Lib.hid (on HB2.out hb3); clear hb3)
          | (go_at_call 21; refine (HW.out _).mono ?_; rintro e w4 ⟨rfl, hb4⟩; have HB4 := Lib.hid (on HB3.out hb4); clear hb4))
        go_ret
        exact ⟨rfl, HB4.out⟩
      · have hjn := joinB_ne hin ht
        have hjl2 := hjl (by omega)
        have e : ruleT H ts = wholeX [H, [32, 58, 45, 32], joinB ts, [46]] := by
          unfold ruleT wholeX
          by_cases hH : H = []
          · rw [if_pos (by simp [hH]), if_pos (by simp [hH])]
          · rw [if_neg (by simp [h12, hin, hH]), if_neg ht, if_neg (by simp; exact ⟨hH, hjn⟩)]; simp
        rw [e]
        have HW : Hid (∀ V, Calls Tryz.prog 21 #[.slice (some ⟨V.heap.size, 0, none⟩) 4 4] (V.alloc (.cells #[.string (bs H), .string ⟨#[32, 58, 45, 32]⟩, .string (bs (joinB ts)), .string ⟨#[46]⟩] 9)) fun e w' => e = .returned (.string (bs (wholeX [H, [32, 58, 45, 32], joinB ts, [46]]))) ∧ Below V.heap.size V w') := Lib.hid fun V => whole4 V H [32, 58, 45, 32] (joinB ts) [46] (by simp; omega)
        have f2 : ((bs (joinB ts)).toList == []) = false := by rw [bsl, beq_eq_false_iff_ne]; exact hjn
        clear e h12 hjl hhl hin ht hjn hjl2
        generalize wholeX [H, [32, 58, 45, 32], joinB ts, [46]] = R at *
        generalize joinB ts = J at *
        go_enter Tryz.func7, Tryz.ntmps7
        go_wp2_with (first
          | (go_at_call 18; refine HH.out.mono ?_; rintro e w2 ⟨rfl, hb2⟩; have HB2 := Lib.hid (on HB.out hb2); have s3 := (rowOn HRow.out hb2).cell 3; simp only [List.getElem?_cons_zero, List.getElem?_cons_succ] at s3; clear hb2)
          | (go_at_call 19; refine (HL.out _ HB2.out).mono ?_; rintro e w3 ⟨rfl, hb3⟩; have HB3 := Lib.hid (on HB2.out hb3); clear hb3)
          | (go_at_call 21; refine (HW.out _).mono ?_; rintro e w4 ⟨rfl, hb4⟩; have HB4 := Lib.hid (on HB3.out hb4); clear hb4))
        go_ret
        exact ⟨rfl, HB4.out⟩
/-! ### Programs -/
def lineX (tx : LtI → List UInt8) (x : RlI) : List UInt8 := wholeX [ruleX tx x, [10]]
def queryX (x : AmA) : List UInt8 := wholeX [[63, 45, 32], atomX x, [46, 10]]
def textT (ts : List (List UInt8)) (q : List UInt8) : List UInt8 := if 200 < ts.length ∨ [] ∈ ts ∨ q = [] ∨ 20000 < ts.flatten.length + q.length then [] else ts.flatten ++ q
def textX (tx : LtI → List UInt8) (x : PgI) : List UInt8 := textT (x.r.map (lineX tx)) (queryX x.q)
def LitP (x : PgI) (tx : LtI → List UInt8) (W : World) : Prop := ∀ y ∈ x.r, LitH y tx W
theorem LitH.on {x : RlI} {tx : LtI → List UInt8} {W W' : World} (h : LitH x tx W) (hb : Below W.heap.size W W') : LitH x tx W' := fun y hy V hV => h y hy V (Go.Proofs.YtahljmddnfldlaaGreatDoor.on hb hV)
theorem wholeX_len (l : List (List UInt8)) : (wholeX l).length ≤ l.flatten.length := by unfold wholeX; split <;> simp
set_option maxRecDepth 20000 in
set_option maxHeartbeats 8000000 in
theorem line9_any (x : RlI) (W : World) (hx : x.rd W) (hok : x.ok) (tx : LtI → List UInt8) (hlit : LitH x tx W) (hlen : ∀ y ∈ x.b, (tx y).length ≤ 70000) :
    Calls Tryz.prog 26 #[.agg #[.string (bs x.h.p), .slice x.h.A x.h.a.length x.h.c, .int .i64 x.f, .slice x.A x.b.length x.c]] W fun e w' => e = .returned (.string (bs (lineX tx x))) ∧ Below W.heap.size W w' := by
  have hb1 : Below W.heap.size W (W.alloc (.cells #[.string (bs x.h.p), .slice x.h.A x.h.a.length x.h.c, .int .i64 x.f, .slice x.A x.b.length x.c] 33)) := (Below.refl _ _).alloc (Nat.le_refl _) _
  have HB := Lib.hid hb1
  have HR := Lib.hid (rule9_any x _ (hx.on hb1) hok tx (hlit.on hb1) (fun y hy => by have := hlen y hy; omega))
  have hrl : (ruleX tx x).length ≤ 700 + (70000 + 2) * 12 := ruleT_len (headX_len hok.1.2) (fun y hy => by obtain ⟨z, hz, rfl⟩ := List.mem_map.1 hy; exact hlen z hz)
  have HW : Hid (∀ V, Calls Tryz.prog 21 #[.slice (some ⟨V.heap.size, 0, none⟩) 2 2] (V.alloc (.cells #[.string (bs (ruleX tx x)), .string ⟨#[10]⟩] 9)) fun e w' => e = .returned (.string (bs (lineX tx x))) ∧ Below V.heap.size V w') := Lib.hid fun V => whole2 V (ruleX tx x) [10] (by simp; omega)
  clear hb1 hx hok hlit hlen hrl
  generalize lineX tx x = R at *
  generalize ruleX tx x = T at *
  obtain ⟨⟨p, Ah, ch, a⟩, f, A, c, b⟩ := x
  simp only at *
  go_enter Tryz.func26, Tryz.ntmps26
  go_wp2_with (first
    | (go_at_call 7; refine HR.out.mono ?_; rintro e w2 ⟨rfl, hb2⟩; have HB2 := Lib.hid (on HB.out hb2); clear hb2)
    | (go_at_call 21; refine (HW.out _).mono ?_; rintro e w4 ⟨rfl, hb4⟩; have HB4 := Lib.hid (on HB2.out hb4); clear hb4))
  go_ret
  exact ⟨rfl, HB4.out⟩
end Go.Proofs.YtahljmddnfldlaaGreatDoor
namespace Go.Proofs.YtahljmddnfldlaaGreatDoor
open Go.RowKit FloM ValM Go.Shelf
set_option linter.unusedVariables false
set_option linter.unusedSimpArgs false
theorem flat_len : ∀ (l : List (List UInt8)) (B : Nat), (∀ x ∈ l, x.length ≤ B) → l.flatten.length ≤ B * l.length
  | [], B, _ => by simp
  | x :: r, B, h => by
    have h1 := flat_len r B (fun y hy => h y (by simp [hy]))
    have h2 := h x (by simp)
    rw [List.flatten_cons, List.length_append, List.length_cons, Nat.mul_succ]; omega
set_option maxRecDepth 20000 in
set_option maxHeartbeats 8000000 in
theorem text9_any (x : PgI) (W : World) (hx : x.rd W) (hok : x.ok) (tx : LtI → List UInt8) (hlit : LitP x tx W) (hlen : ∀ y ∈ x.r, ∀ z ∈ y.b, (tx z).length ≤ 70000) :
    Calls Tryz.prog 9 #[.agg #[.slice x.A x.r.length x.c, .string (bs x.q.p), .slice x.q.A x.q.a.length x.q.c]] W fun e w' => e = .returned (.string (bs (textX tx x))) ∧ Below W.heap.size W w' := by
  have hb1 : Below W.heap.size W (W.alloc (.cells #[.slice x.A x.r.length x.c, .string (bs x.q.p), .slice x.q.A x.q.a.length x.q.c] 27)) := (Below.refl _ _).alloc (Nat.le_refl _) _
  have HB := Lib.hid hb1
  have HRow := Lib.hid (row_new (t := 27) W [.slice x.A x.r.length x.c, .string (bs x.q.p), .slice x.q.A x.q.a.length x.q.c])
  have hll : ∀ y ∈ x.r, (lineX tx y).length ≤ 1000000 := fun y hy => by
    have h1 : (ruleX tx y).length ≤ 700 + (70000 + 2) * 12 := ruleT_len (headX_len (hok.1 y hy).1.2) (fun z hz => by obtain ⟨u, hu, rfl⟩ := List.mem_map.1 hz; exact hlen y hy u hu)
    have h2 := wholeX_len [ruleX tx y, [10]]
    unfold lineX; simp at h2; omega
  have HL : Hid (Calls Tryz.prog 25 #[.slice x.A x.r.length x.c, .int .i64 200, .string ⟨#[]⟩, .func (.func 26) #[] #[]] (W.alloc (.cells #[.slice x.A x.r.length x.c, .string (bs x.q.p), .slice x.q.A x.q.a.length x.q.c] 27)) fun e w' => e = .returned (.tuple #[.string (bs (listX 200 [] (x.r.map (lineX tx))).1), .bool (listX 200 [] (x.r.map (lineX tx))).2]) ∧ Below (W.alloc (.cells #[.slice x.A x.r.length x.c, .string (bs x.q.p), .slice x.q.A x.q.a.length x.q.c] 27)).heap.size (W.alloc (.cells #[.slice x.A x.r.length x.c, .string (bs x.q.p), .slice x.q.A x.q.a.length x.q.c] 27)) w') := Lib.hid (listRule_any x.A x.c x.r _ (hx.1.on hb1) (lineX tx) (fun y hy V hV => line9_any y V ((hx.2.1 y hy).on (on hb1 hV)) (hok.1 y hy) tx ((hlit y hy).on (on hb1 hV)) (fun z hz => hlen y hy z hz)) hll 200 (by decide) [] (by decide))
  have hlX : listX 200 [] (x.r.map (lineX tx)) = if 200 < (x.r.map (lineX tx)).length then ([], false) else ((x.r.map (lineX tx)).flatten, !decide ([] ∈ x.r.map (lineX tx))) := by unfold listX; rw [join_flat]
  rw [hlX] at HL
  have HA : Hid (∀ V, Below W.heap.size W V → Calls Tryz.prog 12 #[.agg #[.string (bs x.q.p), .slice x.q.A x.q.a.length x.q.c]] V fun e w' => e = .returned (.string (bs (atomX x.q))) ∧ Below V.heap.size V w') := Lib.hid fun V hV => atom9_any x.q V (AmA.rd.on hx.2.2 hV) hok.2
  have hal := headX_len (p := x.q.p) (fold := 0) hok.2.2
  have HW : Hid (∀ V, Calls Tryz.prog 21 #[.slice (some ⟨V.heap.size, 0, none⟩) 3 3] (V.alloc (.cells #[.string ⟨#[63, 45, 32]⟩, .string (bs (atomX x.q)), .string ⟨#[46, 10]⟩] 9)) fun e w' => e = .returned (.string (bs (queryX x.q))) ∧ Below V.heap.size V w') := Lib.hid fun V => whole3 V [63, 45, 32] (atomX x.q) [46, 10] (by unfold atomX; simp; omega)
  have hql : (queryX x.q).length ≤ 700 := by have h2 := wholeX_len [[63, 45, 32], atomX x.q, [46, 10]]; unfold queryX; simp at h2; unfold atomX at h2; unfold atomX; omega
  have hfl := flat_len (x.r.map (lineX tx)) 1000000 (fun y hy => by obtain ⟨z, hz, rfl⟩ := List.mem_map.1 hy; exact hll z hz)
  unfold textX
  clear hlX hb1 hx hlit hlen hok hll hal
  generalize x.r.map (lineX tx) = ts at *
  generalize queryX x.q = Q at *
  generalize atomX x.q = QA at *
  obtain ⟨A, c, r, ⟨p, Aq, cq, a⟩⟩ := x
  simp only at *
  unfold textT
  by_cases h200 : 200 < ts.length
  · rw [if_pos h200] at HL
    rw [if_pos (.inl h200)]
    clear h200 hfl
    go_enter Tryz.func9, Tryz.ntmps9
    go_upto_region 3 with (first
      | (go_at_call 25; refine HL.out.mono ?_; rintro e w2 ⟨rfl, hb2⟩; have HB2 := Lib.hid (on HB.out hb2); have s1 := (rowOn HRow.out hb2).cell 1; have s2 := (rowOn HRow.out hb2).cell 2; simp only [List.getElem?_cons_zero, List.getElem?_cons_succ] at s1 s2; clear hb2)
      | (go_at_call 12; refine (HA.out _ HB2.out).mono ?_; rintro e w3 ⟨rfl, hb3⟩; have HB3 := Lib.hid (on HB2.out hb3); clear hb3)
      | (go_at_call 21; refine (HW.out _).mono ?_; rintro e w4 ⟨rfl, hb4⟩; have HB4 := Lib.hid (on HB3.out hb4); clear hb4))
    clear HL HA HW HRow HB hql
    go_wp2
    go_ret
    exact ⟨rfl, HB4.out⟩
  · rw [if_neg h200] at HL
    by_cases hin : [] ∈ ts
    · rw [decide_eq_true hin] at HL
      rw [if_pos (.inr (.inl hin))]
      clear h200 hfl hin
      go_enter Tryz.func9, Tryz.ntmps9
      go_upto_region 3 with (first
      | (go_at_call 25; refine HL.out.mono ?_; rintro e w2 ⟨rfl, hb2⟩; have HB2 := Lib.hid (on HB.out hb2); have s1 := (rowOn HRow.out hb2).cell 1; have s2 := (rowOn HRow.out hb2).cell 2; simp only [List.getElem?_cons_zero, List.getElem?_cons_succ] at s1 s2; clear hb2)
      | (go_at_call 12; refine (HA.out _ HB2.out).mono ?_; rintro e w3 ⟨rfl, hb3⟩; have HB3 := Lib.hid (on HB2.out hb3); clear hb3)
      | (go_at_call 21; refine (HW.out _).mono ?_; rintro e w4 ⟨rfl, hb4⟩; have HB4 := Lib.hid (on HB3.out hb4); clear hb4))
      clear HL HA HW HRow HB hql
      go_wp2
      go_ret
      exact ⟨rfl, HB4.out⟩
    · rw [decide_eq_false hin] at HL
      by_cases hq : Q = []
      · rw [if_pos (.inr (.inr (.inl hq)))]
        have f2 : ((bs Q).toList == []) = true := by rw [bsl, hq]; rfl
        clear h200 hfl hin hq
        go_enter Tryz.func9, Tryz.ntmps9
        go_upto_region 3 with (first
      | (go_at_call 25; refine HL.out.mono ?_; rintro e w2 ⟨rfl, hb2⟩; have HB2 := Lib.hid (on HB.out hb2); have s1 := (rowOn HRow.out hb2).cell 1; have s2 := (rowOn HRow.out hb2).cell 2; simp only [List.getElem?_cons_zero, List.getElem?_cons_succ] at s1 s2; clear hb2)
      | (go_at_call 12; refine (HA.out _ HB2.out).mono ?_; rintro e w3 ⟨rfl, hb3⟩; have HB3 := Lib.hid (on HB2.out hb3); clear hb3)
      | (go_at_call 21; refine (HW.out _).mono ?_; rintro e w4 ⟨rfl, hb4⟩; have HB4 := Lib.hid (on HB3.out hb4); clear hb4))
        clear HL HA HW HRow HB hql
        go_wp2
        go_ret
        exact ⟨rfl, HB4.out⟩
      · have f2 : ((bs Q).toList == []) = false := by rw [bsl, beq_eq_false_iff_ne]; exact hq
        have hfl2 : ts.flatten.length ≤ 200000000 := Nat.le_trans hfl (by have := Nat.mul_le_mul (Nat.le_refl 1000000) (show ts.length ≤ 200 by omega); omega)
        have z1 : (bs ts.flatten).size = ts.flatten.length := bs_size _
        have z2 : (bs Q).size = Q.length := bs_size _
        have hw : IntKind.i64.wrap (((bs ts.flatten).size : Int) + ((bs Q).size : Int)) = ((bs ts.flatten).size : Int) + ((bs Q).size : Int) := by rw [IntKind.wrap_i64]; omega
        by_cases hlong : 20000 < ts.flatten.length + Q.length
        · rw [if_pos (.inr (.inr (.inr hlong)))]
          have hg : (20000 : Int) < ((bs ts.flatten).size : Int) + ((bs Q).size : Int) := by omega
          clear h200 hfl hin hq hlong hfl2 z1 z2
          go_enter Tryz.func9, Tryz.ntmps9
          go_upto_region 3 with (first
      | (go_at_call 25; refine HL.out.mono ?_; rintro e w2 ⟨rfl, hb2⟩; have HB2 := Lib.hid (on HB.out hb2); have s1 := (rowOn HRow.out hb2).cell 1; have s2 := (rowOn HRow.out hb2).cell 2; simp only [List.getElem?_cons_zero, List.getElem?_cons_succ] at s1 s2; clear hb2)
      | (go_at_call 12; refine (HA.out _ HB2.out).mono ?_; rintro e w3 ⟨rfl, hb3⟩; have HB3 := Lib.hid (on HB2.out hb3); clear hb3)
      | (go_at_call 21; refine (HW.out _).mono ?_; rintro e w4 ⟨rfl, hb4⟩; have HB4 := Lib.hid (on HB3.out hb4); clear hb4))
          clear HL HA HW HRow HB hql
          go_wp2
          go_ret
          exact ⟨rfl, HB4.out⟩
        · rw [if_neg (by simp only [not_or]; exact ⟨h200, hin, hq, hlong⟩)]
          have hg : ¬ (20000 : Int) < ((bs ts.flatten).size : Int) + ((bs Q).size : Int) := by omega
          have hadd := add_bs ts.flatten Q (by omega)
          clear h200 hfl hin hq hlong hfl2 z1 z2
          go_enter Tryz.func9, Tryz.ntmps9
          go_upto_region 3 with (first
      | (go_at_call 25; refine HL.out.mono ?_; rintro e w2 ⟨rfl, hb2⟩; have HB2 := Lib.hid (on HB.out hb2); have s1 := (rowOn HRow.out hb2).cell 1; have s2 := (rowOn HRow.out hb2).cell 2; simp only [List.getElem?_cons_zero, List.getElem?_cons_succ] at s1 s2; clear hb2)
      | (go_at_call 12; refine (HA.out _ HB2.out).mono ?_; rintro e w3 ⟨rfl, hb3⟩; have HB3 := Lib.hid (on HB2.out hb3); clear hb3)
      | (go_at_call 21; refine (HW.out _).mono ?_; rintro e w4 ⟨rfl, hb4⟩; have HB4 := Lib.hid (on HB3.out hb4); clear hb4))
          clear HL HA HW HRow HB hql
          go_wp2
          go_ret
          exact ⟨rfl, HB4.out⟩
set_option maxRecDepth 20000 in
set_option maxHeartbeats 4000000 in
theorem right9_any (x : PgI) (W : World) (hx : x.rd W) (hok : x.ok) (tx : LtI → List UInt8) (hlit : LitP x tx W) (hlen : ∀ y ∈ x.r, ∀ z ∈ y.b, (tx z).length ≤ 70000) :
    Calls Tryz.prog 11 #[.agg #[.slice x.A x.r.length x.c, .string (bs x.q.p), .slice x.q.A x.q.a.length x.q.c]] W fun e w' => e = .returned (.bool (decide (textX tx x ≠ []))) ∧ Below W.heap.size W w' := by
  have hb1 : Below W.heap.size W (W.alloc (.cells #[.slice x.A x.r.length x.c, .string (bs x.q.p), .slice x.q.A x.q.a.length x.q.c] 27)) := (Below.refl _ _).alloc (Nat.le_refl _) _
  have HB := Lib.hid hb1
  have HT := Lib.hid (text9_any x _ (hx.on hb1) hok tx (fun y hy => (hlit y hy).on hb1) hlen)
  clear hx hok hlit hlen hb1
  generalize textX tx x = R at *
  obtain ⟨A, c, r, ⟨p, Aq, cq, a⟩⟩ := x
  simp only at *
  by_cases h : R = []
  · have f2 : ((bs R).toList == []) = true := by rw [bsl, h]; rfl
    rw [show decide (R ≠ []) = false by simp [h]]
    clear h
    go_enter Tryz.func11, Tryz.ntmps11
    go_wp2_with (go_at_call 9; refine HT.out.mono ?_; rintro e w2 ⟨rfl, hb2⟩; have HB2 := Lib.hid (on HB.out hb2); clear hb2)
    go_ret
    exact ⟨rfl, HB2.out⟩
  · have f2 : ((bs R).toList == []) = false := by rw [bsl, beq_eq_false_iff_ne]; exact h
    rw [show decide (R ≠ []) = true by simp [h]]
    clear h
    go_enter Tryz.func11, Tryz.ntmps11
    go_wp2_with (go_at_call 9; refine HT.out.mono ?_; rintro e w2 ⟨rfl, hb2⟩; have HB2 := Lib.hid (on HB.out hb2); clear hb2)
    go_ret
    exact ⟨rfl, HB2.out⟩
end Go.Proofs.YtahljmddnfldlaaGreatDoor
namespace Go.Proofs.YtahljmddnfldlaaGreatDoor
open Go.RowKit FloM ValM Go.Shelf
set_option linter.unusedVariables false
set_option linter.unusedSimpArgs false
def awTree : PE := .bin 3 (.leaf false [97]) (.bin 4 (.leaf false [98]) (.leaf false [99]))
def awL : List SI := [(1, ⟨#[97]⟩), (1, ⟨#[98]⟩), (1, ⟨#[99]⟩), (4, ⟨#[]⟩), (3, ⟨#[]⟩)]
theorem aw9_good : awTree.good := ⟨.inl rfl, by show predL [97] = true; decide, .inr rfl, by show predL [98] = true; decide, by show predL [99] = true; decide⟩
theorem aw9_path : pathX deepT (awL.map stN) = [97, 47, 40, 98, 124, 99, 41] := by
  have e : awL.map stN = awTree.st := rfl
  rw [e, path_tree aw9_good (by decide)]
  rfl
def awA (A : Option Addr) : AmA := ⟨[113], A, 1, [⟨[88], v0⟩]⟩
theorem aw9_atom (A : Option Addr) : atomX (awA A) = [113, 40, 88, 41] := by
  show headX [113] [⟨[88], v0⟩] 0 = _
  decide
def awR (A : Option Addr) : RlI := ⟨awA A, 0, none, 0, []⟩
def awP (A : Option Addr) : PgI := ⟨none, 0, [], awA A⟩
def noT (x : LtI) : List UInt8 := []
theorem aw9_rule (A : Option Addr) : ruleX noT (awR A) = [113, 40, 88, 41, 46] := by
  have h : headX [113] [⟨[88], v0⟩] 0 = [113, 40, 88, 41] := aw9_atom A
  show ruleT (headX [113] [⟨[88], v0⟩] 0) [] = _
  rw [h]; rfl
theorem aw9_text (A : Option Addr) : textX noT (awP A) = [63, 45, 32, 113, 40, 88, 41, 46, 10] := by
  show textT [] (wholeX [[63, 45, 32], atomX (awA A), [46, 10]]) = _
  rw [aw9_atom]; rfl
theorem aw9_ok (A : Option Addr) : AmOk (awA A) := ⟨by show (1 : Nat) ≤ maxLen; unfold maxLen; decide, fun t ht => by
  have : t = ⟨[88], v0⟩ := by simpa [awA] using ht
  subst this
  exact ⟨by show (1 : Nat) ≤ maxLen; unfold maxLen; decide, by show (0 : Nat) ≤ maxLen; omega, by decide, by decide⟩⟩
theorem rdX_row {β : Type} {sz : Nat} {cl : β → List Value} {W : World} {g : Nat} {t : TypeId} {l : List β} (hs : ∀ x, (cl x).length = sz) (hl : l.length ≤ maxLen) (h : Row t W g (cellsOf cl l)) : RdX sz cl W (some ⟨g, 0, none⟩) l := ⟨hl, fun i x hx => ⟨g, 0, rfl, h.lt, fun j v hj => by rw [Nat.zero_add, h.cell]; exact cells_get hs l i x hx j v hj⟩⟩
theorem few_max {n : Nat} (h : n ≤ 1000) : n ≤ maxLen := by unfold maxLen; omega
set_option maxRecDepth 20000 in
set_option maxHeartbeats 8000000 in
theorem awake9_any (w : World) : Calls Tryz.prog 5 #[] w fun e w' => e = .returned (.bool true) ∧ Below w.heap.size w w' := by
  have f1 : ((⟨#[97, 47, 40, 98, 124, 99, 41]⟩ : ByteArray).toList == [97, 47, 40, 98, 124, 99, 41]) = true := by rw [toList_ls]; decide
  have f2 : ((⟨#[113, 40, 88, 41]⟩ : ByteArray).toList == [113, 40, 88, 41]) = true := by rw [toList_ls]; decide
  have f3 : ((⟨#[113, 40, 88, 41, 46]⟩ : ByteArray).toList == [113, 40, 88, 41, 46]) = true := by rw [toList_ls]; decide
  have f4 : ((⟨#[63, 45, 32, 113, 40, 88, 41, 46, 10]⟩ : ByteArray).toList == [63, 45, 32, 113, 40, 88, 41, 46, 10]) = true := by rw [toList_ls]; decide
  go_enter Tryz.func5, Tryz.ntmps5
  go_upto_region 3 with fail
  generalize hW1 : World.alloc w _ = W1
  generalize hW2 : World.alloc W1 _ = W2
  generalize hW3 : World.alloc W2 _ = W3
  have s1 : W1.heap.size = w.heap.size + 1 := by rw [← hW1]; simp
  have s2 : W2.heap.size = w.heap.size + 1 + 1 := by rw [← hW2]; simp [s1]
  have s3 : W3.heap.size = w.heap.size + 1 + 1 + 1 := by rw [← hW3]; simp [s2]
  have b1 : Below w.heap.size w W1 := hW1 ▸ (Below.refl _ _).alloc (Nat.le_refl _) _
  have b2 : Below W1.heap.size W1 W2 := hW2 ▸ (Below.refl _ _).alloc (Nat.le_refl _) _
  have b3 : Below W2.heap.size W2 W3 := hW3 ▸ (Below.refl _ _).alloc (Nat.le_refl _) _
  have r1 : Row 43 W1 w.heap.size (cellsOf siC awL) := by rw [← hW1]; exact row_new w _
  have r2 : Row 48 W2 (w.heap.size + 1) (cellsOf tmC [⟨[88], v0⟩]) := by rw [← hW2, ← s1]; exact row_new W1 _
  have r3 : Row 27 W3 (w.heap.size + 1 + 1) [.slice none 0 0, .string ⟨#[113]⟩, .slice (some ⟨w.heap.size + 1, 0, none⟩) 1 1] := by rw [← hW3, ← s2]; exact row_new W2 _
  have q1 := rowOn (rowOn r1 b2) b3
  have q2 := rowOn r2 b3
  have HB3 : Hid (Below w.heap.size w W3) := Lib.hid (on (on b1 b2) b3)
  have HL : Hid (RdX 2 siC W3 (some ⟨w.heap.size, 0, none⟩) awL) := Lib.hid (rdX_row (fun _ => rfl) (few_max (by decide)) q1)
  have HA : Hid ((awA (some ⟨w.heap.size + 1, 0, none⟩)).rd W3) := Lib.hid (rdX_row (cl := tmC) (l := [⟨[88], v0⟩]) (fun _ => rfl) (few_max (by decide)) q2)
  have HR3 := Lib.hid r3
  have hsz : ∀ s ∈ awL, s.2.size ≤ maxLen := fun s hs => by
    simp only [awL, List.mem_cons, List.not_mem_nil, or_false] at hs
    rcases hs with rfl | rfl | rfl | rfl | rfl <;> exact few_max (by decide)
  have HPath : Hid (∀ V, Below W3.heap.size W3 V → Calls Tryz.prog 16 #[.slice (some ⟨w.heap.size, 0, none⟩) 5 5] V fun e w' => e = .returned (.string ⟨#[97, 47, 40, 98, 124, 99, 41]⟩) ∧ Below V.heap.size V w') := Lib.hid fun V hV => by
    have h := showPath_any (some ⟨w.heap.size, 0, none⟩) 5 awL V (HL.out.on hV) hsz
    rw [aw9_path] at h; exact h
  have HRP : Hid (∀ V, Below W3.heap.size W3 V → Calls Tryz.prog 17 #[.slice (some ⟨w.heap.size, 0, none⟩) 5 5] V fun e w' => e = .returned (.bool true) ∧ Below V.heap.size V w') := Lib.hid fun V hV => by
    have h := rightPath_any (some ⟨w.heap.size, 0, none⟩) 5 awL V (HL.out.on hV) hsz
    rw [aw9_path] at h; exact h
  have hpr : ∀ V, Below W3.heap.size W3 V → (awP (some ⟨w.heap.size + 1, 0, none⟩)).rd V := fun V hV => ⟨⟨few_max (Nat.zero_le _), fun i x hx => by simp [awP] at hx⟩, fun y hy => by simp [awP] at hy, AmA.rd.on HA.out hV⟩
  have hpo : (awP (some ⟨w.heap.size + 1, 0, none⟩)).ok := ⟨fun y hy => by simp [awP] at hy, aw9_ok _⟩
  have HText : Hid (∀ V, Below W3.heap.size W3 V → Calls Tryz.prog 9 #[.agg #[.slice none 0 0, .string ⟨#[113]⟩, .slice (some ⟨w.heap.size + 1, 0, none⟩) 1 1]] V fun e w' => e = .returned (.string ⟨#[63, 45, 32, 113, 40, 88, 41, 46, 10]⟩) ∧ Below V.heap.size V w') := Lib.hid fun V hV => by
    have h := text9_any (awP (some ⟨w.heap.size + 1, 0, none⟩)) V (hpr V hV) hpo noT (fun y hy => by simp [awP] at hy) (fun y hy => by simp [awP] at hy)
    rw [aw9_text] at h; exact h
  have HRight : Hid (∀ V, Below W3.heap.size W3 V → Calls Tryz.prog 11 #[.agg #[.slice none 0 0, .string ⟨#[113]⟩, .slice (some ⟨w.heap.size + 1, 0, none⟩) 1 1]] V fun e w' => e = .returned (.bool true) ∧ Below V.heap.size V w') := Lib.hid fun V hV => by
    have h := right9_any (awP (some ⟨w.heap.size + 1, 0, none⟩)) V (hpr V hV) hpo noT (fun y hy => by simp [awP] at hy) (fun y hy => by simp [awP] at hy)
    rw [aw9_text] at h; exact h
  have HAtom : Hid (∀ V, Below W3.heap.size W3 V → Calls Tryz.prog 12 #[.agg #[.string ⟨#[113]⟩, .slice (some ⟨w.heap.size + 1, 0, none⟩) 1 1]] V fun e w' => e = .returned (.string ⟨#[113, 40, 88, 41]⟩) ∧ Below V.heap.size V w') := Lib.hid fun V hV => by
    have h := atom9_any (awA (some ⟨w.heap.size + 1, 0, none⟩)) V (AmA.rd.on HA.out hV) (aw9_ok _)
    rw [aw9_atom] at h; exact h
  have HRule : Hid (∀ V, Below W3.heap.size W3 V → Calls Tryz.prog 7 #[.agg #[.string ⟨#[113]⟩, .slice (some ⟨w.heap.size + 1, 0, none⟩) 1 1, .int .i64 0, .slice none 0 0]] V fun e w' => e = .returned (.string ⟨#[113, 40, 88, 41, 46]⟩) ∧ Below V.heap.size V w') := Lib.hid fun V hV => by
    have h := rule9_any (awR (some ⟨w.heap.size + 1, 0, none⟩)) V ⟨AmA.rd.on HA.out hV, ⟨few_max (Nat.zero_le _), fun i x hx => by simp [awR] at hx⟩, fun y hy => by simp [awR] at hy⟩ ⟨aw9_ok _, ⟨by show (-9223372036854775808 : Int) ≤ 0; omega, by show (0 : Int) < 9223372036854775808; omega⟩, fun y hy => by simp [awR] at hy⟩ noT (fun y hy => by simp [awR] at hy) (fun y hy => by simp [awR] at hy)
    rw [aw9_rule] at h; exact h
  have h4 : Below W3.heap.size W3 W3 := Below.refl _ _
  have p0 := r3.cell 0; have p1 := r3.cell 1; have p2 := r3.cell 2
  simp only [List.getElem?_cons_zero, List.getElem?_cons_succ] at p0 p1 p2
  clear hW1 hW2 hW3 b1 b2 b3 r1 r2 r3 q1 q2 s1 s2 s3 hpr hpo hsz HL HA
  go_wp2_with (first
    | (go_at_call 16; refine (HPath.out _ h4).mono ?_; rintro e w2 ⟨rfl, hb2⟩; replace h4 := on h4 hb2; replace p0 := (rowOn HR3.out h4).cell 0; replace p1 := (rowOn HR3.out h4).cell 1; replace p2 := (rowOn HR3.out h4).cell 2; simp only [List.getElem?_cons_zero, List.getElem?_cons_succ] at p0 p1 p2; clear hb2)
    | (go_at_call 17; refine (HRP.out _ h4).mono ?_; rintro e w2 ⟨rfl, hb2⟩; replace h4 := on h4 hb2; replace p0 := (rowOn HR3.out h4).cell 0; replace p1 := (rowOn HR3.out h4).cell 1; replace p2 := (rowOn HR3.out h4).cell 2; simp only [List.getElem?_cons_zero, List.getElem?_cons_succ] at p0 p1 p2; clear hb2)
    | (go_at_call 11; refine (HRight.out _ h4).mono ?_; rintro e w2 ⟨rfl, hb2⟩; replace h4 := on h4 hb2; replace p0 := (rowOn HR3.out h4).cell 0; replace p1 := (rowOn HR3.out h4).cell 1; replace p2 := (rowOn HR3.out h4).cell 2; simp only [List.getElem?_cons_zero, List.getElem?_cons_succ] at p0 p1 p2; clear hb2)
    | (go_at_call 9; refine (HText.out _ h4).mono ?_; rintro e w2 ⟨rfl, hb2⟩; replace h4 := on h4 hb2; replace p0 := (rowOn HR3.out h4).cell 0; replace p1 := (rowOn HR3.out h4).cell 1; replace p2 := (rowOn HR3.out h4).cell 2; simp only [List.getElem?_cons_zero, List.getElem?_cons_succ] at p0 p1 p2; clear hb2)
    | (go_at_call 12; refine (HAtom.out _ h4).mono ?_; rintro e w2 ⟨rfl, hb2⟩; replace h4 := on h4 hb2; replace p0 := (rowOn HR3.out h4).cell 0; replace p1 := (rowOn HR3.out h4).cell 1; replace p2 := (rowOn HR3.out h4).cell 2; simp only [List.getElem?_cons_zero, List.getElem?_cons_succ] at p0 p1 p2; clear hb2)
    | (go_at_call 7; refine (HRule.out _ h4).mono ?_; rintro e w2 ⟨rfl, hb2⟩; replace h4 := on h4 hb2; clear hb2))
  go_ret
  exact ⟨rfl, on HB3.out h4⟩
end Go.Proofs.YtahljmddnfldlaaGreatDoor

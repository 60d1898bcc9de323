/-
  Contracts of package lex: span, markSize, measure, Variable; strings.TrimPrefix.
-/
import Derived.Test.YtahljmddnfldlaaGreatDoorLexG
import Derived.Test.YtahljmddnfldlaaGreatDoorTrimLay
import Derived.Shelf.Strings.SlTrimAscii
namespace Go.Proofs.YtahljmddnfldlaaGreatDoor
open Go.RowKit FloM ValM Go.Shelf
set_option linter.unusedVariables false
set_option linter.unusedSimpArgs false

theorem all_bytes {P : UInt8 → Bool} (h : ((List.range 256).all fun n => P (UInt8.ofNat n)) = true) (c : UInt8) : P c = true := by
  have := List.all_eq_true.1 h c.toNat (List.mem_range.2 (UInt8.toNat_lt c))
  rwa [UInt8.ofNat_toNat] at this
def lowS : ByteArray := ⟨List.toArray (97 :: 98 :: 99 :: 100 :: 101 :: 102 :: 103 :: 104 :: 105 :: 106 :: 107 :: 108 :: 109 :: 110 :: 111 :: 112 :: 113 :: 114 :: 115 :: 116 :: 117 :: 118 :: 119 :: 120 :: 121 :: 122 :: [])⟩
def uppS : ByteArray := ⟨List.toArray (65 :: 66 :: 67 :: 68 :: 69 :: 70 :: 71 :: 72 :: 73 :: 74 :: 75 :: 76 :: 77 :: 78 :: 79 :: 80 :: 81 :: 82 :: 83 :: 84 :: 85 :: 86 :: 87 :: 88 :: 89 :: 90 :: [])⟩
def digS : ByteArray := ⟨List.toArray (48 :: 49 :: 50 :: 51 :: 52 :: 53 :: 54 :: 55 :: 56 :: 57 :: [])⟩
def wordS : ByteArray := ⟨List.toArray (97 :: 98 :: 99 :: 100 :: 101 :: 102 :: 103 :: 104 :: 105 :: 106 :: 107 :: 108 :: 109 :: 110 :: 111 :: 112 :: 113 :: 114 :: 115 :: 116 :: 117 :: 118 :: 119 :: 120 :: 121 :: 122 :: 48 :: 49 :: 50 :: 51 :: 52 :: 53 :: 54 :: 55 :: 56 :: 57 :: 95 :: [])⟩
def nameS : ByteArray := ⟨List.toArray (97 :: 98 :: 99 :: 100 :: 101 :: 102 :: 103 :: 104 :: 105 :: 106 :: 107 :: 108 :: 109 :: 110 :: 111 :: 112 :: 113 :: 114 :: 115 :: 116 :: 117 :: 118 :: 119 :: 120 :: 121 :: 122 :: 65 :: 66 :: 67 :: 68 :: 69 :: 70 :: 71 :: 72 :: 73 :: 74 :: 75 :: 76 :: 77 :: 78 :: 79 :: 80 :: 81 :: 82 :: 83 :: 84 :: 85 :: 86 :: 87 :: 88 :: 89 :: 90 :: 48 :: 49 :: 50 :: 51 :: 52 :: 53 :: 54 :: 55 :: 56 :: 57 :: 95 :: [])⟩
def markS : ByteArray := ⟨List.toArray (40 :: 41 :: 44 :: 46 :: 60 :: 61 :: 47 :: 124 :: 42 :: 43 :: 63 :: 94 :: [])⟩
def sepS : ByteArray := ⟨List.toArray (32 :: 9 :: 10 :: [])⟩
/-- A text's bytes are those of a kind. -/
structure SetOf (cut : ByteArray) (p : UInt8 → Bool) : Prop where
  has : ∀ c, (cut.data.toList.contains c) = p c
  few : cut.size < 4294967281
  low : ∀ (j : Nat) b, cut.data.toList[j]? = some b → b.toNat < 128
theorem set_of {cut : ByteArray} {p : UInt8 → Bool} (h : ((List.range 256).all fun n => cut.data.toList.contains (UInt8.ofNat n) == p (UInt8.ofNat n)) = true) (hf : cut.size < 4294967281) (hl : (cut.data.toList.all fun b => decide (b.toNat < 128)) = true) : SetOf cut p :=
  ⟨fun c => by have := all_bytes (P := fun c => cut.data.toList.contains c == p c) h c; simpa using this, hf, fun j b hb => by simpa using List.all_eq_true.1 hl b (List.mem_of_getElem? hb)⟩
theorem low_set : SetOf lowS lowC := set_of (by decide +kernel) (by decide) (by decide +kernel)
theorem upp_set : SetOf uppS uppC := set_of (by decide +kernel) (by decide) (by decide +kernel)
theorem dig_set : SetOf digS digC := set_of (by decide +kernel) (by decide) (by decide +kernel)
theorem word_set : SetOf wordS wordC := set_of (by decide +kernel) (by decide) (by decide +kernel)
theorem name_set : SetOf nameS nameC := set_of (by decide +kernel) (by decide) (by decide +kernel)
theorem mark_set : SetOf markS markC := set_of (by decide +kernel) (by decide) (by decide +kernel)
theorem sep_set : SetOf sepS sepC := set_of (by decide +kernel) (by decide) (by decide +kernel)
theorem drop_span (p q : UInt8 → Bool) (h : ∀ c, p c = q c) : ∀ l : List UInt8, (l.dropWhile p).length = l.length - spanL q l
  | [] => rfl
  | c :: l => by
    cases hc : q c with
    | true => rw [List.dropWhile_cons_of_pos (by rw [h]; exact hc), span_yes hc, drop_span p q h l, List.length_cons]; omega
    | false => rw [List.dropWhile_cons_of_neg (by rw [h, hc]; simp), span_no hc]; rfl
set_option maxRecDepth 20000 in
set_option maxHeartbeats 1000000 in
theorem span_any {cut : ByteArray} {p : UInt8 → Bool} (hS : SetOf cut p) (s : ByteArray) (w : World) (hs : s.size ≤ maxLen) :
    Calls Tryz.prog 79 #[.string s, .string cut] w fun e w' => e = .returned (.int .i64 (spanL p (ls s) : Nat)) ∧ Below w.heap.size w w' := by
  have hcon := Any.strings_TrimLeft_laid Tryz.trimL (by kernel_rfl) s cut w hS.few hS.low
  change Calls Tryz.prog 101 _ _ (fun e w' => e = .returned (.string ⟨(Lib.trimLeftS s.data.toList cut.data.toList).toArray⟩) ∧ Below w.heap.size w w') at hcon
  have hl : (⟨(Lib.trimLeftS s.data.toList cut.data.toList).toArray⟩ : ByteArray).size = s.size - spanL p (ls s) := by
    show (Lib.trimLeftS s.data.toList cut.data.toList).toArray.size = _
    rw [List.size_toArray]
    unfold Lib.trimLeftS
    rw [drop_span _ p hS.has]; rfl
  have hle := span_le p (ls s)
  rw [ls_len] at hle
  unfold maxLen at hs
  generalize (⟨(Lib.trimLeftS s.data.toList cut.data.toList).toArray⟩ : ByteArray) = r at hcon hl
  generalize spanL p (ls s) = n at hl hle ⊢
  go_enter Tryz.func79, Tryz.ntmps79
  go_wp2_with (go_at_call 101; refine hcon.mono ?_; rintro e w' ⟨rfl, hB⟩)
  go_ret
  exact ⟨ret_int (by go_num), hB⟩

theorem spLow (s : ByteArray) (w : World) (hs : s.size ≤ maxLen) : Calls Tryz.prog 79 #[.string s, .string ⟨List.toArray (97 :: 98 :: 99 :: 100 :: 101 :: 102 :: 103 :: 104 :: 105 :: 106 :: 107 :: 108 :: 109 :: 110 :: 111 :: 112 :: 113 :: 114 :: 115 :: 116 :: 117 :: 118 :: 119 :: 120 :: 121 :: 122 :: [])⟩] w fun e w' => e = .returned (.int .i64 (spanL lowC (ls s) : Nat)) ∧ Below w.heap.size w w' := span_any low_set s w hs
theorem spUpp (s : ByteArray) (w : World) (hs : s.size ≤ maxLen) : Calls Tryz.prog 79 #[.string s, .string ⟨List.toArray (65 :: 66 :: 67 :: 68 :: 69 :: 70 :: 71 :: 72 :: 73 :: 74 :: 75 :: 76 :: 77 :: 78 :: 79 :: 80 :: 81 :: 82 :: 83 :: 84 :: 85 :: 86 :: 87 :: 88 :: 89 :: 90 :: [])⟩] w fun e w' => e = .returned (.int .i64 (spanL uppC (ls s) : Nat)) ∧ Below w.heap.size w w' := span_any upp_set s w hs
theorem spDig (s : ByteArray) (w : World) (hs : s.size ≤ maxLen) : Calls Tryz.prog 79 #[.string s, .string ⟨List.toArray (48 :: 49 :: 50 :: 51 :: 52 :: 53 :: 54 :: 55 :: 56 :: 57 :: [])⟩] w fun e w' => e = .returned (.int .i64 (spanL digC (ls s) : Nat)) ∧ Below w.heap.size w w' := span_any dig_set s w hs
theorem spWord (s : ByteArray) (w : World) (hs : s.size ≤ maxLen) : Calls Tryz.prog 79 #[.string s, .string ⟨List.toArray (97 :: 98 :: 99 :: 100 :: 101 :: 102 :: 103 :: 104 :: 105 :: 106 :: 107 :: 108 :: 109 :: 110 :: 111 :: 112 :: 113 :: 114 :: 115 :: 116 :: 117 :: 118 :: 119 :: 120 :: 121 :: 122 :: 48 :: 49 :: 50 :: 51 :: 52 :: 53 :: 54 :: 55 :: 56 :: 57 :: 95 :: [])⟩] w fun e w' => e = .returned (.int .i64 (spanL wordC (ls s) : Nat)) ∧ Below w.heap.size w w' := span_any word_set s w hs
theorem spName (s : ByteArray) (w : World) (hs : s.size ≤ maxLen) : Calls Tryz.prog 79 #[.string s, .string ⟨List.toArray (97 :: 98 :: 99 :: 100 :: 101 :: 102 :: 103 :: 104 :: 105 :: 106 :: 107 :: 108 :: 109 :: 110 :: 111 :: 112 :: 113 :: 114 :: 115 :: 116 :: 117 :: 118 :: 119 :: 120 :: 121 :: 122 :: 65 :: 66 :: 67 :: 68 :: 69 :: 70 :: 71 :: 72 :: 73 :: 74 :: 75 :: 76 :: 77 :: 78 :: 79 :: 80 :: 81 :: 82 :: 83 :: 84 :: 85 :: 86 :: 87 :: 88 :: 89 :: 90 :: 48 :: 49 :: 50 :: 51 :: 52 :: 53 :: 54 :: 55 :: 56 :: 57 :: 95 :: [])⟩] w fun e w' => e = .returned (.int .i64 (spanL nameC (ls s) : Nat)) ∧ Below w.heap.size w w' := span_any name_set s w hs
theorem spSep (s : ByteArray) (w : World) (hs : s.size ≤ maxLen) : Calls Tryz.prog 79 #[.string s, .string ⟨List.toArray (32 :: 9 :: 10 :: [])⟩] w fun e w' => e = .returned (.int .i64 (spanL sepC (ls s) : Nat)) ∧ Below w.heap.size w w' := span_any sep_set s w hs

/-! ### markSize -/
theorem beq_list (u : ByteArray) (l : List UInt8) : (u.toList == l) = decide (ls u = l) := by
  rw [toList_ls, Bool.eq_iff_iff]; simp
theorem two_iff (s : ByteArray) : two (ls s) = (((s.extract 0 (min 2 s.size)).toList == [60, 61]) || ((s.extract 0 (min 2 s.size)).toList == [33, 61]) || ((s.extract 0 (min 2 s.size)).toList == [58, 45]) || ((s.extract 0 (min 2 s.size)).toList == [63, 45])) := by
  have e : ls (s.extract 0 (min 2 s.size)) = (ls s).take 2 := by
    rw [ls_extract, List.drop_zero, Nat.sub_zero]
    rcases Nat.le_total 2 s.size with h | h
    · rw [Nat.min_eq_left h]
    · rw [Nat.min_eq_right h, List.take_of_length_le (by rw [ls_len]; exact Nat.le_refl _), List.take_of_length_le (by rw [ls_len]; exact h)]
  simp only [beq_list, e]
  have ub : ∀ (a : UInt8) (k : Nat), k < 256 → ((a.toNat = k) = (a = UInt8.ofNat k)) := fun a k hk => by
    rw [eq_iff_iff]; constructor
    · intro h; rw [← h, UInt8.ofNat_toNat]
    · intro h; rw [h]; simp; omega
  match ls s with
  | [] => rfl
  | [a] => simp [two]
  | a :: b :: r =>
    simp only [two, List.take_succ_cons, List.take_zero, List.cons.injEq, and_true]
    rw [Bool.eq_iff_iff]
    simp only [Bool.or_eq_true, decide_eq_true_eq, or_assoc]
    simp only [ub a 60 (by omega), ub b 61 (by omega), ub a 33 (by omega), ub a 58 (by omega), ub b 45 (by omega), ub a 63 (by omega)]
    rfl
set_option maxRecDepth 20000 in
set_option maxHeartbeats 4000000 in
theorem markSize_any (s : ByteArray) (w : World) (hs : s.size ≤ maxLen) :
    Calls Tryz.prog 121 #[.string s] w fun e w' => e = .returned (.int .i64 (markL (ls s) : Nat)) ∧ Below w.heap.size w w' := by
  have hB := Below.refl w.heap.size w
  have HSP : Hid (∀ W, Calls Tryz.prog 79 #[.string s, .string ⟨List.toArray (40 :: 41 :: 44 :: 46 :: 60 :: 61 :: 47 :: 124 :: 42 :: 43 :: 63 :: 94 :: [])⟩] W fun e w' => e = .returned (.int .i64 (spanL markC (ls s) : Nat)) ∧ Below W.heap.size W w') := Lib.hid fun W => span_any mark_set s W hs
  have hm : markL (ls s) = if two (ls s) then 2 else min 1 (spanL markC (ls s)) := rfl
  rw [two_iff] at hm
  obtain ⟨m, hM⟩ : ∃ m, markL (ls s) = m := ⟨_, rfl⟩
  rw [hM] at hm ⊢
  clear hM
  generalize spanL markC (ls s) = n at HSP hm
  unfold maxLen at hs
  obtain ⟨u, hu⟩ : ∃ u, s.extract 0 (min 2 s.size) = u := ⟨_, rfl⟩
  rw [hu] at hm
  have HM := Lib.hid hm; clear hm
  obtain ⟨k, hk, hmn⟩ : ∃ k : Nat, min 2 s.size = k ∧ min (2 : Int) (s.size : Int) = (k : Int) := ⟨_, rfl, by omega⟩
  have hks : k ≤ s.size := by omega
  rw [hk] at hu
  clear hk
  have fin : ∀ b : Bool, b = ((u.toList == [60, 61]) || (u.toList == [33, 61]) || (u.toList == [58, 45]) || (u.toList == [63, 45])) → m = if b = true then 2 else min 1 n := fun b hb => by rw [hb]; exact HM.out
  clear HM
  cases h1 : (u.toList == [60, 61]) <;> cases h2 : (u.toList == [33, 61]) <;> cases h3 : (u.toList == [58, 45]) <;> cases h4 : (u.toList == [63, 45])
  all_goals
    have hf := fin _ rfl
    rw [h1, h2, h3, h4] at hf
    have HF := Lib.hid hf
    clear hf fin
    go_enter Tryz.func121, Tryz.ntmps121
    go_wp2_with (go_at_call 79; refine (HSP.out _).mono ?_; rintro e w' ⟨rfl, hb⟩)
    go_ret
    first
      | exact ⟨ret_int (by rw [HF.out]; simp), hB⟩
      | exact ⟨ret_int (by rw [HF.out]; simp; omega), hb⟩

/-! ### strings.TrimPrefix -/
set_option maxRecDepth 20000 in
set_option maxHeartbeats 400000 in
theorem trimPreL_any (s p : ByteArray) (w : World) : Calls Tryz.prog 133 #[.string s, .string p] w fun e w' => e = .returned (.string (if hasP s p then s.extract p.size s.size else s)) ∧ w = w' := by
  cases h : hasP s p with
  | true =>
    have hp := hasP_le h
    rw [if_pos rfl]
    go_enter Tryz.func133, Tryz.ntmps133
    go_wp2_with (go_at_call 140; refine (hasP_any _ _ _).mono ?_; rintro e w' ⟨rfl, rfl⟩)
    go_ret
    exact ⟨rfl, rfl⟩
  | false =>
    rw [if_neg (by simp)]
    go_enter Tryz.func133, Tryz.ntmps133
    go_wp2_with (go_at_call 140; refine (hasP_any _ _ _).mono ?_; rintro e w' ⟨rfl, rfl⟩)
    go_ret
    exact ⟨rfl, rfl⟩
set_option maxRecDepth 20000 in
set_option maxHeartbeats 400000 in
theorem trimPre_any (s p : ByteArray) (w : World) : Calls Tryz.prog 120 #[.string s, .string p] w fun e w' => e = .returned (.string (if hasP s p then s.extract p.size s.size else s)) ∧ w = w' := by
  generalize hr : (if hasP s p then s.extract p.size s.size else s) = r
  go_enter Tryz.func120, Tryz.ntmps120
  go_wp2_with (go_at_call 133; refine (trimPreL_any _ _ _).mono ?_; rintro e w' ⟨rfl, rfl⟩; rw [hr])
  go_ret
  exact ⟨rfl, rfl⟩
theorem trimSign_any (s : ByteArray) (w : World) : Calls Tryz.prog 120 #[.string s, .string ⟨#[45]⟩] w fun e w' => ∃ t : ByteArray, e = .returned (.string t) ∧ (s.size : Int) - (t.size : Int) = (signL (ls s) : Nat) ∧ w = w' := by
  refine (trimPre_any s ⟨#[45]⟩ w).mono ?_
  rintro e w' ⟨rfl, rfl⟩
  refine ⟨_, rfl, ?_, rfl⟩
  cases hl : ls s with
  | nil =>
    rw [hasP_none (by rw [hl]; intro r e; cases e), if_neg (by simp)]; simp [signL]
  | cons c r =>
    have hsz : s.size = r.length + 1 := by rw [← ls_len, hl, List.length_cons]
    by_cases hc : c.toNat = 45
    · have e : c = 45 := by rw [← UInt8.ofNat_toNat (x := c), hc]; rfl
      subst e
      rw [hasP_one (u := bs r) (by rw [hl, ls_bs]), if_pos rfl]
      have hx : (s.extract 1 s.size).size = r.length := by rw [← ls_len, extract_tail, hl]; rfl
      show (s.size : Int) - ((s.extract 1 s.size).size : Int) = _
      rw [hx, hsz]; simp [signL]; omega
    · rw [hasP_none (c := 45) (by rw [hl]; intro r' e; injection e with e _; rw [e] at hc; exact hc rfl), if_neg (by simp)]
      simp [signL, hc]

/-! ### measure -/
set_option maxRecDepth 20000 in
set_option maxHeartbeats 4000000 in
theorem measure_any (s : ByteArray) (w : World) (hs : s.size ≤ maxLen) (hp : 0 < s.size) :
    Calls Tryz.prog 102 #[.string s] w fun e w' => e = .returned (.tuple #[.int .i64 ((measL (ls s)).1 : Nat), .int .i64 ((measL (ls s)).2 : Nat)]) ∧ Below w.heap.size w w' := by
  have hB := Below.refl w.heap.size w
  have HS := Lib.hid hs
  obtain ⟨c, r, hl⟩ : ∃ c r, ls s = c :: r := by
    cases h : ls s with
    | nil => rw [← ls_len, h] at hp; simp at hp
    | cons c r => exact ⟨c, r, rfl⟩
  obtain ⟨hp', hc0⟩ := first_of hl
  have hm : measL (ls s) = if 0 < spanL lowC (ls s) then (1, spanL wordC (ls s)) else if 0 < spanL uppC (ls s) then (2, spanL nameC (ls s)) else if c.toNat = 35 then (3, 1 + spanL nameC r) else if 0 < spanL digC ((ls s).drop (signL (ls s))) then (3, signL (ls s) + spanL nameC ((ls s).drop (signL (ls s)))) else (4, markL (ls s)) := by rw [hl]; rfl
  have hsg := sign_le (ls s)
  have hr1 : ls (s.extract 1 s.size) = r := by rw [extract_tail, hl]; rfl
  have hrg : ls (s.extract (signL (ls s)) s.size) = (ls s).drop (signL (ls s)) := extract_tail _ _
  have hgl : signL (ls s) ≤ s.size := by omega
  have HT : Hid (∀ W, Calls Tryz.prog 120 #[.string s, .string ⟨#[45]⟩] W fun e w' => ∃ t : ByteArray, e = .returned (.string t) ∧ (s.size : Int) - (t.size : Int) = (signL (ls s) : Nat) ∧ W = w') := Lib.hid fun W => trimSign_any s W
  have HMK : Hid (∀ W, Calls Tryz.prog 121 #[.string s] W fun e w' => e = .returned (.int .i64 (markL (ls s) : Nat)) ∧ Below W.heap.size W w') := Lib.hid fun W => markSize_any s W hs
  have H1 : Hid (∀ W, Calls Tryz.prog 79 #[.string s, .string ⟨List.toArray (97 :: 98 :: 99 :: 100 :: 101 :: 102 :: 103 :: 104 :: 105 :: 106 :: 107 :: 108 :: 109 :: 110 :: 111 :: 112 :: 113 :: 114 :: 115 :: 116 :: 117 :: 118 :: 119 :: 120 :: 121 :: 122 :: [])⟩] W fun e w' => e = .returned (.int .i64 (spanL lowC (ls s) : Nat)) ∧ Below W.heap.size W w') := Lib.hid fun W => spLow s W hs
  have H2 : Hid (∀ W, Calls Tryz.prog 79 #[.string s, .string ⟨List.toArray (97 :: 98 :: 99 :: 100 :: 101 :: 102 :: 103 :: 104 :: 105 :: 106 :: 107 :: 108 :: 109 :: 110 :: 111 :: 112 :: 113 :: 114 :: 115 :: 116 :: 117 :: 118 :: 119 :: 120 :: 121 :: 122 :: 48 :: 49 :: 50 :: 51 :: 52 :: 53 :: 54 :: 55 :: 56 :: 57 :: 95 :: [])⟩] W fun e w' => e = .returned (.int .i64 (spanL wordC (ls s) : Nat)) ∧ Below W.heap.size W w') := Lib.hid fun W => spWord s W hs
  have H3 : Hid (∀ W, Calls Tryz.prog 79 #[.string s, .string ⟨List.toArray (65 :: 66 :: 67 :: 68 :: 69 :: 70 :: 71 :: 72 :: 73 :: 74 :: 75 :: 76 :: 77 :: 78 :: 79 :: 80 :: 81 :: 82 :: 83 :: 84 :: 85 :: 86 :: 87 :: 88 :: 89 :: 90 :: [])⟩] W fun e w' => e = .returned (.int .i64 (spanL uppC (ls s) : Nat)) ∧ Below W.heap.size W w') := Lib.hid fun W => spUpp s W hs
  have H4 : Hid (∀ W, Calls Tryz.prog 79 #[.string s, .string ⟨List.toArray (97 :: 98 :: 99 :: 100 :: 101 :: 102 :: 103 :: 104 :: 105 :: 106 :: 107 :: 108 :: 109 :: 110 :: 111 :: 112 :: 113 :: 114 :: 115 :: 116 :: 117 :: 118 :: 119 :: 120 :: 121 :: 122 :: 65 :: 66 :: 67 :: 68 :: 69 :: 70 :: 71 :: 72 :: 73 :: 74 :: 75 :: 76 :: 77 :: 78 :: 79 :: 80 :: 81 :: 82 :: 83 :: 84 :: 85 :: 86 :: 87 :: 88 :: 89 :: 90 :: 48 :: 49 :: 50 :: 51 :: 52 :: 53 :: 54 :: 55 :: 56 :: 57 :: 95 :: [])⟩] W fun e w' => e = .returned (.int .i64 (spanL nameC (ls s) : Nat)) ∧ Below W.heap.size W w') := Lib.hid fun W => spName s W hs
  obtain ⟨u1, hu1⟩ : ∃ u, s.extract 1 s.size = u := ⟨_, rfl⟩
  obtain ⟨ug, hug⟩ : ∃ u, s.extract (signL (ls s)) s.size = u := ⟨_, rfl⟩
  have hs1 : u1.size ≤ maxLen := by
    rw [← hu1, ← ls_len, extract_tail, List.length_drop, ls_len]; unfold maxLen at hs ⊢; omega
  have hsg' : ug.size ≤ maxLen := by
    rw [← hug, ← ls_len, extract_tail, List.length_drop, ls_len]; unfold maxLen at hs ⊢; omega
  have hb1 := span_le nameC (ls u1)
  have hbg := span_le nameC (ls ug)
  rw [ls_len] at hb1 hbg
  have H5 : Hid (∀ W, Calls Tryz.prog 79 #[.string u1, .string ⟨List.toArray (97 :: 98 :: 99 :: 100 :: 101 :: 102 :: 103 :: 104 :: 105 :: 106 :: 107 :: 108 :: 109 :: 110 :: 111 :: 112 :: 113 :: 114 :: 115 :: 116 :: 117 :: 118 :: 119 :: 120 :: 121 :: 122 :: 65 :: 66 :: 67 :: 68 :: 69 :: 70 :: 71 :: 72 :: 73 :: 74 :: 75 :: 76 :: 77 :: 78 :: 79 :: 80 :: 81 :: 82 :: 83 :: 84 :: 85 :: 86 :: 87 :: 88 :: 89 :: 90 :: 48 :: 49 :: 50 :: 51 :: 52 :: 53 :: 54 :: 55 :: 56 :: 57 :: 95 :: [])⟩] W fun e w' => e = .returned (.int .i64 (spanL nameC (ls u1) : Nat)) ∧ Below W.heap.size W w') := Lib.hid fun W => spName u1 W hs1
  have H6 : Hid (∀ W, Calls Tryz.prog 79 #[.string ug, .string ⟨List.toArray (48 :: 49 :: 50 :: 51 :: 52 :: 53 :: 54 :: 55 :: 56 :: 57 :: [])⟩] W fun e w' => e = .returned (.int .i64 (spanL digC (ls ug) : Nat)) ∧ Below W.heap.size W w') := Lib.hid fun W => spDig ug W hsg'
  have H7 : Hid (∀ W, Calls Tryz.prog 79 #[.string ug, .string ⟨List.toArray (97 :: 98 :: 99 :: 100 :: 101 :: 102 :: 103 :: 104 :: 105 :: 106 :: 107 :: 108 :: 109 :: 110 :: 111 :: 112 :: 113 :: 114 :: 115 :: 116 :: 117 :: 118 :: 119 :: 120 :: 121 :: 122 :: 65 :: 66 :: 67 :: 68 :: 69 :: 70 :: 71 :: 72 :: 73 :: 74 :: 75 :: 76 :: 77 :: 78 :: 79 :: 80 :: 81 :: 82 :: 83 :: 84 :: 85 :: 86 :: 87 :: 88 :: 89 :: 90 :: 48 :: 49 :: 50 :: 51 :: 52 :: 53 :: 54 :: 55 :: 56 :: 57 :: 95 :: [])⟩] W fun e w' => e = .returned (.int .i64 (spanL nameC (ls ug) : Nat)) ∧ Below W.heap.size W w') := Lib.hid fun W => spName ug W hsg'
  rw [hu1] at hr1
  rw [hug] at hrg
  rw [← hr1, ← hrg] at hm
  clear hr1 hrg
  obtain ⟨M, hM⟩ : ∃ M, measL (ls s) = M := ⟨_, rfl⟩
  rw [hM] at hm ⊢
  clear hM hl
  have hl1 : u1.size + 1 = s.size := by rw [← hu1]; simp; omega
  have hlg : signL (ls s) + ug.size = s.size := by rw [← hug]; simp; omega
  generalize signL (ls s) = g at *
  generalize spanL lowC (ls s) = n1 at *
  generalize spanL wordC (ls s) = n2 at *
  generalize spanL uppC (ls s) = n3 at *
  generalize spanL nameC (ls s) = n4 at *
  generalize spanL nameC (ls u1) = n5 at *
  generalize spanL digC (ls ug) = n6 at *
  generalize spanL nameC (ls ug) = n7 at *
  generalize markL (ls s) = n8 at *
  unfold maxLen at hs
  have h35 := byte_eq (c := c) (d := 35) 35 rfl
  have hcc : (c.toNat = 35) = (c = 35) := by
    rw [eq_iff_iff]; constructor
    · intro h; rw [← UInt8.ofNat_toNat (x := c), h]; rfl
    · intro h; rw [h]; rfl
  rw [← hc0] at h35 hcc hm
  have HCC := Lib.hid hcc; clear hcc hc0 hs1 hsg'
  have HM := Lib.hid hm; clear hm
  by_cases k1 : 0 < (n1 : Int)
  · go_enter Tryz.func102, Tryz.ntmps102
    go_wp2_with (first | (go_at_call 120; refine (HT.out _).mono ?_; rintro e w1 ⟨t, rfl, hts, rfl⟩) | (go_at_call 121; refine (HMK.out _).mono ?_; rintro e w1 ⟨rfl, hb⟩; replace hB := on hB hb; clear hb) | (go_at_call 79; first | ((with_reducible refine (H1.out _).mono ?_); rintro e w1 ⟨rfl, hb⟩; replace hB := on hB hb; clear hb) | ((with_reducible refine (H2.out _).mono ?_); rintro e w1 ⟨rfl, hb⟩; replace hB := on hB hb; clear hb) | ((with_reducible refine (H3.out _).mono ?_); rintro e w1 ⟨rfl, hb⟩; replace hB := on hB hb; clear hb) | ((with_reducible refine (H4.out _).mono ?_); rintro e w1 ⟨rfl, hb⟩; replace hB := on hB hb; clear hb) | ((with_reducible refine (H5.out _).mono ?_); rintro e w1 ⟨rfl, hb⟩; replace hB := on hB hb; clear hb) | ((with_reducible refine (H6.out _).mono ?_); rintro e w1 ⟨rfl, hb⟩; replace hB := on hB hb; clear hb) | ((with_reducible refine (H7.out _).mono ?_); rintro e w1 ⟨rfl, hb⟩; replace hB := on hB hb; clear hb)))
    go_ret2
    refine ⟨?_, hB⟩
    rw [HM.out, if_pos (by omega)]; rfl
  by_cases k3 : 0 < (n3 : Int)
  · go_enter Tryz.func102, Tryz.ntmps102
    go_wp2_with (first | (go_at_call 120; refine (HT.out _).mono ?_; rintro e w1 ⟨t, rfl, hts, rfl⟩) | (go_at_call 121; refine (HMK.out _).mono ?_; rintro e w1 ⟨rfl, hb⟩; replace hB := on hB hb; clear hb) | (go_at_call 79; first | ((with_reducible refine (H1.out _).mono ?_); rintro e w1 ⟨rfl, hb⟩; replace hB := on hB hb; clear hb) | ((with_reducible refine (H2.out _).mono ?_); rintro e w1 ⟨rfl, hb⟩; replace hB := on hB hb; clear hb) | ((with_reducible refine (H3.out _).mono ?_); rintro e w1 ⟨rfl, hb⟩; replace hB := on hB hb; clear hb) | ((with_reducible refine (H4.out _).mono ?_); rintro e w1 ⟨rfl, hb⟩; replace hB := on hB hb; clear hb) | ((with_reducible refine (H5.out _).mono ?_); rintro e w1 ⟨rfl, hb⟩; replace hB := on hB hb; clear hb) | ((with_reducible refine (H6.out _).mono ?_); rintro e w1 ⟨rfl, hb⟩; replace hB := on hB hb; clear hb) | ((with_reducible refine (H7.out _).mono ?_); rintro e w1 ⟨rfl, hb⟩; replace hB := on hB hb; clear hb)))
    go_ret2
    refine ⟨?_, hB⟩
    rw [HM.out, if_neg (by omega), if_pos (by omega)]; rfl
  by_cases k35 : s[0] = 35
  · rw [decide_eq_true k35] at h35
    go_enter Tryz.func102, Tryz.ntmps102
    go_wp2_with (first | (go_at_call 120; refine (HT.out _).mono ?_; rintro e w1 ⟨t, rfl, hts, rfl⟩) | (go_at_call 121; refine (HMK.out _).mono ?_; rintro e w1 ⟨rfl, hb⟩; replace hB := on hB hb; clear hb) | (go_at_call 79; first | ((with_reducible refine (H1.out _).mono ?_); rintro e w1 ⟨rfl, hb⟩; replace hB := on hB hb; clear hb) | ((with_reducible refine (H2.out _).mono ?_); rintro e w1 ⟨rfl, hb⟩; replace hB := on hB hb; clear hb) | ((with_reducible refine (H3.out _).mono ?_); rintro e w1 ⟨rfl, hb⟩; replace hB := on hB hb; clear hb) | ((with_reducible refine (H4.out _).mono ?_); rintro e w1 ⟨rfl, hb⟩; replace hB := on hB hb; clear hb) | ((with_reducible refine (H5.out _).mono ?_); rintro e w1 ⟨rfl, hb⟩; replace hB := on hB hb; clear hb) | ((with_reducible refine (H6.out _).mono ?_); rintro e w1 ⟨rfl, hb⟩; replace hB := on hB hb; clear hb) | ((with_reducible refine (H7.out _).mono ?_); rintro e w1 ⟨rfl, hb⟩; replace hB := on hB hb; clear hb)))
    go_ret2
    refine ⟨?_, hB⟩
    rw [HM.out, if_neg (by omega), if_neg (by omega)]
    simp only [HCC.out, k35, if_true]
    first | rfl | (congr 1; go_num)
  rw [decide_eq_false k35] at h35
  by_cases k6 : 0 < (n6 : Int)
  · go_enter Tryz.func102, Tryz.ntmps102
    go_wp2_with (first | (go_at_call 120; refine (HT.out _).mono ?_; rintro e w1 ⟨t, rfl, hts, rfl⟩) | (go_at_call 121; refine (HMK.out _).mono ?_; rintro e w1 ⟨rfl, hb⟩; replace hB := on hB hb; clear hb) | (go_at_call 79; first | ((with_reducible refine (H1.out _).mono ?_); rintro e w1 ⟨rfl, hb⟩; replace hB := on hB hb; clear hb) | ((with_reducible refine (H2.out _).mono ?_); rintro e w1 ⟨rfl, hb⟩; replace hB := on hB hb; clear hb) | ((with_reducible refine (H3.out _).mono ?_); rintro e w1 ⟨rfl, hb⟩; replace hB := on hB hb; clear hb) | ((with_reducible refine (H4.out _).mono ?_); rintro e w1 ⟨rfl, hb⟩; replace hB := on hB hb; clear hb) | ((with_reducible refine (H5.out _).mono ?_); rintro e w1 ⟨rfl, hb⟩; replace hB := on hB hb; clear hb) | ((with_reducible refine (H6.out _).mono ?_); rintro e w1 ⟨rfl, hb⟩; replace hB := on hB hb; clear hb) | ((with_reducible refine (H7.out _).mono ?_); rintro e w1 ⟨rfl, hb⟩; replace hB := on hB hb; clear hb)))
    go_ret2
    refine ⟨?_, hB⟩
    rw [HM.out, if_neg (by omega), if_neg (by omega)]
    simp only [HCC.out, k35, if_false]
    rw [if_pos (by omega)]
    first | rfl | (congr 1; go_num)
  · go_enter Tryz.func102, Tryz.ntmps102
    go_wp2_with (first | (go_at_call 120; refine (HT.out _).mono ?_; rintro e w1 ⟨t, rfl, hts, rfl⟩) | (go_at_call 121; refine (HMK.out _).mono ?_; rintro e w1 ⟨rfl, hb⟩; replace hB := on hB hb; clear hb) | (go_at_call 79; first | ((with_reducible refine (H1.out _).mono ?_); rintro e w1 ⟨rfl, hb⟩; replace hB := on hB hb; clear hb) | ((with_reducible refine (H2.out _).mono ?_); rintro e w1 ⟨rfl, hb⟩; replace hB := on hB hb; clear hb) | ((with_reducible refine (H3.out _).mono ?_); rintro e w1 ⟨rfl, hb⟩; replace hB := on hB hb; clear hb) | ((with_reducible refine (H4.out _).mono ?_); rintro e w1 ⟨rfl, hb⟩; replace hB := on hB hb; clear hb) | ((with_reducible refine (H5.out _).mono ?_); rintro e w1 ⟨rfl, hb⟩; replace hB := on hB hb; clear hb) | ((with_reducible refine (H6.out _).mono ?_); rintro e w1 ⟨rfl, hb⟩; replace hB := on hB hb; clear hb) | ((with_reducible refine (H7.out _).mono ?_); rintro e w1 ⟨rfl, hb⟩; replace hB := on hB hb; clear hb)))
    go_ret2
    refine ⟨?_, hB⟩
    rw [HM.out, if_neg (by omega), if_neg (by omega)]
    simp only [HCC.out, k35, if_false]
    rw [if_neg (by omega)]; rfl
end Go.Proofs.YtahljmddnfldlaaGreatDoor

/-
  Contracts of value.readInt and value.readFlo.
-/
import Derived.Test.YtncafadjcelloaaDoorValCut
import Derived.Test.YtncafadjcelloaaDoorValBase
namespace Go.Proofs.YtncafadjcelloaaDoor
open Go.RowKit FloM ValM

/-! ### A prefix of one byte -/
theorem ls_extract (s : ByteArray) (a b : Nat) : ls (s.extract a b) = ((ls s).drop a).take (b - a) := by
  simp [ls, ByteArray.data_extract]
theorem extract_tail (s : ByteArray) (a : Nat) : ls (s.extract a s.size) = (ls s).drop a := by
  rw [ls_extract]; exact List.take_of_length_le (by rw [List.length_drop, ls_len]; omega)
theorem size_cons {s u : ByteArray} {c : UInt8} (h : ls s = c :: ls u) : s.size = u.size + 1 := by rw [← ls_len, h, List.length_cons, ls_len]
theorem hasP_one {s u : ByteArray} {c : UInt8} (h : ls s = c :: ls u) : hasP s ⟨#[c]⟩ = true := by
  have hsz := size_cons h
  unfold hasP
  rw [decide_eq_true (show (ByteArray.mk #[c]).size ≤ s.size by show 1 ≤ s.size; omega), toList_ls, toList_ls, ls_extract, h]
  simp [ls, ByteArray.size]
theorem tail_one {s u : ByteArray} {c : UInt8} (h : ls s = c :: ls u) : s.extract 1 s.size = u := by
  apply ls_inj
  rw [extract_tail, h]; rfl
theorem hasP_none {s : ByteArray} {c : UInt8} (h : ∀ r, ls s ≠ c :: r) : hasP s ⟨#[c]⟩ = false := by
  cases e : ls s with
  | nil =>
    unfold hasP
    have : s.size = 0 := by rw [← ls_len, e]; rfl
    rw [decide_eq_false (show ¬ (ByteArray.mk #[c]).size ≤ s.size by show ¬ 1 ≤ s.size; omega)]; rfl
  | cons d r =>
    have hd : d ≠ c := fun hd => h r (by rw [e, hd])
    unfold hasP
    have : ((List.drop 0 (d :: r)).take ((ByteArray.mk #[c]).size - 0) == ls ⟨#[c]⟩) = false := by
      show ([d] == [c]) = false
      simp [hd]
    rw [toList_ls, toList_ls, ls_extract, e, this, Bool.and_false]
theorem cut1_yes (s u : ByteArray) (c : UInt8) (w : World) (h : ls s = c :: ls u) : Calls Tryd.prog 123 #[.string s, .string ⟨#[c]⟩] w fun e w' => e = .returned (.tuple #[.string u, .bool true]) ∧ w = w' := by
  have := cut_yes s ⟨#[c]⟩ w (hasP_one h)
  rw [show (ByteArray.mk #[c]).size = 1 from rfl, tail_one h] at this
  exact this

/-! ### readInt -/
def readIntL (l : List UInt8) : Option Int :=
  match l with
  | [] => none
  | c :: r =>
    if c = 45 then
      match r with
      | [] => none
      | d :: q => if d = 48 then none else if digOk 10 9223372036854775808 (d :: q) then some (-(numOf 10 (d :: q) : Int)) else none
    else if c = 48 ∧ r ≠ [] then none else if digOk 10 9223372036854775807 (c :: r) then some (numOf 10 (c :: r) : Int) else none
def TellsInt (o : Option Int) (w : World) (e : Ending) (w' : World) : Prop :=
  ∃ n : Int, e = .returned (.tuple #[.int .i64 n, .bool o.isSome]) ∧ (∀ m, o = some m → n = m) ∧ w = w'
theorem TellsInt.bad {w : World} {n : Int} {o : Option Int} (h : o = none) : TellsInt o w (.returned (.tuple #[.int .i64 n, .bool false])) w := by
  subst h; exact ⟨n, rfl, (fun _ h => by cases h), rfl⟩
theorem TellsInt.good {w : World} {n : Int} {o : Option Int} (h : o = some n) : TellsInt o w (.returned (.tuple #[.int .i64 n, .bool true])) w := by
  subst h; exact ⟨n, rfl, (fun _ h => by injection h), rfl⟩

set_option maxRecDepth 20000 in
set_option maxHeartbeats 1000000 in
theorem ri_empty (w : World) : Calls Tryd.prog 104 #[.string ByteArray.empty] w fun e w' => e = .returned (.tuple #[.int .i64 0, .bool false]) ∧ w = w' := by
  have h := hasP_none (s := ByteArray.empty) (c := 45) (fun r h => by cases h)
  go_enter Tryd.func104, Tryd.ntmps104
  go_wp2_with (go_at_call 123; refine (cut_no _ _ _ h).mono ?_; rintro e w' ⟨rfl, rfl⟩)
  go_ret2
  exact ⟨rfl, rfl⟩
set_option maxRecDepth 20000 in
set_option maxHeartbeats 1000000 in
theorem ri_minus (s : ByteArray) (w : World) (h : ls s = 45 :: ls ByteArray.empty) : Calls Tryd.prog 104 #[.string s] w fun e w' => e = .returned (.tuple #[.int .i64 0, .bool false]) ∧ w = w' := by
  have H := Lib.hid h; clear h
  go_enter Tryd.func104, Tryd.ntmps104
  go_wp2_with (go_at_call 123; refine (cut1_yes _ ByteArray.empty _ _ H.out).mono ?_; rintro e w' ⟨rfl, rfl⟩)
  go_ret2
  exact ⟨rfl, rfl⟩
set_option maxRecDepth 20000 in
set_option maxHeartbeats 1000000 in
theorem ri_mzero (s u : ByteArray) (w : World) (h : ls s = 45 :: ls u) (hp : 0 < u.size) (h48 : ((u[0].toNat : Int) == 48) = true) (h0 : (s.toList == [48]) = false) : Calls Tryd.prog 104 #[.string s] w fun e w' => e = .returned (.tuple #[.int .i64 0, .bool false]) ∧ w = w' := by
  have H := Lib.hid h; clear h
  have hu := ne_list hp
  have hu' := ne_list' hp
  go_enter Tryd.func104, Tryd.ntmps104
  go_wp2_with (go_at_call 123; refine (cut1_yes _ u _ _ H.out).mono ?_; rintro e w' ⟨rfl, rfl⟩)
  go_ret2
  exact ⟨rfl, rfl⟩
set_option maxRecDepth 20000 in
set_option maxHeartbeats 1000000 in
theorem ri_pzero (s : ByteArray) (w : World) (h : hasP s ⟨#[45]⟩ = false) (hp : 0 < s.size) (h48 : ((s[0].toNat : Int) == 48) = true) (h0 : (s.toList == [48]) = false) : Calls Tryd.prog 104 #[.string s] w fun e w' => e = .returned (.tuple #[.int .i64 0, .bool false]) ∧ w = w' := by
  have H := Lib.hid h; clear h
  have hu := ne_list hp
  have hu' := ne_list' hp
  go_enter Tryd.func104, Tryd.ntmps104
  go_wp2_with (go_at_call 123; refine (cut_no _ _ _ H.out).mono ?_; rintro e w' ⟨rfl, rfl⟩)
  go_ret2
  exact ⟨rfl, rfl⟩
theorem wrap_neg (n : Int) (h0 : 0 ≤ n) (h : n ≤ 9223372036854775808) : wrap64 (IntKind.u64.wrap (-n)) = -n := by
  simp [IntKind.wrap, IntKind.bits, IntKind.signed, wrap64]; omega
/-- What readInt tells where it has read digits: m as a number of its own sign. -/
def ReadNeg (l : List UInt8) (w : World) (e : Ending) (w' : World) : Prop :=
  ∃ n : Int, e = .returned (.tuple #[.int .i64 n, .bool (digOk 10 9223372036854775808 l)]) ∧ (digOk 10 9223372036854775808 l = true → n = -(numOf 10 l : Int)) ∧ w = w'
def ReadPos (l : List UInt8) (w : World) (e : Ending) (w' : World) : Prop :=
  ∃ n : Int, e = .returned (.tuple #[.int .i64 n, .bool (digOk 10 9223372036854775807 l)]) ∧ (digOk 10 9223372036854775807 l = true → n = (numOf 10 l : Int)) ∧ w = w'
set_option maxRecDepth 20000 in
set_option maxHeartbeats 1000000 in
theorem ri_neg (s u : ByteArray) (w : World) (h : ls s = 45 :: ls u) (hs : u.size ≤ maxLen) (hp : 0 < u.size) (h48 : ((u[0].toNat : Int) == 48) = false) : Calls Tryd.prog 104 #[.string s] w (ReadNeg (ls u) w) := by
  have H := Lib.hid h; clear h
  have hu := ne_list hp
  have hu' := ne_list' hp
  go_enter Tryd.func104, Tryd.ntmps104
  go_wp2_with (first | (go_at_call 123; refine (cut1_yes _ u _ _ H.out).mono ?_; rintro e w' ⟨rfl, rfl⟩) | (go_at_call 124; refine (readDigits_10 _ 9223372036854775808 _ hs (by omega) (by omega)).mono ?_; rintro e w' ⟨n, rfl, hn, hv, rfl⟩; have HV := Lib.hid hv; clear hv))
  go_ret2
  exact ⟨_, rfl, (fun hk => by rw [wrap_neg n (by omega) (by omega), HV.out hk]), rfl⟩
set_option maxRecDepth 20000 in
set_option maxHeartbeats 1000000 in
theorem ri_zero (s : ByteArray) (w : World) (h : hasP s ⟨#[45]⟩ = false) (hs : s.size ≤ maxLen) (hp : 0 < s.size) (h48 : ((s[0].toNat : Int) == 48) = true) (h0 : (s.toList == [48]) = true) : Calls Tryd.prog 104 #[.string s] w (ReadPos (ls s) w) := by
  have H := Lib.hid h; clear h
  have hu := ne_list hp
  have hu' := ne_list' hp
  go_enter Tryd.func104, Tryd.ntmps104
  go_wp2_with (first | (go_at_call 123; refine (cut_no _ _ _ H.out).mono ?_; rintro e w' ⟨rfl, rfl⟩) | (go_at_call 124; refine (readDigits_10 _ 9223372036854775807 _ hs (by omega) (by omega)).mono ?_; rintro e w' ⟨n, rfl, hn, hv, rfl⟩; have HV := Lib.hid hv; clear hv))
  go_ret2
  exact ⟨_, rfl, (fun hk => congrArg _ (HV.out hk)), rfl⟩
set_option maxRecDepth 20000 in
set_option maxHeartbeats 1000000 in
theorem ri_pos (s : ByteArray) (w : World) (h : hasP s ⟨#[45]⟩ = false) (hs : s.size ≤ maxLen) (hp : 0 < s.size) (h48 : ((s[0].toNat : Int) == 48) = false) : Calls Tryd.prog 104 #[.string s] w (ReadPos (ls s) w) := by
  have H := Lib.hid h; clear h
  have hu := ne_list hp
  have hu' := ne_list' hp
  go_enter Tryd.func104, Tryd.ntmps104
  go_wp2_with (first | (go_at_call 123; refine (cut_no _ _ _ H.out).mono ?_; rintro e w' ⟨rfl, rfl⟩) | (go_at_call 124; refine (readDigits_10 _ 9223372036854775807 _ hs (by omega) (by omega)).mono ?_; rintro e w' ⟨n, rfl, hn, hv, rfl⟩; have HV := Lib.hid hv; clear hv))
  go_ret2
  exact ⟨_, rfl, (fun hk => congrArg _ (HV.out hk)), rfl⟩

theorem first_of {s : ByteArray} {c : UInt8} {r : List UInt8} (h : ls s = c :: r) : ∃ hp : 0 < s.size, s[0] = c := by
  have hp : 0 < s.size := by rw [← ls_len, h]; simp
  refine ⟨hp, ?_⟩
  rw [← ls_get s 0 hp]; simp [h]
theorem byte_eq {c d : UInt8} (k : Nat) (hd : d.toNat = k) : ((c.toNat : Int) == (k : Int)) = decide (c = d) := by
  rw [Bool.eq_iff_iff, beq_iff_eq, decide_eq_true_eq]
  constructor
  · intro h; apply UInt8.toNat_inj.1; omega
  · rintro rfl; rw [hd]
theorem readInt_any (s : ByteArray) (w : World) (hs : s.size ≤ maxLen) : Calls Tryd.prog 104 #[.string s] w (TellsInt (readIntL (ls s)) w) := by
  have b48 := fun c : UInt8 => byte_eq (c := c) (d := 48) 48 rfl
  cases e : ls s with
  | nil =>
    obtain rfl : s = ByteArray.empty := ls_inj e
    refine (ri_empty w).mono ?_
    rintro e w' ⟨rfl, rfl⟩
    exact TellsInt.bad rfl
  | cons c r =>
    by_cases hc : c = 45
    · subst hc
      cases r with
      | nil =>
        refine (ri_minus s w e).mono ?_
        rintro e w' ⟨rfl, rfl⟩
        exact TellsInt.bad rfl
      | cons d q =>
        have hu : ls s = 45 :: ls (bs (d :: q)) := e
        obtain ⟨hp, h0⟩ := first_of (s := bs (d :: q)) (ls_bs _)
        have hz := size_cons hu
        by_cases hd : d = 48
        · refine (ri_mzero s (bs (d :: q)) w hu hp (by rw [h0]; exact (b48 d).trans (decide_eq_true hd)) (by rw [toList_ls, e]; rfl)).mono ?_
          rintro e w' ⟨rfl, rfl⟩
          exact TellsInt.bad (by simp [readIntL, hd])
        · refine (ri_neg s (bs (d :: q)) w hu (by omega) hp (by rw [h0]; exact (b48 d).trans (decide_eq_false hd))).mono ?_
          rintro e w' ⟨n, rfl, hv, rfl⟩
          have hr : readIntL (45 :: d :: q) = if digOk 10 9223372036854775808 (d :: q) then some (-(numOf 10 (d :: q) : Int)) else none := by simp [readIntL, hd]
          rw [ls_bs] at hv ⊢
          rw [hr]
          by_cases hk : digOk 10 9223372036854775808 (d :: q) = true
          · rw [if_pos hk, hk, hv hk]; exact TellsInt.good rfl
          · rw [if_neg hk, Bool.eq_false_iff.2 hk]; exact TellsInt.bad rfl
    · have hm := hasP_none (s := s) (c := 45) (fun r' h => hc (by rw [e] at h; injection h))
      obtain ⟨hp, h0⟩ := first_of e
      by_cases hd : c = 48 ∧ r ≠ []
      · refine (ri_pzero s w hm hp (by rw [h0]; exact (b48 c).trans (decide_eq_true hd.1)) (by rw [toList_ls, e]; simp [hd.2])).mono ?_
        rintro e w' ⟨rfl, rfl⟩
        exact TellsInt.bad (by simp [readIntL, hd])
      · have hr : readIntL (c :: r) = if digOk 10 9223372036854775807 (c :: r) then some (numOf 10 (c :: r) : Int) else none := by
          unfold readIntL; simp only; rw [if_neg hc, if_neg hd]
        have hgo : Calls Tryd.prog 104 #[.string s] w (ReadPos (ls s) w) := by
          by_cases h48 : c = 48
          · have hr0 : r = [] := by simpa [h48] using hd
            exact ri_zero s w hm hs hp (by rw [h0]; exact (b48 c).trans (decide_eq_true h48)) (by rw [toList_ls, e, h48, hr0]; rfl)
          · exact ri_pos s w hm hs hp (by rw [h0]; exact (b48 c).trans (decide_eq_false h48))
        refine hgo.mono ?_
        rintro e' w' ⟨n, rfl, hv, rfl⟩
        rw [e] at hv ⊢
        rw [hr]
        by_cases hk : digOk 10 9223372036854775807 (c :: r) = true
        · rw [if_pos hk, hk, hv hk]; exact TellsInt.good rfl
        · rw [if_neg hk, Bool.eq_false_iff.2 hk]; exact TellsInt.bad rfl

/-! ### readFlo -/
def readFloL (l : List UInt8) : Option Int :=
  match l with
  | [] => none
  | c :: r => if c = 35 ∧ r.length = 16 then (if digOk 16 18446744073709551615 r && right (wrap64 (numOf 16 r)) then some (wrap64 (numOf 16 r)) else none) else none
set_option maxRecDepth 20000 in
set_option maxHeartbeats 1000000 in
theorem rf_no (s : ByteArray) (w : World) (h : hasP s ⟨#[35]⟩ = false) : Calls Tryd.prog 105 #[.string s] w fun e w' => e = .returned (.tuple #[.int .i64 0, .bool false]) ∧ w = w' := by
  have H := Lib.hid h; clear h
  go_enter Tryd.func105, Tryd.ntmps105
  go_wp2_with (go_at_call 123; refine (cut_no _ _ _ H.out).mono ?_; rintro e w' ⟨rfl, rfl⟩)
  go_ret2
  exact ⟨rfl, rfl⟩
set_option maxRecDepth 20000 in
set_option maxHeartbeats 1000000 in
theorem rf_len (s u : ByteArray) (w : World) (h : ls s = 35 :: ls u) (hl : ((u.size : Int) == 16) = false) : Calls Tryd.prog 105 #[.string s] w fun e w' => e = .returned (.tuple #[.int .i64 0, .bool false]) ∧ w = w' := by
  have H := Lib.hid h; clear h
  go_enter Tryd.func105, Tryd.ntmps105
  go_wp2_with (go_at_call 123; refine (cut1_yes _ u _ _ H.out).mono ?_; rintro e w' ⟨rfl, rfl⟩)
  go_ret2
  exact ⟨rfl, rfl⟩
def ReadHex (l : List UInt8) (w : World) (e : Ending) (w' : World) : Prop :=
  ∃ n : Nat, e = .returned (.tuple #[.int .i64 (wrap64 n), .bool (digOk 16 18446744073709551615 l && right (wrap64 n))]) ∧ (digOk 16 18446744073709551615 l = true → n = numOf 16 l) ∧ w = w'
theorem ReadHex.mk {l : List UInt8} {w : World} {n : Nat} {ok b : Bool} (h : digOk 16 18446744073709551615 l = ok ∧ (ok = true → n = numOf 16 l)) (hb : b = (ok && right (wrap64 n))) :
    ReadHex l w (.returned (.tuple #[.int .i64 (wrap64 n), .bool b])) w := by
  obtain ⟨rfl, h2⟩ := h; subst hb; exact ⟨n, rfl, h2, rfl⟩
set_option maxRecDepth 20000 in
set_option maxHeartbeats 1000000 in
theorem rf_go (s u : ByteArray) (w : World) (h : ls s = 35 :: ls u) (hs : u.size ≤ maxLen) (hl : ((u.size : Int) == 16) = true) : Calls Tryd.prog 105 #[.string s] w (ReadHex (ls u) w) := by
  have H := Lib.hid h; clear h
  go_enter Tryd.func105, Tryd.ntmps105
  go_wp2_with (first | (go_at_call 123; refine (cut1_yes _ u _ _ H.out).mono ?_; rintro e w' ⟨rfl, rfl⟩) | (go_at_call 124; refine (readDigits_16 _ 18446744073709551615 _ hs (by omega) (by omega)).mono ?_; rintro e w' ⟨n, rfl, hn, hv, rfl⟩; obtain ⟨ok, hok⟩ : ∃ ok, digOk 16 18446744073709551615 (ls u) = ok := ⟨_, rfl⟩; rw [hok] at hv ⊢; have HV := Lib.hid (And.intro hok hv); clear hv hok) | (go_at_call 125; refine (right_any _ _).mono ?_; rintro e w' ⟨rfl, rfl⟩))
  all_goals
    go_ret2
    exact ReadHex.mk HV.out (by simp [*])

theorem readFlo_any (s : ByteArray) (w : World) (hs : s.size ≤ maxLen) : Calls Tryd.prog 105 #[.string s] w (TellsInt (readFloL (ls s)) w) := by
  cases e : ls s with
  | nil =>
    refine (rf_no s w (hasP_none (fun r h => by rw [e] at h; cases h))).mono ?_
    rintro e w' ⟨rfl, rfl⟩
    exact TellsInt.bad rfl
  | cons c r =>
    by_cases hc : c = 35
    · subst hc
      have hu : ls s = 35 :: ls (bs r) := e
      have hz := size_cons hu
      have h16 : (((bs r).size : Int) == 16) = decide (r.length = 16) := by
        rw [bs_size, Bool.eq_iff_iff, beq_iff_eq, decide_eq_true_eq]; omega
      by_cases hl : r.length = 16
      · refine (rf_go s (bs r) w hu (by omega) (h16.trans (decide_eq_true hl))).mono ?_
        rintro e w' ⟨n, rfl, hv, rfl⟩
        rw [ls_bs] at hv ⊢
        have hr : readFloL (35 :: r) = if digOk 16 18446744073709551615 r && right (wrap64 (numOf 16 r)) then some (wrap64 (numOf 16 r)) else none := by simp [readFloL, hl]
        rw [hr]
        by_cases hk : digOk 16 18446744073709551615 r = true
        · have hn := hv hk
          rw [hk, ← hn, Bool.true_and]
          by_cases hrt : right (wrap64 n) = true
          · rw [if_pos hrt, hrt]; exact TellsInt.good rfl
          · rw [if_neg hrt, Bool.eq_false_iff.2 hrt]; exact TellsInt.bad rfl
        · rw [Bool.eq_false_iff.2 hk, Bool.false_and, Bool.false_and]; exact TellsInt.bad rfl
      · refine (rf_len s (bs r) w hu (h16.trans (decide_eq_false hl))).mono ?_
        rintro e w' ⟨rfl, rfl⟩
        exact TellsInt.bad (by simp [readFloL, hl])
    · refine (rf_no s w (hasP_none (fun r' h => hc (by rw [e] at h; injection h)))).mono ?_
      rintro e w' ⟨rfl, rfl⟩
      exact TellsInt.bad (by simp [readFloL, hc])
end Go.Proofs.YtncafadjcelloaaDoor

/-
  Plain mathematics of layer 2 (value): names, digits, numbers as texts, and the order of texts, on lists of bytes. Nothing of the dump is used here.
-/
import Ieee.Arith
import Derived.Test.YtahljmddnfldlaaGreatDoorChecked
import Derived.WalkKit
import Derived.WalkLawsBesides
import Derived.Lib.Hide
import Derived.RowKit3
import Derived.BigQuiet
import Derived.Laws.Externs
import Derived.Lib.Bytealg
import Derived.LoopTactic
import Derived.Deep.LoopGhost
import Derived.Below
import Derived.Laws.BytesArg
namespace Go.Proofs.YtahljmddnfldlaaGreatDoor.ValM

/-! ### Texts as lists of bytes -/
def bs (l : List UInt8) : ByteArray := ⟨l.toArray⟩
def ls (s : ByteArray) : List UInt8 := s.data.toList
theorem ls_bs (l : List UInt8) : ls (bs l) = l := rfl
theorem bs_ls (s : ByteArray) : bs (ls s) = s := by cases s; rfl
theorem ls_len (s : ByteArray) : (ls s).length = s.size := rfl
theorem bs_size (l : List UInt8) : (bs l).size = l.length := rfl
theorem ls_inj {s t : ByteArray} (h : ls s = ls t) : s = t := by rw [← bs_ls s, ← bs_ls t, h]
theorem ls_append (s t : ByteArray) : ls (s ++ t) = ls s ++ ls t := by simp [ls]
theorem ls_get (s : ByteArray) (k : Nat) (h : k < s.size) : (ls s)[k]'(by rw [ls_len]; exact h) = s[k] := rfl
theorem take_snoc (s : ByteArray) (k : Nat) (h : k < s.size) : (ls s).take (k + 1) = (ls s).take k ++ [s[k]] := by
  rw [List.take_succ_eq_append_getElem (by rw [ls_len]; exact h)]; rfl
theorem split_at (s : ByteArray) (k : Nat) (h : k < s.size) : ls s = (ls s).take k ++ s[k] :: (ls s).drop (k + 1) := by
  have h' : k < (ls s).length := by rw [ls_len]; exact h
  have := List.drop_eq_getElem_cons h'
  rw [ls_get s k h] at this
  rw [← this, List.take_append_drop]
theorem take_all (s : ByteArray) (k : Nat) (h : s.size ≤ k) : (ls s).take k = ls s := List.take_of_length_le (by rw [ls_len]; exact h)

/-! ### Names -/
def lower (c : UInt8) : Bool := decide (97 ≤ c.toNat ∧ c.toNat ≤ 122)
def digit (c : UInt8) : Bool := decide (48 ≤ c.toNat ∧ c.toNat ≤ 57)
def okAt (i : Nat) (c : UInt8) : Bool := lower c || (decide (0 < i) && (decide (c.toNat = 95) || digit c))
theorem okAt_iff (i : Nat) (c : UInt8) : okAt i c = true ↔ ((97 ≤ c.toNat ∧ c.toNat ≤ 122) ∨ (0 < i ∧ (c.toNat = 95 ∨ (48 ≤ c.toNat ∧ c.toNat ≤ 57)))) := by
  simp [okAt, lower, digit]
def allAt : Nat → List UInt8 → Bool
  | _, [] => true
  | i, c :: r => okAt i c && allAt (i + 1) r
theorem allAt_append (a b : List UInt8) (i : Nat) : allAt i (a ++ b) = (allAt i a && allAt (i + a.length) b) := by
  induction a generalizing i with
  | nil => simp [allAt]
  | cons c r ih => simp only [List.cons_append, allAt, ih, List.length_cons, Bool.and_assoc]; congr 3; omega
theorem allAt_snoc (a : List UInt8) (c : UInt8) (i : Nat) : allAt i (a ++ [c]) = (allAt i a && okAt (i + a.length) c) := by
  rw [allAt_append]; simp [allAt]
theorem allAt_step (s : ByteArray) (k : Nat) (h : k < s.size) (ha : allAt 0 ((ls s).take k) = true) (hc : okAt k s[k] = true) : allAt 0 ((ls s).take (k + 1)) = true := by
  rw [take_snoc s k h, allAt_snoc, ha, List.length_take, ls_len, Nat.min_eq_left (by omega)]; simpa using hc
theorem allAt_bad (s : ByteArray) (k : Nat) (h : k < s.size) (hc : okAt k s[k] = false) : allAt 0 (ls s) = false := by
  rw [split_at s k h, allAt_append, List.length_take, ls_len, Nat.min_eq_left (by omega)]; simp [allAt, hc]
def nameL (l : List UInt8) : Bool := decide (0 < l.length ∧ l.length ≤ 40) && allAt 0 l
def name (s : ByteArray) : Bool := nameL (ls s)
theorem nameL_iff (l : List UInt8) : nameL l = true ↔ 0 < l.length ∧ l.length ≤ 40 ∧ allAt 0 l = true := by simp [nameL, and_assoc]
theorem name_nil : nameL [] = false := rfl
/-- The first byte of a name is a letter. -/
theorem name_head {c : UInt8} {r : List UInt8} (h : nameL (c :: r) = true) : 97 ≤ c.toNat ∧ c.toNat ≤ 122 := by
  rw [nameL_iff] at h
  have h := h.2.2
  simp only [allAt, Bool.and_eq_true] at h
  have := (okAt_iff 0 c).1 h.1
  omega

/-! ### Digits -/
def dch (d : Nat) : UInt8 := if d < 10 then UInt8.ofNat (48 + d) else UInt8.ofNat (87 + d)
def dval (c : UInt8) : Nat := if 97 ≤ c.toNat then c.toNat - 87 else c.toNat - 48
def isDig (b : Nat) (c : UInt8) : Bool := digit c || (decide (b = 16) && decide (97 ≤ c.toNat ∧ c.toNat ≤ 102))
def Base (b : Nat) : Prop := b = 10 ∨ b = 16
theorem isDig_iff (b : Nat) (c : UInt8) : isDig b c = true ↔ ((48 ≤ c.toNat ∧ c.toNat ≤ 57) ∨ (b = 16 ∧ 97 ≤ c.toNat ∧ c.toNat ≤ 102)) := by simp [isDig, digit]
theorem dch_toNat (d : Nat) (h : d < 16) : (dch d).toNat = if d < 10 then 48 + d else 87 + d := by
  unfold dch; split <;> simp <;> omega
theorem dval_dch (d : Nat) (h : d < 16) : dval (dch d) = d := by
  have := dch_toNat d h
  unfold dval; rw [this]; by_cases h10 : d < 10
  · rw [if_pos h10, if_neg (by omega)]; omega
  · rw [if_neg h10, if_pos (by omega)]; omega
theorem isDig_dch (b d : Nat) (hb : Base b) (h : d < b) : isDig b (dch d) = true := by
  have h16 : d < 16 := by rcases hb with rfl | rfl <;> omega
  have := dch_toNat d h16
  rw [isDig_iff, this]
  rcases hb with rfl | rfl <;> split <;> omega
theorem dval_lt (b : Nat) (c : UInt8) (hb : Base b) (h : isDig b c = true) : dval c < b := by
  rw [isDig_iff] at h; unfold dval; rcases hb with rfl | rfl <;> split <;> omega
theorem dch_dval (b : Nat) (c : UInt8) (hb : Base b) (h : isDig b c = true) : dch (dval c) = c := by
  have h1 := dval_lt b c hb h
  have h2 := dch_toNat (dval c) (by rcases hb with rfl | rfl <;> omega)
  rw [isDig_iff] at h
  apply UInt8.toNat_inj.1
  rw [h2]; unfold dval; split <;> split <;> omega

def digs (b n : Nat) : List UInt8 := if _h : n = 0 ∨ b < 2 then [] else digs b (n / b) ++ [dch (n % b)]
termination_by n
decreasing_by exact Nat.div_lt_self (by omega) (by omega)
theorem digs_zero (b : Nat) : digs b 0 = [] := by rw [digs]; simp
theorem digs_pos (b n : Nat) (hb : 2 ≤ b) (hn : 0 < n) : digs b n = digs b (n / b) ++ [dch (n % b)] := by
  rw [digs, dif_neg (by omega)]
def padTo (k : Nat) (l : List UInt8) : List UInt8 := List.replicate (k - l.length) 48 ++ l
theorem padTo_len (k : Nat) (l : List UInt8) : (padTo k l).length = max k l.length := by simp [padTo]; omega
theorem padTo_self (k : Nat) (l : List UInt8) (h : k ≤ l.length) : padTo k l = l := by
  unfold padTo; rw [show k - l.length = 0 from by omega]; rfl
theorem padTo_snoc (k : Nat) (l : List UInt8) (c : UInt8) : padTo (k + 1) (l ++ [c]) = padTo k l ++ [c] := by
  unfold padTo; rw [List.length_append, List.length_singleton, show k + 1 - (l.length + 1) = k - l.length from by omega, List.append_assoc]
theorem padTo_nil (k : Nat) : padTo (k + 1) [] = padTo k [] ++ [dch 0] := by
  simp only [padTo, List.length_nil, Nat.sub_zero, List.append_nil, List.replicate_succ']; rfl
/-- One step of writing digits from the last one on. -/
theorem pad_step (b k n : Nat) (acc : List UInt8) (hb : 2 ≤ b) (h : 0 < n ∨ acc.length < k) :
    padTo (k - acc.length) (digs b n) ++ acc = padTo (k - (dch (n % b) :: acc).length) (digs b (n / b)) ++ dch (n % b) :: acc := by
  rw [show dch (n % b) :: acc = [dch (n % b)] ++ acc from rfl, ← List.append_assoc]
  congr 1
  rw [List.length_append, List.length_singleton]
  rcases Nat.eq_zero_or_pos n with rfl | hn
  · obtain ⟨j, hj⟩ : ∃ j, k - acc.length = j + 1 := ⟨k - acc.length - 1, by omega⟩
    rw [hj, show k - (1 + acc.length) = j from by omega, Nat.zero_div, Nat.zero_mod, digs_zero, padTo_nil]
  · rw [digs_pos b n hb hn]
    rcases Nat.eq_zero_or_pos (k - acc.length) with h0 | h0
    · rw [h0, show k - (1 + acc.length) = 0 from by omega]; unfold padTo; simp
    · obtain ⟨j, hj⟩ : ∃ j, k - acc.length = j + 1 := ⟨k - acc.length - 1, by omega⟩
      rw [hj, show k - (1 + acc.length) = j from by omega, padTo_snoc]
theorem pad_done (b k : Nat) (acc : List UInt8) (h : k ≤ acc.length) : padTo (k - acc.length) (digs b 0) ++ acc = acc := by
  rw [show k - acc.length = 0 from by omega, digs_zero]; rfl

/-! ### Numbers -/
def numOf (b : Nat) (l : List UInt8) : Nat := l.foldl (fun n c => n * b + dval c) 0
theorem numOf_snoc (b : Nat) (l : List UInt8) (c : UInt8) : numOf b (l ++ [c]) = numOf b l * b + dval c := by simp [numOf]
def allDig (b : Nat) (l : List UInt8) : Bool := l.all (isDig b)
theorem allDig_snoc (b : Nat) (l : List UInt8) (c : UInt8) : allDig b (l ++ [c]) = (allDig b l && isDig b c) := by simp [allDig]
theorem numOf_mono (b : Nat) (hb : 1 ≤ b) (l r : List UInt8) : numOf b l ≤ numOf b (l ++ r) := by
  suffices h : ∀ (r : List UInt8) (n : Nat), n ≤ r.foldl (fun n c => n * b + dval c) n by
    unfold numOf; rw [List.foldl_append]; exact h r _
  intro r
  induction r with
  | nil => intro n; exact Nat.le_refl _
  | cons c r ih =>
    intro n
    refine Nat.le_trans ?_ (ih _)
    have : n * 1 ≤ n * b := Nat.mul_le_mul_left n hb
    show n ≤ n * b + dval c
    omega

theorem snoc_induction {P : List UInt8 → Prop} (h0 : P []) (h1 : ∀ l c, P l → P (l ++ [c])) (l : List UInt8) : P l := by
  have : ∀ r : List UInt8, P r.reverse := by
    intro r
    induction r with
    | nil => exact h0
    | cons c r ih => rw [List.reverse_cons]; exact h1 _ _ ih
  have h := this l.reverse
  rwa [List.reverse_reverse] at h

theorem num_digs (b n : Nat) (hb : Base b) : numOf b (digs b n) = n ∧ allDig b (digs b n) = true := by
  have h2 : 2 ≤ b := by rcases hb with rfl | rfl <;> omega
  have h16 : b ≤ 16 := by rcases hb with rfl | rfl <;> omega
  induction n using Nat.strongRecOn with
  | _ n ih =>
    rcases Nat.eq_zero_or_pos n with rfl | hn
    · rw [digs_zero]; exact ⟨rfl, rfl⟩
    · have hm := Nat.mod_lt n (show 0 < b by omega)
      obtain ⟨i1, i2⟩ := ih (n / b) (Nat.div_lt_self hn (by omega))
      rw [digs_pos b n h2 hn, numOf_snoc, allDig_snoc, i1, i2, dval_dch _ (by omega), isDig_dch b _ hb hm]
      exact ⟨by rw [Nat.mul_comm]; exact Nat.div_add_mod n b, rfl⟩
theorem num_pad (b k n : Nat) (hb : Base b) : numOf b (padTo k (digs b n)) = n ∧ allDig b (padTo k (digs b n)) = true := by
  obtain ⟨h1, h2⟩ := num_digs b n hb
  unfold padTo
  generalize k - (digs b n).length = j
  constructor
  · have : ∀ j, (List.replicate j (48 : UInt8)).foldl (fun n c => n * b + dval c) 0 = 0 := by
      intro j
      induction j with
      | zero => rfl
      | succ j ih => rw [List.replicate_succ', List.foldl_append, ih]; simp [dval]
    unfold numOf at *; rw [List.foldl_append, this, h1]
  · unfold allDig at *; rw [List.all_append, h2, Bool.and_true, List.all_eq_true]
    intro c hc
    obtain rfl := List.eq_of_mem_replicate hc
    simp [isDig, digit]
theorem digs_len (b n k : Nat) (hb : 2 ≤ b) (h : n < b ^ k) : (digs b n).length ≤ k := by
  induction k generalizing n with
  | zero => rw [show n = 0 from by simpa using h, digs_zero]; exact Nat.le_refl _
  | succ k ih =>
    rcases Nat.eq_zero_or_pos n with rfl | hn
    · rw [digs_zero]; simp
    · rw [digs_pos b n hb hn, List.length_append, List.length_singleton]
      have := ih (n / b) (by rw [Nat.div_lt_iff_lt_mul (by omega), ← Nat.pow_succ]; exact h)
      omega
/-- The digits of a number's digits, with as many places. -/
theorem pad_num (b : Nat) (hb : Base b) (l : List UInt8) (h : allDig b l = true) : padTo l.length (digs b (numOf b l)) = l := by
  have h2 : 2 ≤ b := by rcases hb with rfl | rfl <;> omega
  revert h
  refine snoc_induction (P := fun l => allDig b l = true → padTo l.length (digs b (numOf b l)) = l) ?_ ?_ l
  · intro _; rw [show numOf b [] = 0 from rfl, digs_zero]; rfl
  · intro l c ih h
    rw [allDig_snoc, Bool.and_eq_true] at h
    have ih := ih h.1
    have hd := dval_lt b c hb h.2
    have hc := dch_dval b c hb h.2
    have e1 : (numOf b l * b + dval c) / b = numOf b l := by rw [Nat.mul_comm, Nat.mul_add_div (by omega), Nat.div_eq_of_lt hd, Nat.add_zero]
    have e2 : (numOf b l * b + dval c) % b = dval c := by rw [Nat.mul_comm, Nat.mul_add_mod, Nat.mod_eq_of_lt hd]
    rw [numOf_snoc, List.length_append, List.length_singleton]
    rcases Nat.eq_zero_or_pos (numOf b l * b + dval c) with h0 | h0
    · have hz : dval c = 0 := by omega
      have hn : numOf b l = 0 := by
        rcases Nat.eq_zero_or_pos (numOf b l) with h | h
        · exact h
        · have := Nat.mul_pos h (show 0 < b by omega); omega
      rw [hn, digs_zero] at ih
      rw [h0, digs_zero, padTo_nil, ih, ← hz, hc]
    · rw [digs_pos b _ h2 h0, e1, e2, hc, padTo_snoc, ih]
/-- No digits begin with 0. -/
theorem digs_head (b n : Nat) (hb : Base b) (c : UInt8) (r : List UInt8) (h : digs b n = c :: r) : c ≠ 48 := by
  have h2 : 2 ≤ b := by rcases hb with rfl | rfl <;> omega
  have h16 : b ≤ 16 := by rcases hb with rfl | rfl <;> omega
  induction n using Nat.strongRecOn generalizing r with
  | _ n ih =>
    rcases Nat.eq_zero_or_pos n with rfl | hn
    · rw [digs_zero] at h; cases h
    · rw [digs_pos b n h2 hn] at h
      cases hd : digs b (n / b) with
      | nil =>
        rw [hd] at h
        injection h with h _
        have hlt : n / b = 0 := by
          have := (num_digs b (n / b) hb).1
          rw [hd] at this; exact this.symm
        have hm : n % b ≠ 0 := by
          intro hz
          have := Nat.div_add_mod n b
          rw [hlt, hz] at this; omega
        have hm2 := Nat.mod_lt n (show 0 < b by omega)
        have hv := dval_dch (n % b) (by omega)
        intro e
        rw [h, e] at hv
        exact hm hv.symm
      | cons d q =>
        rw [hd] at h
        injection h with h1 h2
        subst h1
        exact ih (n / b) (Nat.div_lt_self hn (by omega)) q hd
theorem digs_num (b : Nat) (hb : Base b) (c : UInt8) (r : List UInt8) (h : allDig b (c :: r) = true) (hc : c ≠ 48) : digs b (numOf b (c :: r)) = c :: r := by
  have hp := pad_num b hb (c :: r) h
  unfold padTo at hp
  rcases Nat.eq_zero_or_pos ((c :: r).length - (digs b (numOf b (c :: r))).length) with h0 | h0
  · rw [h0] at hp; exact hp
  · obtain ⟨j, hj⟩ : ∃ j, (c :: r).length - (digs b (numOf b (c :: r))).length = j + 1 := ⟨_, (Nat.succ_pred_eq_of_pos h0).symm⟩
    rw [hj, List.replicate_succ] at hp
    injection hp with hp _
    exact absurd hp.symm hc
end Go.Proofs.YtahljmddnfldlaaGreatDoor.ValM
namespace FloM
open Ieee

/-! ### Cutting and scaling -/
/-! ### The double's words by sign and rung -/
/-! ### 'F s m p': the word of digits m at place p, where nothing is lost -/
def F (s : Bool) (m : Nat) (p : Int) : Nat := double.nearest s m p
/-- Nothing is lost, and it is no infinity. -/
def Fits (m : Nat) (p : Int) : Prop := m < 9007199254740992 ∧ -1074 ≤ p ∧ (m = 0 ∨ p + m.log2 ≤ 1023)

/-! ### Twice, and half -/
/-! ### The order -/
/-! ### Codes -/
abbrev NaNc : Int := 9221120237041090561
def right (n : Int) : Bool := (decide (-9218868437227405313 ≤ n) && decide (n ≤ 9218868437227405312)) || n == NaNc
theorem right_iff (n : Int) : right n = true ↔ (-9218868437227405313 ≤ n ∧ n ≤ 9218868437227405312) ∨ n = NaNc := by
  unfold right; simp

end FloM
namespace Go.Proofs.YtahljmddnfldlaaGreatDoor
open Go.RowKit FloM

theorem ret_int {k : IntKind} {a b : Int} (h : a = b) : Ending.returned (.int k a) = .returned (.int k b) := by rw [h]
theorem ret_bool {a b : Bool} (h : a = b) : Ending.returned (.bool a) = .returned (.bool b) := by rw [h]

set_option maxHeartbeats 400000 in
theorem right_any (n : Int) (w : World) : Calls Tryz.prog 112 #[.int .i64 n] w fun e w' => e = .returned (.bool (right n)) ∧ w = w' := by
  by_cases h1 : -9218868437227405313 ≤ n
  · by_cases h2 : n ≤ 9218868437227405312
    · have e : right n = true := by rw [right_iff]; exact .inl ⟨h1, h2⟩
      rw [e]; clear e
      go_enter Tryz.func112, Tryz.ntmps112
      go_wp2
      all_goals (go_ret; exact ⟨rfl, rfl⟩)
    · have e : right n = (n == 9221120237041090561) := by unfold right NaNc; simp [h2]
      rw [e]; clear e
      go_enter Tryz.func112, Tryz.ntmps112
      go_wp2
      all_goals (go_ret; exact ⟨rfl, rfl⟩)
  · have e : right n = (n == 9221120237041090561) := by unfold right NaNc; simp [h1]
    rw [e]; clear e
    go_enter Tryz.func112, Tryz.ntmps112
    go_wp2
    all_goals (go_ret; exact ⟨rfl, rfl⟩)

end Go.Proofs.YtahljmddnfldlaaGreatDoor
namespace Go.Proofs.YtahljmddnfldlaaGreatDoor
open Go.RowKit FloM ValM

theorem toList_ls (s : ByteArray) : s.toList = ls s := ByteArray.toList_eq s
theorem size_pos {s : ByteArray} (h : ¬ s = ByteArray.empty) : 0 < s.size := by
  rcases Nat.eq_zero_or_pos s.size with h0 | h0
  · exact absurd (ls_inj (t := ByteArray.empty) (List.eq_nil_of_length_eq_zero h0)) h
  · exact h0

/-! ### value.Name -/
set_option maxRecDepth 20000 in
set_option maxHeartbeats 1000000 in
theorem name_any (s : ByteArray) (w : World) (hs : s.size ≤ maxLen) :
    Calls Tryz.prog 65 #[.string s] w fun e w' => e = .returned (.bool (name s)) ∧ w = w' := by
  unfold maxLen at hs
  by_cases h0 : s = ByteArray.empty
  · subst h0
    rw [show name ByteArray.empty = false from rfl]
    go_enter Tryz.func65, Tryz.ntmps65
    go_wp2
    go_step3
    go_wp2
    rw [Exit.noGoto_ret]
    go_ret
    exact ⟨rfl, rfl⟩
  · have hp : 0 < s.size := size_pos h0
    have hz : ((s.size : Int) == 0) = false := by simp; omega
    by_cases h40 : 40 < (s.size : Int)
    · have e : name s = false := by
        unfold name nameL; rw [ls_len, decide_eq_false (by omega)]; rfl
      rw [e]; clear e
      go_enter Tryz.func65, Tryz.ntmps65
      go_wp2
      go_step3
      go_wp2
      rw [Exit.noGoto_ret]
      go_ret
      exact ⟨rfl, rfl⟩
    · have hn : name s = allAt 0 (ls s) := by
        unfold name nameL; rw [ls_len, decide_eq_true (by omega)]; rfl
      have HN := Lib.hid hn; clear hn
      go_enter Tryz.func65, Tryz.ntmps65
      go_wp2
      go_step3
      go_wp2
      go_step3
      go_wp2
      go_loop [3, 4] (fun i _ => ∃ k : Nat, k ≤ s.size ∧ i = .int .i64 k ∧ allAt 0 ((ls s).take k) = true) (fun i _ => s.size - (intOf i).toNat)
      case atStart => exact ⟨0, Nat.zero_le _, rfl, rfl⟩
      case round =>
        obtain ⟨k, hk, rfl, ha⟩ := hrel
        have HA := Lib.hid ha; clear ha
        by_cases hlt : k < s.size
        · by_cases hc : okAt k s[k] = true
          · have HC := Lib.hid hc
            rw [okAt_iff] at hc
            go_wp2
            all_goals
              go_round
              case rel => exact ⟨k + 1, by omega, by go_num, allAt_step s k hlt HA.out HC.out⟩
              case measure => simp [intOf]; omega
          · have HC := Lib.hid (show okAt k s[k] = false by simpa using hc)
            rw [okAt_iff] at hc
            have hne : ((k : Int) == (s.size : Int)) = false := by rw [beq_eq_false_iff_ne]; omega
            go_wp2
            all_goals first
              | (exfalso; have h := ‹(_ == _) = true ∨ _›; simp only [beq_iff_eq] at h; omega)
              | (go_ret; exact ⟨ret_bool (by rw [HN.out, allAt_bad s k hlt HC.out]; try exact hne), rfl⟩)
        · obtain rfl : k = s.size := by omega
          have hne : (((s.size : Nat) : Int) == (s.size : Int)) = true := by simp
          go_wp2
          go_ret
          exact ⟨ret_bool (by rw [HN.out, ← take_all s s.size (Nat.le_refl _), HA.out]; try exact hne), rfl⟩

/-! ### Comparisons -/
end Go.Proofs.YtahljmddnfldlaaGreatDoor
namespace Go.Proofs.YtahljmddnfldlaaGreatDoor
open Go.RowKit FloM ValM

theorem ne_list {u : ByteArray} (h : 0 < u.size) : ¬ u.toList = [] := by
  rw [toList_ls]; intro e; have := ls_len u; rw [e] at this; simp at this; omega
theorem ne_list' {u : ByteArray} (h : 0 < u.size) : u.toList.isEmpty = false := by
  have := ne_list h; cases e : u.toList with
  | nil => exact absurd e this
  | cons _ _ => rfl
theorem on {W w w' : World} (h : Below W.heap.size W w) (k : Below w.heap.size w w') : Below W.heap.size W w' := h.trans (k.mono h.size)
def Fits (n : Int) : Prop := -9223372036854775808 ≤ n ∧ n < 9223372036854775808

end Go.Proofs.YtahljmddnfldlaaGreatDoor
namespace Go.Proofs.YtahljmddnfldlaaGreatDoor
open Go.RowKit FloM ValM

theorem ret_str {a b : ByteArray} (h : a = b) : Ending.returned (.string a) = .returned (.string b) := by rw [h]

/-! ### A block of bytes of the call's own -/
def bval (c : UInt8) : Value := .int .u8 c.toNat
def Row (t : TypeId) (w : World) (g : Nat) (cs : List Value) : Prop := w.heap[g]? = some (.cells cs.toArray t (0, 0))
theorem Row.cell {t : TypeId} {w : World} {g : Nat} {cs : List Value} (h : Row t w g cs) (i : Nat) : w.cell? ⟨g, i, none⟩ = cs[i]? := by
  unfold Row at h; simp [World.cell?, h]
theorem Row.frozen {t : TypeId} {w : World} {g : Nat} {cs : List Value} (h : Row t w g cs) (i : Nat) : w.frozen? ⟨g, i, none⟩ = false := by
  unfold Row at h; simp [World.frozen?, h]
theorem Row.set {t : TypeId} {w : World} {g : Nat} {pre post : List Value} {x : Value} (h : Row t w g (pre ++ x :: post)) (v : Value) : Row t (w.setCell ⟨g, pre.length, none⟩ v) g (pre ++ v :: post) := by
  unfold Row at h ⊢
  simp [World.setCell, Array.getElem?_modify, h]
theorem conv_row {t : TypeId} {w : World} {g : Nat} {pre : List Value} {acc : List UInt8} (h : Row t w g (pre ++ acc.map bval)) {P : Program} {src e dst : TypeId} (hs : P.underlying src = some (.slice e)) (he : P.underlying e = some (.int .u8)) (hd : P.underlying dst = some .string) (cap : Nat) :
    (convert src dst (.slice (some ⟨g, pre.length, none⟩) acc.length cap)).run P w = .ok (.string (bs acc)) w := by
  have := run_convert_bytes_arg (P := P) w src e hs he g pre.length acc.length cap (acc.map fun c => (c.toNat : Int)) (by simp) (fun i hi => by
    rw [h.cell, List.getElem?_append_right (by omega), show pre.length + i - pre.length = i from by omega]
    simp [bval, hi, List.getD]) dst hd
  rw [this]
  have e1 : strOfNums (acc.map fun c => (c.toNat : Int)) = bs acc := by
    apply ls_inj
    show (strOfNums _).data.toList = acc
    rw [strOfNums_data]
    clear this h
    induction acc with
    | nil => rfl
    | cons c r ih => rw [List.map_cons, List.map_cons, ih]; congr 1; apply UInt8.toNat_inj.1; have := c.toNat_lt; simp
  rw [e1]
def AsmRel (b least n0 : Nat) (w : World) (v0 v8 : Value) (wr : World) : Prop := ∃ (n : Nat) (acc : List UInt8) (pre : List Value), v0 = .int .u64 n ∧ v8 = .int .i64 (pre.length : Nat) ∧ pre.length + acc.length = 20 ∧ n < b ^ pre.length ∧ n ≤ n0 ∧
  padTo (least - acc.length) (digs b n) ++ acc = padTo least (digs b n0) ∧ Row 149 wr w.heap.size (pre ++ acc.map bval) ∧ Below w.heap.size w wr
theorem digit_at (d : Nat) (h : d < 16) : (ByteArray.mk #[48, 49, 50, 51, 52, 53, 54, 55, 56, 57, 97, 98, 99, 100, 101, 102])[d]'h = dch d := by
  revert d; decide

set_option maxRecDepth 20000 in
set_option maxHeartbeats 1000000 in
theorem assemble_10 (n0 least : Nat) (w : World) (hn : n0 < 18446744073709551616) (hl0 : 1 ≤ least) (hl : least ≤ 20) :
    Calls Tryz.prog 93 #[.int .u64 n0, .int .u64 10, .int .i64 least] w fun e w' => e = .returned (.string (bs (padTo least (digs 10 n0)))) ∧ Below w.heap.size w w' := by
  go_enter Tryz.func93, Tryz.ntmps93
  go_wp2
  go_loopw [0, 8] (fun n i wr => AsmRel 10 least n0 w n i wr) (fun _ i _ => (intOf i).toNat)
  case atStart =>
    refine ⟨n0, [], List.replicate 20 (.int .u8 0), rfl, rfl, rfl, by rw [List.length_replicate]; omega, Nat.le_refl _, by simp, ?_, (Below.refl _ _).alloc (Nat.le_refl _) _⟩
    exact heap_alloc_new w _
  case round =>
    obtain ⟨n, acc, pre, rfl, rfl, hlen, hlt, hle, hpad, hrow, hbel⟩ := hrel
    by_cases hgo : 0 < n ∨ acc.length < least
    · have hpos : pre ≠ [] := by
        rintro rfl
        simp at hlen hlt; omega
      obtain ⟨pre, x, rfl⟩ : ∃ p x, pre = p ++ [x] := ⟨_, _, (List.dropLast_concat_getLast hpos).symm⟩
      rw [List.append_assoc, List.singleton_append] at hrow
      have hcell := hrow.cell pre.length
      have hfr := hrow.frozen pre.length
      rw [List.getElem?_append_right (Nat.le_refl _), Nat.sub_self, List.getElem?_cons_zero] at hcell
      have hstep := pad_step 10 least n acc (by omega) hgo
      have HS := Lib.hid hstep; clear hstep
      have HP := Lib.hid hpad; clear hpad
      have HR := Lib.hid hrow; clear hrow
      have HL := Lib.hid hlt; clear hlt
      rw [List.length_append, List.length_singleton] at hlen ⊢
      obtain ⟨a, ha⟩ : ∃ a, pre.length = a := ⟨_, rfl⟩
      rw [ha] at hlen hcell hfr ⊢
      have HA := Lib.hid ha; clear ha
      have hd := Nat.mod_lt n (show 0 < 10 by omega)
      have hpow : n / 10 < 10 ^ a := by
        rw [Nat.div_lt_iff_lt_mul (by omega), ← Nat.pow_succ]; have := HL.out; rw [List.length_append, List.length_singleton, HA.out] at this; exact this
      have HW := Lib.hid hpow; clear hpow
      by_cases h0 : 0 < n
      · go_wp2
        go_roundw
        case rel =>
          refine ⟨n / 10, dch (n % 10) :: acc, pre, by go_num, by rw [HA.out], by rw [HA.out, List.length_cons]; omega, by rw [HA.out]; exact HW.out, by omega, HS.out.symm.trans HP.out, ?_, hbel.setCell (Nat.le_refl _) _⟩
          have := HR.out.set (bval (dch (n % 10)))
          rw [HA.out] at this
          rw [← digit_at (n % 10) (by omega)] at this ⊢
          exact this
        case measure => simp [intOf] <;> omega
      · have hlow : 20 - ((a : Int) + 1) < (least : Int) := by omega
        obtain rfl : n = 0 := by omega
        go_wp2
        go_roundw
        case rel =>
          refine ⟨0 / 10, dch (0 % 10) :: acc, pre, by go_num, by rw [HA.out], by rw [HA.out, List.length_cons]; omega, by rw [HA.out]; exact HW.out, by omega, HS.out.symm.trans HP.out, ?_, hbel.setCell (Nat.le_refl _) _⟩
          have := HR.out.set (bval (dch (0 % 10)))
          rw [HA.out] at this
          rw [← digit_at (0 % 10) (by omega)] at this ⊢
          exact this
        case measure => simp [intOf] <;> omega
    · obtain rfl : n = 0 := by omega
      have hres : padTo least (digs 10 n0) = acc := by rw [← hpad]; exact pad_done 10 least acc (by omega)
      have HS := Lib.hid hres; clear hpad hres hlt hle
      have HR := Lib.hid hrow
      obtain ⟨a, ha⟩ : ∃ a, pre.length = a := ⟨_, rfl⟩
      obtain ⟨c, hc⟩ : ∃ c, acc.length = c := ⟨_, rfl⟩
      have hconv := conv_row hrow Tryz.underlying106 Tryz.underlying5 Tryz.underlying9 c
      clear hrow
      rw [ha, hc] at hlen
      rw [ha, hc, show c = 20 - a from by omega] at hconv
      rw [ha]
      have h1 : (a : Int) ≤ 20 := by omega
      have h2 : a < 20 := by omega
      have hge : (least : Int) ≤ 20 - (a : Int) := by omega
      clear hlen ha hc
      go_wp2
      go_ret
      exact ⟨ret_str (by rw [HS.out]), hbel⟩

set_option maxRecDepth 20000 in
set_option maxHeartbeats 1000000 in
theorem assemble_16 (n0 least : Nat) (w : World) (hn : n0 < 18446744073709551616) (hl0 : 1 ≤ least) (hl : least ≤ 20) :
    Calls Tryz.prog 93 #[.int .u64 n0, .int .u64 16, .int .i64 least] w fun e w' => e = .returned (.string (bs (padTo least (digs 16 n0)))) ∧ Below w.heap.size w w' := by
  go_enter Tryz.func93, Tryz.ntmps93
  go_wp2
  go_loopw [0, 8] (fun n i wr => AsmRel 16 least n0 w n i wr) (fun _ i _ => (intOf i).toNat)
  case atStart =>
    refine ⟨n0, [], List.replicate 20 (.int .u8 0), rfl, rfl, rfl, by rw [List.length_replicate]; omega, Nat.le_refl _, by simp, ?_, (Below.refl _ _).alloc (Nat.le_refl _) _⟩
    exact heap_alloc_new w _
  case round =>
    obtain ⟨n, acc, pre, rfl, rfl, hlen, hlt, hle, hpad, hrow, hbel⟩ := hrel
    by_cases hgo : 0 < n ∨ acc.length < least
    · have hpos : pre ≠ [] := by
        rintro rfl
        simp at hlen hlt; omega
      obtain ⟨pre, x, rfl⟩ : ∃ p x, pre = p ++ [x] := ⟨_, _, (List.dropLast_concat_getLast hpos).symm⟩
      rw [List.append_assoc, List.singleton_append] at hrow
      have hcell := hrow.cell pre.length
      have hfr := hrow.frozen pre.length
      rw [List.getElem?_append_right (Nat.le_refl _), Nat.sub_self, List.getElem?_cons_zero] at hcell
      have hstep := pad_step 16 least n acc (by omega) hgo
      have HS := Lib.hid hstep; clear hstep
      have HP := Lib.hid hpad; clear hpad
      have HR := Lib.hid hrow; clear hrow
      have HL := Lib.hid hlt; clear hlt
      rw [List.length_append, List.length_singleton] at hlen ⊢
      obtain ⟨a, ha⟩ : ∃ a, pre.length = a := ⟨_, rfl⟩
      rw [ha] at hlen hcell hfr ⊢
      have HA := Lib.hid ha; clear ha
      have hd := Nat.mod_lt n (show 0 < 16 by omega)
      have hpow : n / 16 < 16 ^ a := by
        rw [Nat.div_lt_iff_lt_mul (by omega), ← Nat.pow_succ]; have := HL.out; rw [List.length_append, List.length_singleton, HA.out] at this; exact this
      have HW := Lib.hid hpow; clear hpow
      by_cases h0 : 0 < n
      · go_wp2
        go_roundw
        case rel =>
          refine ⟨n / 16, dch (n % 16) :: acc, pre, by go_num, by rw [HA.out], by rw [HA.out, List.length_cons]; omega, by rw [HA.out]; exact HW.out, by omega, HS.out.symm.trans HP.out, ?_, hbel.setCell (Nat.le_refl _) _⟩
          have := HR.out.set (bval (dch (n % 16)))
          rw [HA.out] at this
          rw [← digit_at (n % 16) (by omega)] at this ⊢
          exact this
        case measure => simp [intOf] <;> omega
      · have hlow : 20 - ((a : Int) + 1) < (least : Int) := by omega
        obtain rfl : n = 0 := by omega
        go_wp2
        go_roundw
        case rel =>
          refine ⟨0 / 16, dch (0 % 16) :: acc, pre, by go_num, by rw [HA.out], by rw [HA.out, List.length_cons]; omega, by rw [HA.out]; exact HW.out, by omega, HS.out.symm.trans HP.out, ?_, hbel.setCell (Nat.le_refl _) _⟩
          have := HR.out.set (bval (dch (0 % 16)))
          rw [HA.out] at this
          rw [← digit_at (0 % 16) (by omega)] at this ⊢
          exact this
        case measure => simp [intOf] <;> omega
    · obtain rfl : n = 0 := by omega
      have hres : padTo least (digs 16 n0) = acc := by rw [← hpad]; exact pad_done 16 least acc (by omega)
      have HS := Lib.hid hres; clear hpad hres hlt hle
      have HR := Lib.hid hrow
      obtain ⟨a, ha⟩ : ∃ a, pre.length = a := ⟨_, rfl⟩
      obtain ⟨c, hc⟩ : ∃ c, acc.length = c := ⟨_, rfl⟩
      have hconv := conv_row hrow Tryz.underlying106 Tryz.underlying5 Tryz.underlying9 c
      clear hrow
      rw [ha, hc] at hlen
      rw [ha, hc, show c = 20 - a from by omega] at hconv
      rw [ha]
      have h1 : (a : Int) ≤ 20 := by omega
      have h2 : a < 20 := by omega
      have hge : (least : Int) ≤ 20 - (a : Int) := by omega
      clear hlen ha hc
      go_wp2
      go_ret
      exact ⟨ret_str (by rw [HS.out]), hbel⟩

/-! ### intText -/
def intTextL (n : Int) : List UInt8 := if n < 0 then 45 :: padTo 1 (digs 10 n.natAbs) else padTo 1 (digs 10 n.natAbs)
set_option maxRecDepth 20000 in
set_option maxHeartbeats 1000000 in
theorem intText_pos (n : Nat) (w : World) (h1 : n < 9223372036854775808) : Calls Tryz.prog 92 #[.int .i64 n] w fun e w' => e = .returned (.string (bs (padTo 1 (digs 10 n)))) ∧ Below w.heap.size w w' := by
  have h0 : 0 ≤ (n : Int) := by omega
  go_enter Tryz.func92, Tryz.ntmps92
  go_wp2_with (go_at_call 93; refine (assemble_10 n 1 _ (by omega) (by omega) (by omega)).mono ?_; rintro e w' ⟨rfl, hb⟩)
  go_ret
  exact ⟨rfl, hb⟩
set_option maxRecDepth 20000 in
set_option maxHeartbeats 1000000 in
theorem intText_neg (n : Nat) (w : World) (h0 : 0 < n) (h1 : n ≤ 9223372036854775808) : Calls Tryz.prog 92 #[.int .i64 (-(n : Int))] w fun e w' => e = .returned (.string (bs (45 :: padTo 1 (digs 10 n)))) ∧ Below w.heap.size w w' := by
  have hneg : -(n : Int) < 0 := by omega
  have hw : IntKind.u64.wrap (-IntKind.u64.wrap (-(n : Int))) = n := by simp [IntKind.wrap, IntKind.bits, IntKind.signed]; omega
  have hsz : ¬ 9223372036854775807 < 1 + (bs (padTo 1 (digs 10 n))).size := by
    have := digs_len 10 n 20 (by omega) (by omega)
    rw [bs_size, padTo_len]; omega
  go_enter Tryz.func92, Tryz.ntmps92
  go_wp2_with (go_at_call 93; refine (assemble_10 n 1 _ (by omega) (by omega) (by omega)).mono ?_; rintro e w' ⟨rfl, hb⟩)
  go_ret
  exact ⟨rfl, hb⟩
theorem intText_any (n : Int) (w : World) (h0 : -9223372036854775808 ≤ n) (h1 : n < 9223372036854775808) : Calls Tryz.prog 92 #[.int .i64 n] w fun e w' => e = .returned (.string (bs (intTextL n))) ∧ Below w.heap.size w w' := by
  by_cases hn : n < 0
  · have := intText_neg n.natAbs w (by omega) (by omega)
    rw [show -((n.natAbs : Nat) : Int) = n from by omega] at this
    unfold intTextL; rw [if_pos hn]; exact this
  · have := intText_pos n.natAbs w (by omega)
    rw [show ((n.natAbs : Nat) : Int) = n from by omega] at this
    unfold intTextL; rw [if_neg hn]; exact this
end Go.Proofs.YtahljmddnfldlaaGreatDoor
namespace Go.Proofs.YtahljmddnfldlaaGreatDoor
open Go.RowKit FloM ValM

/-- A value, by its fields. -/
structure V where
  k : Int
  n : Int
  s : ByteArray
def V.val (v : V) : Value := .agg #[.int .i64 v.k, .int .i64 v.n, .string v.s]
def rightV (v : V) : Bool := if v.k = 1 then decide (v.s = ByteArray.empty) else if v.k = 2 then decide (v.s = ByteArray.empty) && right v.n else if v.k = 3 then decide (v.n = 0) && name v.s else false
theorem emp_list (s : ByteArray) : s.toList = [] ↔ s = ByteArray.empty := by
  rw [toList_ls]; exact ⟨fun h => ls_inj h, fun h => by rw [h]; rfl⟩
theorem emp_isEmpty (s : ByteArray) : s.toList.isEmpty = decide (s = ByteArray.empty) := by
  rw [Bool.eq_iff_iff, List.isEmpty_iff, decide_eq_true_eq]; exact emp_list s
theorem rightV_1 (k n : Int) (s : ByteArray) (h : (k == 1) = true) : rightV ⟨k, n, s⟩ = s.toList.isEmpty := by
  simp only [beq_iff_eq] at h; subst h; rw [emp_isEmpty]; rfl
theorem rightV_2 (k n : Int) (s : ByteArray) (h : (k == 2) = true) : rightV ⟨k, n, s⟩ = (s.toList.isEmpty && right n) := by
  simp only [beq_iff_eq] at h; subst h; rw [emp_isEmpty]; rfl
theorem rightV_3 (k n : Int) (s : ByteArray) (h : (k == 3) = true) : rightV ⟨k, n, s⟩ = (decide (n = 0) && name s) := by
  simp only [beq_iff_eq] at h; subst h; rfl
theorem rightV_4 (k n : Int) (s : ByteArray) (h1 : (k == 1) = false) (h2 : (k == 2) = false) (h3 : (k == 3) = false) : rightV ⟨k, n, s⟩ = false := by
  simp only [beq_eq_false_iff_ne] at h1 h2 h3; simp [rightV, h1, h2, h3]

def RightV (v : V) (w : World) (e : Ending) (w' : World) : Prop := e = .returned (.bool (rightV v)) ∧ Below w.heap.size w w'
set_option maxRecDepth 20000 in
set_option maxHeartbeats 1000000 in
theorem right_go (k n : Int) (s : ByteArray) (w : World) (hs : s.size ≤ maxLen) : Calls Tryz.prog 91 #[.agg #[.int .i64 k, .int .i64 n, .string s]] w (RightV ⟨k, n, s⟩ w) := by
  go_enter Tryz.func91, Tryz.ntmps91
  go_wp2_with (first | (go_at_call 112; refine (right_any _ _).mono ?_; rintro e w' ⟨rfl, rfl⟩) | (go_at_call 65; refine (name_any _ _ hs).mono ?_; rintro e w' ⟨rfl, rfl⟩))
  all_goals
    go_ret
    refine ⟨ret_bool ?_, (Below.refl _ _).alloc (Nat.le_refl _) _⟩
  · rw [rightV_1 _ _ _ ‹_›]; try rfl
  · rw [rightV_2 _ _ _ ‹_›]; try simp_all
  · rw [rightV_2 _ _ _ ‹_›]; try simp_all
  · rw [rightV_3 _ _ _ ‹_›]; try simp_all
  · rw [rightV_3 _ _ _ ‹_›]; try simp_all
  · rw [rightV_4 _ _ _ ‹_› ‹_› ‹_›]

/-! ### Compare -/
/-! ### Text -/
def textV (v : V) : List UInt8 := if rightV v then (if v.k = 1 then intTextL v.n else if v.k = 2 then 35 :: padTo 16 (digs 16 (IntKind.u64.wrap v.n).toNat) else ls v.s) else []
theorem keep {W w1 : World} (hb : Below W.heap.size W w1) : ∀ b o, b < W.heap.size → w1.cell? ⟨b, o, none⟩ = W.cell? ⟨b, o, none⟩ := fun b o h => hb.cell (p := ⟨b, o, none⟩) h
def TextV (v : V) (w : World) (e : Ending) (w' : World) : Prop := e = .returned (.string (bs (textV v))) ∧ Below w.heap.size w w'
theorem TextV.mk {v : V} {w w' : World} {t : ByteArray} (h : ls t = textV v) (hb : Below w.heap.size w w') : TextV v w (.returned (.string t)) w' := ⟨by rw [← h, bs_ls], hb⟩

set_option maxRecDepth 20000 in
set_option maxHeartbeats 1000000 in
theorem text_bad (k n : Int) (s : ByteArray) (w : World) (hs : s.size ≤ maxLen) (h : rightV ⟨k, n, s⟩ = false) : Calls Tryz.prog 64 #[.agg #[.int .i64 k, .int .i64 n, .string s]] w (TextV ⟨k, n, s⟩ w) := by
  go_enter Tryz.func64, Tryz.ntmps64
  go_wp2_with (go_at_call 91; refine (right_go _ _ _ _ hs).mono ?_; rintro e w' ⟨rfl, hb⟩)
  go_ret
  exact TextV.mk (by unfold textV; rw [h]; rfl) (((Below.refl _ _).alloc (Nat.le_refl _) _).trans (hb.mono (by simp)))
set_option maxRecDepth 20000 in
set_option maxHeartbeats 1000000 in
theorem text_int (n : Int) (s : ByteArray) (w : World) (hs : s.size ≤ maxLen) (h : rightV ⟨1, n, s⟩ = true) (h0 : -9223372036854775808 ≤ n) (h1 : n < 9223372036854775808) : Calls Tryz.prog 64 #[.agg #[.int .i64 1, .int .i64 n, .string s]] w (TextV ⟨1, n, s⟩ w) := by
  go_enter Tryz.func64, Tryz.ntmps64
  go_wp2_with (first | (go_at_call 91; refine (right_go _ _ _ _ hs).mono ?_; rintro e w1 ⟨rfl, hb⟩; have hc := keep hb) | (go_at_call 92; refine (intText_any _ _ h0 h1).mono ?_; rintro e w2 ⟨rfl, hb2⟩))
  go_ret
  exact TextV.mk (by unfold textV; rw [h]; rfl) (((Below.refl _ _).alloc (Nat.le_refl _) _).trans ((hb.mono (by simp)).trans (hb2.mono (by have := hb.size; simp at this; omega))))
set_option maxRecDepth 20000 in
set_option maxHeartbeats 1000000 in
theorem text_sym (n : Int) (s : ByteArray) (w : World) (hs : s.size ≤ maxLen) (h : rightV ⟨3, n, s⟩ = true) : Calls Tryz.prog 64 #[.agg #[.int .i64 3, .int .i64 n, .string s]] w (TextV ⟨3, n, s⟩ w) := by
  go_enter Tryz.func64, Tryz.ntmps64
  go_wp2_with (go_at_call 91; refine (right_go _ _ _ _ hs).mono ?_; rintro e w1 ⟨rfl, hb⟩; have hc := keep hb)
  go_ret
  exact TextV.mk (by unfold textV; rw [h]; rfl) (((Below.refl _ _).alloc (Nat.le_refl _) _).trans (hb.mono (by simp)))
set_option maxRecDepth 20000 in
set_option maxHeartbeats 1000000 in
theorem text_flo (n : Int) (N : Nat) (s : ByteArray) (w : World) (hs : s.size ≤ maxLen) (h : rightV ⟨2, n, s⟩ = true) (hw : IntKind.u64.wrap n = N) (hN : N < 18446744073709551616) : Calls Tryz.prog 64 #[.agg #[.int .i64 2, .int .i64 n, .string s]] w (TextV ⟨2, n, s⟩ w) := by
  have hsz : ¬ 9223372036854775807 < 1 + (bs (padTo 16 (digs 16 N))).size := by
    have := digs_len 16 N 20 (by omega) (by omega)
    rw [bs_size, padTo_len]; omega
  go_enter Tryz.func64, Tryz.ntmps64
  go_wp2_with (first | (go_at_call 91; refine (right_go _ _ _ _ hs).mono ?_; rintro e w1 ⟨rfl, hb⟩; have hc := keep hb) | (go_at_call 93; refine (assemble_16 N 16 _ hN (by omega) (by omega)).mono ?_; rintro e w2 ⟨rfl, hb2⟩))
  go_ret
  exact TextV.mk (by unfold textV; rw [h]; simp only [if_true]; rw [if_neg (by decide), hw]; rfl) (((Below.refl _ _).alloc (Nat.le_refl _) _).trans ((hb.mono (by simp)).trans (hb2.mono (by have := hb.size; simp at this; omega))))
theorem u64_nat (n : Int) : ∃ N : Nat, IntKind.u64.wrap n = N ∧ N < 18446744073709551616 := by
  refine ⟨(IntKind.u64.wrap n).toNat, ?_, ?_⟩ <;> simp [IntKind.wrap, IntKind.bits, IntKind.signed] <;> omega
theorem text_go (k n : Int) (s : ByteArray) (w : World) (hs : s.size ≤ maxLen) (h0 : -9223372036854775808 ≤ n) (h1 : n < 9223372036854775808) : Calls Tryz.prog 64 #[.agg #[.int .i64 k, .int .i64 n, .string s]] w (TextV ⟨k, n, s⟩ w) := by
  by_cases h : rightV ⟨k, n, s⟩ = true
  · by_cases k1 : k = 1
    · subst k1; exact text_int n s w hs h h0 h1
    · by_cases k2 : k = 2
      · subst k2
        obtain ⟨N, hw, hN⟩ := u64_nat n
        exact text_flo n N s w hs h hw hN
      · by_cases k3 : k = 3
        · subst k3; exact text_sym n s w hs h
        · exfalso; simp [rightV, k1, k2, k3] at h
  · exact text_bad k n s w hs (by simpa using h)

/-! ### How long a text is -/
theorem textV_len (v : V) (h : Fits v.n) : (bs (textV v)).size ≤ 40 := by
  rw [bs_size]
  unfold textV
  split
  · rename_i hr
    split
    · unfold intTextL Fits at *
      have := digs_len 10 v.n.natAbs 20 (by omega) (by omega)
      split
      · rw [List.length_cons, padTo_len]; omega
      · rw [padTo_len]; omega
    · split
      · obtain ⟨N, hw, hN⟩ := u64_nat v.n
        have := digs_len 16 N 16 (by omega) (by omega)
        rw [hw, Int.toNat_natCast, List.length_cons, padTo_len]; omega
      · rename_i h1 h2
        have h3 : name v.s = true := by
          unfold rightV at hr; rw [if_neg h1, if_neg h2] at hr
          split at hr
          · rw [Bool.and_eq_true] at hr; exact hr.2
          · cases hr
        exact ((nameL_iff _).1 h3).2.1
  · simp
end Go.Proofs.YtahljmddnfldlaaGreatDoor
namespace Go.Proofs.YtahljmddnfldlaaGreatDoor
open Go.RowKit FloM ValM

set_option maxRecDepth 20000 in
set_option maxHeartbeats 400000 in
theorem hasPre_any (s p : ByteArray) (w : World) (hp : p.size ≤ s.size) : Calls Tryz.prog 140 #[.string s, .string p] w fun e w' => e = .returned (.bool ((s.extract 0 p.size).toList == p.toList)) ∧ w = w' := by
  go_enter Tryz.func140, Tryz.ntmps140
  go_wp2
  go_ret
  exact ⟨rfl, rfl⟩
set_option maxRecDepth 20000 in
set_option maxHeartbeats 400000 in
theorem hasPre_short (s p : ByteArray) (w : World) (hp : s.size < p.size) : Calls Tryz.prog 140 #[.string s, .string p] w fun e w' => e = .returned (.bool false) ∧ w = w' := by
  go_enter Tryz.func140, Tryz.ntmps140
  go_wp2
  go_ret
  exact ⟨rfl, rfl⟩
def hasP (s p : ByteArray) : Bool := decide (p.size ≤ s.size) && ((s.extract 0 p.size).toList == p.toList)
theorem hasP_any (s p : ByteArray) (w : World) : Calls Tryz.prog 140 #[.string s, .string p] w fun e w' => e = .returned (.bool (hasP s p)) ∧ w = w' := by
  by_cases h : p.size ≤ s.size
  · refine (hasPre_any s p w h).mono ?_
    rintro e w' ⟨rfl, rfl⟩
    exact ⟨ret_bool (by unfold hasP; rw [decide_eq_true h]; rfl), rfl⟩
  · refine (hasPre_short s p w (by omega)).mono ?_
    rintro e w' ⟨rfl, rfl⟩
    exact ⟨ret_bool (by unfold hasP; rw [decide_eq_false h]; rfl), rfl⟩
theorem hasP_le {s p : ByteArray} (h : hasP s p = true) : p.size ≤ s.size := by
  unfold hasP at h; rw [Bool.and_eq_true, decide_eq_true_eq] at h; exact h.1

set_option maxRecDepth 20000 in
set_option maxHeartbeats 400000 in
theorem cutL_no (s p : ByteArray) (w : World) (h : hasP s p = false) : Calls Tryz.prog 136 #[.string s, .string p] w fun e w' => e = .returned (.tuple #[.string s, .bool false]) ∧ w = w' := by
  go_enter Tryz.func136, Tryz.ntmps136
  go_wp2_with (go_at_call 140; refine (hasP_any _ _ _).mono ?_; rintro e w' ⟨rfl, rfl⟩)
  go_ret2
  exact ⟨rfl, rfl⟩
set_option maxRecDepth 20000 in
set_option maxHeartbeats 400000 in
theorem cutL_yes (s p : ByteArray) (w : World) (h : hasP s p = true) : Calls Tryz.prog 136 #[.string s, .string p] w fun e w' => e = .returned (.tuple #[.string (s.extract p.size s.size), .bool true]) ∧ w = w' := by
  have hp := hasP_le h
  go_enter Tryz.func136, Tryz.ntmps136
  go_wp2_with (go_at_call 140; refine (hasP_any _ _ _).mono ?_; rintro e w' ⟨rfl, rfl⟩)
  go_ret2
  exact ⟨rfl, rfl⟩
set_option maxRecDepth 20000 in
set_option maxHeartbeats 400000 in
theorem cut_no (s p : ByteArray) (w : World) (h : hasP s p = false) : Calls Tryz.prog 125 #[.string s, .string p] w fun e w' => e = .returned (.tuple #[.string s, .bool false]) ∧ w = w' := by
  go_enter Tryz.func125, Tryz.ntmps125
  go_wp2_with (go_at_call 136; refine (cutL_no _ _ _ h).mono ?_; rintro e w' ⟨rfl, rfl⟩)
  go_ret2
  exact ⟨rfl, rfl⟩
set_option maxRecDepth 20000 in
set_option maxHeartbeats 400000 in
theorem cut_yes (s p : ByteArray) (w : World) (h : hasP s p = true) : Calls Tryz.prog 125 #[.string s, .string p] w fun e w' => e = .returned (.tuple #[.string (s.extract p.size s.size), .bool true]) ∧ w = w' := by
  go_enter Tryz.func125, Tryz.ntmps125
  go_wp2_with (go_at_call 136; refine (cutL_yes _ _ _ h).mono ?_; rintro e w' ⟨rfl, rfl⟩)
  go_ret2
  exact ⟨rfl, rfl⟩

/-! ### readDigits -/
def digOk (b most : Nat) (l : List UInt8) : Bool := allDig b l && decide (numOf b l ≤ most)
def ReadsAs (b most : Nat) (l : List UInt8) (w : World) (e : Ending) (w' : World) : Prop :=
  ∃ n : Nat, e = .returned (.tuple #[.int .u64 n, .bool (digOk b most l)]) ∧ n ≤ most ∧ (digOk b most l = true → n = numOf b l) ∧ w = w'
theorem ReadsAs.bad {b most n : Nat} {l : List UInt8} {w : World} (h : digOk b most l = false) (hn : n ≤ most) : ReadsAs b most l w (.returned (.tuple #[.int .u64 n, .bool false])) w :=
  ⟨n, by rw [h], hn, fun h' => absurd (h.symm.trans h') Bool.false_ne_true, rfl⟩
theorem ReadsAs.good {b most n : Nat} {l : List UInt8} {w : World} (h : digOk b most l = true) (hn : n ≤ most) (he : n = numOf b l) : ReadsAs b most l w (.returned (.tuple #[.int .u64 n, .bool true])) w :=
  ⟨n, by rw [h], hn, fun _ => he, rfl⟩
theorem dig_bad (b most : Nat) (s : ByteArray) (k : Nat) (h : k < s.size) (hc : isDig b s[k] = false) : digOk b most (ls s) = false := by
  unfold digOk allDig; rw [split_at s k h]; simp [hc]
theorem dig_over (b most : Nat) (hb : 1 ≤ b) (s : ByteArray) (k : Nat) (h : k < s.size) (hc : most < numOf b ((ls s).take k) * b + dval s[k]) : digOk b most (ls s) = false := by
  have := numOf_mono b hb ((ls s).take (k + 1)) ((ls s).drop (k + 1))
  rw [List.take_append_drop, take_snoc s k h, numOf_snoc] at this
  unfold digOk; rw [decide_eq_false (by omega)]; simp
theorem dig_step (b : Nat) (s : ByteArray) (k n : Nat) (h : k < s.size) (ha : allDig b ((ls s).take k) = true ∧ numOf b ((ls s).take k) = n) (hc : isDig b s[k] = true) :
    allDig b ((ls s).take (k + 1)) = true ∧ numOf b ((ls s).take (k + 1)) = n * b + dval s[k] := by
  rw [take_snoc s k h, allDig_snoc, numOf_snoc, ha.1, ha.2, hc]; exact ⟨rfl, rfl⟩
def RdRel (b most : Nat) (s : ByteArray) (n i : Value) : Prop := ∃ k m : Nat, k ≤ s.size ∧ i = .int .i64 k ∧ n = .int .u64 m ∧ m ≤ most ∧ allDig b ((ls s).take k) = true ∧ numOf b ((ls s).take k) = m

set_option maxRecDepth 20000 in
set_option maxHeartbeats 2000000 in
theorem readDigits_10 (s : ByteArray) (most : Nat) (w : World) (hs : s.size ≤ maxLen) (h0 : 16 ≤ most) (h1 : most < 18446744073709551616) :
    Calls Tryz.prog 126 #[.string s, .int .u64 10, .int .u64 most] w (ReadsAs 10 most (ls s) w) := by
  unfold maxLen at hs
  go_enter Tryz.func126, Tryz.ntmps126
  go_wp2
  go_step3
  go_wp2
  go_step3
  go_wp2
  go_loop [8, 9, 10, 11] (fun n i _ _ => RdRel 10 most s n i) (fun _ i _ _ => s.size - (intOf i).toNat)
  case atStart => exact ⟨0, 0, Nat.zero_le _, rfl, rfl, Nat.zero_le _, rfl, rfl⟩
  case round =>
    obtain ⟨k, m, hk, rfl, rfl, hm, ha, hn⟩ := hrel
    have HA := Lib.hid (And.intro ha hn); clear ha hn
    by_cases hlt : k < s.size
    · have hc : s[k].toNat < 256 := s[k].toNat_lt
      by_cases hd : 48 ≤ (s[k].toNat : Int) ∧ (s[k].toNat : Int) ≤ 57
      · obtain ⟨hd1, hd2⟩ := hd
        have hv : dval s[k] = s[k].toNat - 48 := by unfold dval; split <;> omega
        have HD := Lib.hid (show isDig 10 s[k] = true by rw [isDig_iff]; omega)
        have HV := Lib.hid hv; clear hv
        by_cases hle : m * 10 + (s[k].toNat - 48) ≤ most
        · have hq : ((m : Int)) ≤ ((most : Int) - ((s[k].toNat : Int) - 48)) / 10 := by omega
          go_wp2
          go_round
          case rel =>
            have hst := dig_step 10 s k m hlt HA.out HD.out
            exact ⟨k + 1, m * 10 + (s[k].toNat - 48), by omega, by go_num, by first | rfl | go_num | (congr 1; omega), hle, hst.1, by rw [hst.2, HV.out]⟩
          case measure => simp [intOf]; omega
        · have hq : ((most : Int) - ((s[k].toNat : Int) - 48)) / 10 < (m : Int) := by omega
          have hne : ((k : Int) == (s.size : Int)) = false := by rw [beq_eq_false_iff_ne]; omega
          have HO := Lib.hid (dig_over 10 most (by omega) s k hlt (by rw [HA.out.2, HV.out]; omega)); clear hle
          go_wp2
          go_ret2
          exact ReadsAs.bad HO.out hm
      · have HC := Lib.hid (dig_bad 10 most s k hlt (by rw [← Bool.not_eq_true, isDig_iff]; omega))
        have hne : ((k : Int) == (s.size : Int)) = false := by rw [beq_eq_false_iff_ne]; omega
        go_wp2
        all_goals
          go_ret2
          exact ReadsAs.bad HC.out hm
    · obtain rfl : k = s.size := by omega
      have hne : (((s.size : Nat) : Int) == (s.size : Int)) = true := by simp
      have HE := Lib.hid (show digOk 10 most (ls s) = true ∧ m = numOf 10 (ls s) by
        have := HA.out; rw [take_all s s.size (Nat.le_refl _)] at this
        exact ⟨by unfold digOk; rw [this.1, this.2, decide_eq_true hm]; rfl, this.2.symm⟩)
      go_wp2
      go_ret2
      exact ReadsAs.good HE.out.1 hm HE.out.2

set_option maxRecDepth 20000 in
set_option maxHeartbeats 2000000 in
theorem readDigits_16 (s : ByteArray) (most : Nat) (w : World) (hs : s.size ≤ maxLen) (h0 : 16 ≤ most) (h1 : most < 18446744073709551616) :
    Calls Tryz.prog 126 #[.string s, .int .u64 16, .int .u64 most] w (ReadsAs 16 most (ls s) w) := by
  unfold maxLen at hs
  go_enter Tryz.func126, Tryz.ntmps126
  go_wp2
  go_step3
  go_wp2
  go_step3
  go_wp2
  go_loop [8, 9, 10, 11] (fun n i _ _ => RdRel 16 most s n i) (fun _ i _ _ => s.size - (intOf i).toNat)
  case atStart => exact ⟨0, 0, Nat.zero_le _, rfl, rfl, Nat.zero_le _, rfl, rfl⟩
  case round =>
    obtain ⟨k, m, hk, rfl, rfl, hm, ha, hn⟩ := hrel
    have HA := Lib.hid (And.intro ha hn); clear ha hn
    by_cases hlt : k < s.size
    · have hc : s[k].toNat < 256 := s[k].toNat_lt
      by_cases hd : 48 ≤ (s[k].toNat : Int) ∧ (s[k].toNat : Int) ≤ 57
      · obtain ⟨hd1, hd2⟩ := hd
        have hv : dval s[k] = s[k].toNat - 48 := by unfold dval; split <;> omega
        have HD := Lib.hid (show isDig 16 s[k] = true by rw [isDig_iff]; omega)
        have HV := Lib.hid hv; clear hv
        by_cases hle : m * 16 + (s[k].toNat - 48) ≤ most
        · have hq : ((m : Int)) ≤ ((most : Int) - ((s[k].toNat : Int) - 48)) / 16 := by omega
          go_wp2
          go_round
          case rel =>
            have hst := dig_step 16 s k m hlt HA.out HD.out
            exact ⟨k + 1, m * 16 + (s[k].toNat - 48), by omega, by go_num, by first | rfl | go_num | (congr 1; omega), hle, hst.1, by rw [hst.2, HV.out]⟩
          case measure => simp [intOf]; omega
        · have hq : ((most : Int) - ((s[k].toNat : Int) - 48)) / 16 < (m : Int) := by omega
          have hne : ((k : Int) == (s.size : Int)) = false := by rw [beq_eq_false_iff_ne]; omega
          have HO := Lib.hid (dig_over 16 most (by omega) s k hlt (by rw [HA.out.2, HV.out]; omega)); clear hle
          go_wp2
          go_ret2
          exact ReadsAs.bad HO.out hm
      · by_cases ha : 97 ≤ (s[k].toNat : Int) ∧ (s[k].toNat : Int) ≤ 102
        · obtain ⟨ha1, ha2⟩ := ha
          have hd1 : 57 < (s[k].toNat : Int) := by omega
          clear hd
          have hv : dval s[k] = s[k].toNat - 87 := by unfold dval; split <;> omega
          have HD := Lib.hid (show isDig 16 s[k] = true by rw [isDig_iff]; omega)
          have HV := Lib.hid hv; clear hv
          by_cases hle : m * 16 + (s[k].toNat - 87) ≤ most
          · have hq : ((m : Int)) ≤ ((most : Int) - ((s[k].toNat : Int) - 87)) / 16 := by omega
            go_wp2
            go_round
            case rel =>
              have hst := dig_step 16 s k m hlt HA.out HD.out
              exact ⟨k + 1, m * 16 + (s[k].toNat - 87), by omega, by go_num, by first | rfl | go_num | (congr 1; omega), hle, hst.1, by rw [hst.2, HV.out]⟩
            case measure => simp [intOf]; omega
          · have hq : ((most : Int) - ((s[k].toNat : Int) - 87)) / 16 < (m : Int) := by omega
            have hne : ((k : Int) == (s.size : Int)) = false := by rw [beq_eq_false_iff_ne]; omega
            have HO := Lib.hid (dig_over 16 most (by omega) s k hlt (by rw [HA.out.2, HV.out]; omega)); clear hle
            go_wp2
            go_ret2
            exact ReadsAs.bad HO.out hm
        · have HC := Lib.hid (dig_bad 16 most s k hlt (by rw [← Bool.not_eq_true, isDig_iff]; omega))
          have hne : ((k : Int) == (s.size : Int)) = false := by rw [beq_eq_false_iff_ne]; omega
          go_wp2
          all_goals
            go_ret2
            exact ReadsAs.bad HC.out hm
    · obtain rfl : k = s.size := by omega
      have hne : (((s.size : Nat) : Int) == (s.size : Int)) = true := by simp
      have HE := Lib.hid (show digOk 16 most (ls s) = true ∧ m = numOf 16 (ls s) by
        have := HA.out; rw [take_all s s.size (Nat.le_refl _)] at this
        exact ⟨by unfold digOk; rw [this.1, this.2, decide_eq_true hm]; rfl, this.2.symm⟩)
      go_wp2
      go_ret2
      exact ReadsAs.good HE.out.1 hm HE.out.2
end Go.Proofs.YtahljmddnfldlaaGreatDoor
namespace Go.Proofs.YtahljmddnfldlaaGreatDoor
open Go.RowKit FloM ValM

/-! ### A prefix of one byte -/
theorem ls_extract (s : ByteArray) (a b : Nat) : ls (s.extract a b) = ((ls s).drop a).take (b - a) := by
  simp [ls, ByteArray.data_extract]
theorem extract_tail (s : ByteArray) (a : Nat) : ls (s.extract a s.size) = (ls s).drop a := by
  rw [ls_extract]; exact List.take_of_length_le (by rw [List.length_drop, ls_len]; omega)
theorem size_cons {s u : ByteArray} {c : UInt8} (h : ls s = c :: ls u) : s.size = u.size + 1 := by rw [← ls_len, h, List.length_cons, ls_len]
theorem hasP_one {s u : ByteArray} {c : UInt8} (h : ls s = c :: ls u) : hasP s ⟨#[c]⟩ = true := by
  have hsz := size_cons h
  unfold hasP
  rw [decide_eq_true (show (ByteArray.mk #[c]).size ≤ s.size by show 1 ≤ s.size; omega), toList_ls, toList_ls, ls_extract, h]
  simp [ls, ByteArray.size]
theorem tail_one {s u : ByteArray} {c : UInt8} (h : ls s = c :: ls u) : s.extract 1 s.size = u := by
  apply ls_inj
  rw [extract_tail, h]; rfl
theorem hasP_none {s : ByteArray} {c : UInt8} (h : ∀ r, ls s ≠ c :: r) : hasP s ⟨#[c]⟩ = false := by
  cases e : ls s with
  | nil =>
    unfold hasP
    have : s.size = 0 := by rw [← ls_len, e]; rfl
    rw [decide_eq_false (show ¬ (ByteArray.mk #[c]).size ≤ s.size by show ¬ 1 ≤ s.size; omega)]; rfl
  | cons d r =>
    have hd : d ≠ c := fun hd => h r (by rw [e, hd])
    unfold hasP
    have : ((List.drop 0 (d :: r)).take ((ByteArray.mk #[c]).size - 0) == ls ⟨#[c]⟩) = false := by
      show ([d] == [c]) = false
      simp [hd]
    rw [toList_ls, toList_ls, ls_extract, e, this, Bool.and_false]
theorem cut1_yes (s u : ByteArray) (c : UInt8) (w : World) (h : ls s = c :: ls u) : Calls Tryz.prog 125 #[.string s, .string ⟨#[c]⟩] w fun e w' => e = .returned (.tuple #[.string u, .bool true]) ∧ w = w' := by
  have := cut_yes s ⟨#[c]⟩ w (hasP_one h)
  rw [show (ByteArray.mk #[c]).size = 1 from rfl, tail_one h] at this
  exact this

/-! ### readInt -/
def readIntL (l : List UInt8) : Option Int :=
  match l with
  | [] => none
  | c :: r =>
    if c = 45 then
      match r with
      | [] => none
      | d :: q => if d = 48 then none else if digOk 10 9223372036854775808 (d :: q) then some (-(numOf 10 (d :: q) : Int)) else none
    else if c = 48 ∧ r ≠ [] then none else if digOk 10 9223372036854775807 (c :: r) then some (numOf 10 (c :: r) : Int) else none
def TellsInt (o : Option Int) (w : World) (e : Ending) (w' : World) : Prop :=
  ∃ n : Int, e = .returned (.tuple #[.int .i64 n, .bool o.isSome]) ∧ (∀ m, o = some m → n = m) ∧ w = w'
theorem TellsInt.bad {w : World} {n : Int} {o : Option Int} (h : o = none) : TellsInt o w (.returned (.tuple #[.int .i64 n, .bool false])) w := by
  subst h; exact ⟨n, rfl, (fun _ h => by cases h), rfl⟩
theorem TellsInt.good {w : World} {n : Int} {o : Option Int} (h : o = some n) : TellsInt o w (.returned (.tuple #[.int .i64 n, .bool true])) w := by
  subst h; exact ⟨n, rfl, (fun _ h => by injection h), rfl⟩

set_option maxRecDepth 20000 in
set_option maxHeartbeats 1000000 in
theorem ri_empty (w : World) : Calls Tryz.prog 110 #[.string ByteArray.empty] w fun e w' => e = .returned (.tuple #[.int .i64 0, .bool false]) ∧ w = w' := by
  have h := hasP_none (s := ByteArray.empty) (c := 45) (fun r h => by cases h)
  go_enter Tryz.func110, Tryz.ntmps110
  go_wp2_with (go_at_call 125; refine (cut_no _ _ _ h).mono ?_; rintro e w' ⟨rfl, rfl⟩)
  go_ret2
  exact ⟨rfl, rfl⟩
set_option maxRecDepth 20000 in
set_option maxHeartbeats 1000000 in
theorem ri_minus (s : ByteArray) (w : World) (h : ls s = 45 :: ls ByteArray.empty) : Calls Tryz.prog 110 #[.string s] w fun e w' => e = .returned (.tuple #[.int .i64 0, .bool false]) ∧ w = w' := by
  have H := Lib.hid h; clear h
  go_enter Tryz.func110, Tryz.ntmps110
  go_wp2_with (go_at_call 125; refine (cut1_yes _ ByteArray.empty _ _ H.out).mono ?_; rintro e w' ⟨rfl, rfl⟩)
  go_ret2
  exact ⟨rfl, rfl⟩
set_option maxRecDepth 20000 in
set_option maxHeartbeats 1000000 in
theorem ri_mzero (s u : ByteArray) (w : World) (h : ls s = 45 :: ls u) (hp : 0 < u.size) (h48 : ((u[0].toNat : Int) == 48) = true) (h0 : (s.toList == [48]) = false) : Calls Tryz.prog 110 #[.string s] w fun e w' => e = .returned (.tuple #[.int .i64 0, .bool false]) ∧ w = w' := by
  have H := Lib.hid h; clear h
  have hu := ne_list hp
  have hu' := ne_list' hp
  go_enter Tryz.func110, Tryz.ntmps110
  go_wp2_with (go_at_call 125; refine (cut1_yes _ u _ _ H.out).mono ?_; rintro e w' ⟨rfl, rfl⟩)
  go_ret2
  exact ⟨rfl, rfl⟩
set_option maxRecDepth 20000 in
set_option maxHeartbeats 1000000 in
theorem ri_pzero (s : ByteArray) (w : World) (h : hasP s ⟨#[45]⟩ = false) (hp : 0 < s.size) (h48 : ((s[0].toNat : Int) == 48) = true) (h0 : (s.toList == [48]) = false) : Calls Tryz.prog 110 #[.string s] w fun e w' => e = .returned (.tuple #[.int .i64 0, .bool false]) ∧ w = w' := by
  have H := Lib.hid h; clear h
  have hu := ne_list hp
  have hu' := ne_list' hp
  go_enter Tryz.func110, Tryz.ntmps110
  go_wp2_with (go_at_call 125; refine (cut_no _ _ _ H.out).mono ?_; rintro e w' ⟨rfl, rfl⟩)
  go_ret2
  exact ⟨rfl, rfl⟩
theorem wrap_neg (n : Int) (h0 : 0 ≤ n) (h : n ≤ 9223372036854775808) : wrap64 (IntKind.u64.wrap (-n)) = -n := by
  simp [IntKind.wrap, IntKind.bits, IntKind.signed, wrap64]; omega
/-- What readInt tells where it has read digits: m as a number of its own sign. -/
def ReadNeg (l : List UInt8) (w : World) (e : Ending) (w' : World) : Prop :=
  ∃ n : Int, e = .returned (.tuple #[.int .i64 n, .bool (digOk 10 9223372036854775808 l)]) ∧ (digOk 10 9223372036854775808 l = true → n = -(numOf 10 l : Int)) ∧ w = w'
def ReadPos (l : List UInt8) (w : World) (e : Ending) (w' : World) : Prop :=
  ∃ n : Int, e = .returned (.tuple #[.int .i64 n, .bool (digOk 10 9223372036854775807 l)]) ∧ (digOk 10 9223372036854775807 l = true → n = (numOf 10 l : Int)) ∧ w = w'
set_option maxRecDepth 20000 in
set_option maxHeartbeats 1000000 in
theorem ri_neg (s u : ByteArray) (w : World) (h : ls s = 45 :: ls u) (hs : u.size ≤ maxLen) (hp : 0 < u.size) (h48 : ((u[0].toNat : Int) == 48) = false) : Calls Tryz.prog 110 #[.string s] w (ReadNeg (ls u) w) := by
  have H := Lib.hid h; clear h
  have hu := ne_list hp
  have hu' := ne_list' hp
  go_enter Tryz.func110, Tryz.ntmps110
  go_wp2_with (first | (go_at_call 125; refine (cut1_yes _ u _ _ H.out).mono ?_; rintro e w' ⟨rfl, rfl⟩) | (go_at_call 126; refine (readDigits_10 _ 9223372036854775808 _ hs (by omega) (by omega)).mono ?_; rintro e w' ⟨n, rfl, hn, hv, rfl⟩; have HV := Lib.hid hv; clear hv))
  go_ret2
  exact ⟨_, rfl, (fun hk => by rw [wrap_neg n (by omega) (by omega), HV.out hk]), rfl⟩
set_option maxRecDepth 20000 in
set_option maxHeartbeats 1000000 in
theorem ri_zero (s : ByteArray) (w : World) (h : hasP s ⟨#[45]⟩ = false) (hs : s.size ≤ maxLen) (hp : 0 < s.size) (h48 : ((s[0].toNat : Int) == 48) = true) (h0 : (s.toList == [48]) = true) : Calls Tryz.prog 110 #[.string s] w (ReadPos (ls s) w) := by
  have H := Lib.hid h; clear h
  have hu := ne_list hp
  have hu' := ne_list' hp
  go_enter Tryz.func110, Tryz.ntmps110
  go_wp2_with (first | (go_at_call 125; refine (cut_no _ _ _ H.out).mono ?_; rintro e w' ⟨rfl, rfl⟩) | (go_at_call 126; refine (readDigits_10 _ 9223372036854775807 _ hs (by omega) (by omega)).mono ?_; rintro e w' ⟨n, rfl, hn, hv, rfl⟩; have HV := Lib.hid hv; clear hv))
  go_ret2
  exact ⟨_, rfl, (fun hk => congrArg _ (HV.out hk)), rfl⟩
set_option maxRecDepth 20000 in
set_option maxHeartbeats 1000000 in
theorem ri_pos (s : ByteArray) (w : World) (h : hasP s ⟨#[45]⟩ = false) (hs : s.size ≤ maxLen) (hp : 0 < s.size) (h48 : ((s[0].toNat : Int) == 48) = false) : Calls Tryz.prog 110 #[.string s] w (ReadPos (ls s) w) := by
  have H := Lib.hid h; clear h
  have hu := ne_list hp
  have hu' := ne_list' hp
  go_enter Tryz.func110, Tryz.ntmps110
  go_wp2_with (first | (go_at_call 125; refine (cut_no _ _ _ H.out).mono ?_; rintro e w' ⟨rfl, rfl⟩) | (go_at_call 126; refine (readDigits_10 _ 9223372036854775807 _ hs (by omega) (by omega)).mono ?_; rintro e w' ⟨n, rfl, hn, hv, rfl⟩; have HV := Lib.hid hv; clear hv))
  go_ret2
  exact ⟨_, rfl, (fun hk => congrArg _ (HV.out hk)), rfl⟩

theorem first_of {s : ByteArray} {c : UInt8} {r : List UInt8} (h : ls s = c :: r) : ∃ hp : 0 < s.size, s[0] = c := by
  have hp : 0 < s.size := by rw [← ls_len, h]; simp
  refine ⟨hp, ?_⟩
  rw [← ls_get s 0 hp]; simp [h]
theorem byte_eq {c d : UInt8} (k : Nat) (hd : d.toNat = k) : ((c.toNat : Int) == (k : Int)) = decide (c = d) := by
  rw [Bool.eq_iff_iff, beq_iff_eq, decide_eq_true_eq]
  constructor
  · intro h; apply UInt8.toNat_inj.1; omega
  · rintro rfl; rw [hd]
theorem readInt_any (s : ByteArray) (w : World) (hs : s.size ≤ maxLen) : Calls Tryz.prog 110 #[.string s] w (TellsInt (readIntL (ls s)) w) := by
  have b48 := fun c : UInt8 => byte_eq (c := c) (d := 48) 48 rfl
  cases e : ls s with
  | nil =>
    obtain rfl : s = ByteArray.empty := ls_inj e
    refine (ri_empty w).mono ?_
    rintro e w' ⟨rfl, rfl⟩
    exact TellsInt.bad rfl
  | cons c r =>
    by_cases hc : c = 45
    · subst hc
      cases r with
      | nil =>
        refine (ri_minus s w e).mono ?_
        rintro e w' ⟨rfl, rfl⟩
        exact TellsInt.bad rfl
      | cons d q =>
        have hu : ls s = 45 :: ls (bs (d :: q)) := e
        obtain ⟨hp, h0⟩ := first_of (s := bs (d :: q)) (ls_bs _)
        have hz := size_cons hu
        by_cases hd : d = 48
        · refine (ri_mzero s (bs (d :: q)) w hu hp (by rw [h0]; exact (b48 d).trans (decide_eq_true hd)) (by rw [toList_ls, e]; rfl)).mono ?_
          rintro e w' ⟨rfl, rfl⟩
          exact TellsInt.bad (by simp [readIntL, hd])
        · refine (ri_neg s (bs (d :: q)) w hu (by omega) hp (by rw [h0]; exact (b48 d).trans (decide_eq_false hd))).mono ?_
          rintro e w' ⟨n, rfl, hv, rfl⟩
          have hr : readIntL (45 :: d :: q) = if digOk 10 9223372036854775808 (d :: q) then some (-(numOf 10 (d :: q) : Int)) else none := by simp [readIntL, hd]
          rw [ls_bs] at hv ⊢
          rw [hr]
          by_cases hk : digOk 10 9223372036854775808 (d :: q) = true
          · rw [if_pos hk, hk, hv hk]; exact TellsInt.good rfl
          · rw [if_neg hk, Bool.eq_false_iff.2 hk]; exact TellsInt.bad rfl
    · have hm := hasP_none (s := s) (c := 45) (fun r' h => hc (by rw [e] at h; injection h))
      obtain ⟨hp, h0⟩ := first_of e
      by_cases hd : c = 48 ∧ r ≠ []
      · refine (ri_pzero s w hm hp (by rw [h0]; exact (b48 c).trans (decide_eq_true hd.1)) (by rw [toList_ls, e]; simp [hd.2])).mono ?_
        rintro e w' ⟨rfl, rfl⟩
        exact TellsInt.bad (by simp [readIntL, hd])
      · have hr : readIntL (c :: r) = if digOk 10 9223372036854775807 (c :: r) then some (numOf 10 (c :: r) : Int) else none := by
          unfold readIntL; simp only; rw [if_neg hc, if_neg hd]
        have hgo : Calls Tryz.prog 110 #[.string s] w (ReadPos (ls s) w) := by
          by_cases h48 : c = 48
          · have hr0 : r = [] := by simpa [h48] using hd
            exact ri_zero s w hm hs hp (by rw [h0]; exact (b48 c).trans (decide_eq_true h48)) (by rw [toList_ls, e, h48, hr0]; rfl)
          · exact ri_pos s w hm hs hp (by rw [h0]; exact (b48 c).trans (decide_eq_false h48))
        refine hgo.mono ?_
        rintro e' w' ⟨n, rfl, hv, rfl⟩
        rw [e] at hv ⊢
        rw [hr]
        by_cases hk : digOk 10 9223372036854775807 (c :: r) = true
        · rw [if_pos hk, hk, hv hk]; exact TellsInt.good rfl
        · rw [if_neg hk, Bool.eq_false_iff.2 hk]; exact TellsInt.bad rfl

/-! ### readFlo -/
def readFloL (l : List UInt8) : Option Int :=
  match l with
  | [] => none
  | c :: r => if c = 35 ∧ r.length = 16 then (if digOk 16 18446744073709551615 r && right (wrap64 (numOf 16 r)) then some (wrap64 (numOf 16 r)) else none) else none
set_option maxRecDepth 20000 in
set_option maxHeartbeats 1000000 in
theorem rf_no (s : ByteArray) (w : World) (h : hasP s ⟨#[35]⟩ = false) : Calls Tryz.prog 111 #[.string s] w fun e w' => e = .returned (.tuple #[.int .i64 0, .bool false]) ∧ w = w' := by
  have H := Lib.hid h; clear h
  go_enter Tryz.func111, Tryz.ntmps111
  go_wp2_with (go_at_call 125; refine (cut_no _ _ _ H.out).mono ?_; rintro e w' ⟨rfl, rfl⟩)
  go_ret2
  exact ⟨rfl, rfl⟩
set_option maxRecDepth 20000 in
set_option maxHeartbeats 1000000 in
theorem rf_len (s u : ByteArray) (w : World) (h : ls s = 35 :: ls u) (hl : ((u.size : Int) == 16) = false) : Calls Tryz.prog 111 #[.string s] w fun e w' => e = .returned (.tuple #[.int .i64 0, .bool false]) ∧ w = w' := by
  have H := Lib.hid h; clear h
  go_enter Tryz.func111, Tryz.ntmps111
  go_wp2_with (go_at_call 125; refine (cut1_yes _ u _ _ H.out).mono ?_; rintro e w' ⟨rfl, rfl⟩)
  go_ret2
  exact ⟨rfl, rfl⟩
def ReadHex (l : List UInt8) (w : World) (e : Ending) (w' : World) : Prop :=
  ∃ n : Nat, e = .returned (.tuple #[.int .i64 (wrap64 n), .bool (digOk 16 18446744073709551615 l && right (wrap64 n))]) ∧ (digOk 16 18446744073709551615 l = true → n = numOf 16 l) ∧ w = w'
theorem ReadHex.mk {l : List UInt8} {w : World} {n : Nat} {ok b : Bool} (h : digOk 16 18446744073709551615 l = ok ∧ (ok = true → n = numOf 16 l)) (hb : b = (ok && right (wrap64 n))) :
    ReadHex l w (.returned (.tuple #[.int .i64 (wrap64 n), .bool b])) w := by
  obtain ⟨rfl, h2⟩ := h; subst hb; exact ⟨n, rfl, h2, rfl⟩
set_option maxRecDepth 20000 in
set_option maxHeartbeats 1000000 in
theorem rf_go (s u : ByteArray) (w : World) (h : ls s = 35 :: ls u) (hs : u.size ≤ maxLen) (hl : ((u.size : Int) == 16) = true) : Calls Tryz.prog 111 #[.string s] w (ReadHex (ls u) w) := by
  have H := Lib.hid h; clear h
  go_enter Tryz.func111, Tryz.ntmps111
  go_wp2_with (first | (go_at_call 125; refine (cut1_yes _ u _ _ H.out).mono ?_; rintro e w' ⟨rfl, rfl⟩) | (go_at_call 126; refine (readDigits_16 _ 18446744073709551615 _ hs (by omega) (by omega)).mono ?_; rintro e w' ⟨n, rfl, hn, hv, rfl⟩; obtain ⟨ok, hok⟩ : ∃ ok, digOk 16 18446744073709551615 (ls u) = ok := ⟨_, rfl⟩; rw [hok] at hv ⊢; have HV := Lib.hid (And.intro hok hv); clear hv hok) | (go_at_call 112; refine (right_any _ _).mono ?_; rintro e w' ⟨rfl, rfl⟩))
  all_goals
    go_ret2
    exact ReadHex.mk HV.out (by simp [*])

theorem readFlo_any (s : ByteArray) (w : World) (hs : s.size ≤ maxLen) : Calls Tryz.prog 111 #[.string s] w (TellsInt (readFloL (ls s)) w) := by
  cases e : ls s with
  | nil =>
    refine (rf_no s w (hasP_none (fun r h => by rw [e] at h; cases h))).mono ?_
    rintro e w' ⟨rfl, rfl⟩
    exact TellsInt.bad rfl
  | cons c r =>
    by_cases hc : c = 35
    · subst hc
      have hu : ls s = 35 :: ls (bs r) := e
      have hz := size_cons hu
      have h16 : (((bs r).size : Int) == 16) = decide (r.length = 16) := by
        rw [bs_size, Bool.eq_iff_iff, beq_iff_eq, decide_eq_true_eq]; omega
      by_cases hl : r.length = 16
      · refine (rf_go s (bs r) w hu (by omega) (h16.trans (decide_eq_true hl))).mono ?_
        rintro e w' ⟨n, rfl, hv, rfl⟩
        rw [ls_bs] at hv ⊢
        have hr : readFloL (35 :: r) = if digOk 16 18446744073709551615 r && right (wrap64 (numOf 16 r)) then some (wrap64 (numOf 16 r)) else none := by simp [readFloL, hl]
        rw [hr]
        by_cases hk : digOk 16 18446744073709551615 r = true
        · have hn := hv hk
          rw [hk, ← hn, Bool.true_and]
          by_cases hrt : right (wrap64 n) = true
          · rw [if_pos hrt, hrt]; exact TellsInt.good rfl
          · rw [if_neg hrt, Bool.eq_false_iff.2 hrt]; exact TellsInt.bad rfl
        · rw [Bool.eq_false_iff.2 hk, Bool.false_and, Bool.false_and]; exact TellsInt.bad rfl
      · refine (rf_len s (bs r) w hu (h16.trans (decide_eq_false hl))).mono ?_
        rintro e w' ⟨rfl, rfl⟩
        exact TellsInt.bad (by simp [readFloL, hl])
    · refine (rf_no s w (hasP_none (fun r' h => hc (by rw [e] at h; injection h)))).mono ?_
      rintro e w' ⟨rfl, rfl⟩
      exact TellsInt.bad (by simp [readFloL, hc])
end Go.Proofs.YtahljmddnfldlaaGreatDoor
namespace Go.Proofs.YtahljmddnfldlaaGreatDoor
open Go.RowKit FloM ValM

def readV (t : ByteArray) : Option V :=
  if name t then some ⟨3, 0, t⟩ else match readIntL (ls t) with
    | some n => some ⟨1, n, ByteArray.empty⟩
    | none => match readFloL (ls t) with
      | some n => some ⟨2, n, ByteArray.empty⟩
      | none => none
def ReadV (t : ByteArray) (w : World) (e : Ending) (w' : World) : Prop :=
  (∃ v, readV t = some v ∧ e = .returned (.tuple #[.agg #[.int .i64 v.k, .int .i64 v.n, .string v.s], .int .i64 0]) ∧ Below w.heap.size w w') ∨
  (readV t = none ∧ e = .returned (.tuple #[.agg #[.int .i64 0, .int .i64 0, .string ByteArray.empty], .int .i64 2]) ∧ Below w.heap.size w w')
theorem tells_some {o : Option Int} {n : Int} (h : o = some n) {w w' : World} {e : Ending} (ht : TellsInt o w e w') : e = .returned (.tuple #[.int .i64 n, .bool true]) ∧ w = w' := by
  obtain ⟨m, rfl, hm, rfl⟩ := ht; subst h; exact ⟨by rw [hm n rfl]; rfl, rfl⟩
theorem tells_none {o : Option Int} (h : o = none) {w w' : World} {e : Ending} (ht : TellsInt o w e w') : ∃ m, e = .returned (.tuple #[.int .i64 m, .bool false]) ∧ w = w' := by
  obtain ⟨m, rfl, hm, rfl⟩ := ht; subst h; exact ⟨m, rfl, rfl⟩

set_option maxRecDepth 20000 in
set_option maxHeartbeats 1000000 in
theorem read_name (t : ByteArray) (w : World) (hs : t.size ≤ maxLen) (h : name t = true) : Calls Tryz.prog 90 #[.string t] w (ReadV t w) := by
  have HR := Lib.hid (show readV t = some ⟨3, 0, t⟩ by unfold readV; rw [if_pos h])
  go_enter Tryz.func90, Tryz.ntmps90
  go_wp2_with (go_at_call 65; refine (name_any _ _ hs).mono ?_; rintro e w' ⟨rfl, rfl⟩)
  refine bodyPost_ret (v := .tuple #[.agg #[.int .i64 3, .int .i64 0, .string t], .int .i64 0]) (by simp [results, Tryz.results90, go_sem]) rfl (.inl ⟨⟨3, 0, t⟩, HR.out, rfl, ?_⟩)
  repeat (first | exact (Below.refl _ _).alloc (Nat.le_refl _) _ | refine Below.setCell ?_ (Nat.le_refl _) _)
set_option maxRecDepth 20000 in
set_option maxHeartbeats 1000000 in
theorem read_int (t : ByteArray) (n : Int) (w : World) (hs : t.size ≤ maxLen) (h : name t = false) (hi : readIntL (ls t) = some n) : Calls Tryz.prog 90 #[.string t] w (ReadV t w) := by
  have HR := Lib.hid (show readV t = some ⟨1, n, ByteArray.empty⟩ by unfold readV; rw [h, if_neg Bool.false_ne_true, hi])
  have HI := Lib.hid hi; clear hi
  go_enter Tryz.func90, Tryz.ntmps90
  go_wp2_with (first | (go_at_call 65; refine (name_any _ _ hs).mono ?_; rintro e w' ⟨rfl, rfl⟩) | (go_at_call 110; refine (readInt_any _ _ hs).mono ?_; intro e w' ht; obtain ⟨rfl, rfl⟩ := tells_some HI.out ht; clear ht))
  refine bodyPost_ret (v := .tuple #[.agg #[.int .i64 1, .int .i64 n, .string ByteArray.empty], .int .i64 0]) (by simp [results, Tryz.results90, go_sem]; rfl) rfl (.inl ⟨⟨1, n, ByteArray.empty⟩, HR.out, rfl, ?_⟩)
  repeat (first | exact (Below.refl _ _).alloc (Nat.le_refl _) _ | refine Below.setCell ?_ (Nat.le_refl _) _)
set_option maxRecDepth 20000 in
set_option maxHeartbeats 1000000 in
theorem read_flo (t : ByteArray) (n : Int) (w : World) (hs : t.size ≤ maxLen) (h : name t = false) (hi : readIntL (ls t) = none) (hf : readFloL (ls t) = some n) : Calls Tryz.prog 90 #[.string t] w (ReadV t w) := by
  have HR := Lib.hid (show readV t = some ⟨2, n, ByteArray.empty⟩ by unfold readV; rw [h, if_neg Bool.false_ne_true, hi, hf])
  have HI := Lib.hid hi; clear hi
  have HF := Lib.hid hf; clear hf
  go_enter Tryz.func90, Tryz.ntmps90
  go_wp2_with (first | (go_at_call 65; refine (name_any _ _ hs).mono ?_; rintro e w' ⟨rfl, rfl⟩) | (go_at_call 110; refine (readInt_any _ _ hs).mono ?_; intro e w' ht; obtain ⟨m, rfl, rfl⟩ := tells_none HI.out ht; clear ht) | (go_at_call 111; refine (readFlo_any _ _ hs).mono ?_; intro e w' ht; obtain ⟨rfl, rfl⟩ := tells_some HF.out ht; clear ht))
  refine bodyPost_ret (v := .tuple #[.agg #[.int .i64 2, .int .i64 n, .string ByteArray.empty], .int .i64 0]) (by simp [results, Tryz.results90, go_sem]; rfl) rfl (.inl ⟨⟨2, n, ByteArray.empty⟩, HR.out, rfl, ?_⟩)
  repeat (first | exact (Below.refl _ _).alloc (Nat.le_refl _) _ | refine Below.setCell ?_ (Nat.le_refl _) _)
set_option maxRecDepth 20000 in
set_option maxHeartbeats 1000000 in
theorem read_none (t : ByteArray) (w : World) (hs : t.size ≤ maxLen) (h : name t = false) (hi : readIntL (ls t) = none) (hf : readFloL (ls t) = none) : Calls Tryz.prog 90 #[.string t] w (ReadV t w) := by
  have HR := Lib.hid (show readV t = none by unfold readV; rw [h, if_neg Bool.false_ne_true, hi, hf])
  have HI := Lib.hid hi; clear hi
  have HF := Lib.hid hf; clear hf
  go_enter Tryz.func90, Tryz.ntmps90
  go_wp2_with (first | (go_at_call 65; refine (name_any _ _ hs).mono ?_; rintro e w' ⟨rfl, rfl⟩) | (go_at_call 110; refine (readInt_any _ _ hs).mono ?_; intro e w' ht; obtain ⟨m, rfl, rfl⟩ := tells_none HI.out ht; clear ht) | (go_at_call 111; refine (readFlo_any _ _ hs).mono ?_; intro e w' ht; obtain ⟨m, rfl, rfl⟩ := tells_none HF.out ht; clear ht))
  refine bodyPost_ret (v := .tuple #[.agg #[.int .i64 0, .int .i64 0, .string ByteArray.empty], .int .i64 2]) (by simp [results, Tryz.results90, go_sem]; rfl) rfl (.inr ⟨HR.out, rfl, ?_⟩)
  repeat (first | exact (Below.refl _ _).alloc (Nat.le_refl _) _ | refine Below.setCell ?_ (Nat.le_refl _) _)
theorem read_go (t : ByteArray) (w : World) (hs : t.size ≤ maxLen) : Calls Tryz.prog 90 #[.string t] w (ReadV t w) := by
  cases h : name t with
  | true => exact read_name t w hs h
  | false =>
    cases hi : readIntL (ls t) with
    | some n => exact read_int t n w hs h hi
    | none =>
      cases hf : readFloL (ls t) with
      | some n => exact read_flo t n w hs h hi hf
      | none => exact read_none t w hs h hi hf

/-! ### awake -/
theorem read_some {t : ByteArray} {v : V} (h : readV t = some v) {w w' : World} {e : Ending} (hr : ReadV t w e w') : e = .returned (.tuple #[.agg #[.int .i64 v.k, .int .i64 v.n, .string v.s], .int .i64 0]) ∧ Below w.heap.size w w' := by
  rcases hr with ⟨u, hu, he, hb⟩ | ⟨hn, _⟩
  · rw [h] at hu; injection hu with hu; subst hu; exact ⟨he, hb⟩
  · rw [h] at hn; cases hn
theorem read_no {t : ByteArray} (h : readV t = none) {w w' : World} {e : Ending} (hr : ReadV t w e w') : e = .returned (.tuple #[.agg #[.int .i64 0, .int .i64 0, .string ByteArray.empty], .int .i64 2]) ∧ Below w.heap.size w w' := by
  rcases hr with ⟨u, hu, _⟩ | ⟨_, he, hb⟩
  · rw [h] at hu; cases hu
  · exact ⟨he, hb⟩
end Go.Proofs.YtahljmddnfldlaaGreatDoor
namespace Go.Proofs.YtahljmddnfldlaaGreatDoor
open Go.RowKit FloM ValM

theorem digs_cons (b n : Nat) (hb : Base b) (hn : 0 < n) : ∃ c r, digs b n = c :: r ∧ isDig b c = true ∧ c ≠ 48 ∧ allDig b (c :: r) = true ∧ numOf b (c :: r) = n := by
  obtain ⟨h1, h2⟩ := num_digs b n hb
  cases e : digs b n with
  | nil => rw [e] at h1; have : (0 : Nat) = n := h1; omega
  | cons c r =>
    rw [e] at h1 h2
    refine ⟨c, r, rfl, ?_, digs_head b n hb c r e, h2, h1⟩
    unfold allDig at h2; rw [List.all_cons, Bool.and_eq_true] at h2; exact h2.1
theorem pad1_zero : padTo 1 (digs 10 0) = [48] := by rw [digs_zero]; rfl
theorem pad1_pos (n : Nat) (hn : 0 < n) : padTo 1 (digs 10 n) = digs 10 n := by
  obtain ⟨c, r, e, _⟩ := digs_cons 10 n (.inl rfl) hn
  exact padTo_self _ _ (by rw [e]; simp)
theorem intTextL_neg (n : Int) (h : n < 0) : ∃ c r, intTextL n = 45 :: c :: r ∧ c ≠ 48 ∧ allDig 10 (c :: r) = true ∧ numOf 10 (c :: r) = n.natAbs := by
  obtain ⟨c, r, e, _, h1, h2, h3⟩ := digs_cons 10 n.natAbs (.inl rfl) (by omega)
  refine ⟨c, r, ?_, h1, h2, h3⟩
  unfold intTextL; rw [if_pos h, pad1_pos _ (by omega), e]
theorem intTextL_zero : intTextL 0 = [48] := by
  unfold intTextL; rw [if_neg (by decide)]; exact pad1_zero
theorem intTextL_pos (n : Int) (h : 0 < n) : ∃ c r, intTextL n = c :: r ∧ isDig 10 c = true ∧ c ≠ 48 ∧ allDig 10 (c :: r) = true ∧ numOf 10 (c :: r) = n.natAbs := by
  obtain ⟨c, r, e, h0, h1, h2, h3⟩ := digs_cons 10 n.natAbs (.inl rfl) (by omega)
  refine ⟨c, r, ?_, h0, h1, h2, h3⟩
  unfold intTextL; rw [if_neg (by omega), pad1_pos _ (by omega), e]
theorem dig10 {c : UInt8} (h : isDig 10 c = true) : 48 ≤ c.toNat ∧ c.toNat ≤ 57 := by
  rw [isDig_iff] at h; omega
theorem ne_of_toNat {c d : UInt8} (h : c.toNat ≠ d.toNat) : c ≠ d := fun e => h (by rw [e])
theorem readInt_pos (c : UInt8) (r : List UInt8) (h1 : c ≠ 45) (h2 : ¬ (c = 48 ∧ r ≠ [])) : readIntL (c :: r) = if digOk 10 9223372036854775807 (c :: r) then some (numOf 10 (c :: r) : Int) else none := by
  unfold readIntL; simp only; rw [if_neg h1, if_neg h2]
theorem readInt_neg (d : UInt8) (q : List UInt8) (h : d ≠ 48) : readIntL (45 :: d :: q) = if digOk 10 9223372036854775808 (d :: q) then some (-(numOf 10 (d :: q) : Int)) else none := by
  unfold readIntL; simp only; rw [if_pos trivial, if_neg h]
theorem readInt_text (n : Int) (h : Fits n) : readIntL (intTextL n) = some n := by
  unfold Fits at h
  rcases Int.lt_trichotomy n 0 with hn | rfl | hn
  · obtain ⟨c, r, e, h1, h2, h3⟩ := intTextL_neg n hn
    rw [e, readInt_neg c r h1, if_pos (by unfold digOk; rw [h2, h3, decide_eq_true (by omega)]; rfl), h3]
    congr 1; omega
  · rw [intTextL_zero]; decide
  · obtain ⟨c, r, e, h0, h1, h2, h3⟩ := intTextL_pos n hn
    have := dig10 h0
    rw [e, readInt_pos c r (ne_of_toNat (by show c.toNat ≠ 45; omega)) (fun x => h1 x.1), if_pos (by unfold digOk; rw [h2, h3, decide_eq_true (by omega)]; rfl), h3]
    congr 1; omega
theorem name_first {l : List UInt8} {c : UInt8} {r : List UInt8} (e : l = c :: r) (h : c.toNat < 97) : nameL l = false := by
  subst e
  cases hn : nameL (c :: r) with
  | false => rfl
  | true => have := name_head hn; omega
theorem intText_name (n : Int) : nameL (intTextL n) = false := by
  rcases Int.lt_trichotomy n 0 with hn | rfl | hn
  · obtain ⟨c, r, e, _⟩ := intTextL_neg n hn; exact name_first e (by decide)
  · rw [intTextL_zero]; exact name_first rfl (by decide)
  · obtain ⟨c, r, e, h0, _⟩ := intTextL_pos n hn; have := dig10 h0; exact name_first e (by omega)
theorem readInt_hash (r : List UInt8) : readIntL (35 :: r) = none := by
  rw [readInt_pos 35 r (by decide) (fun x => absurd x.1 (by decide)), if_neg]
  unfold digOk allDig; rw [List.all_cons, show isDig 10 35 = false from rfl]; simp
theorem wrap_back (n : Int) (N : Nat) (h : Fits n) (hw : IntKind.u64.wrap n = N) : wrap64 N = n := by
  unfold Fits at h; rw [← hw]; simp [IntKind.wrap, IntKind.bits, IntKind.signed, wrap64]; omega
theorem wrap_forth (N : Nat) (h : N < 18446744073709551616) : IntKind.u64.wrap (wrap64 N) = N ∧ Fits (wrap64 N) := by
  unfold Fits; constructor
  · simp [IntKind.wrap, IntKind.bits, IntKind.signed, wrap64]; omega
  · unfold wrap64; omega
theorem readFlo_text (n : Int) (N : Nat) (h : Fits n) (hw : IntKind.u64.wrap n = N) (hN : N < 18446744073709551616) (hr : right n = true) : readFloL (35 :: padTo 16 (digs 16 N)) = some n := by
  obtain ⟨h1, h2⟩ := num_pad 16 16 N (.inr rfl)
  have hl := digs_len 16 N 16 (by omega) (by omega)
  have hl2 : (padTo 16 (digs 16 N)).length = 16 := by rw [padTo_len]; omega
  have hb := wrap_back n N h hw
  unfold readFloL
  simp only
  rw [if_pos ⟨trivial, hl2⟩, h1, hb, if_pos]
  unfold digOk; rw [h1, h2, hr, decide_eq_true (by omega)]; rfl

/-- What is told is read as it was. -/
theorem read_text (v : V) (h : rightV v = true) (hn : Fits v.n) : readV (bs (textV v)) = some v := by
  obtain ⟨k, n, s⟩ := v
  have hn : Fits n := hn
  unfold readV name
  rw [ls_bs]
  unfold textV
  rw [h, if_pos rfl]
  simp only
  by_cases k1 : k = 1
  · subst k1
    have hs : s = ByteArray.empty := by simpa [rightV] using h
    subst hs
    rw [if_pos rfl, intText_name, if_neg Bool.false_ne_true, readInt_text n hn]
  · by_cases k2 : k = 2
    · subst k2
      obtain ⟨hs, hr⟩ : s = ByteArray.empty ∧ right n = true := by simpa [rightV] using h
      subst hs
      obtain ⟨N, hw, hN⟩ := u64_nat n
      rw [if_neg k1, if_pos rfl, hw, Int.toNat_natCast, name_first rfl (by decide), if_neg Bool.false_ne_true, readInt_hash, readFlo_text n N hn hw hN hr]
    · by_cases k3 : k = 3
      · subst k3
        obtain ⟨h0, hs⟩ : n = 0 ∧ name s = true := by simpa [rightV] using h
        subst h0
        rw [if_neg k1, if_neg k2, if_pos (show nameL (ls s) = true from hs), bs_ls]
      · exfalso; simp [rightV, k1, k2, k3] at h
theorem digOk_iff {b most : Nat} {l : List UInt8} : digOk b most l = true ↔ allDig b l = true ∧ numOf b l ≤ most := by simp [digOk]
theorem digs_ne {b : Nat} {c : UInt8} {r : List UInt8} (h : digs b (numOf b (c :: r)) = c :: r) : 0 < numOf b (c :: r) := by
  rcases Nat.eq_zero_or_pos (numOf b (c :: r)) with h0 | h0
  · rw [h0, digs_zero] at h; cases h
  · exact h0
theorem text_readInt (l : List UInt8) (n : Int) (h : readIntL l = some n) : Fits n ∧ intTextL n = l := by
  unfold Fits
  cases l with
  | nil => cases h
  | cons c r =>
    by_cases hc : c = 45
    · subst hc
      cases r with
      | nil => simp [readIntL] at h
      | cons d q =>
        by_cases hd : d = 48
        · simp [readIntL, hd] at h
        · rw [readInt_neg d q hd] at h
          split at h
          · rename_i hk
            injection h with h
            obtain ⟨h1, h2⟩ := digOk_iff.1 hk
            have hg := digs_num 10 (.inl rfl) d q h1 hd
            have hp := digs_ne hg
            refine ⟨by omega, ?_⟩
            unfold intTextL
            rw [if_pos (by omega), show n.natAbs = numOf 10 (d :: q) from by omega, pad1_pos _ hp, hg]
          · cases h
    · by_cases hz : c = 48 ∧ r ≠ []
      · unfold readIntL at h; simp only at h; rw [if_neg hc, if_pos hz] at h; cases h
      · rw [readInt_pos c r hc hz] at h
        split at h
        · rename_i hk
          injection h with h
          obtain ⟨h1, h2⟩ := digOk_iff.1 hk
          by_cases h48 : c = 48
          · have hr : r = [] := by simpa [h48] using hz
            subst h48 hr
            have : numOf 10 [48] = 0 := by decide
            rw [this] at h
            subst h
            exact ⟨by decide, intTextL_zero⟩
          · have hg := digs_num 10 (.inl rfl) c r h1 h48
            have hp := digs_ne hg
            refine ⟨by omega, ?_⟩
            unfold intTextL
            rw [if_neg (by omega), show n.natAbs = numOf 10 (c :: r) from by omega, pad1_pos _ hp, hg]
        · cases h
theorem text_readFlo (l : List UInt8) (n : Int) (h : readFloL l = some n) : Fits n ∧ right n = true ∧ 35 :: padTo 16 (digs 16 (IntKind.u64.wrap n).toNat) = l := by
  cases l with
  | nil => cases h
  | cons c r =>
    unfold readFloL at h
    simp only at h
    split at h
    · rename_i hc
      split at h
      · rename_i hk
        injection h with h
        rw [Bool.and_eq_true] at hk
        obtain ⟨h1, h2⟩ := digOk_iff.1 hk.1
        obtain ⟨f1, f2⟩ := wrap_forth (numOf 16 r) (by omega)
        rw [← h]
        refine ⟨f2, hk.2, ?_⟩
        have hp := pad_num 16 (.inr rfl) r h1
        rw [hc.2] at hp
        rw [f1, Int.toNat_natCast, hp, hc.1]
      · cases h
    · cases h
/-- What is read is told as it stood, and can be. -/
theorem text_read (t : ByteArray) (v : V) (h : readV t = some v) : rightV v = true ∧ bs (textV v) = t ∧ Fits v.n := by
  have hz : Fits 0 := by unfold Fits; decide
  unfold readV at h
  split at h
  · rename_i hn
    injection h with h
    subst h
    have hr : rightV ⟨3, 0, t⟩ = true := by simpa [rightV] using hn
    refine ⟨hr, ?_, hz⟩
    unfold textV; rw [hr]; exact bs_ls t
  · split at h
    · rename_i n hi
      injection h with h
      subst h
      obtain ⟨h1, h2⟩ := text_readInt _ _ hi
      have hr : rightV ⟨1, n, ByteArray.empty⟩ = true := by simp [rightV]
      refine ⟨hr, ?_, h1⟩
      unfold textV; rw [hr]; show bs (intTextL n) = t; rw [h2, bs_ls]
    · split at h
      · rename_i n hf
        injection h with h
        subst h
        obtain ⟨h1, h2, h3⟩ := text_readFlo _ _ hf
        have hr : rightV ⟨2, n, ByteArray.empty⟩ = true := by simpa [rightV] using h2
        refine ⟨hr, ?_, h1⟩
        unfold textV; rw [hr]; show bs (35 :: padTo 16 (digs 16 (IntKind.u64.wrap n).toNat)) = t; rw [h3, bs_ls]
      · cases h
end Go.Proofs.YtahljmddnfldlaaGreatDoor
namespace Go.Proofs.YtahljmddnfldlaaGreatDoor
open Go.RowKit FloM ValM

theorem read_empty : readV ByteArray.empty = none := by
  have h1 : name ByteArray.empty = false := rfl
  unfold readV; rw [h1, if_neg Bool.false_ne_true]; rfl
end Go.Proofs.YtahljmddnfldlaaGreatDoor

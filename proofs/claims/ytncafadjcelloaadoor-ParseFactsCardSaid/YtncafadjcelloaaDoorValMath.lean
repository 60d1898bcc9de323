/-
  Plain mathematics of layer 2 (value): names, digits, numbers as texts, and the order of texts, on lists of bytes. Nothing of the dump is used here.
-/
namespace Go.Proofs.YtncafadjcelloaaDoor.ValM

/-! ### Texts as lists of bytes -/
def bs (l : List UInt8) : ByteArray := ⟨l.toArray⟩
def ls (s : ByteArray) : List UInt8 := s.data.toList
theorem ls_bs (l : List UInt8) : ls (bs l) = l := rfl
theorem bs_ls (s : ByteArray) : bs (ls s) = s := by cases s; rfl
theorem ls_len (s : ByteArray) : (ls s).length = s.size := rfl
theorem bs_size (l : List UInt8) : (bs l).size = l.length := rfl
theorem ls_inj {s t : ByteArray} (h : ls s = ls t) : s = t := by rw [← bs_ls s, ← bs_ls t, h]
theorem ls_append (s t : ByteArray) : ls (s ++ t) = ls s ++ ls t := by simp [ls]
theorem ls_get (s : ByteArray) (k : Nat) (h : k < s.size) : (ls s)[k]'(by rw [ls_len]; exact h) = s[k] := rfl
theorem take_snoc (s : ByteArray) (k : Nat) (h : k < s.size) : (ls s).take (k + 1) = (ls s).take k ++ [s[k]] := by
  rw [List.take_succ_eq_append_getElem (by rw [ls_len]; exact h)]; rfl
theorem split_at (s : ByteArray) (k : Nat) (h : k < s.size) : ls s = (ls s).take k ++ s[k] :: (ls s).drop (k + 1) := by
  have h' : k < (ls s).length := by rw [ls_len]; exact h
  have := List.drop_eq_getElem_cons h'
  rw [ls_get s k h] at this
  rw [← this, List.take_append_drop]
theorem take_all (s : ByteArray) (k : Nat) (h : s.size ≤ k) : (ls s).take k = ls s := List.take_of_length_le (by rw [ls_len]; exact h)

/-! ### Names -/
def lower (c : UInt8) : Bool := decide (97 ≤ c.toNat ∧ c.toNat ≤ 122)
def digit (c : UInt8) : Bool := decide (48 ≤ c.toNat ∧ c.toNat ≤ 57)
def okAt (i : Nat) (c : UInt8) : Bool := lower c || (decide (0 < i) && (decide (c.toNat = 95) || digit c))
theorem okAt_iff (i : Nat) (c : UInt8) : okAt i c = true ↔ ((97 ≤ c.toNat ∧ c.toNat ≤ 122) ∨ (0 < i ∧ (c.toNat = 95 ∨ (48 ≤ c.toNat ∧ c.toNat ≤ 57)))) := by
  simp [okAt, lower, digit]
def allAt : Nat → List UInt8 → Bool
  | _, [] => true
  | i, c :: r => okAt i c && allAt (i + 1) r
theorem allAt_append (a b : List UInt8) (i : Nat) : allAt i (a ++ b) = (allAt i a && allAt (i + a.length) b) := by
  induction a generalizing i with
  | nil => simp [allAt]
  | cons c r ih => simp only [List.cons_append, allAt, ih, List.length_cons, Bool.and_assoc]; congr 3; omega
theorem allAt_snoc (a : List UInt8) (c : UInt8) (i : Nat) : allAt i (a ++ [c]) = (allAt i a && okAt (i + a.length) c) := by
  rw [allAt_append]; simp [allAt]
theorem allAt_step (s : ByteArray) (k : Nat) (h : k < s.size) (ha : allAt 0 ((ls s).take k) = true) (hc : okAt k s[k] = true) : allAt 0 ((ls s).take (k + 1)) = true := by
  rw [take_snoc s k h, allAt_snoc, ha, List.length_take, ls_len, Nat.min_eq_left (by omega)]; simpa using hc
theorem allAt_bad (s : ByteArray) (k : Nat) (h : k < s.size) (hc : okAt k s[k] = false) : allAt 0 (ls s) = false := by
  rw [split_at s k h, allAt_append, List.length_take, ls_len, Nat.min_eq_left (by omega)]; simp [allAt, hc]
theorem allAt_pos (l : List UInt8) (i j : Nat) (hi : 0 < i) (hj : 0 < j) : allAt i l = allAt j l := by
  induction l generalizing i j with
  | nil => rfl
  | cons c r ih => simp only [allAt]; rw [ih (i + 1) (j + 1) (by omega) (by omega)]; congr 1; simp [okAt, hi, hj]
/-- A name behind a name is all right too. -/
theorem okAt_mono (i j : Nat) (c : UInt8) (h : okAt i c = true) (hij : i ≤ j) : okAt j c = true := by
  rw [okAt_iff] at h ⊢; omega
theorem allAt_mono (l : List UInt8) (i j : Nat) (h : allAt i l = true) (hij : i ≤ j) : allAt j l = true := by
  induction l generalizing i j with
  | nil => rfl
  | cons c r ih =>
    simp only [allAt, Bool.and_eq_true] at h ⊢
    exact ⟨okAt_mono i j c h.1 hij, ih (i + 1) (j + 1) h.2 (by omega)⟩

def nameL (l : List UInt8) : Bool := decide (0 < l.length ∧ l.length ≤ 40) && allAt 0 l
def name (s : ByteArray) : Bool := nameL (ls s)
theorem nameL_iff (l : List UInt8) : nameL l = true ↔ 0 < l.length ∧ l.length ≤ 40 ∧ allAt 0 l = true := by simp [nameL, and_assoc]
theorem name_nil : nameL [] = false := rfl
/-- The first byte of a name is a letter. -/
theorem name_head {c : UInt8} {r : List UInt8} (h : nameL (c :: r) = true) : 97 ≤ c.toNat ∧ c.toNat ≤ 122 := by
  rw [nameL_iff] at h
  have h := h.2.2
  simp only [allAt, Bool.and_eq_true] at h
  have := (okAt_iff 0 c).1 h.1
  omega

/-! ### Digits -/
def dch (d : Nat) : UInt8 := if d < 10 then UInt8.ofNat (48 + d) else UInt8.ofNat (87 + d)
def dval (c : UInt8) : Nat := if 97 ≤ c.toNat then c.toNat - 87 else c.toNat - 48
def isDig (b : Nat) (c : UInt8) : Bool := digit c || (decide (b = 16) && decide (97 ≤ c.toNat ∧ c.toNat ≤ 102))
def Base (b : Nat) : Prop := b = 10 ∨ b = 16
theorem isDig_iff (b : Nat) (c : UInt8) : isDig b c = true ↔ ((48 ≤ c.toNat ∧ c.toNat ≤ 57) ∨ (b = 16 ∧ 97 ≤ c.toNat ∧ c.toNat ≤ 102)) := by simp [isDig, digit]
theorem dch_toNat (d : Nat) (h : d < 16) : (dch d).toNat = if d < 10 then 48 + d else 87 + d := by
  unfold dch; split <;> simp <;> omega
theorem dval_dch (d : Nat) (h : d < 16) : dval (dch d) = d := by
  have := dch_toNat d h
  unfold dval; rw [this]; by_cases h10 : d < 10
  · rw [if_pos h10, if_neg (by omega)]; omega
  · rw [if_neg h10, if_pos (by omega)]; omega
theorem isDig_dch (b d : Nat) (hb : Base b) (h : d < b) : isDig b (dch d) = true := by
  have h16 : d < 16 := by rcases hb with rfl | rfl <;> omega
  have := dch_toNat d h16
  rw [isDig_iff, this]
  rcases hb with rfl | rfl <;> split <;> omega
theorem dval_lt (b : Nat) (c : UInt8) (hb : Base b) (h : isDig b c = true) : dval c < b := by
  rw [isDig_iff] at h; unfold dval; rcases hb with rfl | rfl <;> split <;> omega
theorem dch_dval (b : Nat) (c : UInt8) (hb : Base b) (h : isDig b c = true) : dch (dval c) = c := by
  have h1 := dval_lt b c hb h
  have h2 := dch_toNat (dval c) (by rcases hb with rfl | rfl <;> omega)
  rw [isDig_iff] at h
  apply UInt8.toNat_inj.1
  rw [h2]; unfold dval; split <;> split <;> omega

def digs (b n : Nat) : List UInt8 := if _h : n = 0 ∨ b < 2 then [] else digs b (n / b) ++ [dch (n % b)]
termination_by n
decreasing_by exact Nat.div_lt_self (by omega) (by omega)
theorem digs_zero (b : Nat) : digs b 0 = [] := by rw [digs]; simp
theorem digs_pos (b n : Nat) (hb : 2 ≤ b) (hn : 0 < n) : digs b n = digs b (n / b) ++ [dch (n % b)] := by
  rw [digs, dif_neg (by omega)]
def padTo (k : Nat) (l : List UInt8) : List UInt8 := List.replicate (k - l.length) 48 ++ l
theorem padTo_len (k : Nat) (l : List UInt8) : (padTo k l).length = max k l.length := by simp [padTo]; omega
theorem padTo_self (k : Nat) (l : List UInt8) (h : k ≤ l.length) : padTo k l = l := by
  unfold padTo; rw [show k - l.length = 0 from by omega]; rfl
theorem padTo_snoc (k : Nat) (l : List UInt8) (c : UInt8) : padTo (k + 1) (l ++ [c]) = padTo k l ++ [c] := by
  unfold padTo; rw [List.length_append, List.length_singleton, show k + 1 - (l.length + 1) = k - l.length from by omega, List.append_assoc]
theorem padTo_nil (k : Nat) : padTo (k + 1) [] = padTo k [] ++ [dch 0] := by
  simp only [padTo, List.length_nil, Nat.sub_zero, List.append_nil, List.replicate_succ']; rfl
/-- One step of writing digits from the last one on. -/
theorem pad_step (b k n : Nat) (acc : List UInt8) (hb : 2 ≤ b) (h : 0 < n ∨ acc.length < k) :
    padTo (k - acc.length) (digs b n) ++ acc = padTo (k - (dch (n % b) :: acc).length) (digs b (n / b)) ++ dch (n % b) :: acc := by
  rw [show dch (n % b) :: acc = [dch (n % b)] ++ acc from rfl, ← List.append_assoc]
  congr 1
  rw [List.length_append, List.length_singleton]
  rcases Nat.eq_zero_or_pos n with rfl | hn
  · obtain ⟨j, hj⟩ : ∃ j, k - acc.length = j + 1 := ⟨k - acc.length - 1, by omega⟩
    rw [hj, show k - (1 + acc.length) = j from by omega, Nat.zero_div, Nat.zero_mod, digs_zero, padTo_nil]
  · rw [digs_pos b n hb hn]
    rcases Nat.eq_zero_or_pos (k - acc.length) with h0 | h0
    · rw [h0, show k - (1 + acc.length) = 0 from by omega]; unfold padTo; simp
    · obtain ⟨j, hj⟩ : ∃ j, k - acc.length = j + 1 := ⟨k - acc.length - 1, by omega⟩
      rw [hj, show k - (1 + acc.length) = j from by omega, padTo_snoc]
theorem pad_done (b k : Nat) (acc : List UInt8) (h : k ≤ acc.length) : padTo (k - acc.length) (digs b 0) ++ acc = acc := by
  rw [show k - acc.length = 0 from by omega, digs_zero]; rfl

/-! ### Numbers -/
def numOf (b : Nat) (l : List UInt8) : Nat := l.foldl (fun n c => n * b + dval c) 0
theorem numOf_snoc (b : Nat) (l : List UInt8) (c : UInt8) : numOf b (l ++ [c]) = numOf b l * b + dval c := by simp [numOf]
def allDig (b : Nat) (l : List UInt8) : Bool := l.all (isDig b)
theorem allDig_snoc (b : Nat) (l : List UInt8) (c : UInt8) : allDig b (l ++ [c]) = (allDig b l && isDig b c) := by simp [allDig]
theorem numOf_mono (b : Nat) (hb : 1 ≤ b) (l r : List UInt8) : numOf b l ≤ numOf b (l ++ r) := by
  suffices h : ∀ (r : List UInt8) (n : Nat), n ≤ r.foldl (fun n c => n * b + dval c) n by
    unfold numOf; rw [List.foldl_append]; exact h r _
  intro r
  induction r with
  | nil => intro n; exact Nat.le_refl _
  | cons c r ih =>
    intro n
    refine Nat.le_trans ?_ (ih _)
    have : n * 1 ≤ n * b := Nat.mul_le_mul_left n hb
    show n ≤ n * b + dval c
    omega

theorem snoc_induction {P : List UInt8 → Prop} (h0 : P []) (h1 : ∀ l c, P l → P (l ++ [c])) (l : List UInt8) : P l := by
  have : ∀ r : List UInt8, P r.reverse := by
    intro r
    induction r with
    | nil => exact h0
    | cons c r ih => rw [List.reverse_cons]; exact h1 _ _ ih
  have h := this l.reverse
  rwa [List.reverse_reverse] at h

theorem num_digs (b n : Nat) (hb : Base b) : numOf b (digs b n) = n ∧ allDig b (digs b n) = true := by
  have h2 : 2 ≤ b := by rcases hb with rfl | rfl <;> omega
  have h16 : b ≤ 16 := by rcases hb with rfl | rfl <;> omega
  induction n using Nat.strongRecOn with
  | _ n ih =>
    rcases Nat.eq_zero_or_pos n with rfl | hn
    · rw [digs_zero]; exact ⟨rfl, rfl⟩
    · have hm := Nat.mod_lt n (show 0 < b by omega)
      obtain ⟨i1, i2⟩ := ih (n / b) (Nat.div_lt_self hn (by omega))
      rw [digs_pos b n h2 hn, numOf_snoc, allDig_snoc, i1, i2, dval_dch _ (by omega), isDig_dch b _ hb hm]
      exact ⟨by rw [Nat.mul_comm]; exact Nat.div_add_mod n b, rfl⟩
theorem num_pad (b k n : Nat) (hb : Base b) : numOf b (padTo k (digs b n)) = n ∧ allDig b (padTo k (digs b n)) = true := by
  obtain ⟨h1, h2⟩ := num_digs b n hb
  unfold padTo
  generalize k - (digs b n).length = j
  constructor
  · have : ∀ j, (List.replicate j (48 : UInt8)).foldl (fun n c => n * b + dval c) 0 = 0 := by
      intro j
      induction j with
      | zero => rfl
      | succ j ih => rw [List.replicate_succ', List.foldl_append, ih]; simp [dval]
    unfold numOf at *; rw [List.foldl_append, this, h1]
  · unfold allDig at *; rw [List.all_append, h2, Bool.and_true, List.all_eq_true]
    intro c hc
    obtain rfl := List.eq_of_mem_replicate hc
    simp [isDig, digit]
theorem digs_len (b n k : Nat) (hb : 2 ≤ b) (h : n < b ^ k) : (digs b n).length ≤ k := by
  induction k generalizing n with
  | zero => rw [show n = 0 from by simpa using h, digs_zero]; exact Nat.le_refl _
  | succ k ih =>
    rcases Nat.eq_zero_or_pos n with rfl | hn
    · rw [digs_zero]; simp
    · rw [digs_pos b n hb hn, List.length_append, List.length_singleton]
      have := ih (n / b) (by rw [Nat.div_lt_iff_lt_mul (by omega), ← Nat.pow_succ]; exact h)
      omega
/-- The digits of a number's digits, with as many places. -/
theorem pad_num (b : Nat) (hb : Base b) (l : List UInt8) (h : allDig b l = true) : padTo l.length (digs b (numOf b l)) = l := by
  have h2 : 2 ≤ b := by rcases hb with rfl | rfl <;> omega
  revert h
  refine snoc_induction (P := fun l => allDig b l = true → padTo l.length (digs b (numOf b l)) = l) ?_ ?_ l
  · intro _; rw [show numOf b [] = 0 from rfl, digs_zero]; rfl
  · intro l c ih h
    rw [allDig_snoc, Bool.and_eq_true] at h
    have ih := ih h.1
    have hd := dval_lt b c hb h.2
    have hc := dch_dval b c hb h.2
    have e1 : (numOf b l * b + dval c) / b = numOf b l := by rw [Nat.mul_comm, Nat.mul_add_div (by omega), Nat.div_eq_of_lt hd, Nat.add_zero]
    have e2 : (numOf b l * b + dval c) % b = dval c := by rw [Nat.mul_comm, Nat.mul_add_mod, Nat.mod_eq_of_lt hd]
    rw [numOf_snoc, List.length_append, List.length_singleton]
    rcases Nat.eq_zero_or_pos (numOf b l * b + dval c) with h0 | h0
    · have hz : dval c = 0 := by omega
      have hn : numOf b l = 0 := by
        rcases Nat.eq_zero_or_pos (numOf b l) with h | h
        · exact h
        · have := Nat.mul_pos h (show 0 < b by omega); omega
      rw [hn, digs_zero] at ih
      rw [h0, digs_zero, padTo_nil, ih, ← hz, hc]
    · rw [digs_pos b _ h2 h0, e1, e2, hc, padTo_snoc, ih]
/-- No digits begin with 0. -/
theorem digs_head (b n : Nat) (hb : Base b) (c : UInt8) (r : List UInt8) (h : digs b n = c :: r) : c ≠ 48 := by
  have h2 : 2 ≤ b := by rcases hb with rfl | rfl <;> omega
  have h16 : b ≤ 16 := by rcases hb with rfl | rfl <;> omega
  induction n using Nat.strongRecOn generalizing r with
  | _ n ih =>
    rcases Nat.eq_zero_or_pos n with rfl | hn
    · rw [digs_zero] at h; cases h
    · rw [digs_pos b n h2 hn] at h
      cases hd : digs b (n / b) with
      | nil =>
        rw [hd] at h
        injection h with h _
        have hlt : n / b = 0 := by
          have := (num_digs b (n / b) hb).1
          rw [hd] at this; exact this.symm
        have hm : n % b ≠ 0 := by
          intro hz
          have := Nat.div_add_mod n b
          rw [hlt, hz] at this; omega
        have hm2 := Nat.mod_lt n (show 0 < b by omega)
        have hv := dval_dch (n % b) (by omega)
        intro e
        rw [h, e] at hv
        exact hm hv.symm
      | cons d q =>
        rw [hd] at h
        injection h with h1 h2
        subst h1
        exact ih (n / b) (Nat.div_lt_self hn (by omega)) q hd
theorem digs_num (b : Nat) (hb : Base b) (c : UInt8) (r : List UInt8) (h : allDig b (c :: r) = true) (hc : c ≠ 48) : digs b (numOf b (c :: r)) = c :: r := by
  have hp := pad_num b hb (c :: r) h
  unfold padTo at hp
  rcases Nat.eq_zero_or_pos ((c :: r).length - (digs b (numOf b (c :: r))).length) with h0 | h0
  · rw [h0] at hp; exact hp
  · obtain ⟨j, hj⟩ : ∃ j, (c :: r).length - (digs b (numOf b (c :: r))).length = j + 1 := ⟨_, (Nat.succ_pred_eq_of_pos h0).symm⟩
    rw [hj, List.replicate_succ] at hp
    injection hp with hp _
    exact absurd hp.symm hc
end Go.Proofs.YtncafadjcelloaaDoor.ValM

/-
  Plain mathematics of layer 3: picking, the order of tuples, permutations.
-/
import Derived.Test.YtpmkhpbhimmeiaaGreatValNum
import Derived.Test.YtpmkhpbhimmeiaaGreatValRow
namespace Go.Proofs.YtpmkhpbhimmeiaaGreat
open Go.RowKit FloM ValM

/-! ### Columns -/
def inR (size : Nat) (c : Int) : Bool := decide (0 ≤ c) && decide (c < (size : Int))
theorem inR_iff {n : Nat} {c : Int} : inR n c = true ↔ 0 ≤ c ∧ c < (n : Int) := by simp [inR]
theorem inR_not {n : Nat} {c : Int} : inR n c = false ↔ ¬ (0 ≤ c ∧ c < (n : Int)) := by rw [← inR_iff]; simp
def col (t : List V) (c : Int) : Option V := if inR t.length c then t[c.toNat]? else none
def pickL (t : List V) (p : List Int) : List V := p.filterMap (col t)
theorem col_some {t : List V} {c : Int} (h : inR t.length c = true) : ∃ v, t[c.toNat]? = some v ∧ col t c = some v := by
  have h' := inR_iff.1 h
  have hl : c.toNat < t.length := by omega
  exact ⟨t[c.toNat], List.getElem?_eq_getElem hl, by rw [col, if_pos h, List.getElem?_eq_getElem hl]⟩
theorem col_none {t : List V} {c : Int} (h : inR t.length c = false) : col t c = none := by rw [col, h]; rfl
theorem pickL_nil (t : List V) : pickL t [] = [] := rfl
theorem pickL_skip {t : List V} {c : Int} {p : List Int} (h : inR t.length c = false) : pickL t (c :: p) = pickL t p := by
  simp [pickL, col_none h]
theorem pickL_take {t : List V} {c : Int} {p : List Int} {v : V} (h : col t c = some v) : pickL t (c :: p) = v :: pickL t p := by
  simp [pickL, h]
theorem pickL_app (t : List V) (p q : List Int) : pickL t (p ++ q) = pickL t p ++ pickL t q := by simp [pickL]
theorem drop_at {α : Type} {p : List α} {i : Nat} {x : α} (h : p[i]? = some x) : p.drop i = x :: p.drop (i + 1) := by
  obtain ⟨hl, hx⟩ := List.getElem?_eq_some_iff.1 h
  rw [List.drop_eq_getElem_cons hl, hx]

/-- The first place from 'place' on with a column of a tuple of that size. -/
def nextL (size : Nat) (p : List Int) (place : Nat) : Nat := place + ((p.drop place).takeWhile fun c => !inR size c).length
theorem nextL_skip {size : Nat} {p : List Int} {i : Nat} {x : Int} (h : p[i]? = some x) (hx : inR size x = false) : nextL size p i = nextL size p (i + 1) := by
  unfold nextL; rw [drop_at h, List.takeWhile_cons, hx]; simp; omega
theorem nextL_stop {size : Nat} {p : List Int} {i : Nat} {x : Int} (h : p[i]? = some x) (hx : inR size x = true) : nextL size p i = i := by
  unfold nextL; rw [drop_at h, List.takeWhile_cons, hx]; simp
theorem nextL_end {size : Nat} {p : List Int} {i : Nat} (h : p.length ≤ i) : nextL size p i = i := by
  unfold nextL; rw [List.drop_of_length_le h]; simp
theorem length_takeWhile_le' {α : Type} (f : α → Bool) (l : List α) : (l.takeWhile f).length ≤ l.length := by
  induction l with
  | nil => simp
  | cons a l ih => rw [List.takeWhile_cons]; split <;> simp <;> omega
theorem nextL_le {size : Nat} {p : List Int} {i : Nat} (h : i ≤ p.length) : i ≤ nextL size p i ∧ nextL size p i ≤ p.length := by
  unfold nextL
  have h1 := length_takeWhile_le' (fun c => !inR size c) (p.drop i)
  rw [List.length_drop] at h1
  omega
theorem pick_next (t : List V) (p : List Int) : ∀ (m i : Nat), p.length - i = m → i ≤ p.length → pickL t (p.drop (nextL t.length p i)) = pickL t (p.drop i) := by
  intro m
  induction m with
  | zero => intro i h h'; rw [nextL_end (by omega)]
  | succ m ih =>
    intro i h h'
    have hl : i < p.length := by omega
    have hx := List.getElem?_eq_getElem hl
    cases hr : inR t.length p[i] with
    | true => rw [nextL_stop hx hr]
    | false => rw [nextL_skip hx hr, ih (i + 1) (by omega) (by omega), drop_at hx, pickL_skip hr]
theorem next_in (size : Nat) (p : List Int) : ∀ (m i : Nat), p.length - i = m → nextL size p i < p.length → ∃ x, p[nextL size p i]? = some x ∧ inR size x = true := by
  intro m
  induction m with
  | zero => intro i h h'; rw [nextL_end (by omega)] at h'; omega
  | succ m ih =>
    intro i h h'
    have hl : i < p.length := by omega
    have hx := List.getElem?_eq_getElem hl
    cases hr : inR size p[i] with
    | true => rw [nextL_stop hx hr]; exact ⟨_, hx, hr⟩
    | false => rw [nextL_skip hx hr] at h' ⊢; exact ih (i + 1) (by omega) h'

/-! ### The order of tuples -/
def ordV : List V → List V → Int
  | [], [] => 0
  | [], _ :: _ => -1
  | _ :: _, [] => 1
  | x :: a, y :: b => if cmpV x y = 0 then ordV a b else cmpV x y
theorem ordV_same {x y : V} {a b : List V} (h : cmpV x y = 0) : ordV (x :: a) (y :: b) = ordV a b := by rw [ordV, if_pos h]
theorem ordV_other {x y : V} {a b : List V} (h : cmpV x y ≠ 0) : ordV (x :: a) (y :: b) = cmpV x y := by rw [ordV, if_neg h]

/-! ### Permutations -/
def permB (p : List Int) : Bool := p.all (inR p.length) && decide p.Nodup
def PermPre (p : List Int) (k : Nat) : Prop := (∀ x ∈ p.take k, inR p.length x = true) ∧ (p.take k).Nodup
theorem take_snoc' {α : Type} {p : List α} {k : Nat} {x : α} (h : p[k]? = some x) : p.take (k + 1) = p.take k ++ [x] := by
  rw [List.take_add_one, h]; rfl
theorem split_take {α : Type} {p : List α} {k : Nat} {x : α} (h : p[k]? = some x) : p = p.take k ++ x :: p.drop (k + 1) := by
  rw [← drop_at h, List.take_append_drop]
theorem perm_out {p : List Int} {k : Nat} {x : Int} (h : p[k]? = some x) (hx : inR p.length x = false) : permB p = false := by
  unfold permB
  have : p.all (inR p.length) = false := by
    rw [List.all_eq_false]; exact ⟨x, List.mem_of_getElem? h, by simp [hx]⟩
  rw [this]; rfl
theorem perm_twice {p : List Int} {k : Nat} {x : Int} (h : p[k]? = some x) (hx : x ∈ p.take k) : permB p = false := by
  unfold permB
  have : ¬ p.Nodup := by
    rw [split_take h, List.nodup_append]
    intro hn
    exact hn.2.2 x hx x (List.mem_cons_self ..) rfl
  simp [this]
theorem permPre_succ {p : List Int} {k : Nat} {x : Int} (h : p[k]? = some x) (hx : inR p.length x = true) (hn : x ∉ p.take k) (hp : PermPre p k) : PermPre p (k + 1) := by
  unfold PermPre at *
  rw [take_snoc' h]
  refine ⟨fun y hy => ?_, ?_⟩
  · rw [List.mem_append, List.mem_singleton] at hy
    rcases hy with hy | rfl
    · exact hp.1 y hy
    · exact hx
  · rw [List.nodup_append]
    refine ⟨hp.2, by simp, fun a ha b hb e => ?_⟩
    rw [List.mem_singleton] at hb; subst hb; subst e; exact hn ha
theorem perm_all {p : List Int} {k : Nat} (hk : p.length ≤ k) (hp : PermPre p k) : permB p = true := by
  unfold PermPre at hp; rw [List.take_of_length_le hk] at hp
  unfold permB; rw [Bool.and_eq_true, List.all_eq_true, decide_eq_true_eq]; exact hp
theorem perm_iff {p : List Int} : permB p = true ↔ (∀ x ∈ p, inR p.length x = true) ∧ p.Nodup := by
  unfold permB; rw [Bool.and_eq_true, List.all_eq_true, decide_eq_true_eq]

/-! ### Drawers and pigeons -/
theorem nodup_sub_len : ∀ (l m : List Int), l.Nodup → (∀ x ∈ l, x ∈ m) → l.length ≤ m.length
  | [], m, _, _ => Nat.zero_le _
  | x :: l, m, hn, hs => by
    rw [List.nodup_cons] at hn
    have hx := hs x (List.mem_cons_self ..)
    have ih := nodup_sub_len l (m.erase x) hn.2 fun y hy => (List.mem_erase_of_ne (show y ≠ x from fun e => hn.1 (by rw [← e]; exact hy))).2 (hs y (List.mem_cons_of_mem _ hy))
    rw [List.length_erase_of_mem hx] at ih
    have : 0 < m.length := List.length_pos_of_mem hx
    simp only [List.length_cons]; omega
theorem sub_full : ∀ (m p : List Int), m.Nodup → (∀ x ∈ m, x ∈ p) → p.length ≤ m.length → p.Nodup ∧ ∀ x ∈ p, x ∈ m
  | [], p, _, _, hl => by
    have : p = [] := List.eq_nil_of_length_eq_zero (by simpa using hl)
    subst this; simp
  | x :: m, p, hn, hs, hl => by
    rw [List.nodup_cons] at hn
    have hx := hs x (List.mem_cons_self ..)
    have hlen := List.length_erase_of_mem hx
    have ih := sub_full m (p.erase x) hn.2 (fun y hy => (List.mem_erase_of_ne (show y ≠ x from fun e => hn.1 (by rw [← e]; exact hy))).2 (hs y (List.mem_cons_of_mem _ hy))) (by simp only [List.length_cons] at hl; omega)
    have hp := List.perm_cons_erase hx
    refine ⟨hp.nodup_iff.2 (List.nodup_cons.2 ⟨fun h => hn.1 (ih.2 x h), ih.1⟩), fun y hy => ?_⟩
    have := hp.mem_iff.1 hy
    rw [List.mem_cons] at this ⊢
    exact this.imp_right (ih.2 y)
def upto (n : Nat) : List Int := (List.range n).map Int.ofNat
theorem upto_len (n : Nat) : (upto n).length = n := by simp [upto]
theorem upto_mem {n : Nat} {x : Int} : x ∈ upto n ↔ inR n x = true := by
  unfold upto; rw [List.mem_map, inR_iff]
  constructor
  · rintro ⟨i, hi, rfl⟩; rw [List.mem_range] at hi; simp only [Int.ofNat_eq_natCast]; omega
  · intro h; exact ⟨x.toNat, by rw [List.mem_range]; omega, by simp only [Int.ofNat_eq_natCast]; omega⟩
theorem upto_nodup (n : Nat) : (upto n).Nodup := by
  unfold upto List.Nodup
  rw [List.pairwise_map]
  exact List.nodup_range.imp fun h e => h (Int.ofNat.inj e)
theorem perm_has {p : List Int} : permB p = true ↔ ∀ x, inR p.length x = true → x ∈ p := by
  rw [perm_iff]
  constructor
  · rintro ⟨h1, h2⟩ x hx
    exact (sub_full p (upto p.length) h2 (fun y hy => upto_mem.2 (h1 y hy)) (by rw [upto_len]; exact Nat.le_refl _)).2 x (upto_mem.2 hx)
  · intro h
    have := sub_full (upto p.length) p (upto_nodup _) (fun x hx => h x (upto_mem.1 hx)) (by rw [upto_len]; exact Nat.le_refl _)
    exact ⟨fun x hx => upto_mem.1 (this.2 x hx), this.1⟩
theorem perm_mem {p : List Int} (h : permB p = true) {i : Nat} (hi : i < p.length) : (i : Int) ∈ p := perm_has.1 h _ (inR_iff.2 (by omega))

/-! ### What undoes a permutation -/
def idxI (p : List Int) (i : Nat) : Int := (p.idxOf (i : Int) : Nat)
def invL (p : List Int) : List Int := if permB p then (List.range p.length).map (idxI p) else []
theorem idxOf_at {p : List Int} (hn : p.Nodup) {k : Nat} {x : Int} (h : p[k]? = some x) : p.idxOf x = k := by
  obtain ⟨hl, hx⟩ := List.getElem?_eq_some_iff.1 h
  rw [← hx]; exact hn.idxOf_getElem _ _
end Go.Proofs.YtpmkhpbhimmeiaaGreat
/-
  Slices of values and of numbers that read as lists; how they are kept.
-/
namespace Go.Proofs.YtpmkhpbhimmeiaaGreat
open Go.RowKit FloM ValM

/-- The cells from ⟨b, o⟩ on hold the fields of v. -/
def CellsV (w : World) (b o : Nat) (v : V) : Prop := w.cell? ⟨b, o, none⟩ = some (.int .i64 v.k) ∧ w.cell? ⟨b, o + 1, none⟩ = some (.int .i64 v.n) ∧ w.cell? ⟨b, o + 2, none⟩ = some (.string v.s)
/-- A slice at A reads as the values l. -/
def RdV (w : World) (A : Option Addr) (l : List V) : Prop := ∀ i v, l[i]? = some v → ∃ b o, A = some ⟨b, o, none⟩ ∧ b < w.heap.size ∧ CellsV w b (o + i * 3) v
/-- A slice at A reads as the numbers l. -/
def RdI (w : World) (A : Option Addr) (l : List Int) : Prop := ∀ i x, l[i]? = some x → ∃ b o, A = some ⟨b, o, none⟩ ∧ b < w.heap.size ∧ w.cell? ⟨b, o + i, none⟩ = some (.int .i64 x)
/-- A slice at A reads as the texts l. -/
def RdS (w : World) (A : Option Addr) (l : List ByteArray) : Prop := ∀ i x, l[i]? = some x → ∃ b o, A = some ⟨b, o, none⟩ ∧ b < w.heap.size ∧ w.cell? ⟨b, o + i, none⟩ = some (.string x)
section
variable {w w' : World} {A : Option Addr}
theorem RdV.on {l : List V} (h : RdV w A l) (hb : Below w.heap.size w w') : RdV w' A l := fun i v hv => by
  obtain ⟨b, o, e, hl, c0, c1, c2⟩ := h i v hv
  have k := keep hb
  exact ⟨b, o, e, Nat.lt_of_lt_of_le hl hb.size, (k _ _ hl).trans c0, (k _ _ hl).trans c1, (k _ _ hl).trans c2⟩
theorem RdI.on {l : List Int} (h : RdI w A l) (hb : Below w.heap.size w w') : RdI w' A l := fun i v hv => by
  obtain ⟨b, o, e, hl, c0⟩ := h i v hv
  exact ⟨b, o, e, Nat.lt_of_lt_of_le hl hb.size, (keep hb _ _ hl).trans c0⟩
theorem RdS.on {l : List ByteArray} (h : RdS w A l) (hb : Below w.heap.size w w') : RdS w' A l := fun i v hv => by
  obtain ⟨b, o, e, hl, c0⟩ := h i v hv
  exact ⟨b, o, e, Nat.lt_of_lt_of_le hl hb.size, (keep hb _ _ hl).trans c0⟩
theorem RdV.nil : RdV w A [] := fun i v hv => by simp at hv
theorem RdI.nil : RdI w A [] := fun i v hv => by simp at hv
theorem RdS.nil : RdS w A [] := fun i v hv => by simp at hv
end
/-- What can be told of each value. -/
def OkL (l : List V) : Prop := ∀ v ∈ l, Fits v.n ∧ v.s.size ≤ maxLen
theorem OkL.at_ {l : List V} (h : OkL l) {i : Nat} {v : V} (hv : l[i]? = some v) : Fits v.n ∧ v.s.size ≤ maxLen := h v (List.mem_of_getElem? hv)
end Go.Proofs.YtpmkhpbhimmeiaaGreat
/-
  Contracts of tuple.has and tuple.next.
-/
namespace Go.Proofs.YtpmkhpbhimmeiaaGreat
open Go.RowKit FloM ValM

set_option maxHeartbeats 1000000 in
theorem has_any (n : Nat) (c : Int) (w : World) : Calls Tryz.prog 90 #[.int .i64 (n : Int), .int .i64 c] w fun e w' => e = .returned (.bool (inR n c)) ∧ w = w' := by
  go_enter Tryz.func90, Tryz.ntmps90
  go_wp2
  all_goals
    go_ret
    exact ⟨ret_bool (by simp_all [inR] <;> omega), rfl⟩

def NextRel (size : Nat) (p : List Int) (place : Nat) (v : Value) : Prop := ∃ k : Nat, v = .int .i64 (k : Nat) ∧ place ≤ k ∧ k ≤ p.length ∧ nextL size p place = nextL size p k
set_option maxHeartbeats 1000000 in
theorem next_any (size : Nat) (A : Option Addr) (c : Nat) (p : List Int) (place : Nat) (w : World) (hp : RdI w A p) (hl : p.length ≤ maxLen) (h0 : place ≤ p.length) :
    Calls Tryz.prog 75 #[.int .i64 (size : Int), .slice A p.length c, .int .i64 (place : Int)] w fun e w' => e = .returned (.int .i64 (nextL size p place : Nat)) ∧ w = w' := by
  unfold maxLen at hl
  have HP := Lib.hid hp; clear hp
  go_enter Tryz.func75, Tryz.ntmps75
  go_wp2
  go_loop [2] (fun v => NextRel size p place v) (fun v => p.length - (intOf v).toNat)
  case atStart => exact ⟨place, rfl, Nat.le_refl _, h0, rfl⟩
  case round =>
    obtain ⟨k, rfl, hk0, hk, hn⟩ := hrel
    have HN := Lib.hid hn; clear hn
    by_cases hlt : k < p.length
    · have hx := List.getElem?_eq_getElem hlt
      obtain ⟨b, o, rfl, hb, hc⟩ := HP.out k _ hx
      have HX := Lib.hid hx; clear hx
      generalize p[k] = x at HX hc
      cases hr : inR size x with
      | true =>
        have HR := Lib.hid hr
        go_wp2_with (go_at_call 90; refine (has_any _ _ _).mono ?_; rintro e w' ⟨rfl, rfl⟩)
        go_ret
        exact ⟨ret_int (by rw [HN.out, nextL_stop HX.out HR.out]), rfl⟩
      | false =>
        have HR := Lib.hid hr
        go_wp2_with (go_at_call 90; refine (has_any _ _ _).mono ?_; rintro e w' ⟨rfl, rfl⟩)
        go_round
        case rel => exact ⟨k + 1, by go_num, by omega, by omega, by rw [HN.out, nextL_skip HX.out HR.out]⟩
        case measure => simp [intOf]; omega
    · go_wp2
      go_ret
      exact ⟨ret_int (by rw [HN.out, nextL_end (by omega)]), rfl⟩
theorem next_succ (size : Nat) (A : Option Addr) (c : Nat) (p : List Int) (x : Nat) (w : World) (hp : RdI w A p) (hl : p.length ≤ maxLen) (h0 : x < p.length) :
    Calls Tryz.prog 75 #[.int .i64 (size : Int), .slice A p.length c, .int .i64 ((x : Int) + 1)] w fun e w' => e = .returned (.int .i64 (nextL size p (x + 1) : Nat)) ∧ w = w' := by
  have := next_any size A c p (x + 1) w hp hl h0
  rwa [Int.natCast_add] at this
end Go.Proofs.YtpmkhpbhimmeiaaGreat

/-
  Package parse: terms and arguments of heads as items of lists; what is left of the tokens.
-/
import Derived.Test.YtdolhlbkhhnpmaaDoorPrsW
namespace Go.Proofs.YtdolhlbkhhnpmaaDoor
open Go.RowKit FloM ValM Go.Shelf
set_option linter.unusedVariables false
set_option linter.unusedSimpArgs false
/-! ### What is left of the tokens -/
def Wk {α : Type} (ts : List Tk) (R : Ans α) : Prop := ∀ x r, R = .ok x r → r <:+ ts
def Sk {α : Type} (ts : List Tk) (R : Ans α) : Prop := ∀ x r, R = .ok x r → r <:+ ts ∧ r.length < ts.length
theorem Sk.wk {α : Type} {ts : List Tk} {R : Ans α} (h : Sk ts R) : Wk ts R := fun x r e => (h x r e).1
theorem Wk.ok {α : Type} {ts : List Tk} (x : α) : Wk ts (.ok x ts) := fun y r e => by cases e; exact List.suffix_refl _
theorem Wk.no {α : Type} {ts : List Tk} (a k : Nat) : Wk (α := α) ts (.no a k) := fun y r e => by cases e
theorem Sk.no {α : Type} {ts : List Tk} (a k : Nat) : Sk (α := α) ts (.no a k) := fun y r e => by cases e
theorem Wk.bind {α β : Type} {ts : List Tk} {R : Ans α} {g : α → List Tk → Ans β} (h : Wk ts R) (hg : ∀ a r, r <:+ ts → Wk r (g a r)) : Wk ts (R.bind g) := fun y r e => by
  obtain ⟨a, r1, e1, e2⟩ := bind_ok e
  exact (hg a r1 (h a r1 e1) y r e2).trans (h a r1 e1)
theorem Sk.bind {α β : Type} {ts : List Tk} {R : Ans α} {g : α → List Tk → Ans β} (h : Sk ts R) (hg : ∀ a r, r <:+ ts → Wk r (g a r)) : Sk ts (R.bind g) := fun y r e => by
  obtain ⟨a, r1, e1, e2⟩ := bind_ok e
  have h1 := h a r1 e1
  have h2 := hg a r1 h1.1 y r e2
  exact ⟨h2.trans h1.1, Nat.lt_of_le_of_lt h2.length_le h1.2⟩
theorem need_sk (p : Tk → Bool) (z : Nat) (ts : List Tk) : Sk ts (needP p z ts) := fun t r e => by
  have := (need_len e).1
  subst this
  exact ⟨List.suffix_cons _ _, by simp⟩
theorem want_sk (m : List UInt8) (z : Nat) (ts : List Tk) : Sk ts (wantP m z ts) := need_sk _ z ts
theorem term_sk (z : Nat) (ts : List Tk) : Sk ts (termP z ts) := (need_sk _ z ts).bind fun t r _ => Wk.ok _
theorem tail_suf (r : List Tk) : r.tail <:+ r := by cases r with
  | nil => exact List.suffix_refl _
  | cons t r => exact List.suffix_cons _ _
theorem Wk.tail {α : Type} {r : List Tk} {R : Ans α} (h : Wk r.tail R) : Wk r R := fun x q e => (h x q e).trans (tail_suf r)
theorem head_sk (z : Nat) (ts : List Tk) : Sk ts (headP z ts) := (term_sk z ts).bind fun t r _ => by
  split
  · exact Wk.ok _
  · refine Wk.tail ((need_sk _ z _).wk.bind fun t' r' _ => (want_sk _ z r').wk.bind fun _ r2 _ => ?_)
    split
    · exact Wk.ok _
    · exact Wk.no _ _
theorem listL_wk {α : Type} {most z : Nat} {item : Ps α} (hi : StrictP item) : ∀ (n : Nat) (acc : List α) (ts : List Tk), GoodT ts → Wk ts (listL most item z n acc ts)
  | 0, acc, ts, hg => Wk.ok _
  | n + 1, acc, ts, hg => by
    unfold listL
    split
    · split
      · exact Wk.no _ _
      · have hgt : GoodT ts.tail := hg.suf (tail_suf ts)
        exact Wk.tail (Wk.bind (fun x r e => (hi z _ x r hgt e).1) fun x r hr => listL_wk hi n _ r (hgt.suf hr))
    · exact Wk.ok _
theorem list_strict {α : Type} {most : Nat} {item : Ps α} (hi : StrictP item) : StrictP (listP most item) := fun z ts x r hg e =>
  (Sk.bind (fun x r e => hi z ts x r hg e) fun x r hr => listL_wk hi _ _ r (hg.suf hr)) x r e
theorem term_strict : StrictP termP := fun z ts x r _ e => term_sk z ts x r e
theorem head_strict : StrictP headP := fun z ts x r _ e => head_sk z ts x r e
theorem atom_strict {α : Type} {item : Ps α} (hi : StrictP item) : StrictP (atomB item) := fun z ts x r hg e =>
  (Sk.bind (need_sk predT z ts) fun t r hr => by
    split
    · exact Wk.tail (Wk.bind (fun x q e => (list_strict hi z _ x q ((hg.suf hr).suf (tail_suf r)) e).1) fun l r2 _ => (want_sk _ z r2).wk.bind fun _ r3 _ => Wk.ok _)
    · exact Wk.ok _) x r e
theorem path_strict (k : Nat) : StrictP (pathP k) := fun z ts x r hg e => by
  obtain ⟨u, h1, _⟩ := path_nest k z ts x r (fun t ht => (hg t ht).1) e
  have h2 := (pathP_eq k ▸ LenOk.path (lenI k) : LenOk (pathP k)) z ts x r e
  exact ⟨⟨u, h1.symm⟩, by omega⟩
/-! ### Atoms -/
theorem Fr.subX {X Y : Nat → Prop} {B : Nat} {w w' : World} (h : Fr X B w w') (hX : ∀ k, k < B → X k → Y k) : Fr Y B w w' := ⟨h.os, h.tape, h.output, h.size, fun k hk hy => h.block k hk (fun hx => hy (hX k hk hx))⟩
def tmC (b : Tm) : List Value := [.string (bs b.v), .int .i64 b.x.k, .int .i64 b.x.n, .string b.x.s]
structure AmA where
  p : List UInt8
  A : Option Addr
  c : Nat
  a : List Tm
def AmA.am (x : AmA) : Am := ⟨x.p, x.a⟩
def AmA.ok (W : World) (base : Nat) (x : AmA) : Prop := OwnX 39 4 tmC W base x.A x.c x.a
theorem AmA.ok.frx {W W' : World} {base : Nat} {x : AmA} {X : Nat → Prop} (h : x.ok W base) (hX : ∀ k, X k → k < base) (hF : Fr X W.heap.size W W') : x.ok W' base := own_frx h hX hF
theorem AmA.ok.less {W : World} {base b' : Nat} {x : AmA} (h : x.ok W base) (hb : b' ≤ base) : x.ok W b' := OwnX.less h hb
def AtmQ (R : Ans Am) (rb tb z o : Nat) (W : World) (e : Ending) (w' : World) : Prop := match R with
  | .ok m r => ∃ M : AmA, M.am = m ∧ e = .returned (.agg #[.string (bs M.p), .slice M.A M.a.length M.c]) ∧ M.ok w' W.heap.size ∧ RdrAt w' rb tb z r o ∧ Fr (· = rb) W.heap.size W w'
  | .no a k => e = .panicked [{ v := faultP a k, recovered := false }] ∧ Fr (· = rb) W.heap.size W w'
section
variable {W W' : World} {rb tb z o xb : Nat} {ts : List Tk}
/-! ### The arguments of a head -/
def lastF (l : List (Tm × Nat)) : Nat := (l.getLast?.map Prod.snd).getD 0
def ruleC (f : Nat) : List Value := [.string ByteArray.empty, .slice none 0 0, .int .i64 (f : Int), .slice none 0 0]
def HeadS (xb : Nat) (l : List (Tm × Nat)) (V : World) : Prop := Row 52 V xb (ruleC (lastF l))
theorem lastF_snoc (l : List (Tm × Nat)) (x : Tm × Nat) : lastF (l ++ [x]) = x.2 := by simp [lastF]
end
end Go.Proofs.YtdolhlbkhhnpmaaDoor

/-
  Package parse: no error is 0: plain mathematics.
-/
import Derived.Test.YtncafadjcelloaaDoorPrsM
import Derived.Test.YtncafadjcelloaaDoorPrsN
namespace Go.Proofs.YtncafadjcelloaaDoor
open FloM ValM
set_option linter.unusedVariables false
set_option linter.unusedSimpArgs false
def Nz {α : Type} (R : Ans α) : Prop := ∀ a k, R = .no a k → k ≠ 0
section
variable {α β : Type}
theorem Nz.ok (x : α) (r : List Tk) : Nz (.ok x r) := fun a k h => by cases h
theorem Nz.no {a k : Nat} (h : k ≠ 0) : Nz (.no a k : Ans α) := fun a' k' e => by cases e; exact h
theorem Nz.bind {x : Ans α} {g : α → List Tk → Ans β} (h : Nz x) (hg : ∀ y r, Nz (g y r)) : Nz (x.bind g) := fun a k e => by
  cases x with
  | ok y r => exact hg y r a k e
  | no a' k' => cases e; exact h _ _ rfl
theorem Nz.ite {c : Prop} [Decidable c] {x y : Ans α} (hx : Nz x) (hy : Nz y) : Nz (if c then x else y) := by split <;> assumption
theorem need_nz (p : Tk → Bool) (z : Nat) (ts : List Tk) : Nz (needP p z ts) := by
  cases ts with
  | nil => exact Nz.no (by decide)
  | cons t r => unfold needP; exact Nz.ite (Nz.ok _ _) (Nz.no (by decide))
theorem want_nz (m : List UInt8) (z : Nat) (ts : List Tk) : Nz (wantP m z ts) := need_nz _ z ts
def NzP (f : Ps α) : Prop := ∀ z ts, Nz (f z ts)
theorem part_nz {op : Ps (List St)} (h : NzP op) : NzP (partP op) := fun z ts => (h z ts).bind fun s r => Nz.ok _ _
theorem seqL_nz {m : List UInt8} {k : Nat} {op : Ps (List St)} (h : NzP op) {z : Nat} : ∀ (n : Nat) (acc : List St) (ts : List Tk), Nz (seqL m k op z n acc ts)
  | 0, acc, ts => Nz.ok _ _
  | n + 1, acc, ts => by unfold seqL; exact Nz.ite ((h z _).bind fun s r => seqL_nz h n _ r) (Nz.ok _ _)
theorem sequ_nz {m : List UInt8} {k : Nat} {op : Ps (List St)} (h : NzP op) : NzP (sequP m k op) := fun z ts => (h z ts).bind fun s r => seqL_nz h _ _ _
theorem oper_nz {inner : Option (Ps (List St))} (h : ∀ f, inner = some f → NzP f) : NzP (operP inner) := fun z ts => by
  unfold operP
  refine Nz.ite ?_ (Nz.ite ((need_nz _ z _).bind fun t r => Nz.ok _ _) ((need_nz _ z _).bind fun t r => Nz.ok _ _))
  cases inner with
  | none => exact Nz.no (by decide)
  | some f => exact (h f rfl z _).bind fun s r => (want_nz _ z r).bind fun _ r => Nz.ok _ _
theorem pathB_nz {inner : Option (Ps (List St))} (h : ∀ f, inner = some f → NzP f) : NzP (pathB inner) := fun z ts =>
  (sequ_nz (sequ_nz (part_nz (oper_nz h))) z ts).bind fun s r => Nz.ite (Nz.no (by decide)) (Nz.ok _ _)
theorem path_nz : ∀ k, NzP (pathP k)
  | 0 => pathB_nz fun f e => by cases e
  | k + 1 => pathB_nz fun f e => by cases e; exact path_nz k
theorem whole_nz {f : Ps α} (h : NzP f) : NzP (wholeP f) := fun z ts => (h z ts).bind fun x r => by
  cases r with
  | nil => exact Nz.ok _ _
  | cons t r => exact Nz.no (by decide)
theorem pathS_nz (z : Nat) (R : Rs) : Nz (pathS z R) := by
  cases R with
  | bad n => exact Nz.no (by decide)
  | good ts => exact whole_nz (path_nz 32) z ts
theorem term_nz : NzP termP := fun z ts => (need_nz _ z ts).bind fun t r => Nz.ok _ _
theorem head_nz : NzP headP := fun z ts => (term_nz z ts).bind fun t r => Nz.ite (Nz.ok _ _) ((need_nz _ z _).bind fun t' r => (want_nz _ z r).bind fun _ r => Nz.ite (Nz.ok _ _) (Nz.no (by decide)))
theorem listL_nz {most z : Nat} {item : Ps α} (h : NzP item) : ∀ (n : Nat) (acc : List α) (ts : List Tk), Nz (listL most item z n acc ts)
  | 0, acc, ts => Nz.ok _ _
  | n + 1, acc, ts => by unfold listL; exact Nz.ite (Nz.ite (Nz.no (by decide)) ((h z _).bind fun x r => listL_nz h n _ r)) (Nz.ok _ _)
theorem list_nz {most : Nat} {item : Ps α} (h : NzP item) : NzP (listP most item) := fun z ts => (h z ts).bind fun x r => listL_nz h _ _ _
theorem atomB_nz {arg : Ps α} (h : NzP arg) : NzP (atomB arg) := fun z ts => (need_nz _ z ts).bind fun t r => Nz.ite ((list_nz h z _).bind fun l r => (want_nz _ z r).bind fun _ r => Nz.ok _ _) (Nz.ok _ _)
theorem atom_nz : NzP atomP := fun z ts => (atomB_nz term_nz z ts).bind fun x r => Nz.ok _ _
theorem comp_nz : NzP compP := fun z ts => (term_nz z ts).bind fun a r => (need_nz _ z r).bind fun o r => (term_nz z r).bind fun b r => Nz.ok _ _
theorem let_nz : NzP letP := fun z ts => (term_nz z ts).bind fun a r => (want_nz _ z r).bind fun _ r => (term_nz z r).bind fun b r => (need_nz _ z r).bind fun o r => (term_nz z r).bind fun c r => Nz.ok _ _
theorem walk_nz : NzP walkP := fun z ts => (want_nz _ z ts).bind fun _ r => (want_nz _ z r).bind fun _ r => (term_nz z r).bind fun a r => (want_nz _ z r).bind fun _ r => (path_nz 32 z r).bind fun p r => (want_nz _ z r).bind fun _ r => (term_nz z r).bind fun b r => (want_nz _ z r).bind fun _ r => Nz.ok _ _
theorem lit_nz : NzP litP := fun z ts => Nz.ite (comp_nz z ts) (Nz.ite (let_nz z ts) (Nz.ite ((want_nz _ z ts).bind fun _ r => (atom_nz z r).bind fun m r => Nz.ok _ _) (Nz.ite (walk_nz z ts) (Nz.ite ((atom_nz z ts).bind fun m r => Nz.ok _ _) (comp_nz z ts)))))
theorem rule_nz : NzP ruleP := fun z ts => (atomB_nz head_nz z ts).bind fun h r => Nz.ite ((list_nz lit_nz z _).bind fun b r => (want_nz _ z r).bind fun _ r => Nz.ok _ _) ((want_nz _ z r).bind fun _ r => Nz.ok _ _)
theorem rulesL_nz {z : Nat} : ∀ (n : Nat) (acc : List Rl) (ts : List Tk), Nz (rulesL z n acc ts)
  | 0, acc, ts => Nz.ok _ _
  | n + 1, acc, ts => by unfold rulesL; exact Nz.ite (Nz.ite (Nz.no (by decide)) ((rule_nz z _).bind fun x r => rulesL_nz n _ r)) (Nz.ok _ _)
theorem prog_nz : NzP progP := fun z ts => (rulesL_nz many [] ts).bind fun l r => (want_nz _ z r).bind fun _ r => (atom_nz z r).bind fun q r => (want_nz _ z r).bind fun _ r => Nz.ok _ _
end
end Go.Proofs.YtncafadjcelloaaDoor

/-
  Plain mathematics of layer 2 (value): names, digits, numbers as texts, and the order of texts, on lists of bytes. Nothing of the dump is used here.
-/
import Ieee.Arith
import Derived.Test.YtahljmddnfldlaaChecked
import Derived.WalkKit
import Derived.WalkLawsBesides
import Derived.Lib.Hide
import Derived.RowKit3
import Derived.BigQuiet
import Derived.Laws.Externs
import Derived.Lib.Bytealg
import Derived.LoopTactic
import Derived.Deep.LoopGhost
import Derived.Below
import Derived.Laws.BytesArg
import Derived.Shelf.Strings.SlTrimAscii
import Derived.Laws.OwnMore
import Derived.Deep.AppendLies
import Derived.OwnWalk
import Derived.Laws.MakeOwn
import Derived.Laws.RangeAny
import Derived.Laws.RangeString
import Derived.RegionTactic
import Derived.Recover
import Derived.Deep.RegionHeld
import Derived.Deep.MidRow
import Derived.Maps.AppendAt
import Derived.Deep.RegionLaw
import Derived.Lib.QuietBelow
import Derived.Deep.RegionHeld3
import Derived.Deep.CutRange
import Derived.Deep.OwnRows
import Derived.ChangeSame
import Derived.Lib.SmallJoins
import Derived.OpenShut
import Derived.ProofKit
import Derived.ChangeMaps5
import Derived.Deep.Slices
import Derived.Deep.Fields
import Derived.ReadAgain
import Derived.ChangeBears
namespace Go.Proofs.Ytahljmddnfldlaa.ValM

/-! ### Texts as lists of bytes -/
def bs (l : List UInt8) : ByteArray := ⟨l.toArray⟩
def ls (s : ByteArray) : List UInt8 := s.data.toList
theorem ls_bs (l : List UInt8) : ls (bs l) = l := rfl
theorem bs_ls (s : ByteArray) : bs (ls s) = s := by cases s; rfl
theorem ls_len (s : ByteArray) : (ls s).length = s.size := rfl
theorem bs_size (l : List UInt8) : (bs l).size = l.length := rfl
/-! ### Names -/
def lower (c : UInt8) : Bool := decide (97 ≤ c.toNat ∧ c.toNat ≤ 122)
def digit (c : UInt8) : Bool := decide (48 ≤ c.toNat ∧ c.toNat ≤ 57)
def okAt (i : Nat) (c : UInt8) : Bool := lower c || (decide (0 < i) && (decide (c.toNat = 95) || digit c))
def allAt : Nat → List UInt8 → Bool
  | _, [] => true
  | i, c :: r => okAt i c && allAt (i + 1) r
def nameL (l : List UInt8) : Bool := decide (0 < l.length ∧ l.length ≤ 40) && allAt 0 l
def name (s : ByteArray) : Bool := nameL (ls s)
/-! ### Digits -/
def dval (c : UInt8) : Nat := if 97 ≤ c.toNat then c.toNat - 87 else c.toNat - 48
def isDig (b : Nat) (c : UInt8) : Bool := digit c || (decide (b = 16) && decide (97 ≤ c.toNat ∧ c.toNat ≤ 102))
/-! ### Numbers -/
def numOf (b : Nat) (l : List UInt8) : Nat := l.foldl (fun n c => n * b + dval c) 0
def allDig (b : Nat) (l : List UInt8) : Bool := l.all (isDig b)
end Go.Proofs.Ytahljmddnfldlaa.ValM
namespace FloM
open Ieee

/-! ### Cutting and scaling -/
/-! ### The double's words by sign and rung -/
/-! ### 'F s m p': the word of digits m at place p, where nothing is lost -/
/-- Nothing is lost, and it is no infinity. -/
def Fits (m : Nat) (p : Int) : Prop := m < 9007199254740992 ∧ -1074 ≤ p ∧ (m = 0 ∨ p + m.log2 ≤ 1023)

/-! ### Twice, and half -/
/-! ### The order -/
/-! ### Codes -/
abbrev NaNc : Int := 9221120237041090561
def right (n : Int) : Bool := (decide (-9218868437227405313 ≤ n) && decide (n ≤ 9218868437227405312)) || n == NaNc
end FloM
namespace Go.Proofs.Ytahljmddnfldlaa
open Go.RowKit FloM

end Go.Proofs.Ytahljmddnfldlaa
namespace Go.Proofs.Ytahljmddnfldlaa
open Go.RowKit FloM ValM

theorem toList_ls (s : ByteArray) : s.toList = ls s := ByteArray.toList_eq s
/-! ### value.Name -/
/-! ### Comparisons -/
end Go.Proofs.Ytahljmddnfldlaa
namespace Go.Proofs.Ytahljmddnfldlaa
open Go.RowKit FloM ValM

theorem on {W w w' : World} (h : Below W.heap.size W w) (k : Below w.heap.size w w') : Below W.heap.size W w' := h.trans (k.mono h.size)
def Fits (n : Int) : Prop := -9223372036854775808 ≤ n ∧ n < 9223372036854775808

theorem fits_of {n : Int} (h : (Lit.int .i64 n).wf = true) : Fits n := by
  unfold Fits; simp [Lit.wf, IntKind.min, IntKind.max, IntKind.bits, IntKind.signed] at h; omega
theorem nxt {w u u1 w' : World} (hB : Below w.heap.size w u) (g : Below u.heap.size u u1) (h' : Below u1.heap.size u1 w') : Below w.heap.size w w' := on (on hB g) h'
end Go.Proofs.Ytahljmddnfldlaa
namespace Go.Proofs.Ytahljmddnfldlaa
open Go.RowKit FloM ValM

/-! ### A block of bytes of the call's own -/
def Row (t : TypeId) (w : World) (g : Nat) (cs : List Value) : Prop := w.heap[g]? = some (.cells cs.toArray t (0, 0))
theorem Row.cell {t : TypeId} {w : World} {g : Nat} {cs : List Value} (h : Row t w g cs) (i : Nat) : w.cell? ⟨g, i, none⟩ = cs[i]? := by
  unfold Row at h; simp [World.cell?, h]
theorem Row.frozen {t : TypeId} {w : World} {g : Nat} {cs : List Value} (h : Row t w g cs) (i : Nat) : w.frozen? ⟨g, i, none⟩ = false := by
  unfold Row at h; simp [World.frozen?, h]
theorem Row.set {t : TypeId} {w : World} {g : Nat} {pre post : List Value} {x : Value} (h : Row t w g (pre ++ x :: post)) (v : Value) : Row t (w.setCell ⟨g, pre.length, none⟩ v) g (pre ++ v :: post) := by
  unfold Row at h ⊢
  simp [World.setCell, Array.getElem?_modify, h]
/-! ### intText -/
end Go.Proofs.Ytahljmddnfldlaa
namespace Go.Proofs.Ytahljmddnfldlaa
open Go.RowKit FloM ValM

/-- A value, by its fields. -/
structure V where
  k : Int
  n : Int
  s : ByteArray
/-! ### Compare -/
/-! ### Text -/
theorem keep {W w1 : World} (hb : Below W.heap.size W w1) : ∀ b o, b < W.heap.size → w1.cell? ⟨b, o, none⟩ = W.cell? ⟨b, o, none⟩ := fun b o h => hb.cell (p := ⟨b, o, none⟩) h
/-! ### How long a text is -/
end Go.Proofs.Ytahljmddnfldlaa
namespace Go.Proofs.Ytahljmddnfldlaa
open Go.RowKit FloM ValM

/-! ### readDigits -/
def digOk (b most : Nat) (l : List UInt8) : Bool := allDig b l && decide (numOf b l ≤ most)
def ReadsAs (b most : Nat) (l : List UInt8) (w : World) (e : Ending) (w' : World) : Prop :=
  ∃ n : Nat, e = .returned (.tuple #[.int .u64 n, .bool (digOk b most l)]) ∧ n ≤ most ∧ (digOk b most l = true → n = numOf b l) ∧ w = w'
theorem ReadsAs.bad {b most n : Nat} {l : List UInt8} {w : World} (h : digOk b most l = false) (hn : n ≤ most) : ReadsAs b most l w (.returned (.tuple #[.int .u64 n, .bool false])) w :=
  ⟨n, by rw [h], hn, fun h' => absurd (h.symm.trans h') Bool.false_ne_true, rfl⟩
theorem ReadsAs.good {b most n : Nat} {l : List UInt8} {w : World} (h : digOk b most l = true) (hn : n ≤ most) (he : n = numOf b l) : ReadsAs b most l w (.returned (.tuple #[.int .u64 n, .bool true])) w :=
  ⟨n, by rw [h], hn, fun _ => he, rfl⟩
end Go.Proofs.Ytahljmddnfldlaa
namespace Go.Proofs.Ytahljmddnfldlaa
open Go.RowKit FloM ValM

/-! ### A prefix of one byte -/
/-! ### readInt -/
def readIntL (l : List UInt8) : Option Int :=
  match l with
  | [] => none
  | c :: r =>
    if c = 45 then
      match r with
      | [] => none
      | d :: q => if d = 48 then none else if digOk 10 9223372036854775808 (d :: q) then some (-(numOf 10 (d :: q) : Int)) else none
    else if c = 48 ∧ r ≠ [] then none else if digOk 10 9223372036854775807 (c :: r) then some (numOf 10 (c :: r) : Int) else none
def TellsInt (o : Option Int) (w : World) (e : Ending) (w' : World) : Prop :=
  ∃ n : Int, e = .returned (.tuple #[.int .i64 n, .bool o.isSome]) ∧ (∀ m, o = some m → n = m) ∧ w = w'
theorem TellsInt.bad {w : World} {n : Int} {o : Option Int} (h : o = none) : TellsInt o w (.returned (.tuple #[.int .i64 n, .bool false])) w := by
  subst h; exact ⟨n, rfl, (fun _ h => by cases h), rfl⟩
theorem TellsInt.good {w : World} {n : Int} {o : Option Int} (h : o = some n) : TellsInt o w (.returned (.tuple #[.int .i64 n, .bool true])) w := by
  subst h; exact ⟨n, rfl, (fun _ h => by injection h), rfl⟩

/-! ### readFlo -/
def readFloL (l : List UInt8) : Option Int :=
  match l with
  | [] => none
  | c :: r => if c = 35 ∧ r.length = 16 then (if digOk 16 18446744073709551615 r && right (wrap64 (numOf 16 r)) then some (wrap64 (numOf 16 r)) else none) else none
end Go.Proofs.Ytahljmddnfldlaa
namespace Go.Proofs.Ytahljmddnfldlaa
open Go.RowKit FloM ValM

def readV (t : ByteArray) : Option V :=
  if name t then some ⟨3, 0, t⟩ else match readIntL (ls t) with
    | some n => some ⟨1, n, ByteArray.empty⟩
    | none => match readFloL (ls t) with
      | some n => some ⟨2, n, ByteArray.empty⟩
      | none => none
/-! ### awake -/
end Go.Proofs.Ytahljmddnfldlaa
namespace Go.Proofs.Ytahljmddnfldlaa
open Go.RowKit FloM ValM

end Go.Proofs.Ytahljmddnfldlaa
namespace Go.Proofs.Ytahljmddnfldlaa
open Go.RowKit FloM ValM

end Go.Proofs.Ytahljmddnfldlaa
namespace Go.Proofs.Ytahljmddnfldlaa
open Go.RowKit FloM ValM
set_option linter.unusedVariables false
set_option linter.unusedSimpArgs false

/-! ### Characters, spans -/
def lowC (c : UInt8) : Bool := decide (97 ≤ c.toNat ∧ c.toNat ≤ 122)
def uppC (c : UInt8) : Bool := decide (65 ≤ c.toNat ∧ c.toNat ≤ 90)
def digC (c : UInt8) : Bool := decide (48 ≤ c.toNat ∧ c.toNat ≤ 57)
def wordC (c : UInt8) : Bool := lowC c || digC c || decide (c.toNat = 95)
def nameC (c : UInt8) : Bool := lowC c || uppC c || digC c || decide (c.toNat = 95)
def marks : List Nat := [40, 41, 44, 46, 60, 61, 47, 124, 42, 43, 63, 94]
def markC (c : UInt8) : Bool := decide (c.toNat ∈ marks)
def spanL (p : UInt8 → Bool) (l : List UInt8) : Nat := (l.takeWhile p).length
section
variable {p : UInt8 → Bool} {c : UInt8} {l r a b : List UInt8}
end
/-! ### A token -/
def varL (l : List UInt8) : Bool := decide (0 < spanL uppC l) && decide (spanL nameC l = l.length) && decide (l.length ≤ 40)
def two : List UInt8 → Bool
  | a :: b :: _ => decide ((a.toNat = 60 ∧ b.toNat = 61) ∨ (a.toNat = 33 ∧ b.toNat = 61) ∨ (a.toNat = 58 ∧ b.toNat = 45) ∨ (a.toNat = 63 ∧ b.toNat = 45))
  | _ => false
def markL (l : List UInt8) : Nat := if two l then 2 else min 1 (spanL markC l)
def signL : List UInt8 → Nat
  | c :: _ => if c.toNat = 45 then 1 else 0
  | [] => 0
/-- The kind and the size of the token with which a text begins. -/
def measL (l : List UInt8) : Nat × Nat :=
  if 0 < spanL lowC l then (1, spanL wordC l)
  else if 0 < spanL uppC l then (2, spanL nameC l)
  else match l with
    | c :: r => if c.toNat = 35 then (3, 1 + spanL nameC r)
      else if 0 < spanL digC (l.drop (signL l)) then (3, signL l + spanL nameC (l.drop (signL l)))
      else (4, markL l)
    | [] => (4, 0)
def okL (k : Nat) (l : List UInt8) : Bool := if k = 1 then nameL l else if k = 2 then varL l else if k = 3 then (readV (bs l)).isSome else decide (l ≠ [])
/-- The token with which a text begins; none: there is none, or a wrong one. -/
def firstL (l : List UInt8) : Option (Nat × Nat) := if okL (measL l).1 (l.take (measL l).2) then some (measL l) else none
/-! ### All tokens -/
end Go.Proofs.Ytahljmddnfldlaa
namespace Go.Proofs.Ytahljmddnfldlaa
open Go.RowKit FloM ValM
set_option linter.unusedVariables false
set_option linter.unusedSimpArgs false

/-! ### A text that ends, or goes on with a separator -/
/-! ### The token alone -/
end Go.Proofs.Ytahljmddnfldlaa
namespace Go.Proofs.Ytahljmddnfldlaa
open Go.RowKit FloM ValM
set_option linter.unusedVariables false
set_option linter.unusedSimpArgs false

/-! ### Tokens with a space between them -/
end Go.Proofs.Ytahljmddnfldlaa
namespace Go.Proofs.Ytahljmddnfldlaa
open Go.RowKit FloM ValM
set_option linter.unusedVariables false
set_option linter.unusedSimpArgs false

section
variable {c : UInt8} {r : List UInt8}
end
/-- The keywords. -/
def keysB : List (List UInt8) := [[110, 111, 116], [105, 115], [112, 108, 117, 115], [109, 105, 110, 117, 115], [116, 105, 109, 101, 115], [119, 97, 108, 107], [99, 111, 117, 110, 116], [115, 117, 109], [109, 105, 110], [109, 97, 120], [109, 101, 97, 110]]
def keyL (l : List UInt8) : Bool := keysB.contains l
end Go.Proofs.Ytahljmddnfldlaa
namespace Go.Proofs.Ytahljmddnfldlaa
open FloM ValM
set_option linter.unusedVariables false
set_option linter.unusedSimpArgs false

/-! ### Paths -/
structure St where
  k : Nat
  l : List UInt8
  deriving DecidableEq
def starK (l : List UInt8) : Option Nat := if l = [42] then some 5 else if l = [43] then some 6 else if l = [63] then some 7 else none
/-- How many rounds a loop over tokens is given. -/
def many : Nat := 20010
/-! ### Terms, atoms -/
def v0 : V := ⟨0, 0, ByteArray.empty⟩
structure Tm where
  v : List UInt8
  x : V
structure Am where
  p : List UInt8
  a : List Tm
/-! ### Literals, rules -/
structure Lt where
  k : Nat
  m : Am
  o : List UInt8
  a : Tm
  b : Tm
  c : Tm
  p : List St
structure Rl where
  h : Am
  f : Nat
  b : List Lt
structure Pg where
  r : List Rl
  q : Am
end Go.Proofs.Ytahljmddnfldlaa
namespace Go.Proofs.Ytahljmddnfldlaa
open Go.RowKit FloM ValM
set_option linter.unusedVariables false
set_option linter.unusedSimpArgs false

theorem first_iff {l : List UInt8} {k n : Nat} (h : firstL l = some (k, n)) : measL l = (k, n) ∧ okL k (l.take n) = true := by
  unfold firstL at h
  split at h
  · rename_i ho; injection h with h; rw [h] at ho; exact ⟨h, ho⟩
  · cases h
end Go.Proofs.Ytahljmddnfldlaa
namespace Go.Proofs.Ytahljmddnfldlaa
open FloM ValM
set_option linter.unusedVariables false
set_option linter.unusedSimpArgs false
/-! ### Tokens of a text -/
/-! ### How many ( are open -/
/-! ### Steps as they must stand -/
def stF (n : Nat) (s : St) : Option Nat :=
  if (decide (s.l = []) != decide (2 < s.k)) = true then none
  else if s.k = 1 ∨ s.k = 2 then some (n + 1) else if s.k = 3 ∨ s.k = 4 then (if n < 2 then none else some (n - 1)) else if n < 1 then none else some n
def okF : Nat → List St → Option Nat
  | n, [] => some n
  | n, s :: r => (stF n s).bind fun m => okF m r
theorem ok_app (n : Nat) (a b : List St) : okF n (a ++ b) = (okF n a).bind fun m => okF m b := by
  induction a generalizing n with
  | nil => rfl
  | cons s a ih =>
    simp only [List.cons_append, okF]
    cases stF n s with
    | none => rfl
    | some m => exact ih m
/-! ### A name in parentheses -/
end Go.Proofs.Ytahljmddnfldlaa
namespace Go.Proofs.Ytahljmddnfldlaa
open FloM ValM
set_option linter.unusedVariables false
set_option linter.unusedSimpArgs false
def predL (l : List UInt8) : Bool := nameL l && !keyL l
end Go.Proofs.Ytahljmddnfldlaa
namespace Go.Proofs.Ytahljmddnfldlaa
open Go.RowKit FloM ValM Go.Shelf
set_option linter.unusedVariables false
set_option linter.unusedSimpArgs false

/-- A text's bytes are those of a kind. -/
structure SetOf (cut : ByteArray) (p : UInt8 → Bool) : Prop where
  has : ∀ c, (cut.data.toList.contains c) = p c
  few : cut.size < 4294967281
  low : ∀ (j : Nat) b, cut.data.toList[j]? = some b → b.toNat < 128
/-! ### markSize -/
/-! ### strings.TrimPrefix -/
/-! ### measure -/
end Go.Proofs.Ytahljmddnfldlaa
namespace Go.Proofs.Ytahljmddnfldlaa
open Go.RowKit FloM ValM
set_option linter.unusedVariables false
section
variable {w w' : World} {base : Nat} {e : TypeId} {size : Nat} {v : Value} {n : Nat} {xs : List Value}
theorem own_on (h : w.ownsRow base e size v n xs) (hb : Below w.heap.size w w') : w'.ownsRow base e size v n xs := by
  refine ⟨h.1, ?_⟩
  rcases h.2 with h0 | ⟨g, cap, cur, hv, hbg, hg, r⟩
  · exact .inl h0
  · have hlt : g < w.heap.size := by
      rcases Nat.lt_or_ge g w.heap.size with hlt | hge
      · exact hlt
      · rw [Array.getElem?_eq_none hge] at hg; cases hg
    exact .inr ⟨g, cap, cur, hv, hbg, (hb.block g hlt).trans hg, r⟩
theorem own_base (h : w.ownsRow base e size v n xs) : ∀ k, v.ownBlock = some k → base ≤ k := by
  intro k hk
  rcases h.2 with ⟨rfl, _⟩ | ⟨g, cap, cur, rfl, hbg, _⟩
  · simp [Value.ownBlock] at hk
  · have : g = k := by simpa [Value.ownBlock] using hk
    omega
theorem own_form (h : w.ownsRow base e size v n xs) : ∃ A c, v = .slice A n c := by
  rcases h.2 with ⟨rfl, rfl⟩ | ⟨g, cap, cur, rfl, _⟩
  · exact ⟨_, _, rfl⟩
  · exact ⟨_, _, rfl⟩
end
end Go.Proofs.Ytahljmddnfldlaa
namespace Go.Proofs.Ytahljmddnfldlaa
open Go.RowKit FloM ValM
set_option linter.unusedVariables false
set_option linter.unusedSimpArgs false

section
variable {w w' : World} {A : Option Addr}
end
end Go.Proofs.Ytahljmddnfldlaa
namespace Go.Proofs.Ytahljmddnfldlaa
open Go.RowKit FloM ValM

/-! ### Name -/
end Go.Proofs.Ytahljmddnfldlaa
namespace Go.Proofs.Ytahljmddnfldlaa
open Go.RowKit FloM ValM

/-! ### Right and Compare -/
end Go.Proofs.Ytahljmddnfldlaa
namespace Go.Proofs.Ytahljmddnfldlaa
open Go.RowKit FloM ValM

theorem Row.lt {t : TypeId} {w : World} {g : Nat} {cs : List Value} (h : Row t w g cs) : g < w.heap.size := by
  rcases Nat.lt_or_ge g w.heap.size with h' | h'
  · exact h'
  · unfold Row at h; rw [Array.getElem?_eq_none h'] at h; cases h
theorem row_new {t : TypeId} (w : World) (cs : List Value) : Row t (w.alloc (.cells cs.toArray t)) w.heap.size cs := heap_alloc_new w _
theorem Row.alloc {t : TypeId} {w : World} {g : Nat} {cs : List Value} (h : Row t w g cs) (o : Obj) : Row t (w.alloc o) g cs := (Below.heap_alloc w o g h.lt).trans h
theorem Row.far {t : TypeId} {w : World} {g : Nat} {cs : List Value} (h : Row t w g cs) {p : Addr} (hp : g ≠ p.block) (v : Value) : Row t (w.setCell p v) g cs := (Below.heap_setCell w p v g hp).trans h
theorem rowOn {t : TypeId} {u w' : World} {g : Nat} {cs : List Value} (h : Row t u g cs) (h' : Below u.heap.size u w') : Row t w' g cs := (h'.block g h.lt).trans h

/-- Three values in three blocks from w's end on, in a world that has left w as it was. -/
structure Held3 (w u : World) (a b c : V) : Prop where
  bel : Below w.heap.size w u
  lt : w.heap.size + 2 < u.heap.size
  a0 : u.cell? ⟨w.heap.size, 0, none⟩ = some (.int .i64 a.k)
  a1 : u.cell? ⟨w.heap.size, 1, none⟩ = some (.int .i64 a.n)
  a2 : u.cell? ⟨w.heap.size, 2, none⟩ = some (.string a.s)
  b0 : u.cell? ⟨w.heap.size + 1, 0, none⟩ = some (.int .i64 b.k)
  b1 : u.cell? ⟨w.heap.size + 1, 1, none⟩ = some (.int .i64 b.n)
  b2 : u.cell? ⟨w.heap.size + 1, 2, none⟩ = some (.string b.s)
  c0 : u.cell? ⟨w.heap.size + 2, 0, none⟩ = some (.int .i64 c.k)
  c1 : u.cell? ⟨w.heap.size + 2, 1, none⟩ = some (.int .i64 c.n)
  c2 : u.cell? ⟨w.heap.size + 2, 2, none⟩ = some (.string c.s)
theorem Held3.on {w u u' : World} {a b c : V} (h : Held3 w u a b c) (h' : Below u.heap.size u u') : Held3 w u' a b c :=
  have k := keep h'
  have l := h.lt
  ⟨Go.Proofs.Ytahljmddnfldlaa.on h.bel h', Nat.lt_of_lt_of_le h.lt h'.size, (k _ _ (by omega)).trans h.a0, (k _ _ (by omega)).trans h.a1, (k _ _ (by omega)).trans h.a2, (k _ _ (by omega)).trans h.b0, (k _ _ (by omega)).trans h.b1, (k _ _ (by omega)).trans h.b2, (k _ _ (by omega)).trans h.c0, (k _ _ (by omega)).trans h.c1, (k _ _ (by omega)).trans h.c2⟩
end Go.Proofs.Ytahljmddnfldlaa
namespace Go.Proofs.Ytahljmddnfldlaa
open Go.RowKit FloM ValM Go.Shelf
set_option linter.unusedVariables false
set_option linter.unusedSimpArgs false

/-! ### valid -/
/-! ### first -/
end Go.Proofs.Ytahljmddnfldlaa
namespace Go.Proofs.Ytahljmddnfldlaa
open Go.RowKit FloM ValM Go.Shelf
set_option linter.unusedVariables false
set_option linter.unusedSimpArgs false

/-! ### Key -/
end Go.Proofs.Ytahljmddnfldlaa
namespace Go.Proofs.Ytahljmddnfldlaa
open Go.RowKit FloM ValM Go.Shelf
set_option linter.unusedVariables false
set_option linter.unusedSimpArgs false
/-- A step with whatever number as its kind. -/
def normS (k : Int) (l : List UInt8) : St := ⟨if 1 ≤ k ∧ k ≤ 7 then k.toNat else 0, l⟩
end Go.Proofs.Ytahljmddnfldlaa
namespace Go.Proofs.Ytahljmddnfldlaa
open Go.RowKit FloM ValM Go.Shelf
set_option linter.unusedVariables false
set_option linter.unusedSimpArgs false

/-! ### What Tokens defers -/
end Go.Proofs.Ytahljmddnfldlaa
namespace Go.Proofs.Ytahljmddnfldlaa
open Go.RowKit FloM ValM Go.Shelf
set_option linter.unusedVariables false
set_option linter.unusedSimpArgs false
/-! ### Tokens -/
end Go.Proofs.Ytahljmddnfldlaa
namespace Go.Proofs.Ytahljmddnfldlaa
open Go.RowKit FloM ValM Go.Shelf
set_option linter.unusedVariables false
set_option linter.unusedSimpArgs false

/-! ### Key, Variable at the texts of awake -/
end Go.Proofs.Ytahljmddnfldlaa
namespace Go.Proofs.Ytahljmddnfldlaa
open FloM ValM
set_option linter.unusedVariables false
set_option linter.unusedSimpArgs false
end Go.Proofs.Ytahljmddnfldlaa
namespace Go.Proofs.Ytahljmddnfldlaa
open Go.RowKit FloM ValM Go.Shelf
set_option linter.unusedVariables false
set_option linter.unusedSimpArgs false
theorem bsl (l : List UInt8) : (bs l).toList = l := by rw [toList_ls]; exact ls_bs l
end Go.Proofs.Ytahljmddnfldlaa
namespace Go.Proofs.Ytahljmddnfldlaa
open Go.RowKit FloM ValM Go.Shelf
set_option linter.unusedVariables false
set_option linter.unusedSimpArgs false
/-! ### Worlds that differ in the blocks of X alone, below B -/
structure Fr (X : Nat → Prop) (B : Nat) (w w' : World) : Prop where
  os : w'.os = w.os
  tape : w'.tape = w.tape
  output : w'.output = w.output
  size : w.heap.size ≤ w'.heap.size
  block : ∀ k, k < B → ¬ X k → w'.heap[k]? = w.heap[k]?
section
variable {X Y : Nat → Prop} {B : Nat} {w w' w'' : World}
theorem Fr.of (h : Below B w w') : Fr X B w w' := ⟨h.os, h.tape, h.output, h.size, fun k hk _ => h.block k hk⟩
theorem Fr.refl (X : Nat → Prop) (B : Nat) (w : World) : Fr X B w w := Fr.of (Below.refl _ _)
theorem Fr.trans (h : Fr X B w w') (k : Fr X B w' w'') : Fr X B w w'' := ⟨k.os.trans h.os, k.tape.trans h.tape, k.output.trans h.output, Nat.le_trans h.size k.size, fun i hi hx => (k.block i hi hx).trans (h.block i hi hx)⟩
theorem Fr.mono {B' : Nat} (h : Fr X B w w') (hB : B' ≤ B) : Fr X B' w w' := ⟨h.os, h.tape, h.output, h.size, fun k hk hx => h.block k (Nat.lt_of_lt_of_le hk hB) hx⟩
theorem Fr.below (h : Fr X B w w') {B' : Nat} (hB : B' ≤ B) (hX : ∀ k, k < B' → ¬ X k) : Below B' w w' := ⟨h.os, h.tape, h.output, h.size, fun k hk => h.block k (Nat.lt_of_lt_of_le hk hB) (hX k hk)⟩
theorem Fr.cell (h : Fr X B w w') {b o : Nat} (hb : b < B) (hx : ¬ X b) : w'.cell? ⟨b, o, none⟩ = w.cell? ⟨b, o, none⟩ := World.cell?_of_block (h.block b hb hx)
end
theorem fr_set (w : World) (D o : Nat) (v : Value) (B : Nat) : Fr (· = D) B w (w.setCell ⟨D, o, none⟩ v) :=
  ⟨rfl, rfl, rfl, by simp [World.setCell], fun b _ hb => Below.heap_setCell _ _ _ _ (by simpa using hb)⟩
/-! ### The reader -/
section
variable {W W' : World} {rb tb z o : Nat}
end
end Go.Proofs.Ytahljmddnfldlaa
namespace Go.Proofs.Ytahljmddnfldlaa
open Go.RowKit FloM ValM Go.Shelf
set_option linter.unusedVariables false
set_option linter.unusedSimpArgs false
section
variable {P : Program} {T : TypeId} {g : Nat}
theorem row_sets : ∀ (vs old pre post : List Value) (w : World), old.length = vs.length → Row T w g (pre ++ old ++ post) → Row T (w.setCells g pre.length vs) g (pre ++ vs ++ post)
  | [], old, pre, post, w, hl, h => by
    obtain rfl : old = [] := List.eq_nil_of_length_eq_zero hl
    exact h
  | v :: vs, [], pre, post, w, hl, h => by simp at hl
  | v :: vs, u :: old, pre, post, w, hl, h => by
    have h1 : Row T w g (pre ++ u :: (old ++ post)) := by simpa using h
    have h2 := Row.set h1 v
    have h3 := row_sets vs old (pre ++ [v]) post (w.setCell ⟨g, pre.length, none⟩ v) (by simpa using hl) (by simpa using h2)
    rw [World.setCells]
    simpa using h3
theorem fr_sets (g : Nat) : ∀ (vs : List Value) (o : Nat) (w : World) (B : Nat), Fr (· = g) B w (w.setCells g o vs)
  | [], o, w, B => Fr.refl _ _ _
  | v :: vs, o, w, B => by
    rw [World.setCells]
    exact (fr_set w g o v B).trans (fr_sets g vs (o + 1) _ B)
theorem size_sets (g : Nat) : ∀ (vs : List Value) (o : Nat) (w : World), (w.setCells g o vs).heap.size = w.heap.size
  | [], o, w => rfl
  | v :: vs, o, w => by
    rw [World.setCells, size_sets g vs (o + 1)]
    simp [World.setCell]
theorem run_storeVar_any (w : World) (b o : Nat) (ty : TypeId) (v : Value) (ht : w.there b o v.cells.size) (hi : (P.info? ty).map (·.size) = some v.cells.size) (h1 : v.cells.all (·.oneCell') = true) :
    (storeVar ty ⟨b, o, none⟩ v).run P w = .ok () (w.setCells b o v.cells.toList) := by
  have := run_storeCells_cells (P := P) b o v.cells.toList 0 w (fun j hj => by simpa using (ht j (by simpa using hj)).1) (fun j hj => by simpa using (ht j (by simpa using hj)).2)
    (fun v hv => (Array.all_eq_true_iff_forall_mem.1 h1) v (by simpa using hv))
  cases hq : P.info? ty with
  | none => simp [hq] at hi
  | some i =>
    have hs : v.cells.size = i.size := by simp [hq] at hi; omega
    simp only [Nat.add_zero] at this
    simp [storeVar, sizeOf, typeInfo, hq, hs, this]
/-- A struct is read out of the middle of a block. -/
theorem wpList_loadR {ops : Array Oper} {rest : List Oper} {op : Oper} {a : Act} {w : World} {Q : Exit → Act → World → Prop} (hgd : op.guard = none) (ty : TypeId) (x : Operand) (ho : op.op = .load ty x)
    (g o : Nat) (hx : a.eval x = .pointer (some ⟨g, o, none⟩)) {T : TypeId} {pre mid post : List Value} (hg : Row T w g (pre ++ mid ++ post)) (hpo : pre.length = o) {d : TypeDesc}
    (hu : P.underlying ty = some d) (hd : d.isRow = true) (hi : (P.info? ty).map (·.size) = some mid.length)
    (h : wpList P ops Q rest (a.put op.dst (.agg mid.toArray)) w) : wpList P ops Q (op :: rest) a w :=
  wpList_load_mid hgd ty x ho g o hx mid d (fun j v hv => by
    have hj := (List.getElem?_eq_some_iff.1 hv).1
    rw [hg.cell, ← hpo, List.append_assoc, List.getElem?_append_right (by omega), List.getElem?_append_left (by omega), Nat.add_sub_cancel_left]
    exact hv) hu hd hi h
/-- A value is written into the middle of a block. -/
theorem wpList_storeR {ops : Array Oper} {rest : List Oper} {op : Oper} {a : Act} {w : World} {Q : Exit → Act → World → Prop} (hgd : op.guard = none) (ty : TypeId) (x y : Operand) (ho : op.op = .store ty x y)
    (g o : Nat) (hx : a.eval x = .pointer (some ⟨g, o, none⟩)) (v : Value) (hy : a.eval y = v) (vs : List Value) (hv : v.cells.toList = vs) {T : TypeId} {pre old post : List Value} (hg : Row T w g (pre ++ old ++ post)) (hpo : pre.length = o) (hl : old.length = vs.length)
    (hi : (P.info? ty).map (·.size) = some vs.length) (h1 : vs.all (·.oneCell') = true)
    (h : ∀ w', Row T w' g (pre ++ vs ++ post) → (∀ B, Fr (· = g) B w w') → w'.heap.size = w.heap.size → wpList P ops Q rest (a.put op.dst undef) w') : wpList P ops Q (op :: rest) a w := by
  have hvs : v.cells.size = vs.length := by rw [← hv]; simp
  have hth : w.there g o v.cells.size := fun j hj => by
    rw [hg.cell, ← hpo]
    refine ⟨?_, hg.frozen _⟩
    rw [List.append_assoc, List.getElem?_append_right (by omega), List.getElem?_append_left (by omega), Nat.add_sub_cancel_left, List.getElem?_eq_getElem (by omega)]
    rfl
  refine wpList_plain hgd fun K hK => ?_
  unfold Oper.wp execOp
  simp only [ho, hx, hy, Instr.storeAt, Instr.sureAddr, Sem.run_bind, Sem.run_pure, Result.andThen_ok, run_storeVar_any w g o ty v hth (by rw [hvs]; exact hi) (by rw [← hv] at h1; simpa using h1)]
  refine hK _ _ (h _ ?_ (fun B => fr_sets g _ _ _ _) (size_sets g _ _ _))
  rw [hv, ← hpo]
  exact row_sets vs old pre post w hl hg
end
/-- A row stays while other blocks are written. -/
theorem Row.fr {T : TypeId} {W W' : World} {g B : Nat} {cs : List Value} {X : Nat → Prop} (h : Row T W g cs) (hF : Fr X B W W') (hg : g < B) (hx : ¬ X g) : Row T W' g cs := (hF.block g hg hx).trans h
end Go.Proofs.Ytahljmddnfldlaa
namespace Go.Proofs.Ytahljmddnfldlaa
open Go.RowKit FloM ValM Go.Shelf
set_option linter.unusedVariables false
set_option linter.unusedSimpArgs false
section
variable {W W' : World} {rb tb z o : Nat}
end
end Go.Proofs.Ytahljmddnfldlaa
namespace Go.Proofs.Ytahljmddnfldlaa
open Go.RowKit FloM ValM Go.Shelf
set_option linter.unusedVariables false
set_option linter.unusedSimpArgs false
/-! ### Rows of steps -/
def scells (l : List St) : List Value := l.flatMap fun s => [.int .i64 (s.k : Int), .string (bs s.l)]
/-- A row of steps of the call's own. -/
def OwnS (W : World) (base : Nat) (A : Option Addr) (c : Nat) (l : List St) : Prop := W.ownsRow base 92 2 (.slice A l.length c) l.length (scells l)
theorem own_in {w : World} {base size n c : Nat} {e : TypeId} {A : Option Addr} {xs : List Value} (h : w.ownsRow base e size (.slice A n c) n xs) : ∀ ad, A = some ad → base ≤ ad.block ∧ ad.block < w.heap.size := fun ad ha => by
  rcases h.2 with ⟨h0, _⟩ | ⟨g, cap, cur, hv, hbg, hg, r⟩
  · injection h0 with e1 _ _; rw [ha] at e1; cases e1
  · injection hv with e1 _ _
    rw [ha] at e1; injection e1 with e1; subst e1
    exact ⟨hbg, (Array.getElem?_eq_some_iff.1 hg).1⟩
theorem own_fr {w w' : World} {base size n c : Nat} {e : TypeId} {A : Option Addr} {xs : List Value} (h : w.ownsRow base e size (.slice A n c) n xs) (hb : ∀ ad, A = some ad → w'.heap[ad.block]? = w.heap[ad.block]?) : w'.ownsRow base e size (.slice A n c) n xs := by
  refine ⟨h.1, ?_⟩
  rcases h.2 with h0 | ⟨g, cap, cur, hv, hbg, hg, r⟩
  · exact .inl h0
  · injection hv with e1 _ _
    exact .inr ⟨g, cap, cur, by rw [e1]; simp_all, hbg, (hb _ e1).trans hg, r⟩
section
variable {X : Nat → Prop} {W W1 W2 : World} {rb tb z o : Nat} {q : Option Nat}
theorem fr_of_grown (hg : W1.grownBy W2 q) : Fr (fun k => q = some k) W1.heap.size W1 W2 := ⟨hg.os, hg.tape, hg.output, hg.size, fun k hk hne => hg.block k hk fun e => hne e.symm⟩
end
section
variable {W W' : World} {rb tb z o : Nat}
/-! ### operand -/
/-! ### enclosed -/
theorem OwnS.on {b c : Nat} {A : Option Addr} {l : List St} (h : OwnS W b A c l) (hb : Below W.heap.size W W') : OwnS W' b A c l := own_on h hb
end
end Go.Proofs.Ytahljmddnfldlaa
namespace Go.Proofs.Ytahljmddnfldlaa
open Go.RowKit FloM ValM Go.Shelf
set_option linter.unusedVariables false
set_option linter.unusedSimpArgs false
def Tm.cells (t : Tm) : List Value := [.string (bs t.v), .int .i64 t.x.k, .int .i64 t.x.n, .string t.x.s]
section
variable {W W' : World} {rb tb z o : Nat}
end
end Go.Proofs.Ytahljmddnfldlaa
namespace Go.Proofs.Ytahljmddnfldlaa
open Go.RowKit FloM ValM Go.Shelf
set_option linter.unusedVariables false
set_option linter.unusedSimpArgs false
section
variable {W W' : World} {rb tb z o : Nat}
end
end Go.Proofs.Ytahljmddnfldlaa
namespace Go.Proofs.Ytahljmddnfldlaa
open Go.RowKit FloM ValM Go.Shelf
set_option linter.unusedVariables false
set_option linter.unusedSimpArgs false
section
variable {W W' : World} {rb tb z o : Nat}
end
end Go.Proofs.Ytahljmddnfldlaa
namespace Go.Proofs.Ytahljmddnfldlaa
open Go.RowKit FloM ValM Go.Shelf
set_option linter.unusedVariables false
set_option linter.unusedSimpArgs false
/-! ### A call's own structs beside the reader -/
abbrev Lrow := Nat × TypeId × List Value
section
variable {W w w' : World} {rb tb z o : Nat} {rows pre post : List Lrow} {g : Nat} {T : TypeId} {cs cs' : List Value}
end
section
variable {W W' : World} {rb tb z o : Nat}
end
end Go.Proofs.Ytahljmddnfldlaa
namespace Go.Proofs.Ytahljmddnfldlaa
open Go.RowKit FloM ValM Go.Shelf
set_option linter.unusedVariables false
set_option linter.unusedSimpArgs false
section
variable {α β : Type} {most z n : Nat} {acc : List α} {x : α}
end
def cellsOf {β : Type} (cl : β → List Value) (l : List β) : List Value := l.flatMap cl
theorem cellsOf_app {β : Type} (cl : β → List Value) (a b : List β) : cellsOf cl (a ++ b) = cellsOf cl a ++ cellsOf cl b := by simp [cellsOf]
theorem cellsOf_len {β : Type} {cl : β → List Value} {k : Nat} (h : ∀ b, (cl b).length = k) (l : List β) : (cellsOf cl l).length = l.length * k := by
  induction l with
  | nil => simp [cellsOf]
  | cons v l ih => simp only [cellsOf, List.flatMap_cons, List.length_append, List.length_cons] at ih ⊢; rw [ih, h, Nat.succ_mul, Nat.add_comm]
/-- A row of elements of the call's own. -/
def OwnX (E : TypeId) (sz : Nat) {β : Type} (cl : β → List Value) (W : World) (base : Nat) (A : Option Addr) (c : Nat) (l : List β) : Prop := W.ownsRow base E sz (.slice A l.length c) l.length (cellsOf cl l)
theorem OwnX.one {E : TypeId} {sz : Nat} {β : Type} {cl : β → List Value} {base : Nat} (w : World) (b : β) (hb : base ≤ w.heap.size) (hl : (cl b).length = sz) : OwnX E sz cl (w.alloc (.cells (cl b).toArray E)) base (some ⟨w.heap.size, 0, none⟩) 1 [b] := by
  refine ⟨by simp [cellsOf, hl], .inr ⟨w.heap.size, 1, (cl b).toArray, rfl, hb, heap_alloc_new _ _, Nat.le_refl _, by unfold maxLen; omega, by simp [hl], ?_⟩⟩
  simp [cellsOf, ← hl]
theorem OwnX.app {E : TypeId} {sz : Nat} {β : Type} {cl : β → List Value} {w : World} {base c2 : Nat} {A2 : Option Addr} {l : List β} {b : β} (h : w.ownsRow base E sz (.slice A2 (l.length + 1) c2) (l.length + 1) (cellsOf cl l ++ cl b)) : OwnX E sz cl w base A2 c2 (l ++ [b]) := by
  unfold OwnX
  rw [cellsOf_app, List.length_append]
  simpa [cellsOf] using h
theorem Fr.toX {X : Nat → Prop} {rb B : Nat} {w w' : World} (h : Fr (· = rb) B w w') (hx : X rb) : Fr X B w w' := ⟨h.os, h.tape, h.output, h.size, fun k hk hn => h.block k hk fun e => hn (e ▸ hx)⟩
theorem own_frx {w w' : World} {base size n c : Nat} {e : TypeId} {A : Option Addr} {xs : List Value} {X : Nat → Prop} (h : w.ownsRow base e size (.slice A n c) n xs) (hX : ∀ k, X k → k < base) (hF : Fr X w.heap.size w w') : w'.ownsRow base e size (.slice A n c) n xs :=
  own_fr h fun ad ha => by
    have := own_in h ad ha
    exact hF.block _ this.2 fun hx => by have := hX _ hx; omega
theorem own_typ {w : World} {base size n : Nat} {e : TypeId} {v : Value} {xs : List Value} (h : w.ownsRow base e size v n xs) : ∀ k, v.ownBlock = some k → base ≤ k ∧ ∃ cs z, w.heap[k]? = some (.cells cs e z) := fun k hk => by
  rcases h.2 with ⟨h0, _⟩ | ⟨g, cap, cur, hv, hbg, hg, r⟩
  · rw [h0] at hk; simp [Value.ownBlock] at hk
  · rw [hv] at hk; simp [Value.ownBlock] at hk; subst hk; exact ⟨hbg, _, _, hg⟩
section
variable {W W' : World} {rb tb z o xb : Nat}
end
end Go.Proofs.Ytahljmddnfldlaa
namespace Go.Proofs.Ytahljmddnfldlaa
open Go.RowKit FloM ValM Go.Shelf
set_option linter.unusedVariables false
set_option linter.unusedSimpArgs false
/-! ### A call's own structs beside the reader, where more than the reader is written -/
section
variable {X : Nat → Prop} {W w w' : World} {rb tb z o : Nat} {rows pre post : List Lrow} {g : Nat} {T : TypeId} {cs cs' : List Value}
end
section
variable {W W' : World} {rb tb z o xb : Nat}
end
end Go.Proofs.Ytahljmddnfldlaa
namespace Go.Proofs.Ytahljmddnfldlaa
open Go.RowKit FloM ValM Go.Shelf
set_option linter.unusedVariables false
set_option linter.unusedSimpArgs false
/-! ### What is left of the tokens -/
/-! ### Atoms -/
def tmC (b : Tm) : List Value := [.string (bs b.v), .int .i64 b.x.k, .int .i64 b.x.n, .string b.x.s]
structure AmA where
  p : List UInt8
  A : Option Addr
  c : Nat
  a : List Tm
def AmA.am (x : AmA) : Am := ⟨x.p, x.a⟩
def AmA.ok (W : World) (base : Nat) (x : AmA) : Prop := OwnX 40 4 tmC W base x.A x.c x.a
theorem AmA.ok.frx {W W' : World} {base : Nat} {x : AmA} {X : Nat → Prop} (h : x.ok W base) (hX : ∀ k, X k → k < base) (hF : Fr X W.heap.size W W') : x.ok W' base := own_frx h hX hF
section
variable {W W' : World} {rb tb z o xb : Nat}
/-! ### The arguments of a head -/
end
end Go.Proofs.Ytahljmddnfldlaa
namespace Go.Proofs.Ytahljmddnfldlaa
open Go.RowKit FloM ValM Go.Shelf
set_option linter.unusedVariables false
set_option linter.unusedSimpArgs false
structure LtA where
  k : Nat
  m : AmA
  o : List UInt8
  a : Tm
  b : Tm
  c : Tm
  pA : Option Addr
  pc : Nat
  p : List St
def LtA.lt (x : LtA) : Lt := ⟨x.k, x.m.am, x.o, x.a, x.b, x.c, x.p⟩
def litC (x : LtA) : List Value := [.int .i64 (x.k : Int), .string (bs x.m.p), .slice x.m.A x.m.a.length x.m.c, .string (bs x.o), .string (bs x.a.v), .int .i64 x.a.x.k, .int .i64 x.a.x.n, .string x.a.x.s, .string (bs x.b.v), .int .i64 x.b.x.k, .int .i64 x.b.x.n, .string x.b.x.s, .string (bs x.c.v), .int .i64 x.c.x.k, .int .i64 x.c.x.n, .string x.c.x.s, .slice x.pA x.p.length x.pc]
def LtA.ok (W : World) (base : Nat) (x : LtA) : Prop := x.m.ok W base ∧ OwnS W base x.pA x.pc x.p
section
variable {W W' : World} {rb tb z o : Nat}
end
end Go.Proofs.Ytahljmddnfldlaa
namespace Go.Proofs.Ytahljmddnfldlaa
open Go.RowKit FloM ValM Go.Shelf
set_option linter.unusedVariables false
set_option linter.unusedSimpArgs false
section
variable {W W' : World} {rb tb z o xb : Nat}
end
end Go.Proofs.Ytahljmddnfldlaa
namespace Go.Proofs.Ytahljmddnfldlaa
open Go.RowKit FloM ValM Go.Shelf
set_option linter.unusedVariables false
set_option linter.unusedSimpArgs false
/-! ### What a literal leaves -/
/-! ### Bodies -/
theorem LtA.ok.frxR {W W' : World} {base : Nat} {x : LtA} {X : Nat → Prop} (h : x.ok W base) (hX : ∀ k, X k → k < base) (hF : Fr X W.heap.size W W') : x.ok W' base := ⟨AmA.ok.frx h.1 hX hF, own_frx h.2 hX hF⟩
/-- A row of another type grew. -/
theorem own_other {w w' : World} {base size n c : Nat} {e E : TypeId} {A : Option Addr} {xs : List Value} {q : Option Nat} (h : w.ownsRow base e size (.slice A n c) n xs) (hg : w.grownBy w' q) (hq : ∀ k, q = some k → ∃ cs z, w.heap[k]? = some (.cells cs E z)) (hne : e ≠ E) : w'.ownsRow base e size (.slice A n c) n xs :=
  own_fr h fun ad ha => by
    have h1 := own_in h ad ha
    refine hg.block _ h1.2 fun e1 => ?_
    obtain ⟨cs, z, h2⟩ := hq ad.block e1.symm
    have h3 := (own_typ h ad.block (by subst ha; rfl)).2
    obtain ⟨cs', z', h3⟩ := h3
    rw [h2] at h3
    injection h3 with h3; injection h3 with _ h3
    exact hne h3.symm
def BodyOk (W : World) (base : Nat) (A : Option Addr) (c : Nat) (l : List LtA) : Prop := OwnX 43 17 litC W base A c l ∧ ∀ x ∈ l, x.ok W base
theorem BodyOk.frx {W W' : World} {base c : Nat} {A : Option Addr} {l : List LtA} {X : Nat → Prop} (h : BodyOk W base A c l) (hX : ∀ k, X k → k < base) (hF : Fr X W.heap.size W W') : BodyOk W' base A c l := ⟨own_frx h.1 hX hF, fun x hx => (h.2 x hx).frxR hX hF⟩
section
variable {W W' : World} {rb tb z o : Nat}
/-! ### Rules -/
structure RlA where
  h : AmA
  f : Nat
  A : Option Addr
  c : Nat
  b : List LtA
def RlA.rl (x : RlA) : Rl := ⟨x.h.am, x.f, x.b.map LtA.lt⟩
def rlC (x : RlA) : List Value := [.string (bs x.h.p), .slice x.h.A x.h.a.length x.h.c, .int .i64 (x.f : Int), .slice x.A x.b.length x.c]
def RlA.ok (W : World) (base : Nat) (x : RlA) : Prop := x.h.ok W base ∧ BodyOk W base x.A x.c x.b
end
end Go.Proofs.Ytahljmddnfldlaa
namespace Go.Proofs.Ytahljmddnfldlaa
open Go.RowKit FloM ValM Go.Shelf
set_option linter.unusedVariables false
set_option linter.unusedSimpArgs false
section
variable {W W' : World} {rb tb z o : Nat}
end
end Go.Proofs.Ytahljmddnfldlaa
namespace Go.Proofs.Ytahljmddnfldlaa
open Go.RowKit FloM ValM Go.Shelf
set_option linter.unusedVariables false
set_option linter.unusedSimpArgs false
end Go.Proofs.Ytahljmddnfldlaa
namespace Go.Proofs.Ytahljmddnfldlaa
open Go.RowKit FloM ValM Go.Shelf
set_option linter.unusedVariables false
set_option linter.unusedSimpArgs false
theorem own_less {w : World} {base b' size n : Nat} {e : TypeId} {v : Value} {xs : List Value} (h : w.ownsRow base e size v n xs) (hb : b' ≤ base) : w.ownsRow b' e size v n xs := by
  refine ⟨h.1, ?_⟩
  rcases h.2 with h0 | ⟨g, cap, cur, hv, hbg, r⟩
  · exact .inl h0
  · exact .inr ⟨g, cap, cur, hv, Nat.le_trans hb hbg, r⟩
end Go.Proofs.Ytahljmddnfldlaa
namespace Go.Proofs.Ytahljmddnfldlaa
open Go.RowKit FloM ValM Go.Shelf
set_option linter.unusedVariables false
set_option linter.unusedSimpArgs false
/-! ### The rules of a program, one by one -/
end Go.Proofs.Ytahljmddnfldlaa
namespace Go.Proofs.Ytahljmddnfldlaa
open Go.RowKit FloM ValM Go.Shelf
set_option linter.unusedVariables false
set_option linter.unusedSimpArgs false
section
variable {W W' : World} {rb tb z o : Nat}
end
end Go.Proofs.Ytahljmddnfldlaa
namespace Go.Proofs.Ytahljmddnfldlaa
open Go.RowKit FloM ValM Go.Shelf
set_option linter.unusedVariables false
set_option linter.unusedSimpArgs false
structure PgA where
  A : Option Addr
  c : Nat
  r : List RlA
  q : AmA
theorem RlA.ok.frx {W W' : World} {base : Nat} {x : RlA} {X : Nat → Prop} (h : x.ok W base) (hX : ∀ k, X k → k < base) (hF : Fr X W.heap.size W W') : x.ok W' base := ⟨AmA.ok.frx h.1 hX hF, BodyOk.frx h.2 hX hF⟩
def PgA.ok (W : World) (base : Nat) (x : PgA) : Prop := OwnX 55 4 rlC W base x.A x.c x.r ∧ (∀ y ∈ x.r, y.ok W base) ∧ x.q.ok W base
theorem PgA.ok.frx {W W' : World} {base : Nat} {x : PgA} {X : Nat → Prop} (h : x.ok W base) (hX : ∀ k, X k → k < base) (hF : Fr X W.heap.size W W') : x.ok W' base := ⟨own_frx h.1 hX hF, fun y hy => (h.2.1 y hy).frx hX hF, AmA.ok.frx h.2.2 hX hF⟩
end Go.Proofs.Ytahljmddnfldlaa
namespace Go.Proofs.Ytahljmddnfldlaa
open Go.RowKit FloM ValM Go.Shelf
set_option linter.unusedVariables false
set_option linter.unusedSimpArgs false
abbrev prRow (g : Nat) (A : Option Addr) (n c : Nat) : Lrow := (g, 47, [.slice A n c, .string ByteArray.empty, .slice none 0 0])
section
variable {W w w' : World} {rb tb z c : Nat} {l : List RlA} {A : Option Addr}
end
end Go.Proofs.Ytahljmddnfldlaa
namespace Go.Proofs.Ytahljmddnfldlaa
open Go.RowKit FloM ValM Go.Shelf
set_option linter.unusedVariables false
set_option linter.unusedSimpArgs false
section
variable {W W' : World} {rb tb z : Nat}
end
end Go.Proofs.Ytahljmddnfldlaa
namespace Go.Proofs.Ytahljmddnfldlaa
open Go.RowKit FloM ValM Go.Shelf
set_option linter.unusedVariables false
set_option linter.unusedSimpArgs false
end Go.Proofs.Ytahljmddnfldlaa
namespace Go.Proofs.Ytahljmddnfldlaa
open Go.RowKit FloM ValM Go.Shelf
set_option linter.unusedVariables false
set_option linter.unusedSimpArgs false
end Go.Proofs.Ytahljmddnfldlaa
namespace Go.Proofs.Ytahljmddnfldlaa
open Go.RowKit FloM ValM Go.Shelf
set_option linter.unusedVariables false
set_option linter.unusedSimpArgs false
theorem LtA.ok.frx {W W' : World} {base : Nat} {x : LtA} {X : Nat → Prop} (h : x.ok W base) (hX : ∀ k, X k → k < base) (hF : Fr X W.heap.size W W') : x.ok W' base := ⟨AmA.ok.frx h.1 hX hF, own_frx h.2 hX hF⟩
section
variable {W W' : World} {rb tb z o : Nat}
end
end Go.Proofs.Ytahljmddnfldlaa
namespace Go.Proofs.Ytahljmddnfldlaa
open Go.RowKit FloM ValM Go.Shelf
set_option linter.unusedVariables false
set_option linter.unusedSimpArgs false
section
variable {W W' : World} {rb tb z o : Nat}
end
end Go.Proofs.Ytahljmddnfldlaa
namespace Go.Proofs.Ytahljmddnfldlaa
open Go.RowKit FloM ValM Go.Shelf
set_option linter.unusedVariables false
set_option linter.unusedSimpArgs false
section
variable {W W' : World} {rb tb z o : Nat}
end
end Go.Proofs.Ytahljmddnfldlaa
namespace Go.Proofs.Ytahljmddnfldlaa
open Go.RowKit FloM ValM Go.Shelf
set_option linter.unusedVariables false
set_option linter.unusedSimpArgs false
section
variable {W W' : World} {rb tb z o : Nat}
end
end Go.Proofs.Ytahljmddnfldlaa
namespace Go.Proofs.Ytahljmddnfldlaa
open Go.RowKit FloM ValM Go.Shelf
set_option linter.unusedVariables false
set_option linter.unusedSimpArgs false
section
variable {W W' : World} {rb tb z o : Nat}
end
end Go.Proofs.Ytahljmddnfldlaa
namespace Go.Proofs.Ytahljmddnfldlaa
open Go.RowKit FloM ValM Go.Shelf
set_option linter.unusedVariables false
set_option linter.unusedSimpArgs false
end Go.Proofs.Ytahljmddnfldlaa
namespace Go.Proofs.Ytahljmddnfldlaa
open Go.RowKit FloM ValM Go.Shelf
set_option linter.unusedVariables false
set_option linter.unusedSimpArgs false
end Go.Proofs.Ytahljmddnfldlaa
namespace Go.Proofs.Ytahljmddnfldlaa
open Go.RowKit FloM ValM Go.Shelf
set_option linter.unusedVariables false
set_option linter.unusedSimpArgs false
end Go.Proofs.Ytahljmddnfldlaa
namespace Go.Proofs.Ytahljmddnfldlaa
open Go.RowKit FloM ValM Go.Shelf
set_option linter.unusedVariables false
set_option linter.unusedSimpArgs false
/-- What lies in a row of one's own. -/
theorem own_cells {W : World} {base size n c : Nat} {e : TypeId} {A : Option Addr} {xs : List Value} (h : W.ownsRow base e size (.slice A n c) n xs) (hn : 0 < n) :
    ∃ g, A = some ⟨g, 0, none⟩ ∧ base ≤ g ∧ g < W.heap.size ∧ ∀ j v, xs[j]? = some v → W.cell? ⟨g, j, none⟩ = some v := by
  rcases h.2 with ⟨_, h0⟩ | ⟨g, cap, cur, hv, hbg, hg, h1, h2, h3, h4⟩
  · omega
  · injection hv with hv _ _
    refine ⟨g, hv, hbg, (Array.getElem?_eq_some_iff.1 hg).1, fun j v hj => ?_⟩
    have hj2 := (List.getElem?_eq_some_iff.1 hj).1
    rw [← h4, List.getElem?_take_of_lt (by rw [h.1] at hj2; exact hj2)] at hj
    simp [World.cell?, hg]
    simpa using hj
end Go.Proofs.Ytahljmddnfldlaa
namespace Go.Proofs.Ytahljmddnfldlaa
open Go.RowKit FloM ValM Go.Shelf
set_option linter.unusedVariables false
set_option linter.unusedSimpArgs false
def RdX {β : Type} (sz : Nat) (cl : β → List Value) (W : World) (A : Option Addr) (l : List β) : Prop := l.length ≤ maxLen ∧ ∀ i x, l[i]? = some x → ∃ b o, A = some ⟨b, o, none⟩ ∧ b < W.heap.size ∧ ∀ j v, (cl x)[j]? = some v → W.cell? ⟨b, o + i * sz + j, none⟩ = some v
theorem RdX.on {β : Type} {sz : Nat} {cl : β → List Value} {W W' : World} {A : Option Addr} {l : List β} (h : RdX sz cl W A l) (hb : Below W.heap.size W W') : RdX sz cl W' A l := ⟨h.1, fun i x hx => by
  obtain ⟨b, o, e, hl, hc⟩ := h.2 i x hx
  exact ⟨b, o, e, Nat.lt_of_lt_of_le hl hb.size, fun j v hj => (keep hb _ _ hl).trans (hc j v hj)⟩⟩
theorem cells_get {β : Type} {cl : β → List Value} {sz : Nat} (hs : ∀ x, (cl x).length = sz) : ∀ (l : List β) (i : Nat) (x : β), l[i]? = some x → ∀ j v, (cl x)[j]? = some v → (cellsOf cl l)[i * sz + j]? = some v
  | [], i, x, h, j, v, hj => by simp at h
  | y :: l, 0, x, h, j, v, hj => by
    have hy : y = x := by simpa using h
    subst hy
    have hj2 := (List.getElem?_eq_some_iff.1 hj).1
    show (cl y ++ cellsOf cl l)[0 * sz + j]? = some v
    rw [List.getElem?_append_left (by omega), Nat.zero_mul, Nat.zero_add]; exact hj
  | y :: l, i + 1, x, h, j, v, hj => by
    have := cells_get hs l i x (by simpa using h) j v hj
    show (cl y ++ cellsOf cl l)[(i + 1) * sz + j]? = some v
    have h1 := hs y
    have e : (i + 1) * sz + j = (cl y).length + (i * sz + j) := by rw [h1, Nat.add_mul, Nat.one_mul]; omega
    rw [e, List.getElem?_append_right (by omega), Nat.add_sub_cancel_left]; exact this
theorem own_max {w : World} {base size n : Nat} {e : TypeId} {v : Value} {xs : List Value} (h : w.ownsRow base e size v n xs) : n ≤ maxLen := by
  rcases h.2 with ⟨_, h0⟩ | ⟨g, cap, cur, hv, hbg, hg, h1, h2, r⟩
  · omega
  · omega
theorem RdX.of_own {β : Type} {sz : Nat} {cl : β → List Value} {W : World} {base c : Nat} {E : TypeId} {A : Option Addr} {l : List β} (hs : ∀ x, (cl x).length = sz) (h : W.ownsRow base E sz (.slice A l.length c) l.length (cellsOf cl l)) : RdX sz cl W A l := ⟨own_max h, fun i x hx => by
  obtain ⟨g, e, _, hg, hc⟩ := own_cells h (by have := (List.getElem?_eq_some_iff.1 hx).1; omega)
  exact ⟨g, 0, e, hg, fun j v hj => by rw [Nat.zero_add]; exact hc _ _ (cells_get hs l i x hx j v hj)⟩⟩
def stC (s : St) : List Value := [.int .i64 (s.k : Int), .string (bs s.l)]
def AmA.rd (W : World) (x : AmA) : Prop := RdX 4 tmC W x.A x.a
def LtA.rd (W : World) (x : LtA) : Prop := x.m.rd W ∧ RdX 2 stC W x.pA x.p
def RlA.rd (W : World) (x : RlA) : Prop := x.h.rd W ∧ RdX 17 litC W x.A x.b ∧ ∀ y ∈ x.b, y.rd W
def PgA.rd (W : World) (x : PgA) : Prop := RdX 4 rlC W x.A x.r ∧ (∀ y ∈ x.r, y.rd W) ∧ x.q.rd W
section
variable {W W' : World} {base : Nat}
theorem AmA.rd.on {x : AmA} (h : x.rd W) (hb : Below W.heap.size W W') : x.rd W' := RdX.on h hb
theorem LtA.rd.on {x : LtA} (h : x.rd W) (hb : Below W.heap.size W W') : x.rd W' := ⟨AmA.rd.on h.1 hb, RdX.on h.2 hb⟩
theorem RlA.rd.on {x : RlA} (h : x.rd W) (hb : Below W.heap.size W W') : x.rd W' := ⟨AmA.rd.on h.1 hb, RdX.on h.2.1 hb, fun y hy => (h.2.2 y hy).on hb⟩
theorem PgA.rd.on {x : PgA} (h : x.rd W) (hb : Below W.heap.size W W') : x.rd W' := ⟨RdX.on h.1 hb, fun y hy => (h.2.1 y hy).on hb, AmA.rd.on h.2.2 hb⟩
theorem AmA.ok.rd {x : AmA} (h : x.ok W base) : x.rd W := RdX.of_own (fun _ => rfl) h
theorem LtA.ok.rd {x : LtA} (h : x.ok W base) : x.rd W := ⟨AmA.ok.rd h.1, RdX.of_own (cl := stC) (fun _ => rfl) h.2⟩
theorem RlA.ok.rd {x : RlA} (h : x.ok W base) : x.rd W := ⟨AmA.ok.rd h.1, RdX.of_own (fun _ => rfl) h.2.1, fun y hy => (h.2.2 y hy).rd⟩
theorem PgA.ok.rd {x : PgA} (h : x.ok W base) : x.rd W := ⟨RdX.of_own (fun _ => rfl) h.1, fun y hy => (h.2.1 y hy).rd, AmA.ok.rd h.2.2⟩
end
theorem step_storeR {P : Program} {op : Oper} {a : Act} {w : World} {K : Act → World → Prop} {Q : Exit → Act → World → Prop} (ty : TypeId) (x y : Operand) (ho : op.op = .store ty x y)
    (g : Nat) (hx : a.eval x = .pointer (some ⟨g, 0, none⟩)) (v : Value) (hy : a.eval y = v) (vs : List Value) (hv : v.cells.toList = vs) {T : TypeId} {old : List Value} (hg : Row T w g old) (hl : old.length = vs.length)
    (hi : (P.info? ty).map (·.size) = some vs.length) (h1 : vs.all (·.oneCell') = true)
    (h : ∀ w', Row T w' g vs → (∀ B, Fr (· = g) B w w') → w'.heap.size = w.heap.size → K (a.put op.dst undef) w') : Oper.wp P op a w K Q := by
  have hvs : v.cells.size = vs.length := by rw [← hv]; simp
  have hth : w.there g 0 v.cells.size := fun j hj => by
    rw [hg.cell]
    refine ⟨?_, hg.frozen _⟩
    rw [Nat.zero_add, List.getElem?_eq_getElem (by omega)]
    rfl
  unfold Oper.wp execOp
  simp only [ho, hx, hy, Instr.storeAt, Instr.sureAddr, Sem.run_bind, Sem.run_pure, Result.andThen_ok, run_storeVar_any w g 0 ty v hth (by rw [hvs]; exact hi) (by rw [← hv] at h1; simpa using h1)]
  refine h _ ?_ (fun B => fr_sets g _ _ _ _) (size_sets g _ _ _)
  rw [hv]
  have := row_sets vs old [] [] w hl (by simpa using hg)
  simpa using this
end Go.Proofs.Ytahljmddnfldlaa
namespace Go.Proofs.Ytahljmddnfldlaa
open Go.RowKit FloM ValM Go.Shelf
set_option linter.unusedVariables false
set_option linter.unusedSimpArgs false
/-! ### Texts -/
def TxAt (w : World) (b o : Nat) (xs : List (List UInt8)) : Prop := ∀ (j : Nat) x, xs[j]? = some x → w.cell? ⟨b, o + j, none⟩ = some (.string (bs x))
/-! ### Terms -/
def isV0 (x : V) : Bool := decide (x.k = 0) && decide (x.n = 0) && decide (ls x.s = [])
def TmOk (t : Tm) : Prop := t.v.length ≤ maxLen ∧ t.x.s.size ≤ maxLen ∧ (-9223372036854775808 ≤ t.x.n ∧ t.x.n < 9223372036854775808)
/-! ### The words of folds -/
end Go.Proofs.Ytahljmddnfldlaa
namespace Go.Proofs.Ytahljmddnfldlaa
open Go.RowKit FloM ValM Go.Shelf
set_option linter.unusedVariables false
set_option linter.unusedSimpArgs false
end Go.Proofs.Ytahljmddnfldlaa
namespace Go.Proofs.Ytahljmddnfldlaa
open Go.RowKit FloM ValM Go.Shelf
set_option linter.unusedVariables false
set_option linter.unusedSimpArgs false
/-- What is left to count, and the fold, in blocks of their own. -/
structure LfAt (gl gf : Nat) (m : Int) (fold : Int) (V : World) : Prop where
  l : Row 3 V gl [.int .i64 m]
  f : Row 3 V gf [.int .i64 fold]
theorem LfAt.on {gl gf : Nat} {m fold : Int} {V V' : World} (h : LfAt gl gf m fold V) (hb : Below V.heap.size V V') : LfAt gl gf m fold V' := ⟨rowOn h.l hb, rowOn h.f hb⟩
end Go.Proofs.Ytahljmddnfldlaa
namespace Go.Proofs.Ytahljmddnfldlaa
open FloM ValM
set_option linter.unusedVariables false
set_option linter.unusedSimpArgs false
end Go.Proofs.Ytahljmddnfldlaa
namespace Go.Proofs.Ytahljmddnfldlaa
open Go.RowKit FloM ValM Go.Shelf
set_option linter.unusedVariables false
set_option linter.unusedSimpArgs false
abbrev SI := Int × ByteArray
def siC (s : SI) : List Value := [.int .i64 s.1, .string s.2]
def stN (s : SI) : St := normS s.1 (ls s.2)
theorem RdX.drop {β : Type} {sz : Nat} {cl : β → List Value} {W : World} {b o : Nat} {l : List β} (h : RdX sz cl W (some ⟨b, o, none⟩) l) (k : Nat) : RdX sz cl W (some ⟨b, o + k * sz, none⟩) (l.drop k) := ⟨by have := h.1; rw [List.length_drop]; omega, fun i x hx => by
  rw [List.getElem?_drop] at hx
  obtain ⟨b', o', e, hl, hc⟩ := h.2 (k + i) x hx
  injection e with e; injection e with e1 e2 _; subst e1 e2
  refine ⟨b, o + k * sz, rfl, hl, fun j v hj => ?_⟩
  rw [show o + k * sz + i * sz + j = o + (k + i) * sz + j by rw [Nat.add_mul]; omega]
  exact hc j v hj⟩
end Go.Proofs.Ytahljmddnfldlaa
namespace Go.Proofs.Ytahljmddnfldlaa
open Go.RowKit FloM ValM Go.Shelf
set_option linter.unusedVariables false
set_option linter.unusedSimpArgs false
/-- A literal, a rule, a program with any integers as kinds and folds. -/
structure LtI where
  k : Int
  m : AmA
  o : List UInt8
  a : Tm
  b : Tm
  c : Tm
  pA : Option Addr
  pc : Nat
  p : List SI
def ltIC (x : LtI) : List Value := [.int .i64 x.k, .string (bs x.m.p), .slice x.m.A x.m.a.length x.m.c, .string (bs x.o), .string (bs x.a.v), .int .i64 x.a.x.k, .int .i64 x.a.x.n, .string x.a.x.s, .string (bs x.b.v), .int .i64 x.b.x.k, .int .i64 x.b.x.n, .string x.b.x.s, .string (bs x.c.v), .int .i64 x.c.x.k, .int .i64 x.c.x.n, .string x.c.x.s, .slice x.pA x.p.length x.pc]
structure RlI where
  h : AmA
  f : Int
  A : Option Addr
  c : Nat
  b : List LtI
def rlIC (x : RlI) : List Value := [.string (bs x.h.p), .slice x.h.A x.h.a.length x.h.c, .int .i64 x.f, .slice x.A x.b.length x.c]
structure PgI where
  A : Option Addr
  c : Nat
  r : List RlI
  q : AmA
def AmOk (x : AmA) : Prop := x.p.length ≤ maxLen ∧ ∀ t ∈ x.a, TmOk t
def LtI.rd (W : World) (x : LtI) : Prop := x.m.rd W ∧ RdX 2 siC W x.pA x.p
def LtI.ok (x : LtI) : Prop := AmOk x.m ∧ x.o.length ≤ maxLen ∧ TmOk x.a ∧ TmOk x.b ∧ TmOk x.c ∧ ∀ s ∈ x.p, s.2.size ≤ maxLen
def RlI.rd (W : World) (x : RlI) : Prop := x.h.rd W ∧ RdX 17 ltIC W x.A x.b ∧ ∀ y ∈ x.b, y.rd W
def RlI.ok (x : RlI) : Prop := AmOk x.h ∧ (-9223372036854775808 ≤ x.f ∧ x.f < 9223372036854775808) ∧ ∀ y ∈ x.b, y.ok
def PgI.rd (W : World) (x : PgI) : Prop := RdX 4 rlIC W x.A x.r ∧ (∀ y ∈ x.r, y.rd W) ∧ x.q.rd W
def PgI.ok (x : PgI) : Prop := (∀ y ∈ x.r, y.ok) ∧ AmOk x.q
section
variable {W W' : World}
theorem LtI.rd.on {x : LtI} (h : x.rd W) (hb : Below W.heap.size W W') : x.rd W' := ⟨AmA.rd.on h.1 hb, RdX.on h.2 hb⟩
theorem RlI.rd.on {x : RlI} (h : x.rd W) (hb : Below W.heap.size W W') : x.rd W' := ⟨AmA.rd.on h.1 hb, RdX.on h.2.1 hb, fun y hy => (h.2.2 y hy).on hb⟩
theorem PgI.rd.on {x : PgI} (h : x.rd W) (hb : Below W.heap.size W W') : x.rd W' := ⟨RdX.on h.1 hb, fun y hy => (h.2.1 y hy).on hb, AmA.rd.on h.2.2 hb⟩
end
theorem RdX.onF {β : Type} {sz : Nat} {cl : β → List Value} {X : Nat → Prop} {W W' : World} {A : Option Addr} {l : List β} (h : RdX sz cl W A l) (hx : l ≠ [] → ∀ a, A = some a → ¬ X a.block) (hb : Fr X W.heap.size W W') : RdX sz cl W' A l := ⟨h.1, fun i x hi => by
  obtain ⟨b, o, e, hl, hc⟩ := h.2 i x hi
  exact ⟨b, o, e, Nat.lt_of_lt_of_le hl hb.size, fun j v hj => (World.cell?_of_block (hb.block b hl (hx (fun e0 => by rw [e0] at hi; simp at hi) _ e))).trans (hc j v hj)⟩⟩
/-! ### A row of texts that grows -/
def txF (ts : List (List UInt8)) (k : Nat) : Nat → Value := fun i => if i < k then .string (bs (ts.getD i [])) else .string ByteArray.empty
theorem TxAt.on {w w' : World} {b o : Nat} {xs : List (List UInt8)} (h : TxAt w b o xs) (hb : Below w.heap.size w w') (hl : b < w.heap.size) : TxAt w' b o xs := fun j x hj => (keep hb _ _ hl).trans (h j x hj)
theorem info_string : (Try.prog.info? 9).map (fun i => (i.zero, i.size, i.bytes)) = some (some (.string ByteArray.empty), 1, 16) := by kernel_rfl
end Go.Proofs.Ytahljmddnfldlaa
namespace Go.Proofs.Ytahljmddnfldlaa
open Go.RowKit FloM ValM Go.Shelf
set_option linter.unusedVariables false
set_option linter.unusedSimpArgs false
end Go.Proofs.Ytahljmddnfldlaa
namespace Go.Proofs.Ytahljmddnfldlaa
open Go.RowKit FloM ValM Go.Shelf
set_option linter.unusedVariables false
set_option linter.unusedSimpArgs false
end Go.Proofs.Ytahljmddnfldlaa
namespace Go.Proofs.Ytahljmddnfldlaa
open Go.RowKit FloM ValM Go.Shelf
set_option linter.unusedVariables false
set_option linter.unusedSimpArgs false
end Go.Proofs.Ytahljmddnfldlaa
namespace Go.Proofs.Ytahljmddnfldlaa
open Go.RowKit FloM ValM Go.Shelf
set_option linter.unusedVariables false
set_option linter.unusedSimpArgs false
end Go.Proofs.Ytahljmddnfldlaa
namespace Go.Proofs.Ytahljmddnfldlaa
open Go.RowKit FloM ValM Go.Shelf
set_option linter.unusedVariables false
set_option linter.unusedSimpArgs false
/-! ### Rules -/
/-! ### Programs -/
end Go.Proofs.Ytahljmddnfldlaa
namespace Go.Proofs.Ytahljmddnfldlaa
open Go.RowKit FloM ValM Go.Shelf
set_option linter.unusedVariables false
set_option linter.unusedSimpArgs false
end Go.Proofs.Ytahljmddnfldlaa
namespace Go.Proofs.Ytahljmddnfldlaa
open FloM ValM
set_option linter.unusedVariables false
set_option linter.unusedSimpArgs false
def mkU (k : Nat) : UInt8 := if k = 5 then 42 else if k = 6 then 43 else 63
/-! ### The stack -/
/-! ### Depth, tokens -/
def inD (d h least : Nat) : Nat := if h < least then d + 1 else d
end Go.Proofs.Ytahljmddnfldlaa
namespace Go.Proofs.Ytahljmddnfldlaa
open FloM ValM
set_option linter.unusedVariables false
set_option linter.unusedSimpArgs false
/-! ### How deep -/
theorem max_zero (a : Nat) : max a 0 = a := by omega
end Go.Proofs.Ytahljmddnfldlaa
namespace Go.Proofs.Ytahljmddnfldlaa
open FloM ValM
set_option linter.unusedVariables false
set_option linter.unusedSimpArgs false
theorem name_not {l : List UInt8} (h : nameL l = true) : l ≠ [40] ∧ l ≠ [41] := ⟨fun e => by rw [e] at h; simp [nameL, allAt, okAt, lower, digit] at h, fun e => by rw [e] at h; simp [nameL, allAt, okAt, lower, digit] at h⟩
theorem inD_mono {d h a b : Nat} (hab : a ≤ b) : inD d h a ≤ inD d h b := by
  unfold inD
  split <;> split <;> omega
theorem star_some {l : List UInt8} {k : Nat} (h : starK l = some k) : (k = 5 ∨ k = 6 ∨ k = 7) ∧ l ≠ [40] ∧ l ≠ [41] := by
  unfold starK at h
  split at h
  · rename_i e; injection h with h; exact ⟨by omega, by rw [e]; simp, by rw [e]; simp⟩
  split at h
  · rename_i e; injection h with h; exact ⟨by omega, by rw [e]; simp, by rw [e]; simp⟩
  split at h
  · rename_i e; injection h with h; exact ⟨by omega, by rw [e]; simp, by rw [e]; simp⟩
  · cases h
/-- The two chains: of alternatives, and of what is one behind the other. -/
def Chain (j lo hi : Nat) : Prop := (j = 3 ∧ lo = 1 ∧ hi = 2) ∨ (j = 4 ∧ lo = 0 ∧ hi = 1)
end Go.Proofs.Ytahljmddnfldlaa
namespace Go.Proofs.Ytahljmddnfldlaa
open Go.RowKit FloM ValM Go.Shelf
set_option linter.unusedVariables false
set_option linter.unusedSimpArgs false
end Go.Proofs.Ytahljmddnfldlaa
namespace Go.Proofs.Ytahljmddnfldlaa
open Go.RowKit FloM ValM Go.Shelf
set_option linter.unusedVariables false
set_option linter.unusedSimpArgs false

/-! ### sign -/
/-! ### Variable -/
/-! ### run -/
/-! ### mark -/
end Go.Proofs.Ytahljmddnfldlaa
namespace Go.Proofs.Ytahljmddnfldlaa
open Go.RowKit FloM ValM

/-! ### Digits -/
end Go.Proofs.Ytahljmddnfldlaa
namespace Go.Proofs.Ytahljmddnfldlaa
open Go.RowKit FloM ValM

/-! ### Text -/
end Go.Proofs.Ytahljmddnfldlaa
namespace Go.Proofs.Ytahljmddnfldlaa
open Go.RowKit FloM ValM

/-! ### number -/
end Go.Proofs.Ytahljmddnfldlaa
namespace Go.Proofs.Ytahljmddnfldlaa
open Go.RowKit FloM ValM
set_option linter.unusedVariables false
set_option linter.unusedSimpArgs false

end Go.Proofs.Ytahljmddnfldlaa
namespace Go.Proofs.Ytahljmddnfldlaa
open Go.RowKit FloM ValM
set_option linter.unusedVariables false
set_option linter.unusedSimpArgs false

end Go.Proofs.Ytahljmddnfldlaa
namespace Go.Proofs.Ytahljmddnfldlaa
open Go.RowKit FloM ValM

end Go.Proofs.Ytahljmddnfldlaa
namespace Go.Proofs.Ytahljmddnfldlaa
open Go.RowKit FloM ValM Go.Shelf
set_option linter.unusedVariables false
set_option linter.unusedSimpArgs false

end Go.Proofs.Ytahljmddnfldlaa
namespace Go.Proofs.Ytahljmddnfldlaa
open Go.RowKit FloM ValM Go.Shelf
set_option linter.unusedVariables false
set_option linter.unusedSimpArgs false

/-! ### Tokens -/
/-! ### same -/
end Go.Proofs.Ytahljmddnfldlaa
namespace Go.Proofs.Ytahljmddnfldlaa
open Go.RowKit FloM ValM Go.Shelf
set_option linter.unusedVariables false
set_option linter.unusedSimpArgs false
end Go.Proofs.Ytahljmddnfldlaa
namespace Go.Proofs.Ytahljmddnfldlaa
open Go.RowKit FloM ValM Go.Shelf
set_option linter.unusedVariables false
set_option linter.unusedSimpArgs false
def RV (l : List SI) (n : Nat) : List St := ((l.take n).map stN).reverse
section
variable {m : Nat} {r q q2 : List St} {l b a : List UInt8} {k h : Nat} {s : St}
end
end Go.Proofs.Ytahljmddnfldlaa
namespace Go.Proofs.Ytahljmddnfldlaa
open Go.RowKit FloM ValM Go.Shelf
set_option linter.unusedVariables false
set_option linter.unusedSimpArgs false
end Go.Proofs.Ytahljmddnfldlaa
namespace Go.Proofs.Ytahljmddnfldlaa
open Go.RowKit FloM ValM Go.Shelf
set_option linter.unusedVariables false
set_option linter.unusedSimpArgs false
end Go.Proofs.Ytahljmddnfldlaa
namespace Go.Proofs.Ytahljmddnfldlaa
open Go.RowKit FloM ValM Go.Shelf
set_option linter.unusedVariables false
set_option linter.unusedSimpArgs false
end Go.Proofs.Ytahljmddnfldlaa
namespace Go.Proofs.Ytahljmddnfldlaa
open Go.RowKit FloM ValM Go.Shelf
set_option linter.unusedVariables false
set_option linter.unusedSimpArgs false
theorem rdX_row {β : Type} {sz : Nat} {cl : β → List Value} {W : World} {g : Nat} {t : TypeId} {l : List β} (hs : ∀ x, (cl x).length = sz) (hl : l.length ≤ maxLen) (h : Row t W g (cellsOf cl l)) : RdX sz cl W (some ⟨g, 0, none⟩) l := ⟨hl, fun i x hx => ⟨g, 0, rfl, h.lt, fun j v hj => by rw [Nat.zero_add, h.cell]; exact cells_get hs l i x hx j v hj⟩⟩
theorem few_max {n : Nat} (h : n ≤ 1000) : n ≤ maxLen := by unfold maxLen; omega
end Go.Proofs.Ytahljmddnfldlaa
namespace Go.Proofs.Ytahljmddnfldlaa
open Go.RowKit FloM ValM Go.Shelf
set_option linter.unusedVariables false
set_option linter.unusedSimpArgs false
end Go.Proofs.Ytahljmddnfldlaa
namespace Go.Proofs.Ytahljmddnfldlaa
open FloM ValM
set_option linter.unusedVariables false
set_option linter.unusedSimpArgs false
section
variable {α β : Type}
end
end Go.Proofs.Ytahljmddnfldlaa
namespace Go.Proofs.Ytahljmddnfldlaa
open Go.RowKit FloM ValM Go.Shelf
set_option linter.unusedVariables false
set_option linter.unusedSimpArgs false
set_option maxRecDepth 20000 in
set_option maxHeartbeats 4000000 in
theorem samePath_yes (A B : Option Addr) (c d : Nat) (l : List SI) (W : World) (h1 : RdX 2 siC W A l) (h2 : RdX 2 siC W B l) :
    Calls Try.prog 37 #[.slice A l.length c, .slice B l.length d] W fun e w' => e = .returned (.bool true) ∧ Below W.heap.size W w' := by
  have hmx : l.length ≤ 9223372036854775807 := Nat.le_trans h1.1 (by decide)
  have hne : ((l.length : Int) != (l.length : Int)) = false := by simp
  have H1 := Lib.hid h1; have H2 := Lib.hid h2
  clear h1 h2
  go_enter Try.func37, Try.ntmps37
  go_wp2
  go_loopw [13] (fun vi wr => ∃ k : Nat, vi = .int .i64 (k : Nat) ∧ k ≤ l.length ∧ Below W.heap.size W wr) (fun v _ => l.length - (intOf v).toNat)
  case atStart => exact ⟨0, rfl, Nat.zero_le _, Below.refl _ _⟩
  case round =>
    obtain ⟨k, rfl, hk, hb⟩ := hrel
    have HB := Lib.hid hb
    by_cases hlt : k < l.length
    · obtain ⟨x, hx⟩ : ∃ x, l[k]? = some x := ⟨_, List.getElem?_eq_getElem hlt⟩
      obtain ⟨b, o, rfl, hbl, hc⟩ := (H1.out.on hb).2 k x hx
      obtain ⟨b2, o2, rfl, hbl2, hc2⟩ := (H2.out.on hb).2 k x hx
      have x0 := hc 0 _ rfl; have x1 := hc 1 _ rfl; have y0 := hc2 0 _ rfl; have y1 := hc2 1 _ rfl
      rw [Nat.add_zero] at x0 y0
      clear hc hc2 hx hb
      go_wp2
      go_quiet (fail)
      go_wp2
      all_goals
        go_roundw
        case rel => exact ⟨k + 1, by go_num, by omega, by have h := HB.out; exact ⟨h.os, h.tape, h.output, h.size, h.block⟩⟩
        case measure => simp [intOf]; omega
    · obtain rfl : k = l.length := by omega
      go_wp2
      go_ret
      exact ⟨rfl, HB.out⟩
end Go.Proofs.Ytahljmddnfldlaa
namespace Go.Proofs.Ytahljmddnfldlaa
open Go.RowKit FloM ValM Go.Shelf
set_option linter.unusedVariables false
set_option linter.unusedSimpArgs false
theorem row_at {t : TypeId} {w : World} {g : Nat} (h : w.heap.size = g) (cs : List Value) : Row t (w.alloc (.cells cs.toArray t)) g cs := by subst h; exact row_new w cs
abbrev W2 (W : World) (X Y : PgA) : World := (W.alloc (.cells #[.slice X.A X.r.length X.c, .string (bs X.q.p), .slice X.q.A X.q.a.length X.q.c] 47)).alloc (.cells #[.slice Y.A Y.r.length Y.c, .string (bs Y.q.p), .slice Y.q.A Y.q.a.length Y.q.c] 47)
end Go.Proofs.Ytahljmddnfldlaa
namespace Go.Proofs.Ytahljmddnfldlaa
open Go.RowKit FloM ValM Go.Shelf
set_option linter.unusedVariables false
set_option linter.unusedSimpArgs false
structure LtE where
  k : Int
  m : Am
  o : List UInt8
  a : Tm
  b : Tm
  c : Tm
  p : List SI
structure RlE where
  h : Am
  f : Int
  b : List LtE
structure PgE where
  r : List RlE
  q : Am
def LtI.er (x : LtI) : LtE := ⟨x.k, x.m.am, x.o, x.a, x.b, x.c, x.p⟩
def RlI.er (x : RlI) : RlE := ⟨x.h.am, x.f, x.b.map LtI.er⟩
def PgI.er (x : PgI) : PgE := ⟨x.r.map RlI.er, x.q.am⟩
theorem at_map {α γ : Type} {f : α → γ} {l l' : List α} (h : l.map f = l'.map f) {i : Nat} {x : α} (hx : l[i]? = some x) : ∃ y, l'[i]? = some y ∧ f x = f y := by
  have h1 : (l.map f)[i]? = some (f x) := by rw [List.getElem?_map, hx]; rfl
  rw [h, List.getElem?_map, Option.map_eq_some_iff] at h1
  obtain ⟨y, hy, e⟩ := h1
  exact ⟨y, hy, e.symm⟩
set_option maxRecDepth 20000 in
set_option maxHeartbeats 4000000 in
theorem sameAtom9_yes (x y : AmA) (W : World) (hx : x.rd W) (hy : y.rd W) (h : x.am = y.am) :
    Calls Try.prog 34 #[.agg #[.string (bs x.p), .slice x.A x.a.length x.c], .agg #[.string (bs y.p), .slice y.A y.a.length y.c]] W fun e w' => e = .returned (.bool true) ∧ Below W.heap.size W w' := by
  obtain ⟨p, A, c, l⟩ := x
  obtain ⟨p2, A2, c2, l2⟩ := y
  unfold AmA.am at h
  injection h with h1 h2
  subst h1 h2
  have HX := Lib.hid hx; have HY := Lib.hid hy
  have hmx : l.length ≤ 9223372036854775807 := Nat.le_trans hx.1 (by decide)
  clear hx hy
  have hb0 : Below W.heap.size W ((W.alloc (.cells #[.string (bs p), .slice A l.length c] 36)).alloc (.cells #[.string (bs p), .slice A2 l.length c2] 36)) := ((Below.refl _ _).alloc (Nat.le_refl _) _).alloc (by simp) _
  have HB0 := Lib.hid hb0
  have R1 := Lib.hid ((row_new (t := 36) W [.string (bs p), .slice A l.length c]).alloc (.cells #[.string (bs p), .slice A2 l.length c2] 36))
  have R2 := Lib.hid (row_new (t := 36) (W.alloc (.cells #[.string (bs p), .slice A l.length c] 36)) [.string (bs p), .slice A2 l.length c2])
  rw [World.size_alloc] at R2
  go_enter Try.func34, Try.ntmps34
  go_wp2
  go_loopw [23] (fun vi wr => ∃ k : Nat, vi = .int .i64 (k : Nat) ∧ k ≤ l.length ∧ Below ((W.alloc (.cells #[.string (bs p), .slice A l.length c] 36)).alloc (.cells #[.string (bs p), .slice A2 l.length c2] 36)).heap.size ((W.alloc (.cells #[.string (bs p), .slice A l.length c] 36)).alloc (.cells #[.string (bs p), .slice A2 l.length c2] 36)) wr) (fun vi _ => l.length - (intOf vi).toNat)
  case atStart => exact ⟨0, rfl, Nat.zero_le _, Below.refl _ _⟩
  case round =>
    obtain ⟨k, rfl, hk, hb⟩ := hrel
    have hbW : Below W.heap.size W wr := on HB0.out hb
    have HBW := Lib.hid hbW
    have a0 := (rowOn R1.out hb).cell 1
    have a1 := (rowOn R2.out hb).cell 1
    by_cases hlt : k < l.length
    · obtain ⟨t, ht⟩ : ∃ t, l[k]? = some t := ⟨_, List.getElem?_eq_getElem hlt⟩
      obtain ⟨g, o, rfl, hg, hc⟩ := (RdX.on HX.out hbW).2 k t ht
      obtain ⟨g2, o2, rfl, hg2, hc2⟩ := (RdX.on HY.out hbW).2 k t ht
      have x0 := hc 0 _ rfl; have x1 := hc 1 _ rfl; have x2 := hc 2 _ rfl; have x3 := hc 3 _ rfl
      have y0 := hc2 0 _ rfl; have y1 := hc2 1 _ rfl; have y2 := hc2 2 _ rfl; have y3 := hc2 3 _ rfl
      rw [Nat.add_zero] at x0 y0
      have HB := Lib.hid hb
      clear hc hc2 ht hbW hb
      go_wp2
      go_quiet (fail)
      go_wp2
      go_roundw
      case rel => exact ⟨k + 1, by go_num, by omega, ⟨HB.out.os, HB.out.tape, HB.out.output, HB.out.size, HB.out.block⟩⟩
      case measure => simp [intOf]; omega
    · obtain rfl : k = l.length := by omega
      go_wp2
      go_ret
      exact ⟨rfl, HBW.out⟩
set_option maxRecDepth 20000 in
set_option maxHeartbeats 16000000 in
theorem sameRule9_yes (x y : RlI) (W : World) (hx : x.rd W) (hy : y.rd W) (h : x.er = y.er) :
    Calls Try.prog 24 #[.agg #[.string (bs x.h.p), .slice x.h.A x.h.a.length x.h.c, .int .i64 x.f, .slice x.A x.b.length x.c], .agg #[.string (bs y.h.p), .slice y.h.A y.h.a.length y.h.c, .int .i64 y.f, .slice y.A y.b.length y.c]] W fun e w' => e = .returned (.bool true) ∧ Below W.heap.size W w' := by
  unfold RlI.er at h
  injection h with hham hf hbm
  have hbl : x.b.length = y.b.length := by have := congrArg List.length hbm; simpa using this
  have hcW : Below W.heap.size W ((W.alloc (.cells #[.string (bs x.h.p), .slice x.h.A x.h.a.length x.h.c, .int .i64 x.f, .slice x.A x.b.length x.c] 55)).alloc (.cells #[.string (bs y.h.p), .slice y.h.A y.h.a.length y.h.c, .int .i64 y.f, .slice y.A y.b.length y.c] 55)) := ((Below.refl _ _).alloc (Nat.le_refl _) _).alloc (by simp) _
  have RP : Hid (Row 55 ((W.alloc (.cells #[.string (bs x.h.p), .slice x.h.A x.h.a.length x.h.c, .int .i64 x.f, .slice x.A x.b.length x.c] 55)).alloc (.cells #[.string (bs y.h.p), .slice y.h.A y.h.a.length y.h.c, .int .i64 y.f, .slice y.A y.b.length y.c] 55)) W.heap.size [.string (bs x.h.p), .slice x.h.A x.h.a.length x.h.c, .int .i64 x.f, .slice x.A x.b.length x.c]) := Lib.hid ((row_new (t := 55) W [.string (bs x.h.p), .slice x.h.A x.h.a.length x.h.c, .int .i64 x.f, .slice x.A x.b.length x.c]).alloc _)
  have RQ : Hid (Row 55 ((W.alloc (.cells #[.string (bs x.h.p), .slice x.h.A x.h.a.length x.h.c, .int .i64 x.f, .slice x.A x.b.length x.c] 55)).alloc (.cells #[.string (bs y.h.p), .slice y.h.A y.h.a.length y.h.c, .int .i64 y.f, .slice y.A y.b.length y.c] 55)) (W.heap.size + 1) [.string (bs y.h.p), .slice y.h.A y.h.a.length y.h.c, .int .i64 y.f, .slice y.A y.b.length y.c]) := Lib.hid (by have h := row_new (t := 55) (W.alloc (.cells #[.string (bs x.h.p), .slice x.h.A x.h.a.length x.h.c, .int .i64 x.f, .slice x.A x.b.length x.c] 55)) [.string (bs y.h.p), .slice y.h.A y.h.a.length y.h.c, .int .i64 y.f, .slice y.A y.b.length y.c]; rw [World.size_alloc] at h; exact h)
  have HXR := Lib.hid hx; have HYR := Lib.hid hy; have HBM := Lib.hid hbm; have HCW := Lib.hid hcW
  have hfb : (x.f != y.f) = false := by rw [hf]; simp
  have hbn : ((x.b.length : Int) != (y.b.length : Int)) = false := by rw [hbl]; simp
  have hbl1 := Nat.le_of_eq hbl; have hbl2 := Nat.le_of_eq hbl.symm
  have hmb : x.b.length ≤ 9223372036854775807 := hx.2.1.1
  have HAT := Lib.hid (sameAtom9_yes x.h y.h _ (AmA.rd.on hx.1 hcW) (AmA.rd.on hy.1 hcW) hham)
  clear hham hf hbm hbl hcW hx hy
  obtain ⟨wc, hwc⟩ : ∃ wc, Hid (((W.alloc (.cells #[.string (bs x.h.p), .slice x.h.A x.h.a.length x.h.c, .int .i64 x.f, .slice x.A x.b.length x.c] 55)).alloc (.cells #[.string (bs y.h.p), .slice y.h.A y.h.a.length y.h.c, .int .i64 y.f, .slice y.A y.b.length y.c] 55)) = wc) := ⟨_, Lib.hid rfl⟩
  go_enter Try.func24, Try.ntmps24
  go_wp2_with (go_at_call 34; refine HAT.out.mono ?_; rintro e w5 ⟨rfl, hb5⟩; have p3' := (rowOn RP.out hb5).cell 3; have q3' := (rowOn RQ.out hb5).cell 3; simp only [List.getElem?_cons_zero, List.getElem?_cons_succ] at p3' q3'; have HB5 := Lib.hid hb5; clear hb5)
  rw [hwc.out] at RP RQ HCW HB5
  clear hwc HAT
  go_loopw [33] (fun vi wr2 => ∃ j : Nat, vi = .int .i64 (j : Nat) ∧ j ≤ x.b.length ∧ Below wc.heap.size wc wr2) (fun vi _ => x.b.length - (intOf vi).toNat)
  case atStart => exact ⟨0, rfl, Nat.zero_le _, HB5.out⟩
  case round =>
    obtain ⟨j, rfl, hj, hb2⟩ := hrel
    have HB2 := Lib.hid hb2
    have h2W : Below W.heap.size W wr := on HCW.out hb2
    have HZ2 : Hid (W.heap.size < wr.heap.size ∧ W.heap.size + 1 < wr.heap.size) := Lib.hid ⟨(rowOn RP.out hb2).lt, (rowOn RQ.out hb2).lt⟩
    have b0 := (rowOn RP.out hb2).cell 3; have b1 := (rowOn RQ.out hb2).cell 3
    simp only [List.getElem?_cons_zero, List.getElem?_cons_succ] at b0 b1
    by_cases hjlt : j < x.b.length
    · obtain ⟨u, hu⟩ : ∃ u, x.b[j]? = some u := ⟨_, List.getElem?_eq_getElem hjlt⟩
      obtain ⟨v, hv, huv⟩ := at_map HBM.out hu
      have hjlt2 : j < y.b.length := by omega
      obtain ⟨g3, o3, hA3, hg3, hc3⟩ := (RdX.on HXR.out.2.1 h2W).2 j u hu
      obtain ⟨g4, o4, hA4, hg4, hc4⟩ := (RdX.on HYR.out.2.1 h2W).2 j v hv
      have HUR := Lib.hid (HXR.out.2.2 u (List.mem_of_getElem? hu)); have HVR := Lib.hid (HYR.out.2.2 v (List.mem_of_getElem? hv))
      obtain ⟨lk, um, lo, la, lb, lc, uA, uC, lp⟩ := u
      obtain ⟨lk2, vm, lo2, la2, lb2, lc2, vA, vC, lp2⟩ := v
      unfold LtI.er at huv
      injection huv with e1 hmm e3 e4 e5 e6 e7
      simp only at e1 hmm e3 e4 e5 e6 e7
      subst e1 e3 e4 e5 e6 e7
      have RU : Hid (wr.rangeAt g3 (o3 + j * 17) [.int .i64 lk, .string (bs um.p), .slice um.A um.a.length um.c, .string (bs lo), .string (bs la.v), .int .i64 la.x.k, .int .i64 la.x.n, .string la.x.s, .string (bs lb.v), .int .i64 lb.x.k, .int .i64 lb.x.n, .string lb.x.s, .string (bs lc.v), .int .i64 lc.x.k, .int .i64 lc.x.n, .string lc.x.s, .slice uA lp.length uC]) := Lib.hid hc3; have RV : Hid (wr.rangeAt g4 (o4 + j * 17) [.int .i64 lk, .string (bs vm.p), .slice vm.A vm.a.length vm.c, .string (bs lo), .string (bs la.v), .int .i64 la.x.k, .int .i64 la.x.n, .string la.x.s, .string (bs lb.v), .int .i64 lb.x.k, .int .i64 lb.x.n, .string lb.x.s, .string (bs lc.v), .int .i64 lc.x.k, .int .i64 lc.x.n, .string lc.x.s, .slice vA lp.length vC]) := Lib.hid hc4
      rw [hA3] at b0
      rw [hA4] at b1
      clear hA3 hA4 hc3 hc4 hb2 hu hv
      go_upto_region 6 with fail
      go_cut [6, 7, 33] from 33 to 95 (fun v9 v10 v67 wx => v67 = .int .i64 (j : Nat) ∧ ∃ p2 q2, v9 = .pointer (some ⟨p2, 0, none⟩) ∧ v10 = .pointer (some ⟨q2, 0, none⟩) ∧ Row 43 wx p2 [.int .i64 lk, .string (bs um.p), .slice um.A um.a.length um.c, .string (bs lo), .string (bs la.v), .int .i64 la.x.k, .int .i64 la.x.n, .string la.x.s, .string (bs lb.v), .int .i64 lb.x.k, .int .i64 lb.x.n, .string lb.x.s, .string (bs lc.v), .int .i64 lc.x.k, .int .i64 lc.x.n, .string lc.x.s, .slice uA lp.length uC] ∧ Row 43 wx q2 [.int .i64 lk, .string (bs vm.p), .slice vm.A vm.a.length vm.c, .string (bs lo), .string (bs la.v), .int .i64 la.x.k, .int .i64 la.x.n, .string la.x.s, .string (bs lb.v), .int .i64 lb.x.k, .int .i64 lb.x.n, .string lb.x.s, .string (bs lc.v), .int .i64 lc.x.k, .int .i64 lc.x.n, .string lc.x.s, .slice vA lp.length vC] ∧ Below wr.heap.size wr wx)
      case first =>
        refine wp_region_held_drew (S := fun u => Below wr.heap.size wr u) (by kernel_rfl) (Below.refl _ _).drew (fun hHeld => ?_)
        refine wpAnyH_take (i := 0) (v := ?v0) rfl (by kernel_rfl) (by kernel_rfl) (by kernel_rfl) (fun _ _ _ h => h) (Or.inl ⟨by rfl, ?hy0⟩) hHeld ?rest0
        case hy0 => (intro w hSw; (try dsimp only at hSw); have hz0 := (keep hSw _ _ HZ2.out.1).trans b0; have hz1 := (keep hSw _ _ HZ2.out.2).trans b1; go_simp; try with_reducible rfl)
        try simp only [Act.put, List.setIfInBounds_toArray, List.set_cons_zero, List.set_cons_succ, List.getElem_toArray, List.getElem_cons_zero, List.getElem_cons_succ]
        refine wpAnyH_take (i := 1) (v := ?v1) rfl (by kernel_rfl) (by kernel_rfl) (by kernel_rfl) (fun _ _ _ h => h) (Or.inl ⟨by rfl, ?hy1⟩) hHeld ?rest1
        case hy1 => (intro w hSw; (try dsimp only at hSw); have hz0 := (keep hSw _ _ HZ2.out.1).trans b0; have hz1 := (keep hSw _ _ HZ2.out.2).trans b1; go_simp; try with_reducible rfl)
        try simp only [Act.put, List.setIfInBounds_toArray, List.set_cons_zero, List.set_cons_succ, List.getElem_toArray, List.getElem_cons_zero, List.getElem_cons_succ]
        refine wpAnyH_take (i := 2) (v := ?v2) rfl (by kernel_rfl) (by kernel_rfl) (by kernel_rfl) (fun _ _ _ h => h) (Or.inl ⟨by rfl, ?hy2⟩) hHeld ?rest2
        case hy2 => (intro w hSw; (try dsimp only at hSw); have hz0 := (keep hSw _ _ HZ2.out.1).trans b0; have hz1 := (keep hSw _ _ HZ2.out.2).trans b1; go_simp; try with_reducible rfl)
        try simp only [Act.put, List.setIfInBounds_toArray, List.set_cons_zero, List.set_cons_succ, List.getElem_toArray, List.getElem_cons_zero, List.getElem_cons_succ]
        refine wpAnyH_take (i := 3) (v := ?v3) rfl (by kernel_rfl) (by kernel_rfl) (by kernel_rfl) (fun _ _ _ h => h) (Or.inl ⟨by rfl, ?hy3⟩) hHeld ?rest3
        case hy3 => (intro w hSw; (try dsimp only at hSw); have hz0 := (keep hSw _ _ HZ2.out.1).trans b0; have hz1 := (keep hSw _ _ HZ2.out.2).trans b1; go_simp; try with_reducible rfl)
        try simp only [Act.put, List.setIfInBounds_toArray, List.set_cons_zero, List.set_cons_succ, List.getElem_toArray, List.getElem_cons_zero, List.getElem_cons_succ]
        refine wpAnyH_take (i := 4) (v := .agg #[.int .i64 lk, .string (bs um.p), .slice um.A um.a.length um.c, .string (bs lo), .string (bs la.v), .int .i64 la.x.k, .int .i64 la.x.n, .string la.x.s, .string (bs lb.v), .int .i64 lb.x.k, .int .i64 lb.x.n, .string lb.x.s, .string (bs lc.v), .int .i64 lc.x.k, .int .i64 lc.x.n, .string lc.x.s, .slice uA lp.length uC]) rfl (by kernel_rfl) (by kernel_rfl) (by kernel_rfl) (fun _ _ _ h => h) (yieldsIf_load_mid (by rfl) 43 (.tmp 39) rfl g3 (o3 + j * 17) (by simp [Act.eval, Act.put]) [.int .i64 lk, .string (bs um.p), .slice um.A um.a.length um.c, .string (bs lo), .string (bs la.v), .int .i64 la.x.k, .int .i64 la.x.n, .string la.x.s, .string (bs lb.v), .int .i64 lb.x.k, .int .i64 lb.x.n, .string lb.x.s, .string (bs lc.v), .int .i64 lc.x.k, .int .i64 lc.x.n, .string lc.x.s, .slice uA lp.length uC] _ (fun w hw j' v' h' => (keep hw _ _ hg3).trans (RU.out j' v' h')) Try.underlying43 rfl (by kernel_rfl)) hHeld ?rest4
        try simp only [Act.put, List.setIfInBounds_toArray, List.set_cons_zero, List.set_cons_succ, List.getElem_toArray, List.getElem_cons_zero, List.getElem_cons_succ]
        refine wpAnyH_take (i := 5) (v := ?v5) rfl (by kernel_rfl) (by kernel_rfl) (by kernel_rfl) (fun _ _ _ h => h) (Or.inl ⟨by rfl, ?hy5⟩) hHeld ?rest5
        case hy5 => (intro w hSw; (try dsimp only at hSw); have hz0 := (keep hSw _ _ HZ2.out.1).trans b0; have hz1 := (keep hSw _ _ HZ2.out.2).trans b1; go_simp; try with_reducible rfl)
        try simp only [Act.put, List.setIfInBounds_toArray, List.set_cons_zero, List.set_cons_succ, List.getElem_toArray, List.getElem_cons_zero, List.getElem_cons_succ]
        refine wpAnyH_take (i := 6) (v := ?v6) rfl (by kernel_rfl) (by kernel_rfl) (by kernel_rfl) (fun _ _ _ h => h) (Or.inl ⟨by rfl, ?hy6⟩) hHeld ?rest6
        case hy6 => (intro w hSw; (try dsimp only at hSw); have hz0 := (keep hSw _ _ HZ2.out.1).trans b0; have hz1 := (keep hSw _ _ HZ2.out.2).trans b1; go_simp; try with_reducible rfl)
        try simp only [Act.put, List.setIfInBounds_toArray, List.set_cons_zero, List.set_cons_succ, List.getElem_toArray, List.getElem_cons_zero, List.getElem_cons_succ]
        refine wpAnyH_take (i := 7) (v := ?v7) rfl (by kernel_rfl) (by kernel_rfl) (by kernel_rfl) (fun _ _ _ h => h) (Or.inl ⟨by rfl, ?hy7⟩) hHeld ?rest7
        case hy7 => (intro w hSw; (try dsimp only at hSw); have hz0 := (keep hSw _ _ HZ2.out.1).trans b0; have hz1 := (keep hSw _ _ HZ2.out.2).trans b1; go_simp; try with_reducible rfl)
        try simp only [Act.put, List.setIfInBounds_toArray, List.set_cons_zero, List.set_cons_succ, List.getElem_toArray, List.getElem_cons_zero, List.getElem_cons_succ]
        refine wpAnyH_take (i := 8) (v := ?v8) rfl (by kernel_rfl) (by kernel_rfl) (by kernel_rfl) (fun _ _ _ h => h) (Or.inl ⟨by rfl, ?hy8⟩) hHeld ?rest8
        case hy8 => (intro w hSw; (try dsimp only at hSw); have hz0 := (keep hSw _ _ HZ2.out.1).trans b0; have hz1 := (keep hSw _ _ HZ2.out.2).trans b1; go_simp; try with_reducible rfl)
        try simp only [Act.put, List.setIfInBounds_toArray, List.set_cons_zero, List.set_cons_succ, List.getElem_toArray, List.getElem_cons_zero, List.getElem_cons_succ]
        refine wpAnyH_take (i := 9) (v := .agg #[.int .i64 lk, .string (bs vm.p), .slice vm.A vm.a.length vm.c, .string (bs lo), .string (bs la.v), .int .i64 la.x.k, .int .i64 la.x.n, .string la.x.s, .string (bs lb.v), .int .i64 lb.x.k, .int .i64 lb.x.n, .string lb.x.s, .string (bs lc.v), .int .i64 lc.x.k, .int .i64 lc.x.n, .string lc.x.s, .slice vA lp.length vC]) rfl (by kernel_rfl) (by kernel_rfl) (by kernel_rfl) (fun _ _ _ h => h) (yieldsIf_load_mid (by rfl) 43 (.tmp 44) rfl g4 (o4 + j * 17) (by simp [Act.eval, Act.put]) [.int .i64 lk, .string (bs vm.p), .slice vm.A vm.a.length vm.c, .string (bs lo), .string (bs la.v), .int .i64 la.x.k, .int .i64 la.x.n, .string la.x.s, .string (bs lb.v), .int .i64 lb.x.k, .int .i64 lb.x.n, .string lb.x.s, .string (bs lc.v), .int .i64 lc.x.k, .int .i64 lc.x.n, .string lc.x.s, .slice vA lp.length vC] _ (fun w hw j' v' h' => (keep hw _ _ hg4).trans (RV.out j' v' h')) Try.underlying43 rfl (by kernel_rfl)) hHeld ?rest9
        try simp only [Act.put, List.setIfInBounds_toArray, List.set_cons_zero, List.set_cons_succ, List.getElem_toArray, List.getElem_cons_zero, List.getElem_cons_succ]
        clear hHeld
        refine wpAnyH_ready (rs := [10, 11]) (by kernel_rfl) (by simp) ?_
        refine AllReadyH.cons rfl (fun K hK => ?_) (AllReadyH.cons rfl (fun K hK => ?_) AllReadyH.nil)
        · go_simp
          refine hK.out _ _ (((by repeat (first | (with_reducible exact Below.refl _ _) | (with_reducible refine Below.drew ?_) | (with_reducible refine Below.alloc ?_ (by simp; try omega) _))))) (fun _ => ?_)
          clear hK K
          refine wpAnyH_ready (rs := [11]) (by kernel_rfl) (by simp) ?_
          refine AllReadyH.cons rfl (fun K hK => ?_) AllReadyH.nil
          go_simp
          refine hK.out _ _ (((by repeat (first | (with_reducible exact Below.refl _ _) | (with_reducible refine Below.drew ?_) | (with_reducible refine Below.alloc ?_ (by simp; try omega) _))))) (fun _ => ?_)
          clear hK K
          refine wpAnyH_ready (rs := [12]) (by kernel_rfl) (by simp) ?_
          refine AllReadyH.cons rfl (fun K hK => ?_) AllReadyH.nil
          rw [if_pos (by rfl)]
          try simp only [Act.put, List.setIfInBounds_toArray, List.set_cons_zero, List.set_cons_succ, List.getElem_toArray, List.getElem_cons_zero, List.getElem_cons_succ]
          obtain ⟨V0, hV0⟩ : ∃ V0, ((wr.alloc (.cells #[.int .i64 0, .string ⟨#[]⟩, .slice none 0 0, .string ⟨#[]⟩, .string ⟨#[]⟩, .int .i64 0, .int .i64 0, .string ⟨#[]⟩, .string ⟨#[]⟩, .int .i64 0, .int .i64 0, .string ⟨#[]⟩, .string ⟨#[]⟩, .int .i64 0, .int .i64 0, .string ⟨#[]⟩, .slice none 0 0] 43)).alloc (.cells #[.int .i64 0, .string ⟨#[]⟩, .slice none 0 0, .string ⟨#[]⟩, .string ⟨#[]⟩, .int .i64 0, .int .i64 0, .string ⟨#[]⟩, .string ⟨#[]⟩, .int .i64 0, .int .i64 0, .string ⟨#[]⟩, .string ⟨#[]⟩, .int .i64 0, .int .i64 0, .string ⟨#[]⟩, .slice none 0 0] 43)).drew = V0 := ⟨_, rfl⟩
          have hb0 : Below wr.heap.size wr V0 := by rw [← hV0]; exact (((Below.refl _ _).alloc (Nat.le_refl _) _).alloc (by simp) _).drew
          have r1 : Row 43 V0 wr.heap.size [.int .i64 0, .string ⟨#[]⟩, .slice none 0 0, .string ⟨#[]⟩, .string ⟨#[]⟩, .int .i64 0, .int .i64 0, .string ⟨#[]⟩, .string ⟨#[]⟩, .int .i64 0, .int .i64 0, .string ⟨#[]⟩, .string ⟨#[]⟩, .int .i64 0, .int .i64 0, .string ⟨#[]⟩, .slice none 0 0] := by rw [← hV0]; exact rowOn ((row_new (t := 43) wr [.int .i64 0, .string ⟨#[]⟩, .slice none 0 0, .string ⟨#[]⟩, .string ⟨#[]⟩, .int .i64 0, .int .i64 0, .string ⟨#[]⟩, .string ⟨#[]⟩, .int .i64 0, .int .i64 0, .string ⟨#[]⟩, .string ⟨#[]⟩, .int .i64 0, .int .i64 0, .string ⟨#[]⟩, .slice none 0 0]).alloc _) (Below.refl _ _).drew
          have r2 : Row 43 V0 (wr.heap.size + 1) [.int .i64 0, .string ⟨#[]⟩, .slice none 0 0, .string ⟨#[]⟩, .string ⟨#[]⟩, .int .i64 0, .int .i64 0, .string ⟨#[]⟩, .string ⟨#[]⟩, .int .i64 0, .int .i64 0, .string ⟨#[]⟩, .string ⟨#[]⟩, .int .i64 0, .int .i64 0, .string ⟨#[]⟩, .slice none 0 0] := by rw [← hV0]; exact rowOn (row_at (w := wr.alloc _) (by simp) [.int .i64 0, .string ⟨#[]⟩, .slice none 0 0, .string ⟨#[]⟩, .string ⟨#[]⟩, .int .i64 0, .int .i64 0, .string ⟨#[]⟩, .string ⟨#[]⟩, .int .i64 0, .int .i64 0, .string ⟨#[]⟩, .string ⟨#[]⟩, .int .i64 0, .int .i64 0, .string ⟨#[]⟩, .slice none 0 0]) (Below.refl _ _).drew
          rw [hV0]
          clear hV0
          refine step_storeR 43 (.tmp 6) (.tmp 40) ?hoq10 wr.heap.size ?hxq10 (.agg #[.int .i64 lk, .string (bs um.p), .slice um.A um.a.length um.c, .string (bs lo), .string (bs la.v), .int .i64 la.x.k, .int .i64 la.x.n, .string la.x.s, .string (bs lb.v), .int .i64 lb.x.k, .int .i64 lb.x.n, .string lb.x.s, .string (bs lc.v), .int .i64 lc.x.k, .int .i64 lc.x.n, .string lc.x.s, .slice uA lp.length uC]) ?hyq10 [.int .i64 lk, .string (bs um.p), .slice um.A um.a.length um.c, .string (bs lo), .string (bs la.v), .int .i64 la.x.k, .int .i64 la.x.n, .string la.x.s, .string (bs lb.v), .int .i64 lb.x.k, .int .i64 lb.x.n, .string lb.x.s, .string (bs lc.v), .int .i64 lc.x.k, .int .i64 lc.x.n, .string lc.x.s, .slice uA lp.length uC] rfl r1 rfl (by kernel_rfl) rfl ?hKzq10
          case hoq10 => rfl
          case hxq10 => first | rfl | simp [Act.eval, Act.put]
          case hyq10 => first | rfl | simp [Act.eval, Act.put]
          intro V1 hR1 hF1 hs1
          have b1' : Below wr.heap.size wr V1 := hb0.trans ((hF1 _).below (Nat.le_refl _) fun k hk e => by omega)
          have rr := r2.fr (hF1 _) r2.lt (by omega)
          refine hK.out _ _ b1' (fun _ => ?_)
          clear hK K
          refine wpAnyH_ready (rs := [13]) (by kernel_rfl) (by simp) ?_
          refine AllReadyH.cons rfl (fun K hK => ?_) AllReadyH.nil
          rw [if_pos (by rfl)]
          try simp only [Act.put, List.setIfInBounds_toArray, List.set_cons_zero, List.set_cons_succ, List.getElem_toArray, List.getElem_cons_zero, List.getElem_cons_succ]
          refine step_storeR 43 (.tmp 7) (.tmp 45) ?ho2q10 (wr.heap.size + 1) ?hx2q10 (.agg #[.int .i64 lk, .string (bs vm.p), .slice vm.A vm.a.length vm.c, .string (bs lo), .string (bs la.v), .int .i64 la.x.k, .int .i64 la.x.n, .string la.x.s, .string (bs lb.v), .int .i64 lb.x.k, .int .i64 lb.x.n, .string lb.x.s, .string (bs lc.v), .int .i64 lc.x.k, .int .i64 lc.x.n, .string lc.x.s, .slice vA lp.length vC]) ?hy2q10 [.int .i64 lk, .string (bs vm.p), .slice vm.A vm.a.length vm.c, .string (bs lo), .string (bs la.v), .int .i64 la.x.k, .int .i64 la.x.n, .string la.x.s, .string (bs lb.v), .int .i64 lb.x.k, .int .i64 lb.x.n, .string lb.x.s, .string (bs lc.v), .int .i64 lc.x.k, .int .i64 lc.x.n, .string lc.x.s, .slice vA lp.length vC] rfl rr rfl (by kernel_rfl) rfl ?hK2zq10
          case ho2q10 => rfl
          case hx2q10 => first | rfl | simp [Act.eval, Act.put]
          case hy2q10 => first | rfl | simp [Act.eval, Act.put]
          intro V2 hR2 hF2 hs2
          have b2' : Below wr.heap.size wr V2 := b1'.trans ((hF2 _).below (Nat.le_refl _) fun k hk e => by omega)
          have hR1' := hR1.fr (hF2 _) hR1.lt (by omega)
          refine hK.out _ _ b2' (fun _ => ?_)
          clear hK K
          refine wpAnyH_done (by kernel_rfl) ?_ _
          try simp only [Act.put, List.setIfInBounds_toArray, List.set_cons_zero, List.set_cons_succ, List.getElem_toArray, List.getElem_cons_zero, List.getElem_cons_succ]
          go_wp2_with fail
          go_meet
          exact ⟨rfl, wr.heap.size, (wr.heap.size + 1), rfl, rfl, hR1', hR2, b2'⟩
        · go_simp
          refine hK.out _ _ (((by repeat (first | (with_reducible exact Below.refl _ _) | (with_reducible refine Below.drew ?_) | (with_reducible refine Below.alloc ?_ (by simp; try omega) _))))) (fun _ => ?_)
          clear hK K
          refine wpAnyH_ready (rs := [10]) (by kernel_rfl) (by simp) ?_
          refine AllReadyH.cons rfl (fun K hK => ?_) AllReadyH.nil
          go_simp
          refine hK.out _ _ (((by repeat (first | (with_reducible exact Below.refl _ _) | (with_reducible refine Below.drew ?_) | (with_reducible refine Below.alloc ?_ (by simp; try omega) _))))) (fun _ => ?_)
          clear hK K
          refine wpAnyH_ready (rs := [12]) (by kernel_rfl) (by simp) ?_
          refine AllReadyH.cons rfl (fun K hK => ?_) AllReadyH.nil
          rw [if_pos (by rfl)]
          try simp only [Act.put, List.setIfInBounds_toArray, List.set_cons_zero, List.set_cons_succ, List.getElem_toArray, List.getElem_cons_zero, List.getElem_cons_succ]
          obtain ⟨V0, hV0⟩ : ∃ V0, ((wr.alloc (.cells #[.int .i64 0, .string ⟨#[]⟩, .slice none 0 0, .string ⟨#[]⟩, .string ⟨#[]⟩, .int .i64 0, .int .i64 0, .string ⟨#[]⟩, .string ⟨#[]⟩, .int .i64 0, .int .i64 0, .string ⟨#[]⟩, .string ⟨#[]⟩, .int .i64 0, .int .i64 0, .string ⟨#[]⟩, .slice none 0 0] 43)).alloc (.cells #[.int .i64 0, .string ⟨#[]⟩, .slice none 0 0, .string ⟨#[]⟩, .string ⟨#[]⟩, .int .i64 0, .int .i64 0, .string ⟨#[]⟩, .string ⟨#[]⟩, .int .i64 0, .int .i64 0, .string ⟨#[]⟩, .string ⟨#[]⟩, .int .i64 0, .int .i64 0, .string ⟨#[]⟩, .slice none 0 0] 43)).drew = V0 := ⟨_, rfl⟩
          have hb0 : Below wr.heap.size wr V0 := by rw [← hV0]; exact (((Below.refl _ _).alloc (Nat.le_refl _) _).alloc (by simp) _).drew
          have r1 : Row 43 V0 wr.heap.size [.int .i64 0, .string ⟨#[]⟩, .slice none 0 0, .string ⟨#[]⟩, .string ⟨#[]⟩, .int .i64 0, .int .i64 0, .string ⟨#[]⟩, .string ⟨#[]⟩, .int .i64 0, .int .i64 0, .string ⟨#[]⟩, .string ⟨#[]⟩, .int .i64 0, .int .i64 0, .string ⟨#[]⟩, .slice none 0 0] := by rw [← hV0]; exact rowOn ((row_new (t := 43) wr [.int .i64 0, .string ⟨#[]⟩, .slice none 0 0, .string ⟨#[]⟩, .string ⟨#[]⟩, .int .i64 0, .int .i64 0, .string ⟨#[]⟩, .string ⟨#[]⟩, .int .i64 0, .int .i64 0, .string ⟨#[]⟩, .string ⟨#[]⟩, .int .i64 0, .int .i64 0, .string ⟨#[]⟩, .slice none 0 0]).alloc _) (Below.refl _ _).drew
          have r2 : Row 43 V0 (wr.heap.size + 1) [.int .i64 0, .string ⟨#[]⟩, .slice none 0 0, .string ⟨#[]⟩, .string ⟨#[]⟩, .int .i64 0, .int .i64 0, .string ⟨#[]⟩, .string ⟨#[]⟩, .int .i64 0, .int .i64 0, .string ⟨#[]⟩, .string ⟨#[]⟩, .int .i64 0, .int .i64 0, .string ⟨#[]⟩, .slice none 0 0] := by rw [← hV0]; exact rowOn (row_at (w := wr.alloc _) (by simp) [.int .i64 0, .string ⟨#[]⟩, .slice none 0 0, .string ⟨#[]⟩, .string ⟨#[]⟩, .int .i64 0, .int .i64 0, .string ⟨#[]⟩, .string ⟨#[]⟩, .int .i64 0, .int .i64 0, .string ⟨#[]⟩, .string ⟨#[]⟩, .int .i64 0, .int .i64 0, .string ⟨#[]⟩, .slice none 0 0]) (Below.refl _ _).drew
          rw [hV0]
          clear hV0
          refine step_storeR 43 (.tmp 6) (.tmp 40) ?hoq11 (wr.heap.size + 1) ?hxq11 (.agg #[.int .i64 lk, .string (bs um.p), .slice um.A um.a.length um.c, .string (bs lo), .string (bs la.v), .int .i64 la.x.k, .int .i64 la.x.n, .string la.x.s, .string (bs lb.v), .int .i64 lb.x.k, .int .i64 lb.x.n, .string lb.x.s, .string (bs lc.v), .int .i64 lc.x.k, .int .i64 lc.x.n, .string lc.x.s, .slice uA lp.length uC]) ?hyq11 [.int .i64 lk, .string (bs um.p), .slice um.A um.a.length um.c, .string (bs lo), .string (bs la.v), .int .i64 la.x.k, .int .i64 la.x.n, .string la.x.s, .string (bs lb.v), .int .i64 lb.x.k, .int .i64 lb.x.n, .string lb.x.s, .string (bs lc.v), .int .i64 lc.x.k, .int .i64 lc.x.n, .string lc.x.s, .slice uA lp.length uC] rfl r2 rfl (by kernel_rfl) rfl ?hKzq11
          case hoq11 => rfl
          case hxq11 => first | rfl | simp [Act.eval, Act.put]
          case hyq11 => first | rfl | simp [Act.eval, Act.put]
          intro V1 hR1 hF1 hs1
          have b1' : Below wr.heap.size wr V1 := hb0.trans ((hF1 _).below (Nat.le_refl _) fun k hk e => by omega)
          have rr := r1.fr (hF1 _) r1.lt (by omega)
          refine hK.out _ _ b1' (fun _ => ?_)
          clear hK K
          refine wpAnyH_ready (rs := [13]) (by kernel_rfl) (by simp) ?_
          refine AllReadyH.cons rfl (fun K hK => ?_) AllReadyH.nil
          rw [if_pos (by rfl)]
          try simp only [Act.put, List.setIfInBounds_toArray, List.set_cons_zero, List.set_cons_succ, List.getElem_toArray, List.getElem_cons_zero, List.getElem_cons_succ]
          refine step_storeR 43 (.tmp 7) (.tmp 45) ?ho2q11 wr.heap.size ?hx2q11 (.agg #[.int .i64 lk, .string (bs vm.p), .slice vm.A vm.a.length vm.c, .string (bs lo), .string (bs la.v), .int .i64 la.x.k, .int .i64 la.x.n, .string la.x.s, .string (bs lb.v), .int .i64 lb.x.k, .int .i64 lb.x.n, .string lb.x.s, .string (bs lc.v), .int .i64 lc.x.k, .int .i64 lc.x.n, .string lc.x.s, .slice vA lp.length vC]) ?hy2q11 [.int .i64 lk, .string (bs vm.p), .slice vm.A vm.a.length vm.c, .string (bs lo), .string (bs la.v), .int .i64 la.x.k, .int .i64 la.x.n, .string la.x.s, .string (bs lb.v), .int .i64 lb.x.k, .int .i64 lb.x.n, .string lb.x.s, .string (bs lc.v), .int .i64 lc.x.k, .int .i64 lc.x.n, .string lc.x.s, .slice vA lp.length vC] rfl rr rfl (by kernel_rfl) rfl ?hK2zq11
          case ho2q11 => rfl
          case hx2q11 => first | rfl | simp [Act.eval, Act.put]
          case hy2q11 => first | rfl | simp [Act.eval, Act.put]
          intro V2 hR2 hF2 hs2
          have b2' : Below wr.heap.size wr V2 := b1'.trans ((hF2 _).below (Nat.le_refl _) fun k hk e => by omega)
          have hR1' := hR1.fr (hF2 _) hR1.lt (by omega)
          refine hK.out _ _ b2' (fun _ => ?_)
          clear hK K
          refine wpAnyH_done (by kernel_rfl) ?_ _
          try simp only [Act.put, List.setIfInBounds_toArray, List.set_cons_zero, List.set_cons_succ, List.getElem_toArray, List.getElem_cons_zero, List.getElem_cons_succ]
          go_wp2_with fail
          go_meet
          exact ⟨rfl, (wr.heap.size + 1), wr.heap.size, rfl, rfl, hR1', hR2, b2'⟩
      case rest =>
        obtain ⟨rfl, p2, q2, rfl, rfl, hRp2, hRq2, hbc2⟩ := hcut
        have hw2W := on h2W hbc2
        have HAT2 := Lib.hid (sameAtom9_yes um vm _ (AmA.rd.on HUR.out.1 hw2W) (AmA.rd.on HVR.out.1 hw2W) hmm)
        have RP2 := Lib.hid hRp2; have RQ2 := Lib.hid hRq2; have HBC2 := Lib.hid hbc2; have HW2 := Lib.hid hw2W
        have m0 := hRp2.cell 0; have n0 := hRq2.cell 0
        have m1 := hRp2.cell 1; have n1 := hRq2.cell 1
        have m2 := hRp2.cell 2; have n2 := hRq2.cell 2
        have m3 := hRp2.cell 3; have n3 := hRq2.cell 3
        have m4 := hRp2.cell 4; have n4 := hRq2.cell 4
        have m5 := hRp2.cell 5; have n5 := hRq2.cell 5
        have m6 := hRp2.cell 6; have n6 := hRq2.cell 6
        have m7 := hRp2.cell 7; have n7 := hRq2.cell 7
        have m8 := hRp2.cell 8; have n8 := hRq2.cell 8
        have m9 := hRp2.cell 9; have n9 := hRq2.cell 9
        have m10 := hRp2.cell 10; have n10 := hRq2.cell 10
        have m11 := hRp2.cell 11; have n11 := hRq2.cell 11
        have m12 := hRp2.cell 12; have n12 := hRq2.cell 12
        have m13 := hRp2.cell 13; have n13 := hRq2.cell 13
        have m14 := hRp2.cell 14; have n14 := hRq2.cell 14
        have m15 := hRp2.cell 15; have n15 := hRq2.cell 15
        have m16 := hRp2.cell 16; have n16 := hRq2.cell 16
        simp only [List.getElem?_cons_zero, List.getElem?_cons_succ] at m0 n0 m1 n1 m2 n2 m3 n3 m4 n4 m5 n5 m6 n6 m7 n7 m8 n8 m9 n9 m10 n10 m11 n11 m12 n12 m13 n13 m14 n14 m15 n15 m16 n16
        clear hRp2 hRq2 hbc2 hw2W hmm b0 b1 h2W
        go_wp2_with (first
          | (go_at_call 34; refine HAT2.out.mono ?_; rintro e w6 ⟨rfl, hb6⟩; have m16' := (rowOn RP2.out hb6).cell 16; have n16' := (rowOn RQ2.out hb6).cell 16; simp only [List.getElem?_cons_zero, List.getElem?_cons_succ] at m16' n16'; have HB6 := Lib.hid hb6; clear hb6)
          | (go_at_call 37; refine (samePath_yes uA vA uC vC lp _ (RdX.on (RdX.on HUR.out.2 HW2.out) HB6.out) (RdX.on (RdX.on HVR.out.2 HW2.out) HB6.out)).mono ?_; rintro e w7 ⟨rfl, hb7⟩; have HB7 := Lib.hid hb7; clear hb7))
        go_roundw
        case rel => exact ⟨j + 1, by go_num, by omega, on HB2.out (on HBC2.out (on HB6.out HB7.out))⟩
        case measure => simp [intOf]; omega
    · obtain rfl : j = x.b.length := by omega
      go_wp2
      go_ret
      exact ⟨rfl, on HCW.out HB2.out⟩
end Go.Proofs.Ytahljmddnfldlaa
namespace Go.Proofs.Ytahljmddnfldlaa
open FloM ValM
set_option linter.unusedVariables false
set_option linter.unusedSimpArgs false
/-! ### Values -/
end Go.Proofs.Ytahljmddnfldlaa
namespace Go.Proofs.Ytahljmddnfldlaa
open Go.RowKit FloM ValM Go.Shelf
set_option linter.unusedVariables false
set_option linter.unusedSimpArgs false
/-! ### Terms -/
/-! ### Lists -/
section
variable {α β : Type} {tx : β → List UInt8} {g : β → α} {m : List UInt8} {most : Nat}
end
end Go.Proofs.Ytahljmddnfldlaa
namespace Go.Proofs.Ytahljmddnfldlaa
open Go.RowKit FloM ValM Go.Shelf
set_option linter.unusedVariables false
set_option linter.unusedSimpArgs false
end Go.Proofs.Ytahljmddnfldlaa
namespace Go.Proofs.Ytahljmddnfldlaa
open Go.RowKit FloM ValM Go.Shelf
set_option linter.unusedVariables false
set_option linter.unusedSimpArgs false
/-! ### Marks and words -/
/-! ### A literal's text -/
end Go.Proofs.Ytahljmddnfldlaa
namespace Go.Proofs.Ytahljmddnfldlaa
open Go.RowKit FloM ValM Go.Shelf
set_option linter.unusedVariables false
set_option linter.unusedSimpArgs false
/-! ### Heads -/
def g0 (t : Tm) : Tm × Nat := (t, 0)
end Go.Proofs.Ytahljmddnfldlaa
namespace Go.Proofs.Ytahljmddnfldlaa
open Go.RowKit FloM ValM Go.Shelf
set_option linter.unusedVariables false
set_option linter.unusedSimpArgs false
/-! ### Marks -/
/-! ### Literals -/
end Go.Proofs.Ytahljmddnfldlaa
namespace Go.Proofs.Ytahljmddnfldlaa
open Go.RowKit FloM ValM Go.Shelf
set_option linter.unusedVariables false
set_option linter.unusedSimpArgs false
end Go.Proofs.Ytahljmddnfldlaa
namespace Go.Proofs.Ytahljmddnfldlaa
open Go.RowKit FloM ValM Go.Shelf
set_option linter.unusedVariables false
set_option linter.unusedSimpArgs false
/-! ### Tokens but for their places -/
/-! ### Two methods that read alike -/
section
variable {α β γ δ : Type} {π : α → γ} {ρ : β → δ}
end
/-! ### Paths -/
end Go.Proofs.Ytahljmddnfldlaa
namespace Go.Proofs.Ytahljmddnfldlaa
open Go.RowKit FloM ValM Go.Shelf
set_option linter.unusedVariables false
set_option linter.unusedSimpArgs false
end Go.Proofs.Ytahljmddnfldlaa
namespace Go.Proofs.Ytahljmddnfldlaa
open Go.RowKit FloM ValM Go.Shelf
set_option linter.unusedVariables false
set_option linter.unusedSimpArgs false
end Go.Proofs.Ytahljmddnfldlaa
namespace Go.Proofs.Ytahljmddnfldlaa
open Go.RowKit FloM ValM Go.Shelf
set_option linter.unusedVariables false
set_option linter.unusedSimpArgs false
/-! ### A text that goes on with a point, or a comma -/
/-! ### Terms of an atom, as those of a head -/
end Go.Proofs.Ytahljmddnfldlaa
namespace Go.Proofs.Ytahljmddnfldlaa
open Go.RowKit FloM ValM Go.Shelf
set_option linter.unusedVariables false
set_option linter.unusedSimpArgs false
/-! ### Texts -/
end Go.Proofs.Ytahljmddnfldlaa
namespace Go.Proofs.Ytahljmddnfldlaa
open Go.RowKit FloM ValM Go.Shelf
set_option linter.unusedVariables false
set_option linter.unusedSimpArgs false
end Go.Proofs.Ytahljmddnfldlaa
namespace Go.Proofs.Ytahljmddnfldlaa
open Go.RowKit FloM ValM Go.Shelf
set_option linter.unusedVariables false
set_option linter.unusedSimpArgs false
set_option maxRecDepth 20000 in
set_option maxHeartbeats 16000000 in
theorem same9_yes (x y : PgI) (W : World) (hx : x.rd W) (hy : y.rd W) (h : x.er = y.er) :
    Calls Try.prog 21 #[.agg #[.slice x.A x.r.length x.c, .string (bs x.q.p), .slice x.q.A x.q.a.length x.q.c], .agg #[.slice y.A y.r.length y.c, .string (bs y.q.p), .slice y.q.A y.q.a.length y.q.c]] W fun e w' => e = .returned (.bool true) ∧ Below W.heap.size W w' := by
  unfold PgI.er at h
  injection h with hrm hqm
  have hrl : x.r.length = y.r.length := by have := congrArg List.length hrm; simpa using this
  have hcW : Below W.heap.size W ((W.alloc (.cells #[.slice x.A x.r.length x.c, .string (bs x.q.p), .slice x.q.A x.q.a.length x.q.c] 47)).alloc (.cells #[.slice y.A y.r.length y.c, .string (bs y.q.p), .slice y.q.A y.q.a.length y.q.c] 47)) := ((Below.refl _ _).alloc (Nat.le_refl _) _).alloc (by simp) _
  have RP : Hid (Row 47 ((W.alloc (.cells #[.slice x.A x.r.length x.c, .string (bs x.q.p), .slice x.q.A x.q.a.length x.q.c] 47)).alloc (.cells #[.slice y.A y.r.length y.c, .string (bs y.q.p), .slice y.q.A y.q.a.length y.q.c] 47)) W.heap.size [.slice x.A x.r.length x.c, .string (bs x.q.p), .slice x.q.A x.q.a.length x.q.c]) := Lib.hid ((row_new (t := 47) W [.slice x.A x.r.length x.c, .string (bs x.q.p), .slice x.q.A x.q.a.length x.q.c]).alloc _)
  have RQ : Hid (Row 47 ((W.alloc (.cells #[.slice x.A x.r.length x.c, .string (bs x.q.p), .slice x.q.A x.q.a.length x.q.c] 47)).alloc (.cells #[.slice y.A y.r.length y.c, .string (bs y.q.p), .slice y.q.A y.q.a.length y.q.c] 47)) (W.heap.size + 1) [.slice y.A y.r.length y.c, .string (bs y.q.p), .slice y.q.A y.q.a.length y.q.c]) := Lib.hid (by have h := row_new (t := 47) (W.alloc (.cells #[.slice x.A x.r.length x.c, .string (bs x.q.p), .slice x.q.A x.q.a.length x.q.c] 47)) [.slice y.A y.r.length y.c, .string (bs y.q.p), .slice y.q.A y.q.a.length y.q.c]; rw [World.size_alloc] at h; exact h)
  have HX := Lib.hid hx; have HY := Lib.hid hy; have HRM := Lib.hid hrm; have HCW := Lib.hid hcW
  have hbn : ((x.r.length : Int) != (y.r.length : Int)) = false := by rw [hrl]; simp
  have hl1 := Nat.le_of_eq hrl; have hl2 := Nat.le_of_eq hrl.symm
  have hmb : x.r.length ≤ 9223372036854775807 := hx.1.1
  have HAT := Lib.hid (sameAtom9_yes x.q y.q _ (AmA.rd.on hx.2.2 hcW) (AmA.rd.on hy.2.2 hcW) hqm)
  clear hrm hqm hrl hcW hx hy
  obtain ⟨wc, hwc⟩ : ∃ wc, Hid (((W.alloc (.cells #[.slice x.A x.r.length x.c, .string (bs x.q.p), .slice x.q.A x.q.a.length x.q.c] 47)).alloc (.cells #[.slice y.A y.r.length y.c, .string (bs y.q.p), .slice y.q.A y.q.a.length y.q.c] 47)) = wc) := ⟨_, Lib.hid rfl⟩
  go_enter Try.func21, Try.ntmps21
  go_wp2_with (go_at_call 34; refine HAT.out.mono ?_; rintro e w5 ⟨rfl, hb5⟩; have p0' := (rowOn RP.out hb5).cell 0; have q0' := (rowOn RQ.out hb5).cell 0; simp only [List.getElem?_cons_zero] at p0' q0'; have HB5 := Lib.hid hb5; clear hb5)
  rw [hwc.out] at RP RQ HCW HB5
  clear hwc HAT
  go_loopw [24] (fun vi wr2 => ∃ j : Nat, vi = .int .i64 (j : Nat) ∧ j ≤ x.r.length ∧ Below wc.heap.size wc wr2) (fun vi _ => x.r.length - (intOf vi).toNat)
  case atStart => exact ⟨0, rfl, Nat.zero_le _, HB5.out⟩
  case round =>
    obtain ⟨j, rfl, hj, hb2⟩ := hrel
    have HB2 := Lib.hid hb2
    have h2W : Below W.heap.size W wr := on HCW.out hb2
    have H2W := Lib.hid h2W
    have rp := rowOn RP.out hb2
    have rq := rowOn RQ.out hb2
    have hz1 : W.heap.size < wr.heap.size := rp.lt
    have hz2 : W.heap.size + 1 < wr.heap.size := rq.lt
    by_cases hjlt : j < x.r.length
    · obtain ⟨u, hu⟩ : ∃ u, x.r[j]? = some u := ⟨_, List.getElem?_eq_getElem hjlt⟩
      obtain ⟨v, hv, huv⟩ := at_map HRM.out hu
      have hjlt2 : j < y.r.length := by omega
      obtain ⟨g3, o3, hA3, hg3, hc3⟩ := (RdX.on HX.out.1 h2W).2 j u hu
      obtain ⟨g4, o4, hA4, hg4, hc4⟩ := (RdX.on HY.out.1 h2W).2 j v hv
      have hur := HX.out.2.1 u (List.mem_of_getElem? hu)
      have hvr := HY.out.2.1 v (List.mem_of_getElem? hv)
      have HSR : Hid (∀ V, Below W.heap.size W V → Calls Try.prog 24 #[.agg #[.string (bs u.h.p), .slice u.h.A u.h.a.length u.h.c, .int .i64 u.f, .slice u.A u.b.length u.c], .agg #[.string (bs v.h.p), .slice v.h.A v.h.a.length v.h.c, .int .i64 v.f, .slice v.A v.b.length v.c]] V fun e w' => e = .returned (.bool true) ∧ Below V.heap.size V w') := Lib.hid fun V hV => sameRule9_yes u v V (hur.on hV) (hvr.on hV) huv
      have HS : Hid (∀ t, Below wr.heap.size wr t → (Below wr.heap.size wr t ∧ t.cell? ⟨W.heap.size, 0, none⟩ = some (.slice (some ⟨g3, o3, none⟩) x.r.length x.c) ∧ t.cell? ⟨W.heap.size + 1, 0, none⟩ = some (.slice (some ⟨g4, o4, none⟩) y.r.length y.c) ∧ t.cell? ⟨g3, o3 + j * 4, none⟩ = some (.string (bs u.h.p)) ∧ t.cell? ⟨g3, o3 + j * 4 + 1, none⟩ = some (.slice u.h.A u.h.a.length u.h.c) ∧ t.cell? ⟨g3, o3 + j * 4 + 2, none⟩ = some (.int .i64 u.f) ∧ t.cell? ⟨g3, o3 + j * 4 + 3, none⟩ = some (.slice u.A u.b.length u.c) ∧ t.cell? ⟨g4, o4 + j * 4, none⟩ = some (.string (bs v.h.p)) ∧ t.cell? ⟨g4, o4 + j * 4 + 1, none⟩ = some (.slice v.h.A v.h.a.length v.h.c) ∧ t.cell? ⟨g4, o4 + j * 4 + 2, none⟩ = some (.int .i64 v.f) ∧ t.cell? ⟨g4, o4 + j * 4 + 3, none⟩ = some (.slice v.A v.b.length v.c))) := Lib.hid fun t ht => ⟨ht, by rw [(rowOn rp ht).cell 0, ← hA3]; rfl, by rw [(rowOn rq ht).cell 0, ← hA4]; rfl, (keep ht _ _ hg3).trans (hc3 0 _ rfl), (keep ht _ _ hg3).trans (hc3 1 _ rfl), (keep ht _ _ hg3).trans (hc3 2 _ rfl), (keep ht _ _ hg3).trans (hc3 3 _ rfl), (keep ht _ _ hg4).trans (hc4 0 _ rfl), (keep ht _ _ hg4).trans (hc4 1 _ rfl), (keep ht _ _ hg4).trans (hc4 2 _ rfl), (keep ht _ _ hg4).trans (hc4 3 _ rfl)⟩
      have h4 : Below wr.heap.size wr wr.drew := (Below.refl _ _).drew
      clear hu hv huv hA3 hA4 hc3 hc4 hb2 h2W rp rq hur hvr
      go_upto_region 6 with fail
      go_region_held3 (fun t => Below wr.heap.size wr t ∧ t.cell? ⟨W.heap.size, 0, none⟩ = some (.slice (some ⟨g3, o3, none⟩) x.r.length x.c) ∧ t.cell? ⟨W.heap.size + 1, 0, none⟩ = some (.slice (some ⟨g4, o4, none⟩) y.r.length y.c) ∧ t.cell? ⟨g3, o3 + j * 4, none⟩ = some (.string (bs u.h.p)) ∧ t.cell? ⟨g3, o3 + j * 4 + 1, none⟩ = some (.slice u.h.A u.h.a.length u.h.c) ∧ t.cell? ⟨g3, o3 + j * 4 + 2, none⟩ = some (.int .i64 u.f) ∧ t.cell? ⟨g3, o3 + j * 4 + 3, none⟩ = some (.slice u.A u.b.length u.c) ∧ t.cell? ⟨g4, o4 + j * 4, none⟩ = some (.string (bs v.h.p)) ∧ t.cell? ⟨g4, o4 + j * 4 + 1, none⟩ = some (.slice v.h.A v.h.a.length v.h.c) ∧ t.cell? ⟨g4, o4 + j * 4 + 2, none⟩ = some (.int .i64 v.f) ∧ t.cell? ⟨g4, o4 + j * 4 + 3, none⟩ = some (.slice v.A v.b.length v.c))
        (exact HS.out _ (by first | exact Below.refl _ _ | exact h4))
        ((go_at_call 24; refine (HSR.out _ (on H2W.out h4)).mono ?_; rintro e w3 ⟨rfl, hb3⟩; replace h4 := on h4 hb3; clear hb3))
      all_goals
        go_wp2
        go_roundw
        case rel => exact ⟨j + 1, by go_num, by omega, on HB2.out h4⟩
        case measure => simp [intOf]; omega
    · obtain rfl : j = x.r.length := by omega
      go_wp2
      go_ret
      exact ⟨rfl, H2W.out⟩
/-! ### What was read -/
theorem RdX.map {β γ : Type} {sz : Nat} {cl : β → List Value} {cl' : γ → List Value} {f : β → γ} (hf : ∀ x, cl' (f x) = cl x) {W : World} {A : Option Addr} {l : List β} (h : RdX sz cl W A l) : RdX sz cl' W A (l.map f) := ⟨by rw [List.length_map]; exact h.1, fun i x hx => by
  rw [List.getElem?_map, Option.map_eq_some_iff] at hx
  obtain ⟨y, hy, rfl⟩ := hx
  obtain ⟨b, o, e, hl, hc⟩ := h.2 i y hy
  exact ⟨b, o, e, hl, fun j v hj => hc j v (by rw [hf] at hj; exact hj)⟩⟩
end Go.Proofs.Ytahljmddnfldlaa
namespace Go.Proofs.Ytahljmddnfldlaa
open Go.RowKit Go.ChangeShapes Go.WideShapes Go.ChangeAt Go.Joins Go.Deep Go.ChangeMaps
section
variable {H : Type} {enc : TypeId × Value → H} {w : World} {base : Nat} {spare : Nat → Bool} {held : Bool}
end
end Go.Proofs.Ytahljmddnfldlaa
namespace Go.Proofs.Ytahljmddnfldlaa
open Go.RowKit Go.ChangeShapes Go.WideShapes Go.ChangeAt Go.Joins Go.Deep Go.ChangeMaps
set_option linter.unusedVariables false
set_option linter.unusedSimpArgs false
section
variable {H : Type} {enc : TypeId × Value → H} {w : World} {base : Nat} {spare : Nat → Bool} {held : Bool}
theorem cell_lt {w : World} {a : Addr} {v : Value} (h : w.cell? a = some v) : a.block < w.heap.size := by
  rcases Nat.lt_or_ge a.block w.heap.size with hl | hl
  · exact hl
  · simp [World.cell?, Array.getElem?_eq_none hl] at h
theorem add_spot {a : Addr} (h : a.spot = none) (n : Nat) : a.add n = ⟨a.block, a.off + n, none⟩ := by
  unfold Addr.add; split
  · rename_i e; subst e; cases a; simp_all
  · rfl
/-- A slice whose elements are told by an opener of their own. -/
theorem rows_trod {β : Type} [Inhabited β] {T E : TypeId} (hu : Try.prog.underlying T = some (.slice E)) {sz : Nat} (hC : Try.prog.cellsOf E = sz) (hsz : 0 < sz) (cl : β → List Value) (ok : β → Prop) (hlen : ∀ u, (cl u).length = sz)
    (hel : ∀ (n : Nat) (cs : List Value) (x : DataW H × List MemPlace), cs.length = sz → DataW.trod enc Try.prog w base spare held n E cs = some x → ∃ u : β, cs = cl u ∧ ok u)
    {fuel : Nat} {cs : List Value} {x : DataW H × List MemPlace} (hf : DataW.trod enc Try.prog w base spare held fuel T cs = some x) :
    ∃ (A : Option Addr) (c : Nat) (l : List β), cs = [.slice A l.length c] ∧ RdX sz cl w A l ∧ (∀ u ∈ l, ok u) ∧ l.length ≤ c := by
  rcases open_slice hu hf with ⟨hcs, _⟩ | ⟨a, len, cap, m, n, D, Pl, hcs, _, hl, hm, hmm, _, hi⟩
  · exact ⟨none, 0, [], by simpa using hcs, ⟨Nat.zero_le _, fun i x hx => by simp at hx⟩, fun u hu => (by cases hu), Nat.le_refl _⟩
  · have hlm : len ≤ m := by rw [hmm]; split <;> omega
    obtain ⟨f, hff⟩ := choose_lt (p := fun i (u : β) => (∀ j x, (cl u)[j]? = some x → w.cell? (a.add (i * sz + j)) = some x) ∧ ok u) (n := len) (fun i hin => by
      obtain ⟨cs', hc, ht'⟩ := hi i (by omega)
      rw [hC] at hc
      obtain ⟨_, hcl, hat⟩ := World.cells?_some hc
      obtain ⟨u, rfl, h1⟩ := hel _ _ _ hcl ht'
      refine ⟨u, fun j x hj => ?_, h1⟩
      have hjl := (List.getElem?_eq_some_iff.1 hj).1
      have := hat j (by rw [hlen] at hjl; omega)
      rw [Go.Deep.add_add] at this
      rw [this, hj])
    refine ⟨some a, cap, (List.range len).map f, by simpa using hcs, ⟨by simpa using Nat.le_trans hl hm, fun i u hu => ?_⟩, fun u hu => ?_, by simpa using hl⟩
    · rw [List.getElem?_map, Option.map_eq_some_iff] at hu
      obtain ⟨j, hj, rfl⟩ := hu
      obtain ⟨hlj, hj⟩ := List.getElem?_eq_some_iff.1 hj
      rw [List.getElem_range] at hj; subst hj
      rw [List.length_range] at hlj
      have hz : ∀ u : β, ∃ x, (cl u)[0]? = some x := fun u => ⟨_, List.getElem?_eq_getElem (by rw [hlen]; exact hsz)⟩
      have hsp : a.spot = none := by
        obtain ⟨x, hx⟩ := hz (f 0)
        have := (hff 0 (by omega)).1 0 x hx
        exact World.cell?_spot (by simpa [Addr.add] using this)
      obtain ⟨ab, ao, asp⟩ := a
      simp only at hsp; subst hsp
      refine ⟨ab, ao, rfl, ?_, fun j x hx => ?_⟩
      · obtain ⟨x, hx⟩ := hz (f i)
        have h0 := (hff i hlj).1 0 x hx
        rw [add_spot rfl] at h0
        exact cell_lt h0
      · have h0 := (hff i hlj).1 j x hx
        rw [add_spot rfl] at h0
        rw [Nat.add_assoc]
        exact h0
    · rw [List.mem_map] at hu
      obtain ⟨i, hi', rfl⟩ := hu
      rw [List.mem_range] at hi'
      exact (hff i hi').2
theorem fields2 {P : Program} {t : TypeId} {f0 f1 : Field} (hs : P.underlying t = some (.struct #[f0, f1])) (hone : oneCellFields P #[f0, f1] = true) {n : Nat} {c0 c1 : Value} {x : DataW H × List MemPlace}
    (h : DataW.trod enc P w base spare held n t [c0, c1] = some x) :
    ∃ m y0 y1, DataW.trod enc P w base spare held m f0.type [c0] = some y0 ∧ DataW.trod enc P w base spare held m f1.type [c1] = some y1 := by
  obtain ⟨xs, m, _, hx, _, hlen, hg⟩ := DataW.trod_struct hs h
  obtain ⟨o0, k0⟩ := hone_of hone 0 f0 rfl
  obtain ⟨o1, k1⟩ := hone_of hone 1 f1 rfl
  match xs, hlen with
  | [y0, y1], _ =>
    exact ⟨m, y0, y1, by simpa [o0, k0] using hg 0 f0 rfl, by simpa [o1, k1] using hg 1 f1 rfl⟩
instance : Inhabited SI := ⟨(0, ByteArray.empty)⟩
def SiOk (s : SI) : Prop := s.2.size ≤ maxLen ∧ Fits s.1
theorem cells_si {n : Nat} {cs : List Value} {x : DataW H × List MemPlace} (hl : cs.length = 2) (h : DataW.trod enc Try.prog w base spare held n 92 cs = some x) :
    ∃ s : SI, cs = siC s ∧ SiOk s := by
  match cs, hl with
  | [c0, c1], _ =>
    obtain ⟨m, y0, y1, h0, h1⟩ := fields2 Try.underlying92 (by kernel_rfl) h
    obtain ⟨k, e0, _, w0⟩ := DataW.trod_int Try.underlying3 h0
    obtain ⟨s, e1, _, w1⟩ := DataW.trod_string Try.underlying9 h1
    injection e0 with e0; injection e1 with e1
    subst e0 e1
    exact ⟨(k, s), rfl, w1, fits_of w0⟩
/-- A parameter of type []api.Step reads as a list of steps. -/
theorem open_steps {v : Value} {d : DataW H} {p : List MemPlace} (hok : ∃ A n c, v = .slice A n c) (h : DataW.Trod enc Try.prog w base spare held 41 v d p) :
    ∃ (A : Option Addr) (c : Nat) (l : List SI), v = .slice A l.length c ∧ RdX 2 siC w A l ∧ (∀ s ∈ l, SiOk s) ∧ l.length ≤ c := by
  obtain ⟨A0, n0, c0, rfl⟩ := hok
  obtain ⟨fuel, hf⟩ := h
  obtain ⟨A, c, l, e, h1, h2, h3⟩ := rows_trod Try.underlying41 (sz := 2) (by kernel_rfl) (by decide) siC SiOk (fun _ => rfl) (fun n cs x => cells_si) hf
  simp [Value.cells] at e
  obtain ⟨rfl, rfl, rfl⟩ := e
  exact ⟨_, _, l, rfl, h1, h2, h3⟩
theorem trodAll_on {P : Program} {w w' : World} : ∀ {ts : List TypeId} {vs : List Value} {ds : List (DataW H)} {ps : List MemPlace}, DataW.TrodAll enc P w base spare held ts vs ds ps → (∀ p ∈ ps, w.sameAt w' p) → DataW.TrodAll enc P w' base spare held ts vs ds ps
  | [], [], [], _, h, _ => h
  | _ :: _, _ :: _, _ :: _, _, ⟨p, q, ⟨n, h1⟩, h2, e⟩, hs => ⟨p, q, ⟨n, DataW.trod_carry n _ _ _ h1 fun x hx => hs x (by rw [e]; exact List.mem_append_left _ hx)⟩, trodAll_on h2 fun x hx => hs x (by rw [e]; exact List.mem_append_right _ hx), e⟩
theorem kidsT : Kids Try.prog (· < Try.prog.types.size) := kids_rows (by kernel_rfl) (by kernel_rfl)
theorem fullT : ∀ t e, t < Try.prog.types.size → Try.prog.underlying t = some (.slice e) → 0 < Try.prog.cellsOf e := slices_full_of Try.prog (by kernel_rfl)
/-- The end of a law (no variable is named) that has left all old memory as it was and says that its arguments read as they did. -/
theorem post_old {H : Type} {enc : TypeId × Value → H} {f : Func} {s : ChangeSpec} {W W' : World} {args : Array Value} {v : Value} {ds : List (DataW H)} {before : List MemPlace}
    (hW : DataW.Whole enc Try.prog f.params.toList s.vars false W args.toList ds [] before)
    (hA : DataW.TrodAll enc Try.prog W 0 (fun _ => true) true f.params.toList args.toList ds before) (hT : ∀ t ∈ f.params.toList, t < Try.prog.types.size)
    (hr : ∀ (b : Nat) (sp : Nat → Bool) (hd : Bool), DataW.TrodAll enc Try.prog W' b sp hd f.resultTypes.toList (v.resultList f.resultTypes.size) (s.fn H (ds ++ [])).results [])
    (ha : (s.fn H (ds ++ [])).args = ds) (hv : ∀ sp : Nat → Bool, DataW.TrodVars enc Try.prog W' sp s.vars (s.fn H (ds ++ [])).vars []) (hb : Below W.heap.size W W') :
    s.post enc Try.prog f false true false false W args v W' := by
  have hlt := hW.lt
  refine ⟨ds, [], before, [], before, [], hW, hr _ _ _, ?_, hv _, World.keptBut_mono (fun p hp => ⟨hp, .inr (.inl hp)⟩) (hb.frame (· ∈ before)), fun h => by cases h⟩
  rw [ha]
  exact DataW.TrodAll.respare kidsT fullT hT (trodAll_on hA fun p hp => hb.same (hlt p hp)) fun p hp => by simpa using hlt p hp
end
end Go.Proofs.Ytahljmddnfldlaa
namespace Go.Proofs.Ytahljmddnfldlaa
open Go.RowKit Go.ChangeShapes Go.WideShapes Go.ChangeAt Go.Joins Go.Deep Go.ChangeMaps FloM ValM
set_option linter.unusedVariables false
set_option linter.unusedSimpArgs false
section
variable {H : Type} {enc : TypeId × Value → H} {w : World} {base : Nat} {spare : Nat → Bool} {held : Bool}
theorem field_of {P : Program} {t : TypeId} {fs : Array Field} (hs : P.underlying t = some (.struct fs)) {n : Nat} {cs : List Value} {x : DataW H × List MemPlace} (h : DataW.trod enc P w base spare held n t cs = some x) :
    ∃ m, ∀ (i : Nat) (f : Field), fs[i]? = some f → ∃ y, DataW.trod enc P w base spare held m f.type ((cs.drop f.offset).take (P.cellsOf f.type)) = some y := by
  obtain ⟨xs, m, _, hx, _, hlen, hg⟩ := DataW.trod_struct hs h
  refine ⟨m, fun i f hf => ?_⟩
  have hi : i < xs.length := by rw [hlen]; exact (Array.getElem?_eq_some_iff.1 hf).1
  exact ⟨xs[i], by rw [hg i f hf, List.getElem?_eq_getElem hi]⟩
theorem field_at {P : Program} {fs : Array Field} {m : Nat} {cs : List Value} (hf : ∀ (i : Nat) (f : Field), fs[i]? = some f → ∃ y, DataW.trod enc P w base spare held m f.type ((cs.drop f.offset).take (P.cellsOf f.type)) = some y) (i : Nat) (T : TypeId) (o k : Nat) (hi : (fs[i]?).map (fun f => (f.type, f.offset)) = some (T, o)) (hk : P.cellsOf T = k) :
    ∃ y, DataW.trod enc P w base spare held m T ((cs.drop o).take k) = some y := by
  cases h : fs[i]? with
  | none => rw [h] at hi; cases hi
  | some f =>
    rw [h] at hi
    injection hi with hi; injection hi with h1 h2
    obtain ⟨y, hy⟩ := hf i f h
    rw [h1, h2, hk] at hy
    exact ⟨y, hy⟩
theorem cellsOf_s : Try.prog.cellsOf 9 = 1 := by kernel_rfl
theorem cellsOf_i : Try.prog.cellsOf 3 = 1 := by kernel_rfl
theorem cellsOf_v : Try.prog.cellsOf 38 = 3 := by kernel_rfl
theorem cellsOf_tm : Try.prog.cellsOf 40 = 4 := by kernel_rfl
theorem cellsOf_ts : Try.prog.cellsOf 34 = 1 := by kernel_rfl
theorem cellsOf_am : Try.prog.cellsOf 36 = 2 := by kernel_rfl
theorem cellsOf_st : Try.prog.cellsOf 41 = 1 := by kernel_rfl
theorem cellsOf_li : Try.prog.cellsOf 43 = 17 := by kernel_rfl
theorem cellsOf_ls : Try.prog.cellsOf 22 = 1 := by kernel_rfl
theorem cellsOf_rl : Try.prog.cellsOf 55 = 4 := by kernel_rfl
theorem cellsOf_rs : Try.prog.cellsOf 45 = 1 := by kernel_rfl
theorem cells_v3 {n : Nat} {c0 c1 c2 : Value} {x : DataW H × List MemPlace} (h : DataW.trod enc Try.prog w base spare held n 38 [c0, c1, c2] = some x) :
    ∃ v : V, c0 = .int .i64 v.k ∧ c1 = .int .i64 v.n ∧ c2 = .string v.s ∧ Fits v.n ∧ v.s.size ≤ maxLen := by
  obtain ⟨m, hf⟩ := field_of Try.underlying38 h
  obtain ⟨y0, h0⟩ := field_at hf 0 3 0 1 rfl cellsOf_i
  obtain ⟨y1, h1⟩ := field_at hf 1 2 1 1 rfl (by kernel_rfl)
  obtain ⟨y2, h2⟩ := field_at hf 2 9 2 1 rfl cellsOf_s
  obtain ⟨k, e0, _, w0⟩ := DataW.trod_int Try.underlying3 h0
  obtain ⟨n, e1, _, w1⟩ := DataW.trod_int Try.underlying2 h1
  obtain ⟨s, e2, _, w2⟩ := DataW.trod_string Try.underlying9 h2
  simp at e0 e1 e2
  exact ⟨⟨k, n, s⟩, e0, e1, e2, fits_of w1, w2⟩
theorem cells_tm {n : Nat} {cs : List Value} {x : DataW H × List MemPlace} (hl : cs.length = 4) (h : DataW.trod enc Try.prog w base spare held n 40 cs = some x) : ∃ t : Tm, cs = tmC t ∧ TmOk t := by
  match cs, hl with
  | [c0, c1, c2, c3], _ =>
    obtain ⟨m, hf⟩ := field_of Try.underlying40 h
    obtain ⟨y0, h0⟩ := field_at hf 0 9 0 1 rfl cellsOf_s
    obtain ⟨y1, h1⟩ := field_at hf 1 38 1 3 rfl cellsOf_v
    obtain ⟨s, e0, _, w0⟩ := DataW.trod_string Try.underlying9 h0
    simp at e0
    obtain ⟨v, f0, f1, f2, g1, g2⟩ := cells_v3 h1
    subst e0 f0 f1 f2
    refine ⟨⟨ls s, v⟩, by simp [tmC, bs_ls], ?_, g2, g1⟩
    rw [ls_len]; exact w0
instance : Inhabited Tm := ⟨⟨[], v0⟩⟩
instance : Inhabited AmA := ⟨⟨[], none, 0, []⟩⟩
instance : Inhabited LtI := ⟨⟨0, default, [], default, default, default, none, 0, []⟩⟩
instance : Inhabited RlI := ⟨⟨default, 0, none, 0, []⟩⟩
theorem cells_am {n : Nat} {c0 c1 : Value} {x : DataW H × List MemPlace} (h : DataW.trod enc Try.prog w base spare held n 36 [c0, c1] = some x) : ∃ y : AmA, c0 = .string (bs y.p) ∧ c1 = .slice y.A y.a.length y.c ∧ y.rd w ∧ AmOk y := by
  obtain ⟨m, hf⟩ := field_of Try.underlying36 h
  obtain ⟨y0, h0⟩ := field_at hf 0 9 0 1 rfl cellsOf_s
  obtain ⟨y1, h1⟩ := field_at hf 1 34 1 1 rfl cellsOf_ts
  obtain ⟨s, e0, _, w0⟩ := DataW.trod_string Try.underlying9 h0
  simp at e0
  obtain ⟨A, c, l, e1, r1, r2, _⟩ := rows_trod Try.underlying34 (sz := 4) cellsOf_tm (by decide) tmC TmOk (fun _ => rfl) (fun n cs x => cells_tm) h1
  simp at e1
  subst e0 e1
  exact ⟨⟨ls s, A, c, l⟩, by simp [bs_ls], rfl, r1, by show (ls s).length ≤ maxLen; rw [ls_len]; exact w0, r2⟩
def LtOk (w : World) (x : LtI) : Prop := x.rd w ∧ x.ok ∧ Fits x.k
theorem cells_lt {n : Nat} {cs : List Value} {x : DataW H × List MemPlace} (hl : cs.length = 17) (h : DataW.trod enc Try.prog w base spare held n 43 cs = some x) : ∃ y : LtI, cs = ltIC y ∧ LtOk w y := by
  match cs, hl with
  | [c0, c1, c2, c3, c4, c5, c6, c7, c8, c9, c10, c11, c12, c13, c14, c15, c16], _ =>
    obtain ⟨m, hf⟩ := field_of Try.underlying43 h
    obtain ⟨y0, h0⟩ := field_at hf 0 3 0 1 rfl cellsOf_i
    obtain ⟨y1, h1⟩ := field_at hf 1 36 1 2 rfl cellsOf_am
    obtain ⟨y2, h2⟩ := field_at hf 2 9 3 1 rfl cellsOf_s
    obtain ⟨y3, h3⟩ := field_at hf 3 40 4 4 rfl cellsOf_tm
    obtain ⟨y4, h4⟩ := field_at hf 4 40 8 4 rfl cellsOf_tm
    obtain ⟨y5, h5⟩ := field_at hf 5 40 12 4 rfl cellsOf_tm
    obtain ⟨y6, h6⟩ := field_at hf 6 41 16 1 rfl cellsOf_st
    obtain ⟨k, e0, _, w0⟩ := DataW.trod_int Try.underlying3 h0
    simp at e0
    obtain ⟨am, a0, a1, a2, a3⟩ := cells_am h1
    obtain ⟨o, e2, _, w2⟩ := DataW.trod_string Try.underlying9 h2
    simp at e2
    obtain ⟨ta, t0, g0⟩ := cells_tm (cs := [c4, c5, c6, c7]) rfl h3
    obtain ⟨tb, t1, g1⟩ := cells_tm (cs := [c8, c9, c10, c11]) rfl h4
    obtain ⟨tc, t2, g2⟩ := cells_tm (cs := [c12, c13, c14, c15]) rfl h5
    obtain ⟨A, c, l, e6, r1, r2, _⟩ := rows_trod Try.underlying41 (sz := 2) (by kernel_rfl) (by decide) siC SiOk (fun _ => rfl) (fun n cs x => cells_si) h6
    simp at e6
    simp only [tmC, List.cons.injEq, and_true] at t0 t1 t2
    obtain ⟨t00, t01, t02, t03⟩ := t0
    obtain ⟨t10, t11, t12, t13⟩ := t1
    obtain ⟨t20, t21, t22, t23⟩ := t2
    subst e0 a0 a1 e2 t00 t01 t02 t03 t10 t11 t12 t13 t20 t21 t22 t23 e6
    refine ⟨⟨k, am, ls o, ta, tb, tc, A, c, l⟩, by simp [ltIC, bs_ls], ⟨a2, r1⟩, ⟨a3, by show (ls o).length ≤ maxLen; rw [ls_len]; exact w2, g0, g1, g2, fun s hs => (r2 s hs).1⟩, fits_of w0⟩
def RlOk (w : World) (x : RlI) : Prop := x.rd w ∧ x.ok
theorem cells_rl {n : Nat} {cs : List Value} {x : DataW H × List MemPlace} (hl : cs.length = 4) (h : DataW.trod enc Try.prog w base spare held n 55 cs = some x) : ∃ y : RlI, cs = rlIC y ∧ RlOk w y := by
  match cs, hl with
  | [c0, c1, c2, c3], _ =>
    obtain ⟨m, hf⟩ := field_of Try.underlying55 h
    obtain ⟨y0, h0⟩ := field_at hf 0 36 0 2 rfl cellsOf_am
    obtain ⟨y1, h1⟩ := field_at hf 1 3 2 1 rfl cellsOf_i
    obtain ⟨y2, h2⟩ := field_at hf 2 22 3 1 rfl cellsOf_ls
    obtain ⟨am, a0, a1, a2, a3⟩ := cells_am h0
    obtain ⟨k, e1, _, w1⟩ := DataW.trod_int Try.underlying3 h1
    simp at e1
    obtain ⟨A, c, l, e2, r1, r2, _⟩ := rows_trod Try.underlying22 (sz := 17) cellsOf_li (by decide) ltIC (LtOk w) (fun _ => rfl) (fun n cs x => cells_lt) h2
    simp at e2
    subst a0 a1 e1 e2
    exact ⟨⟨am, k, A, c, l⟩, rfl, ⟨a2, r1, fun y hy => (r2 y hy).1⟩, ⟨a3, fits_of w1, fun y hy => (r2 y hy).2.1⟩⟩
/-- A parameter of type api.Program. -/
theorem open_prog {v : Value} {d : DataW H} {p : List MemPlace} (hok : ∃ c, v = .agg c ∧ c.size = Try.prog.cellsOf 47) (h : DataW.Trod enc Try.prog w base spare held 47 v d p) :
    ∃ x : PgI, v = .agg #[.slice x.A x.r.length x.c, .string (bs x.q.p), .slice x.q.A x.q.a.length x.q.c] ∧ x.rd w ∧ x.ok := by
  obtain ⟨cs0, rfl, hsz⟩ := hok
  obtain ⟨fuel, hf⟩ := h
  have hl : (Value.agg cs0).cells.toList.length = 3 := by
    simp only [Value.cells, Array.length_toList]
    rw [hsz]; kernel_rfl
  simp only [Value.cells] at hf hl
  match hc : cs0.toList, hl with
  | [c0, c1, c2], _ =>
    rw [hc] at hf
    obtain ⟨m, hfs⟩ := field_of Try.underlying47 hf
    obtain ⟨y0, h0⟩ := field_at hfs 0 45 0 1 rfl cellsOf_rs
    obtain ⟨y1, h1⟩ := field_at hfs 1 36 1 2 rfl cellsOf_am
    obtain ⟨A, c, l, e0, r1, r2, _⟩ := rows_trod Try.underlying45 (sz := 4) cellsOf_rl (by decide) rlIC (RlOk w) (fun _ => rfl) (fun n cs x => cells_rl) h0
    simp at e0
    obtain ⟨am, a0, a1, a2, a3⟩ := cells_am h1
    subst e0 a0 a1
    refine ⟨⟨A, c, l, am⟩, ?_, ⟨r1, fun y hy => (r2 y hy).1, a2⟩, ⟨fun y hy => (r2 y hy).2, a3⟩⟩
    have : cs0 = [Value.slice A l.length c, .string (bs am.p), .slice am.A am.a.length am.c].toArray := by rw [← hc]
    rw [this]
end
end Go.Proofs.Ytahljmddnfldlaa
namespace Go.Proofs.Ytahljmddnfldlaa
open Go.RowKit FloM ValM Go.Shelf
set_option linter.unusedVariables false
set_option linter.unusedSimpArgs false
def AnyB (W : World) (e : Ending) (w' : World) : Prop := ∃ b, e = .returned (.bool b) ∧ Below W.heap.size W w'
set_option maxRecDepth 20000 in
set_option maxHeartbeats 8000000 in
theorem few9_any (x : PgI) (W : World) (hx : x.rd W) :
    Calls Try.prog 18 #[.agg #[.slice x.A x.r.length x.c, .string (bs x.q.p), .slice x.q.A x.q.a.length x.q.c], .int .i64 12, .int .i64 14] W (AnyB W) := by
  have hm1 : x.r.length ≤ 9223372036854775807 := Nat.le_trans hx.1.1 (by decide)
  have hm2 : x.q.a.length ≤ 9223372036854775807 := Nat.le_trans hx.2.2.1 (by decide)
  have hb1 : Below W.heap.size W (W.alloc (.cells #[.slice x.A x.r.length x.c, .string (bs x.q.p), .slice x.q.A x.q.a.length x.q.c] 47)) := (Below.refl _ _).alloc (Nat.le_refl _) _
  have HB1 := Lib.hid hb1
  have HX := Lib.hid hx
  have HRow := Lib.hid (row_new (t := 47) W [.slice x.A x.r.length x.c, .string (bs x.q.p), .slice x.q.A x.q.a.length x.q.c])
  clear hx hb1
  obtain ⟨A, c, rs, ⟨p, Aq, cq, a⟩⟩ := x
  simp only at *
  by_cases h12 : (12 : Int) < (rs.length : Int)
  · go_enter Try.func18, Try.ntmps18
    go_wp2
    go_ret
    exact ⟨_, rfl, HB1.out⟩
  by_cases h10 : (10 : Int) < (a.length : Int)
  · go_enter Try.func18, Try.ntmps18
    go_wp2
    go_ret
    exact ⟨_, rfl, HB1.out⟩
  have hr12 : rs.length ≤ 12 := by omega
  go_enter Try.func18, Try.ntmps18
  go_wp2
  go_loopw [7, 26] (fun sv vi wr => ∃ k s : Nat, vi = .int .i64 (k : Nat) ∧ k ≤ rs.length ∧ sv = .int .i64 (s : Nat) ∧ s ≤ 60 ∧ Below (W.alloc (.cells #[.slice A rs.length c, .string (bs p), .slice Aq a.length cq] 47)).heap.size (W.alloc (.cells #[.slice A rs.length c, .string (bs p), .slice Aq a.length cq] 47)) wr) (fun _ v _ => rs.length - (intOf v).toNat)
  case atStart => exact ⟨0, 0, rfl, Nat.zero_le _, rfl, Nat.zero_le _, Below.refl _ _⟩
  case round =>
    obtain ⟨k, s, rfl, hk, rfl, hs60, hb⟩ := hrel
    have HB := Lib.hid hb
    have hbW : Below W.heap.size W wr := on HB1.out hb
    have HBW := Lib.hid hbW
    have p0 := (rowOn HRow.out hb).cell 0
    simp only [List.getElem?_cons_zero] at p0
    by_cases hlt : k < rs.length
    · obtain ⟨y, hy⟩ : ∃ y, rs[k]? = some y := ⟨_, List.getElem?_eq_getElem hlt⟩
      obtain ⟨b, o, rfl, hbl, hc⟩ := (HX.out.1.on hbW).2 k y hy
      have x0 := hc 0 _ rfl; have x1 := hc 1 _ rfl; have x2 := hc 2 _ rfl; have x3 := hc 3 _ rfl
      rw [Nat.add_zero] at x0
      have hyr : y.rd W := HX.out.2.1 y (List.mem_of_getElem? hy)
      have HY := Lib.hid hyr
      have hn1 : y.b.length ≤ 9223372036854775807 := Nat.le_trans hyr.2.1.1 (by decide)
      have hn2 : y.h.a.length ≤ 9223372036854775807 := Nat.le_trans hyr.1.1 (by decide)
      clear hc hy hb hbW hyr
      obtain ⟨⟨yp, yA, yc, ya⟩, yf, bA, bc, bl⟩ := y
      simp only at *
      have HR2 := Lib.hid (row_new (t := 55) wr [.string (bs yp), .slice yA ya.length yc, .int .i64 yf, .slice bA bl.length bc])
      have HB2 : Hid (Below W.heap.size W (wr.alloc (.cells #[.string (bs yp), .slice yA ya.length yc, .int .i64 yf, .slice bA bl.length bc] 55))) := Lib.hid (HBW.out.alloc HBW.out.size _)
      have HB3 : Hid (Below (W.alloc (.cells #[.slice (some ⟨b, o, none⟩) rs.length c, .string (bs p), .slice Aq a.length cq] 47)).heap.size (W.alloc (.cells #[.slice (some ⟨b, o, none⟩) rs.length c, .string (bs p), .slice Aq a.length cq] 47)) (wr.alloc (.cells #[.string (bs yp), .slice yA ya.length yc, .int .i64 yf, .slice bA bl.length bc] 55))) := Lib.hid (HB.out.alloc HB.out.size _)
      by_cases h14 : (14 : Int) < (bl.length : Int)
      · go_wp2
        go_ret
        exact ⟨_, rfl, HB2.out⟩
      by_cases hh10 : (10 : Int) < (ya.length : Int)
      · go_wp2
        go_ret
        exact ⟨_, rfl, HB2.out⟩
      go_wp2
      go_loopw [7, 49] (fun sv vi wq => ∃ j s : Nat, vi = .int .i64 (j : Nat) ∧ j ≤ bl.length ∧ sv = .int .i64 (s : Nat) ∧ s ≤ 60 ∧ Below (wr.alloc (.cells #[.string (bs yp), .slice yA ya.length yc, .int .i64 yf, .slice bA bl.length bc] 55)).heap.size (wr.alloc (.cells #[.string (bs yp), .slice yA ya.length yc, .int .i64 yf, .slice bA bl.length bc] 55)) wq) (fun _ v _ => bl.length - (intOf v).toNat)
      case atStart => exact ⟨0, s, rfl, Nat.zero_le _, rfl, hs60, Below.refl _ _⟩
      case round =>
        obtain ⟨j, t, rfl, hj, rfl, ht60, hq⟩ := hrel
        have HQ := Lib.hid hq
        have q3 := (rowOn HR2.out hq).cell 3
        simp only [List.getElem?_cons_zero, List.getElem?_cons_succ] at q3
        by_cases hjl : j < bl.length
        · obtain ⟨z, hz⟩ : ∃ z, bl[j]? = some z := ⟨_, List.getElem?_eq_getElem hjl⟩
          obtain ⟨b2, o2, rfl, hbl2, hc2⟩ := (HY.out.2.1.on (on HB2.out hq)).2 j z hz
          have z2 := hc2 2 _ rfl
          have z16 := hc2 16 _ rfl
          have hzr : z.rd W := HY.out.2.2 z (List.mem_of_getElem? hz)
          have hn3 : z.p.length ≤ 9223372036854775807 := Nat.le_trans hzr.2.1 (by decide)
          have hn4 : z.m.a.length ≤ 9223372036854775807 := Nat.le_trans hzr.1.1 (by decide)
          generalize z.p.length = L at *
          generalize z.m.a.length = M at *
          clear hc2 hz hq hzr
          by_cases hp30 : (30 : Int) < (L : Int)
          · go_wp2
            go_ret
            exact ⟨_, rfl, on HB2.out HQ.out⟩
          by_cases ha10 : (10 : Int) < (M : Int)
          · go_wp2
            go_ret
            exact ⟨_, rfl, on HB2.out HQ.out⟩
          have hw : IntKind.i64.wrap ((t : Int) + (L : Int)) = (t : Int) + (L : Int) := by rw [IntKind.wrap_i64]; omega
          by_cases hs : (60 : Int) < (t : Int) + (L : Int)
          · go_wp2
            go_ret
            exact ⟨_, rfl, on HB2.out HQ.out⟩
          · go_wp2
            all_goals
              go_roundw
              case rel => exact ⟨j + 1, t + L, by go_num, by omega, by go_num, by omega, HQ.out⟩
              case measure => simp [intOf]; omega
        · obtain rfl : j = bl.length := by omega
          go_wp2
          all_goals
            go_roundw
            case rel => exact ⟨k + 1, t, by go_num, by omega, rfl, ht60, on HB3.out HQ.out⟩
            case measure => simp [intOf]; omega
    · obtain rfl : k = rs.length := by omega
      go_wp2
      go_ret
      exact ⟨_, rfl, HBW.out⟩
end Go.Proofs.Ytahljmddnfldlaa
namespace Go.Proofs.Ytahljmddnfldlaa
open Go.RowKit FloM ValM Go.Shelf
set_option linter.unusedVariables false
set_option linter.unusedSimpArgs false
theorem cells_back {β : Type} {cl : β → List Value} {sz : Nat} (hs : ∀ x, (cl x).length = sz) : ∀ (l : List β) (j : Nat) (u : Value), (cellsOf cl l)[j]? = some u → ∃ i x r, l[i]? = some x ∧ (cl x)[r]? = some u ∧ j = i * sz + r
  | [], j, u, h => by simp [cellsOf] at h
  | y :: l, j, u, h => by
    change (cl y ++ cellsOf cl l)[j]? = some u at h
    by_cases hj : j < (cl y).length
    · rw [List.getElem?_append_left hj] at h
      exact ⟨0, y, j, rfl, h, by omega⟩
    · rw [List.getElem?_append_right (by omega)] at h
      obtain ⟨i, x, r, h1, h2, h3⟩ := cells_back hs l _ u h
      refine ⟨i + 1, x, r, by simpa using h1, h2, ?_⟩
      have := hs y
      rw [Nat.add_mul, Nat.one_mul]; omega
theorem add_none (b o j : Nat) : (⟨b, o, none⟩ : Addr).add j = ⟨b, o + j, none⟩ := by unfold Addr.add; split <;> simp_all
section
variable {P : Program} {β : Type} {cl : β → List Value} {sz : Nat}
theorem run_appX (hcl : ∀ x, (cl x).length = sz) (h1c : ∀ x, ∀ u ∈ cl x, u.oneCell' = true) (hsz : 0 < sz) (w : World) (base : Nat) (t ty E : TypeId) (i0 : TypeInfo) (z : Value) (bytes : Nat) (ht : P.underlying t = some (.slice E)) (hi : P.info? E = some i0) (hz : i0.zero = some z) (hs : i0.size = sz) (hb : i0.bytes = bytes) (hzs : z.cells.size = sz) (hby : bytes ≤ 1000)
    (v : Value) (n : Nat) (xs : List Value) (hown : w.ownsRow base E sz v n xs) (A : Option Addr) (c : Nat) (l : List β) (hr : RdX sz cl w A l) (hn : n + l.length ≤ 1000000) (hbase : base ≤ w.heap.size) :
    ∃ v' w', (Builtin.append_ #[t, t] ty #[v, .slice A l.length c]).run P w = .ok v' w' ∧ w'.ownsRow base E sz v' (n + l.length) (xs ++ cellsOf cl l) ∧ w.grownBy w' v.ownBlock := by
  have main : ∀ (ad : Addr), (∀ j u, (cellsOf cl l)[j]? = some u → w.cell? (ad.add j) = some u) → ∃ v' w', (Builtin.append_ #[t, t] ty #[v, .slice (some ad) l.length c]).run P w = .ok v' w' ∧ w'.ownsRow base E sz v' (n + l.length) (xs ++ cellsOf cl l) ∧ w.grownBy w' v.ownBlock := by
    intro ad hnews
    obtain ⟨v', w', g1, g2, g3, _, g5⟩ := run_append_own_at (P := P) w base t ty E i0 z sz bytes ht hi hz hs hb hzs hsz v n xs hown ad l.length c (cellsOf cl l) (cellsOf_len hcl l) hnews (fun u hu => by
      obtain ⟨x, _, hx⟩ := List.mem_flatMap.1 hu
      exact h1c x u hx) (by unfold maxLen; omega) (Nat.le_trans (Nat.mul_le_mul hn hby) (by omega)) hbase
    exact ⟨v', w', g1, g2, g3⟩
  cases l with
  | nil =>
    cases A with
    | some ad => exact main ad (fun j u hu => by simp [cellsOf] at hu)
    | none =>
      refine ⟨v, w, ?_, by simpa [cellsOf] using hown, ⟨rfl, rfl, rfl, Nat.le_refl _, fun _ _ _ => rfl⟩⟩
      rcases hown.2 with ⟨rfl, rfl⟩ | ⟨g, cap, cur, rfl, _, _, hnc, _⟩
      · simp [Builtin.append_, run_underlying ht, sizeOf, typeInfo, hi, Builtin.lenOf, Builtin.firstCells]
      · simp [Builtin.append_, run_underlying ht, sizeOf, typeInfo, hi, Builtin.lenOf, Builtin.firstCells, hnc, storeCells]
  | cons x r =>
    obtain ⟨b, o, rfl, _⟩ := hr.2 0 x rfl
    refine main ⟨b, o, none⟩ fun j u hu => ?_
    obtain ⟨i, y, k, h1, h2, rfl⟩ := cells_back hcl _ j u hu
    obtain ⟨b', o', e, _, hc⟩ := hr.2 i y h1
    injection e with e; injection e with e1 e2 _; subst e1 e2
    rw [add_none, ← Nat.add_assoc]
    exact hc k u h2
theorem step_appX (hcl : ∀ x, (cl x).length = sz) (h1c : ∀ x, ∀ u ∈ cl x, u.oneCell' = true) (hsz : 0 < sz) {w : World} {o : Oper} {a : Act} {K : Act → World → Prop} {Q : Exit → Act → World → Prop} (s x : Operand) (t : TypeId)
    (ho : o.op = .call { callee := .builtin .append, args := #[s, x], argTypes := #[t, t] })
    (base : Nat) (E : TypeId) (i0 : TypeInfo) (z : Value) (bytes : Nat) (ht : P.underlying t = some (.slice E)) (hi : P.info? E = some i0) (hz : i0.zero = some z) (hs : i0.size = sz) (hb : i0.bytes = bytes) (hzs : z.cells.size = sz) (hby : bytes ≤ 1000)
    (A' : Option Addr) (n c' : Nat) (xs : List Value) (hsv : a.eval s = .slice A' n c') (hown : w.ownsRow base E sz (.slice A' n c') n xs) (A : Option Addr) (c : Nat) (l : List β) (hx : a.eval x = .slice A l.length c) (hr : RdX sz cl w A l) (hn : n + l.length ≤ 1000000) (hbase : base ≤ w.heap.size)
    (h : ∀ A2 c2 w', w'.ownsRow base E sz (.slice A2 (n + l.length) c2) (n + l.length) (xs ++ cellsOf cl l) → w.grownBy w' (Value.slice A' n c').ownBlock → K (a.put o.dst (.slice A2 (n + l.length) c2)) w') : Oper.wp P o a w K Q := by
  obtain ⟨v', w', hrun, h2, h3⟩ := run_appX (P := P) hcl h1c hsz w base t o.type E i0 z bytes ht hi hz hs hb hzs hby _ n xs hown A c l hr hn hbase
  obtain ⟨A2, c2, rfl⟩ := own_form h2
  unfold Oper.wp execOp
  simp only [ho, resolve, invoke, builtin, Sem.run_bind, Sem.run_pure, Result.andThen_ok, List.map_toArray, List.map_cons, List.map_nil, hsv, hx, hrun]
  exact h A2 c2 w' h2 h3
end
abbrev pz : List Value := [.slice none 0 0, .string ⟨#[]⟩, .slice none 0 0]
structure JA (wr : World) (n : Nat) (xs : List Value) (A : Option Addr) (c : Nat) (U : World) : Prop where
  b : Below wr.heap.size wr U
  o : U.ownsRow wr.heap.size 55 4 (.slice A n c) n xs
structure JP (wr : World) (g : Nat) (U : World) : Prop where
  ge : wr.heap.size ≤ g
  r : Row 47 U g pz
section
variable {wr U U' : World} {n g c : Nat} {xs : List Value} {A : Option Addr}
end
end Go.Proofs.Ytahljmddnfldlaa

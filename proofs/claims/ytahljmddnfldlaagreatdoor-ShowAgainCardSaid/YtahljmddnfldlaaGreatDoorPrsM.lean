/-
  Package parse, as a function of tokens: plain mathematics.
-/
import Derived.Test.YtahljmddnfldlaaGreatDoorLexG
namespace Go.Proofs.YtahljmddnfldlaaGreatDoor
open FloM ValM
set_option linter.unusedVariables false
set_option linter.unusedSimpArgs false

/-- What comes of a method of the reader: what it told and the tokens that are left, or where the text is wrong, and the error. -/
inductive Ans (α : Type) where
  | ok (x : α) (r : List Tk)
  | no (a k : Nat)
/-- A method: where the text ends, and the tokens that have not been read. -/
abbrev Ps (α : Type) := Nat → List Tk → Ans α
def Ans.bind {α β : Type} (x : Ans α) (g : α → List Tk → Ans β) : Ans β := match x with
  | .ok a r => g a r
  | .no a k => .no a k
/-- The next token; behind the last one another, without a kind. -/
def hdT (z : Nat) (ts : List Tk) : Tk := match ts with
  | [] => ⟨0, [], z⟩
  | t :: _ => t
def failP {α : Type} (k : Nat) : Ps α := fun z ts => .no (hdT z ts).a k
def needP (p : Tk → Bool) : Ps Tk := fun z ts => match ts with
  | [] => .no z 2
  | t :: r => if p t then .ok t r else .no t.a 2
def isX (m : List UInt8) (t : Tk) : Bool := t.t == m
def wantP (m : List UInt8) : Ps Tk := needP (isX m)
def predT (t : Tk) : Bool := t.k == 1 && !keyL t.t
def termT (t : Tk) : Bool := t.k == 1 || (t.k == 2 || t.k == 3)
def varT (t : Tk) : Bool := t.k == 2
def cmpT (t : Tk) : Bool := t.t == [60] || (t.t == [60, 61] || (t.t == [61] || t.t == [33, 61]))
/-- The Op of an operation's word. -/
def opL (l : List UInt8) : List UInt8 := if l = [112, 108, 117, 115] then [43] else if l = [109, 105, 110, 117, 115] then [45] else if l = [116, 105, 109, 101, 115] then [42] else []
def opT (t : Tk) : Bool := !(opL t.t == [])
def foldN (l : List UInt8) : Nat := if l = [99, 111, 117, 110, 116] then 1 else if l = [115, 117, 109] then 2 else if l = [109, 105, 110] then 3 else if l = [109, 97, 120] then 4 else if l = [109, 101, 97, 110] then 5 else 0
/-! ### Paths -/
structure St where
  k : Nat
  l : List UInt8
  deriving DecidableEq
def starK (l : List UInt8) : Option Nat := if l = [42] then some 5 else if l = [43] then some 6 else if l = [63] then some 7 else none
def starsL (acc : List St) : List Tk → List St × List Tk
  | [] => (acc, [])
  | t :: r => match starK t.t with
    | some k => starsL (acc ++ [⟨k, []⟩]) r
    | none => (acc, t :: r)
def partP (op : Ps (List St)) : Ps (List St) := fun z ts => (op z ts).bind fun s r => .ok (starsL s r).1 (starsL s r).2
def seqL (m : List UInt8) (k : Nat) (op : Ps (List St)) (z : Nat) : Nat → List St → List Tk → Ans (List St)
  | 0, acc, ts => .ok acc ts
  | n + 1, acc, ts => if (hdT z ts).t = m then (op z ts.tail).bind fun s r => seqL m k op z n (acc ++ s ++ [⟨k, []⟩]) r else .ok acc ts
/-- How many rounds a loop over tokens is given. -/
def many : Nat := 20010
def sequP (m : List UInt8) (k : Nat) (op : Ps (List St)) : Ps (List St) := fun z ts => (op z ts).bind fun s r => seqL m k op z many s r
def operP (inner : Option (Ps (List St))) : Ps (List St) := fun z ts =>
  if (hdT z ts).t = [40] then (match inner with
    | none => .no (hdT z ts).a 3
    | some f => (f z ts.tail).bind fun s r => (wantP [41] z r).bind fun _ r => .ok s r)
  else if (hdT z ts).t = [94] then (needP predT z ts.tail).bind fun t r => .ok [⟨2, t.t⟩] r
  else (needP predT z ts).bind fun t r => .ok [⟨1, t.t⟩] r
def altP (inner : Option (Ps (List St))) : Ps (List St) := sequP [47] 3 (partP (operP inner))
def pathB (inner : Option (Ps (List St))) : Ps (List St) := fun z ts => (sequP [124] 4 (altP inner) z ts).bind fun s r => if 100 < s.length then .no (hdT z ts).a 4 else .ok s r
/-- A path where so many more ( may be opened. -/
def pathP : Nat → Ps (List St)
  | 0 => pathB none
  | k + 1 => pathB (some (pathP k))
def innerP : Nat → Option (Ps (List St))
  | 0 => none
  | k + 1 => some (pathP k)
theorem pathP_eq (k : Nat) : pathP k = pathB (innerP k) := by cases k <;> rfl
/-- No method makes more steps than it takes tokens, and each makes one at least. -/
def LenOk (f : Ps (List St)) : Prop := ∀ z ts s r, f z ts = .ok s r → s.length + r.length ≤ ts.length ∧ 0 < s.length
theorem need_len {p : Tk → Bool} {z : Nat} {ts : List Tk} {t : Tk} {r : List Tk} (h : needP p z ts = .ok t r) : ts = t :: r ∧ p t = true := by
  cases ts with
  | nil => cases h
  | cons u r' =>
    unfold needP at h
    simp only at h
    split at h
    · rename_i hp; cases h; exact ⟨rfl, hp⟩
    · cases h
theorem bind_ok {α β : Type} {x : Ans α} {g : α → List Tk → Ans β} {y : β} {r : List Tk} (h : x.bind g = .ok y r) : ∃ a r', x = .ok a r' ∧ g a r' = .ok y r := by
  cases x with
  | ok a r' => exact ⟨a, r', rfl, h⟩
  | no a k => cases h
theorem hd_tail {z : Nat} {ts : List Tk} {m : List UInt8} (h : (hdT z ts).t = m) (hm : m ≠ []) : ts = hdT z ts :: ts.tail := by
  cases ts with
  | nil => exact absurd h.symm hm
  | cons t r => rfl
theorem stars_len : ∀ (ts : List Tk) (acc : List St), (starsL acc ts).1.length + (starsL acc ts).2.length = acc.length + ts.length ∧ acc.length ≤ (starsL acc ts).1.length
  | [], acc => by simp [starsL]
  | t :: r, acc => by
    unfold starsL
    split
    · rename_i k _
      have := stars_len r (acc ++ [⟨k, []⟩])
      simp at this ⊢; omega
    · simp
theorem LenOk.part {op : Ps (List St)} (h : LenOk op) : LenOk (partP op) := fun z ts s r e => by
  obtain ⟨a, r', e1, e2⟩ := bind_ok e
  have h1 := h z ts a r' e1
  have h2 := stars_len r' a
  cases e2
  omega
theorem seqL_len {m : List UInt8} {k : Nat} {op : Ps (List St)} (h : LenOk op) (hm : m ≠ []) {z : Nat} : ∀ (n : Nat) (acc : List St) (ts : List Tk) (s : List St) (r : List Tk), seqL m k op z n acc ts = .ok s r → s.length + r.length ≤ acc.length + ts.length ∧ acc.length ≤ s.length
  | 0, acc, ts, s, r, e => by cases e; exact ⟨Nat.le_refl _, Nat.le_refl _⟩
  | n + 1, acc, ts, s, r, e => by
    unfold seqL at e
    split at e
    · rename_i hh
      have ht := congrArg List.length (hd_tail hh hm)
      obtain ⟨a, r', e1, e2⟩ := bind_ok e
      have h1 := h z _ a r' e1
      have h2 := seqL_len h hm n _ r' s r e2
      simp only [List.length_cons, List.length_append, List.length_nil] at ht h1 h2
      omega
    · cases e; exact ⟨Nat.le_refl _, Nat.le_refl _⟩
theorem LenOk.sequ {m : List UInt8} {k : Nat} {op : Ps (List St)} (h : LenOk op) (hm : m ≠ []) : LenOk (sequP m k op) := fun z ts s r e => by
  obtain ⟨a, r', e1, e2⟩ := bind_ok e
  have h1 := h z ts a r' e1
  have h2 := seqL_len h hm _ _ _ _ _ e2
  omega
def LenOkI (inner : Option (Ps (List St))) : Prop := ∀ f, inner = some f → LenOk f
theorem LenOk.oper {inner : Option (Ps (List St))} (h : LenOkI inner) : LenOk (operP inner) := fun z ts s r e => by
  unfold operP at e
  split at e
  · rename_i hh
    have ht := congrArg List.length (hd_tail hh (by simp))
    cases inner with
    | none => cases e
    | some f =>
      obtain ⟨a, r1, e1, e2⟩ := bind_ok e
      obtain ⟨t, r2, e3, e4⟩ := bind_ok e2
      have h1 := h f rfl z _ a r1 e1
      have h3 := congrArg List.length (need_len e3).1
      cases e4
      simp only [List.length_cons] at ht h3
      omega
  · split at e
    · rename_i hh
      have ht := congrArg List.length (hd_tail hh (by simp))
      obtain ⟨t, r1, e1, e2⟩ := bind_ok e
      have h3 := congrArg List.length (need_len e1).1
      cases e2
      simp only [List.length_cons, List.length_nil] at ht h3 ⊢
      omega
    · obtain ⟨t, r1, e1, e2⟩ := bind_ok e
      have h3 := congrArg List.length (need_len e1).1
      cases e2
      simp only [List.length_cons, List.length_nil] at h3 ⊢
      omega
theorem LenOk.alt {inner : Option (Ps (List St))} (h : LenOkI inner) : LenOk (altP inner) := (LenOk.oper h).part.sequ (by simp)
theorem LenOk.path {inner : Option (Ps (List St))} (h : LenOkI inner) : LenOk (pathB inner) := fun z ts s r e => by
  obtain ⟨a, r1, e1, e2⟩ := bind_ok e
  have h1 := ((LenOk.alt h).sequ (m := [124]) (k := 4) (by simp)) z ts a r1 e1
  split at e2
  · cases e2
  · cases e2; exact h1
theorem lenI : ∀ k, LenOkI (innerP k)
  | 0 => fun f e => by cases e
  | k + 1 => fun f e => by
    cases e
    rw [pathP_eq]
    exact LenOk.path (lenI k)
/-! ### Terms, atoms -/
def v0 : V := ⟨0, 0, ByteArray.empty⟩
structure Tm where
  v : List UInt8
  x : V
def termOf (t : Tk) : Tm := if t.k = 2 then ⟨t.t, v0⟩ else ⟨[], (readV (bs t.t)).getD v0⟩
def termP : Ps Tm := fun z ts => (needP termT z ts).bind fun t r => .ok (termOf t) r
def headP : Ps (Tm × Nat) := fun z ts => (termP z ts).bind fun t r =>
  if foldN (hdT z ts).t = 0 ∨ (hdT z r).t ≠ [40] then .ok (t, 0) r else
  (needP varT z r.tail).bind fun t' r => (wantP [41] z r).bind fun _ r => if (hdT z r).t = [41] then .ok (⟨t'.t, v0⟩, foldN (hdT z ts).t) r else .no (hdT z r).a 2
def listL {α : Type} (most : Nat) (item : Ps α) (z : Nat) : Nat → List α → List Tk → Ans (List α)
  | 0, acc, ts => .ok acc ts
  | n + 1, acc, ts => if (hdT z ts).t = [44] then (if acc.length = most ∧ termT (hdT z ts.tail) = true then .no (hdT z ts.tail).a 4 else (item z ts.tail).bind fun x r => listL most item z n (acc ++ [x]) r) else .ok acc ts
def listP {α : Type} (most : Nat) (item : Ps α) : Ps (List α) := fun z ts => (item z ts).bind fun x r => listL most item z many [x] r
structure Am where
  p : List UInt8
  a : List Tm
/-- An atom, of whose arguments something more is told. -/
def atomB {α : Type} (arg : Ps α) : Ps (List UInt8 × List α) := fun z ts => (needP predT z ts).bind fun t r =>
  if (hdT z r).t = [40] then (listP 8 arg z r.tail).bind fun l r => (wantP [41] z r).bind fun _ r => .ok (t.t, l) r else .ok (t.t, []) r
def atomP : Ps Am := fun z ts => (atomB termP z ts).bind fun x r => .ok ⟨x.1, x.2⟩ r
/-! ### Literals, rules -/
structure Lt where
  k : Nat
  m : Am
  o : List UInt8
  a : Tm
  b : Tm
  c : Tm
  p : List St
def am0 : Am := ⟨[], []⟩
def tm0 : Tm := ⟨[], v0⟩
def compP : Ps Lt := fun z ts => (termP z ts).bind fun a r => (needP cmpT z r).bind fun o r => (termP z r).bind fun b r => .ok ⟨3, am0, o.t, a, b, tm0, []⟩ r
def letP : Ps Lt := fun z ts => (termP z ts).bind fun a r => (wantP [105, 115] z r).bind fun _ r => (termP z r).bind fun b r => (needP opT z r).bind fun o r => (termP z r).bind fun c r => .ok ⟨4, am0, opL o.t, a, b, c, []⟩ r
def walkP : Ps Lt := fun z ts => (wantP [119, 97, 108, 107] z ts).bind fun _ r => (wantP [40] z r).bind fun _ r => (termP z r).bind fun a r => (wantP [44] z r).bind fun _ r => (pathP 32 z r).bind fun p r => (wantP [44] z r).bind fun _ r => (termP z r).bind fun b r => (wantP [41] z r).bind fun _ r => .ok ⟨5, am0, [], a, b, tm0, p⟩ r
def litP : Ps Lt := fun z ts =>
  if cmpT (hdT z ts.tail) = true then compP z ts
  else if varT (hdT z ts) = true ∧ (hdT z ts.tail).t = [105, 115] then letP z ts
  else if (hdT z ts).t = [110, 111, 116] then (wantP [110, 111, 116] z ts).bind fun _ r => (atomP z r).bind fun m r => .ok ⟨2, m, [], tm0, tm0, tm0, []⟩ r
  else if (hdT z ts).t = [119, 97, 108, 107] then walkP z ts
  else if predT (hdT z ts) = true then (atomP z ts).bind fun m r => .ok ⟨1, m, [], tm0, tm0, tm0, []⟩ r
  else compP z ts
structure Rl where
  h : Am
  f : Nat
  b : List Lt
def ruleP : Ps Rl := fun z ts => (atomB headP z ts).bind fun h r =>
  if (hdT z r).t = [58, 45] then (listP 12 litP z r.tail).bind fun b r => (wantP [46] z r).bind fun _ r => .ok ⟨⟨h.1, h.2.map Prod.fst⟩, (h.2.getLast?.map Prod.snd).getD 0, b⟩ r
  else (wantP [46] z r).bind fun _ r => .ok ⟨⟨h.1, h.2.map Prod.fst⟩, (h.2.getLast?.map Prod.snd).getD 0, []⟩ r
structure Pg where
  r : List Rl
  q : Am
def rulesL (z : Nat) : Nat → List Rl → List Tk → Ans (List Rl)
  | 0, acc, ts => .ok acc ts
  | n + 1, acc, ts => if predT (hdT z ts) = true then (if acc.length = 200 then .no (hdT z ts).a 4 else (ruleP z ts).bind fun x r => rulesL z n (acc ++ [x]) r) else .ok acc ts
def progP : Ps Pg := fun z ts => (rulesL z many [] ts).bind fun l r => (wantP [63, 45] z r).bind fun _ r => (atomP z r).bind fun q r => (wantP [46] z r).bind fun _ r => .ok ⟨l, q⟩ r
/-- The whole of a text. -/
def wholeP {α : Type} (f : Ps α) : Ps α := fun z ts => (f z ts).bind fun x r => match r with
  | [] => .ok x []
  | t :: _ => .no t.a 2
end Go.Proofs.YtahljmddnfldlaaGreatDoor

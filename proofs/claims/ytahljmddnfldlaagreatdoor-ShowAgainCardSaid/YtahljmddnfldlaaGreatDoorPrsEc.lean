/-
  Parse, for the laws: one contract whatever comes of a text.
-/
import Derived.Test.YtahljmddnfldlaaGreatDoorPrsEb
import Derived.Test.YtahljmddnfldlaaGreatDoorPrsBe
import Derived.Test.YtahljmddnfldlaaGreatDoorPrsTop
namespace Go.Proofs.YtahljmddnfldlaaGreatDoor
open Go.RowKit FloM ValM Go.Shelf
set_option linter.unusedVariables false
set_option linter.unusedSimpArgs false
def rP : Ans Pg → Pg
  | .ok x _ => x
  | .no _ _ => ⟨[], am0⟩
def rA : Ans Pg → Nat
  | .ok _ _ => 0
  | .no a _ => a
def rK : Ans Pg → Nat
  | .ok _ _ => 0
  | .no _ k => k
/-- What Parse tells of a text. -/
abbrev TellsP (s : ByteArray) (p : Pg) (a k : Nat) : Prop := ∀ W : World, Calls Tryz.prog 14 #[.string s] W fun e w' => ∃ X : PgA, X.pg = p ∧ e = .returned (.tuple #[.agg #[.slice X.A X.r.length X.c, .string (bs X.q.p), .slice X.q.A X.q.a.length X.q.c], .int .i64 (a : Int), .int .i64 (k : Int)]) ∧ X.ok w' W.heap.size ∧ Below W.heap.size W w'
theorem parse_all (s : ByteArray) (hs : s.size ≤ 20000) : TellsP s (rP (progS s.size (toksL 0 (ls s)))) (rA (progS s.size (toksL 0 (ls s)))) (rK (progS s.size (toksL 0 (ls s)))) := fun W => by
  refine (parse_full s W hs).mono ?_
  intro e w' h
  cases hR : progS s.size (toksL 0 (ls s)) with
  | ok x r =>
    rw [hR] at h
    obtain ⟨X, h1, h2, h3, h4⟩ := h
    exact ⟨X, h1, h2, h3, h4⟩
  | no a k =>
    rw [hR] at h
    obtain ⟨h2, h4⟩ := h
    exact ⟨⟨none, 0, [], ⟨[], none, 0, []⟩⟩, rfl, h2, ⟨own_nil _ _ _ _, fun y hy => (by cases hy), own_nil _ _ _ _⟩, h4⟩
theorem progS_nz (z : Nat) (R : Rs) (h : rK (progS z R) = 0) : ∃ x, progS z R = .ok x [] ∧ ∃ ts, R = .good ts ∧ progP z ts = .ok x [] := by
  cases R with
  | bad n => exact absurd h (by show ¬ (2 : Nat) = 0; omega)
  | good ts =>
    cases e : progS z (.good ts) with
    | no a k => rw [e] at h; exact absurd h (whole_nz prog_nz z ts a k e)
    | ok x r =>
      have e' : wholeP progP z ts = .ok x r := e
      have h1 := whole_ok e'
      refine ⟨x, ?_, ts, rfl, h1⟩
      obtain ⟨y, q, e1, e2⟩ := bind_ok e'
      cases q with
      | nil => cases e2; rfl
      | cons t q => cases e2
end Go.Proofs.YtahljmddnfldlaaGreatDoor

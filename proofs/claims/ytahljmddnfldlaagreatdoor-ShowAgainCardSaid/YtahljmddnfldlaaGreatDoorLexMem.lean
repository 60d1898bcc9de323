/-
  Rows of tokens: how they grow, are kept and read.
-/
import Derived.Test.YtahljmddnfldlaaGreatDoorLexG
import Derived.Test.YtahljmddnfldlaaGreatDoorLexOwn
namespace Go.Proofs.YtahljmddnfldlaaGreatDoor
open Go.RowKit FloM ValM
set_option linter.unusedVariables false
set_option linter.unusedSimpArgs false

def Tk.val (t : Tk) : Value := .agg #[.int .i64 (t.k : Int), .string (bs t.t), .int .i64 (t.a : Int)]
def tcells (l : List Tk) : List Value := l.flatMap fun t => [.int .i64 (t.k : Int), .string (bs t.t), .int .i64 (t.a : Int)]
theorem tcells_len (l : List Tk) : (tcells l).length = l.length * 3 := by
  induction l with
  | nil => rfl
  | cons v l ih => simp only [tcells, List.flatMap_cons, List.length_append, List.length_cons, List.length_nil] at ih ⊢; omega
theorem tcells_app (a b : List Tk) : tcells (a ++ b) = tcells a ++ tcells b := by simp [tcells]
theorem tcells_one (t : Tk) : tcells [t] = [.int .i64 (t.k : Int), .string (bs t.t), .int .i64 (t.a : Int)] := rfl
theorem tcells_at {l : List Tk} {i : Nat} {v : Tk} (h : l[i]? = some v) : (tcells l)[i * 3]? = some (.int .i64 (v.k : Int)) ∧ (tcells l)[i * 3 + 1]? = some (.string (bs v.t)) ∧ (tcells l)[i * 3 + 2]? = some (.int .i64 (v.a : Int)) := by
  have e := split_take h
  have hl : i < l.length := (List.getElem?_eq_some_iff.1 h).1
  have hlen : (tcells (l.take i)).length = i * 3 := by rw [tcells_len, List.length_take]; congr 1; omega
  have e2 : tcells l = tcells (l.take i) ++ ([.int .i64 (v.k : Int), .string (bs v.t), .int .i64 (v.a : Int)] ++ tcells (l.drop (i + 1))) := by
    conv => lhs; rw [e]
    rw [tcells_app]; rfl
  rw [e2]
  refine ⟨?_, ?_, ?_⟩ <;> rw [List.getElem?_append_right (by omega), hlen]
  · rw [Nat.sub_self]; rfl
  · rw [Nat.add_sub_cancel_left]; rfl
  · rw [Nat.add_sub_cancel_left]; rfl
/-- The cells from ⟨b, o⟩ on hold the fields of t. -/
def CellsK (w : World) (b o : Nat) (t : Tk) : Prop := w.cell? ⟨b, o, none⟩ = some (.int .i64 (t.k : Int)) ∧ w.cell? ⟨b, o + 1, none⟩ = some (.string (bs t.t)) ∧ w.cell? ⟨b, o + 2, none⟩ = some (.int .i64 (t.a : Int))
/-- A slice at A reads as the tokens l. -/
def RdK (w : World) (A : Option Addr) (l : List Tk) : Prop := ∀ i v, l[i]? = some v → ∃ b o, A = some ⟨b, o, none⟩ ∧ b < w.heap.size ∧ CellsK w b (o + i * 3) v
section
variable {w w' : World} {A : Option Addr}
theorem RdK.on {l : List Tk} (h : RdK w A l) (hb : Below w.heap.size w w') : RdK w' A l := fun i v hv => by
  obtain ⟨b, o, e, hl, c0, c1, c2⟩ := h i v hv
  have k := keep hb
  exact ⟨b, o, e, Nat.lt_of_lt_of_le hl hb.size, (k _ _ hl).trans c0, (k _ _ hl).trans c1, (k _ _ hl).trans c2⟩
theorem RdK.nil : RdK w A [] := fun i v hv => by simp at hv
theorem own_rdK {base c n : Nat} {l : List Tk} {e : TypeId} (h : w.ownsRow base e 3 (.slice A n c) n (tcells l)) : RdK w A l := fun i v hv => by
  obtain ⟨h0, h1, h2⟩ := tcells_at hv
  obtain ⟨g, cap, e0, _, hlt, c0⟩ := own_cell h h0
  obtain ⟨g1, cap1, e1, _, _, c1⟩ := own_cell h h1
  obtain ⟨g2, cap2, e2, _, _, c2⟩ := own_cell h h2
  injection e0 with e0 _ _; injection e1 with e1 _ _; injection e2 with e2 _ _
  subst e0
  injection e1 with e1; injection e1 with e1 _ _; subst e1
  injection e2 with e2; injection e2 with e2 _ _; subst e2
  exact ⟨g, 0, rfl, hlt, by rw [Nat.zero_add]; exact ⟨c0, c1, c2⟩⟩
end
theorem info_tok : (Tryz.prog.info? 92).map (fun i => (i.zero, i.size, i.bytes)) = some (some (.agg #[.int .i64 0, .string ByteArray.empty, .int .i64 0]), 3, 32) := by kernel_rfl
/-- Tokens in memory of the call's own, or where the text is wrong. -/
def SaysK (R : Rs) (w : World) (e : Ending) (w' : World) : Prop := match R with
  | .good l => ∃ (A : Option Addr) (c : Nat), e = .returned (.tuple #[.slice A l.length c, .int .i64 0, .int .i64 0]) ∧ RdK w' A l ∧ Below w.heap.size w w'
  | .bad n => e = .returned (.tuple #[.slice none 0 0, .int .i64 (n : Int), .int .i64 2]) ∧ Below w.heap.size w w'
end Go.Proofs.YtahljmddnfldlaaGreatDoor

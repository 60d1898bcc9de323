/-
  Contracts of a tree's Len, Deep and All.
-/
import Derived.Test.YtpmkhpbhimmeiaaGreatBtTell
namespace Go.Proofs.YtpmkhpbhimmeiaaGreat
open Go.RowKit FloM ValM Go.Shelf
set_option linter.unusedVariables false
set_option linter.unusedSimpArgs false

section
variable {X : Nat → Prop} {g : Nat} {p : List Int} {L : List Sl} {o : Option (Nat × Nd)} {P : Option Addr} {cp : Nat} {q : Option Addr}
set_option maxHeartbeats 1000000 in
theorem len_any (w : World) (h : TreeAt X w g p L o P cp q) : Calls Tryz.prog 43 #[.pointer (some ⟨g, 0, none⟩)] w fun e w' => e = .returned (.int .i64 (L.length : Int)) ∧ w = w' := by
  have c2 := h.cells.2.2.1
  clear h
  go_enter Tryz.func43, Tryz.ntmps43
  go_wp2
  go_ret
  exact ⟨rfl, rfl⟩
/-- How many levels: the least that so many tuples need. -/
def deepO (o : Option (Nat × Nd)) : Nat := (o.map (·.1 + 1)).getD 0
set_option maxHeartbeats 1000000 in
theorem all_any (w : World) (h : TreeAt X w g p L o P cp q) : Calls Tryz.prog 46 #[.pointer (some ⟨g, 0, none⟩)] w (FromP g P cp p [] w) := by
  have hf := Lib.hid (from_any none 0 [] w h RdV.nil (Nat.zero_le _))
  clear h
  go_enter Tryz.func46, Tryz.ntmps46
  go_wp2_with (go_at_call 70; refine hf.out.mono ?_; rintro e w' ⟨B1, B2, B3, D, xl, rfl, hc⟩; replace hc := Lib.hid hc)
  go_ret
  exact ⟨B1, B2, B3, D, xl, rfl, hc.out⟩
end
/-! ### nil trees -/
set_option maxHeartbeats 1000000 in
theorem len_nil (w : World) : Calls Tryz.prog 43 #[.pointer none] w fun e w' => e = .returned (.int .i64 0) ∧ w = w' := by
  go_enter Tryz.func43, Tryz.ntmps43
  go_wp2
  go_ret
  exact ⟨rfl, rfl⟩
/-! ### All tells all -/
theorem tw_nil (a : List V) (L : List (List V)) : tw [] a L = L := tw_all fun y _ => by simp [cmpC, pickL_nil, ordV]
theorem dW_nil (a : List V) (L : List Sl) : dW [] a L = L := dW_id fun y _ => by simp [cmpC, pickL_nil, ordV]
theorem ws_nil (L : List Sl) : WS [] L := by
  unfold WS
  induction L with
  | nil => exact List.Pairwise.nil
  | cons a L ih => exact List.Pairwise.cons (fun y _ => by simp [cmpC, pickL_nil, ordV]) ih
theorem all_seq {X : Nat → Prop} {g : Nat} {p : List Int} {L : List Sl} {o : Option (Nat × Nd)} {P : Option Addr} {cp : Nat} {q : Option Addr} {xl : List V} {B1 B2 B3 D : Nat} (w0 w : World) (h : TreeAt X w0 g p L o P cp q) (hc : FromC g P cp p [] w0 w B1 B2 B3 D xl) (hX : ∀ k, X k → k < w0.heap.size) :
    SeqR 87 #[.pointer (some ⟨B1, 0, none⟩), .pointer (some ⟨B2, 0, none⟩), .pointer (some ⟨B3, 0, none⟩)] X w.heap.size (L.map Sl.l) w := by
  have := from_seq w0 w h hc (by rw [List.length_nil, List.take_zero]; exact ws_nil L) hX
  rw [List.length_nil, List.take_zero, tw_nil, dW_nil] at this
  exact this
end Go.Proofs.YtpmkhpbhimmeiaaGreat

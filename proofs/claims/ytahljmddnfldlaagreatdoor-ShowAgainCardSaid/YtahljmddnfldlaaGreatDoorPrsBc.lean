/-
  Package parse: rules, one behind the other: plain mathematics (ParseJoins).
-/
import Derived.Test.YtahljmddnfldlaaGreatDoorPrsBb
namespace Go.Proofs.YtahljmddnfldlaaGreatDoor
open Go.RowKit FloM ValM Go.Shelf
set_option linter.unusedVariables false
set_option linter.unusedSimpArgs false
/-- A method that looks at nothing behind what it takes. -/
def FinP {α : Type} (f : Ps α) : Prop := ∀ z ts, Okt ts → ∀ x r, f z ts = .ok x r → ∃ u, ts = u ++ r ∧ u ≠ [] ∧ (∀ t ∈ u, NoQ t) ∧ ∀ z' u' r', Eqv u u' → f z' (u' ++ r') = .ok x r'
theorem hd_ne {u w r r' : List Tk} {z z' : Nat} (h : Eqv u w) (hu : u ≠ []) : HdE z (u ++ r) z' (w ++ r') := by
  cases u with
  | nil => exact absurd rfl hu
  | cons t q => obtain ⟨t', r'', rfl, h1, _⟩ := h.cons; exact h1
theorem FinP.bind {α β : Type} {f : Ps α} {g : α → Ps β} (hf : RelP NoQ id f f) (hg : ∀ a, FinP (g a)) : FinP (fun z ts => (f z ts).bind fun a r => g a z r) := fun z ts ho x r h => by
  obtain ⟨a, r1, e1, e2⟩ := bind_ok h
  obtain ⟨u1, c1, n1, h1⟩ := (hf z ts ho).1 a r1 e1
  obtain ⟨u2, c2, n0, n2, h2⟩ := hg a z r1 (ho.suf ⟨u1, c1.symm⟩) x r e2
  refine ⟨u1 ++ u2, by rw [c1, c2, List.append_assoc], by simp [n0], fun t ht => (List.mem_append.1 ht).elim (n1 t) (n2 t), fun z' w r' hw => ?_⟩
  obtain ⟨w1, w2, rfl, q1, q2⟩ := hw.cut
  obtain ⟨a', h3, hp⟩ := h1 z' w1 (w2 ++ r') q1 (by rw [c2]; exact hd_ne q2 n0)
  cases hp
  simp only [List.append_assoc, h3, Ans.bind]
  exact h2 z' w2 r' q2
theorem FinP.want {β : Type} {m : List UInt8} (hm : m ≠ [63, 45]) (x : β) : FinP (fun z ts => (wantP m z ts).bind fun _ r => .ok x r) := fun z ts ho y r h => by
  obtain ⟨a, r1, e1, e2⟩ := bind_ok h
  cases e2
  have c := need_len e1
  refine ⟨[a], c.1, by simp, fun t ht => ?_, fun z' u' r' hu => ?_⟩
  · obtain rfl := List.mem_singleton.1 ht
    exact nq_of hm _ (by simpa [isX] using c.2)
  · obtain ⟨t', q', rfl, hk, hq⟩ := hu.cons
    obtain rfl := hq.nil
    have h2 : isX m t' = true := by have := c.2; unfold isX at *; rwa [← kt_t hk]
    simp [wantP, needP, h2, Ans.bind]
end Go.Proofs.YtahljmddnfldlaaGreatDoor

/-
  Lists of tuples merged: what is there already changes nothing.
-/
import Derived.Test.YtpmkhpbhimmeiaaGreatBtMerge
namespace Go.Proofs.YtpmkhpbhimmeiaaGreat
open Go.RowKit FloM ValM Go.Shelf
set_option linter.unusedVariables false
set_option linter.unusedSimpArgs false
theorem putM_same {p : List Int} {M : List (List V)} (hp : permB p = true) (h : FitS p M) {a : List V} (ha : a.length = p.length → a ∈ M) : putM p a M = M := by
  unfold putM; split
  · rename_i hl
    exact ins_same h.sort ((inS_mem hp hl h.lens).2 (ha hl))
  · rfl
theorem mergeM_same {p : List Int} {M : List (List V)} (hp : permB p = true) (h : FitS p M) : ∀ l : List (List V), (∀ a ∈ l, a.length = p.length → a ∈ M) → mergeM p M l = M
  | [], _ => rfl
  | a :: l, hl => by
    have e := putM_same hp h (hl a (List.mem_cons_self ..))
    have ih := mergeM_same hp h l fun x hx => hl x (List.mem_cons_of_mem _ hx)
    unfold mergeM at *
    rw [List.foldl_cons, e, ih]
theorem mergeM_again {p : List Int} {M l : List (List V)} (hp : permB p = true) (h : FitS p M) : mergeM p (mergeM p M l) l = mergeM p M l :=
  mergeM_same hp (mergeM_fit l h) l fun a ha hl => (puts_fold_mem hp l M h).2 (.inl ⟨ha, hl⟩)
theorem merge_next {p : List Int} {M l : List (List V)} {k : Nat} {a : List V} (h : l[k]? = some a) : mergeM p M (l.take (k + 1)) = putM p a (mergeM p M (l.take k)) := by rw [take_snoc' h, mergeM_snoc]
end Go.Proofs.YtpmkhpbhimmeiaaGreat

/-
  Contracts of a node's since, and of the iterator that it hands back.
-/
import Derived.Test.YtpmkhpbhimmeiaaGreatBtVisit
namespace Go.Proofs.YtpmkhpbhimmeiaaGreat
open Go.RowKit FloM ValM Go.Shelf
set_option linter.unusedVariables false
set_option linter.unusedSimpArgs false
attribute [local go_sem] Oper.semAt_some

def flatO (o : Option (Nat × Nd)) : List Sl := match o with | none => [] | some (k, t) => flat k t
set_option maxHeartbeats 1000000 in
theorem since_any (p xs cs : Value) (w : World) : (∃ a, p = .pointer a) → (∃ A n c, xs = .slice A n c) → (∃ A n c, cs = .slice A n c) →
    Calls Tryz.prog 85 #[p, xs, cs] w fun e w' => e = .returned (.func (.func 110) #[] #[.pointer (some ⟨w.heap.size, 0, none⟩), .pointer (some ⟨w.heap.size + 1, 0, none⟩), .pointer (some ⟨w.heap.size + 1 + 1, 0, none⟩)]) ∧
      w' = ((w.alloc (.cells #[p] 105)).alloc (.cells #[xs] 25)).alloc (.cells #[cs] 24) := by
  rintro ⟨a, rfl⟩ ⟨A, n, c, rfl⟩ ⟨A2, n2, c2, rfl⟩
  have hmf : ∀ (fn : Fn) (first cap : Array Value) (w : World), (Instr.makeFunc fn first cap).run Tryz.prog w = .ok (.func fn first cap) w := fun _ _ _ _ => rfl
  go_enter Tryz.func85, Tryz.ntmps85
  go_wp2
  go_ret
  exact ⟨rfl, rfl⟩
set_option maxRecDepth 20000 in
set_option maxHeartbeats 2000000 in
/-- What the iterator tells: all that is not before x. -/
theorem since_seq {X : Nat → Prop} {B1 B2 B3 : Nat} (A P : Option Addr) (ca cp : Nat) (a : List V) (p : List Int) (wd w : World) (o : Option (Nat × Nd)) (q : Option Addr) (la : a.length ≤ 1000) (lp : p.length ≤ 1000) (ha : RdV wd A a) (hp : RdI wd P p) (oa : Off X A) (op : Off X P)
    (ho : RootAt X wd o q) (lt : ∀ x ∈ flatO o, x.l.length ≤ 1000) (hs : WS p (flatO o)) (hw : Below wd.heap.size wd w) (b1 : B1 < w.heap.size) (b2 : B2 < w.heap.size) (b3 : B3 < w.heap.size)
    (c1 : w.cell? ⟨B1, 0, none⟩ = some (.pointer q)) (c2 : w.cell? ⟨B2, 0, none⟩ = some (.slice A a.length ca)) (c3 : w.cell? ⟨B3, 0, none⟩ = some (.slice P p.length cp)) :
    SeqR 110 #[.pointer (some ⟨B1, 0, none⟩), .pointer (some ⟨B2, 0, none⟩), .pointer (some ⟨B3, 0, none⟩)] X wd.heap.size ((dW p a (flatO o)).map Sl.l) w := by
  intro l J Jx W hW hl hJ hJx hR h0
  have hdd : ∀ k : Nat, (Fence.wide.depth.isSome = true → 1 ≤ k) := fun k h => by cases h
  have d1 := (keep hW _ 0 b1).trans c1; have d2 := (keep hW _ 0 b2).trans c2; have d3 := (keep hW _ 0 b3).trans c3
  have hF : Fr X wd.heap.size wd W := Fr.of (hw.trans (hW.mono hw.size))
  have hv : CallsIn Fence.wide 0 Tryz.prog 111 #[.pointer q, .slice A a.length ca, .slice P p.length cp, .func (.yield l) #[] #[]] W (VisitP X wd [] (dW p a (flatO o)) J Jx) := by
    rcases o with _ | ⟨k, t⟩
    · obtain rfl : q = none := ho
      refine (visit_nil _ _ _).mono ?_
      rintro e w' ⟨rfl, rfl⟩
      exact .inl ⟨rfl, by simpa [flatO, dW] using h0, hF⟩
    · obtain ⟨rfl, ht⟩ := RootAt.some ho
      exact visit_any A P ca cp a p wd W _ la lp ha hp oa op hJ hR k t ht lt hs 0 [] W hF h0 (by simp [flatO])
  have HV := Lib.hid hv
  clear ha hp ho lt hs hv c1 c2 c3 hR hJ hJx h0
  refine callsIn_deep (n := l) ?_
  refine callsIn_of_wp Tryz.func110 rfl trivial ?_ rfl
  simp only [Tryz.ntmps110, List.size_toArray, List.length_cons, List.length_nil, Nat.reduceAdd, Nat.reduceSub, Array.replicate_succ, Array.replicate_zero, List.push_toArray, List.append_toArray, List.nil_append, List.cons_append]
  gi_wp2_with ((first | refine ⟨trivial, hdd _, ?_⟩ | refine ⟨hdd _, ?_⟩ | skip); gi_at_call 111; refine (callsIn_deep HV.out).mono ?_; rintro e w1 (⟨rfl, hj1, _⟩ | ⟨rfl, q', hq, hx⟩))
  · go_end0
    exact ⟨⟨_, rfl⟩, .inl ⟨dW p a (flatO o), rfl, by simpa using hj1⟩⟩
  · go_end0
    exact ⟨⟨_, rfl⟩, .inr ⟨q', by obtain ⟨r, hr⟩ := hq; exact ⟨r.map Sl.l, by rw [← hr]; simp⟩, by simpa using hx⟩⟩
end Go.Proofs.YtpmkhpbhimmeiaaGreat

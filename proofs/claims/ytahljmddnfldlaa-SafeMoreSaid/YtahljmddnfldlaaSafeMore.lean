/-
  SafeMore (layer 11, safe): for all literals and names the call returns true: whatever more is bound at first, what could be taken can be; and the same names, and those, are bound behind it. No condition.
-/
import Derived.Test.YtahljmddnfldlaaRows
import Derived.Test.YtahljmddnfldlaaSafU
import Derived.Test.YtahljmddnfldlaaSafY
import Derived.WalkKit
import Derived.ProofKit
import Derived.OpenShut
namespace Go.Proofs.Ytahljmddnfldlaa.safeMore
open Go.ChangeShapes Go.WideShapes Go.ChangeAt Go.RowKit FloM ValM Go.Shelf Go.Maps
set_option linter.unusedVariables false
set_option linter.unusedSimpArgs false
theorem ready_mono : Mono readyL := fun x S T h hr => by
  have hi : ∀ t : Tm, inS t S = true → inS t T = true := fun t ht => by
    unfold inS at ht ⊢
    simp only [decide_eq_true_eq] at ht ⊢
    exact ht.imp id (h t.v)
  unfold readyL at hr ⊢
  split
  · rename_i h2; rw [if_pos h2] at hr
    unfold allS at hr ⊢
    rw [List.all_eq_true] at hr ⊢
    exact fun t ht => hi t (hr t ht)
  rename_i h2
  rw [if_neg h2] at hr
  split
  · rename_i h3; rw [if_pos h3] at hr
    simp only [Bool.or_eq_true, Bool.and_eq_true] at hr ⊢
    exact hr.imp (fun h => ⟨hi _ h.1, hi _ h.2⟩) (fun h => ⟨h.1, h.2.imp (hi _) (hi _)⟩)
  rename_i h3
  rw [if_neg h3] at hr
  split
  · rename_i h4; rw [if_pos h4] at hr
    simp only [Bool.and_eq_true] at hr ⊢
    exact ⟨hi _ hr.1, hi _ hr.2⟩
  · rfl
theorem more_some {body : List LtI} {S T : List Nm} {l : List Nat} {U : List Nm} (h : ordL vsL readyL body S = some (l, U)) : ∃ l2 U2, ordL vsL readyL body (S ++ T) = some (l2, U2) ∧ namesL U2 = namesL (namesL U ++ T) := by
  cases e : ordL vsL readyL body (S ++ T) with
  | none =>
    have := ordL_more (body' := body) ready_mono (fun x => Iff.rfl) (fun y hy => List.mem_append.2 (.inl hy)) e
    rw [h] at this; cases this
  | some r =>
    refine ⟨r.1, r.2, rfl, namesL_congr fun y => ?_⟩
    rw [ordL_mem e, List.mem_append, List.mem_append, namesL_mem, ordL_mem h]
    constructor
    · rintro ((h1 | h1) | h1)
      · exact .inl (.inl h1)
      · exact .inr h1
      · exact .inl (.inr h1)
    · rintro ((h1 | h1) | h1)
      · exact .inl (.inl h1)
      · exact .inr h1
      · exact .inl (.inr h1)
theorem fewB_each {body : List LtI} {bound : List Nm} (h : FewB body bound) (y : LtI) (hy : y ∈ body) : y.m.a.length ≤ 1000 := by have := (h.2.1 y hy).2; omega
set_option maxRecDepth 20000 in
set_option maxHeartbeats 16000000 in
theorem walk_no (B : Option Addr) (d : Nat) (body : List LtI) (A : Option Addr) (c : Nat) (bound : List Nm) (M : Option Addr) (m : Nat) (more : List Nm) (w : World) (r0 : RdX 17 ltIC w B body) (k0 : ∀ x ∈ body, LtOk w x) (r1 : RdN w A bound) (k1 : NmOk bound) (r2 : RdN w M more) (k2 : NmOk more) (hm : (20 : Int) < (more.length : Int)) : Calls Try.prog 6 #[.slice B body.length d, .slice A bound.length c, .slice M more.length m] w fun e w' => e = .returned (.bool true) ∧ Below w.heap.size w w' := by
  have hB := Below.refl w.heap.size w
  have hm9 : more.length ≤ 9223372036854775807 := Nat.le_trans r2.1 (by decide)
  have HFew : Hid (∀ V, Below w.heap.size w V → Calls Try.prog 10 #[.slice B body.length d, .slice A bound.length c] V (FewBQ body bound V)) := Lib.hid fun V hV => fewB_any B A d c body bound V (r0.on hV) (fun x hx => ⟨((k0 x hx).1).on hV, (k0 x hx).2⟩) r1.1
  clear r0 k0 r1 k1 r2 k2
  go_enter Try.func6, Try.ntmps6
  go_wp2_with (first
    | (go_at_call 9; refine (awake11_any _).mono ?_; rintro e w1 ⟨rfl, h'⟩; replace hB := on hB h'; clear h')
    | (go_at_call 10; refine (HFew.out _ hB).mono ?_; rintro e w2 ⟨b, hb, rfl, h'⟩; have HBx := Lib.hid hb; replace hB := on hB h'; clear hb h'; cases b))
  all_goals
    go_ret
    exact ⟨rfl, hB⟩
set_option maxRecDepth 20000 in
set_option maxHeartbeats 16000000 in
theorem walk_nn (B : Option Addr) (d : Nat) (body : List LtI) (A : Option Addr) (c : Nat) (bound : List Nm) (M : Option Addr) (m : Nat) (more : List Nm) (w : World) (r0 : RdX 17 ltIC w B body) (k0 : ∀ x ∈ body, LtOk w x) (r1 : RdN w A bound) (k1 : NmOk bound) (r2 : RdN w M more) (k2 : NmOk more) (hm : ¬ (20 : Int) < (more.length : Int)) (h1 : ordL vsL readyL body bound = none) (h2 : ordL vsL readyL body (bound ++ more) = none) : Calls Try.prog 6 #[.slice B body.length d, .slice A bound.length c, .slice M more.length m] w fun e w' => e = .returned (.bool true) ∧ Below w.heap.size w w' := by
  have hB := Below.refl w.heap.size w
  have hm9 : more.length ≤ 9223372036854775807 := Nat.le_trans r2.1 (by decide)
  have HFew : Hid (∀ V, Below w.heap.size w V → Calls Try.prog 10 #[.slice B body.length d, .slice A bound.length c] V (FewBQ body bound V)) := Lib.hid fun V hV => fewB_any B A d c body bound V (r0.on hV) (fun x hx => ⟨((k0 x hx).1).on hV, (k0 x hx).2⟩) r1.1
  have HO1 : Hid (FewB body bound → ∀ V, Below w.heap.size w V → Calls Try.prog 11 #[.slice B body.length d, .slice A bound.length c] V (OrdQ (ordL vsL readyL body bound) V)) := Lib.hid fun hf V hV => order_any B d body A c bound V (r0.on hV) (fun x hx => ⟨((k0 x hx).1).on hV, (k0 x hx).2.1, fewB_each hf x hx⟩) (by have := hf.1; omega) (RdX.on r1 hV) k1 (by have := hf.2.2; omega)
  have hm20 : more.length ≤ 20 := by omega
  have HO2 : Hid (FewB body bound → ∀ V A5 c5, Below w.heap.size w V → RdN V A5 (bound ++ more) → Calls Try.prog 11 #[.slice B body.length d, .slice A5 (bound.length + more.length) c5] V (OrdQ (ordL vsL readyL body (bound ++ more)) V)) := Lib.hid fun hf V A5 c5 hV h5 => by
    have h := order_any B d body A5 c5 (bound ++ more) V (r0.on hV) (fun x hx => ⟨((k0 x hx).1).on hV, (k0 x hx).2.1, fewB_each hf x hx⟩) (by have := hf.1; omega) h5 (fun s hs => by
      rcases List.mem_append.1 hs with hs | hs
      · exact k1 s hs
      · exact k2 s hs) (by have := hf.2.2; rw [List.length_append]; omega)
    rw [List.length_append] at h; exact h
  have HRA := Lib.hid r1; have HRM := Lib.hid r2
  rw [h1] at HO1; rw [h2] at HO2
  clear h1 h2
  clear r0 k0 r1 k1 r2 k2
  go_enter Try.func6, Try.ntmps6
  go_wp2_with (first
    | (go_at_call 9; refine (awake11_any _).mono ?_; rintro e w1 ⟨rfl, h'⟩; replace hB := on hB h'; clear h')
    | (go_at_call 10; refine (HFew.out _ hB).mono ?_; rintro e w2 ⟨b, hb, rfl, h'⟩; have HBx := Lib.hid hb; replace hB := on hB h'; clear hb h'; cases b)
    | (go_at_call 11; refine (HO1.out (HBx.out trivial) _ hB).mono ?_; rintro e w7 ⟨rfl, h'⟩; replace hB := on hB h'; clear h'; clear HO1)
    | (at_builtin; refine wpList_app0 rfl (.tmp 36) (.tmp 37) rfl A c bound rfl rfl (RdX.on HRA.out hB) (by have := (HBx.out trivial).2.2; omega) ?_; intro A5 c5 w5 hO5 hg5; have HO5 := Lib.hid hO5; have HZ5 := Lib.hid hB.size; replace hB := on hB hg5; clear hO5 hg5)
    | (at_builtin; refine wpList_app2 rfl (.tmp 38) (.tmp 39) rfl (own_less HO5.out HZ5.out) M m more rfl rfl (RdX.on HRM.out hB) (by have := (HBx.out trivial).2.2; omega) hB.size ?_; intro A6 c6 w6 hO6 hg6; have HO6 := Lib.hid hO6; replace hB := hB.trans hg6; clear hO6 hg6)
    | (go_at_call 11; refine (HO2.out (HBx.out trivial) _ A6 c6 hB HO6.out.rd).mono ?_; rintro e w8 ⟨rfl, h'⟩; replace hB := on hB h'; clear h'; clear HO2)
    )
  all_goals
    go_ret
    exact ⟨rfl, hB⟩
set_option maxRecDepth 20000 in
set_option maxHeartbeats 16000000 in
theorem walk_ns (B : Option Addr) (d : Nat) (body : List LtI) (A : Option Addr) (c : Nat) (bound : List Nm) (M : Option Addr) (m : Nat) (more : List Nm) (w : World) (r0 : RdX 17 ltIC w B body) (k0 : ∀ x ∈ body, LtOk w x) (r1 : RdN w A bound) (k1 : NmOk bound) (r2 : RdN w M more) (k2 : NmOk more) (hm : ¬ (20 : Int) < (more.length : Int)) (h1 : ordL vsL readyL body bound = none) (l2 : List Nat) (U2 : List Nm) (h2 : ordL vsL readyL body (bound ++ more) = some (l2, U2)) : Calls Try.prog 6 #[.slice B body.length d, .slice A bound.length c, .slice M more.length m] w fun e w' => e = .returned (.bool true) ∧ Below w.heap.size w w' := by
  have hB := Below.refl w.heap.size w
  have hm9 : more.length ≤ 9223372036854775807 := Nat.le_trans r2.1 (by decide)
  have HFew : Hid (∀ V, Below w.heap.size w V → Calls Try.prog 10 #[.slice B body.length d, .slice A bound.length c] V (FewBQ body bound V)) := Lib.hid fun V hV => fewB_any B A d c body bound V (r0.on hV) (fun x hx => ⟨((k0 x hx).1).on hV, (k0 x hx).2⟩) r1.1
  have HO1 : Hid (FewB body bound → ∀ V, Below w.heap.size w V → Calls Try.prog 11 #[.slice B body.length d, .slice A bound.length c] V (OrdQ (ordL vsL readyL body bound) V)) := Lib.hid fun hf V hV => order_any B d body A c bound V (r0.on hV) (fun x hx => ⟨((k0 x hx).1).on hV, (k0 x hx).2.1, fewB_each hf x hx⟩) (by have := hf.1; omega) (RdX.on r1 hV) k1 (by have := hf.2.2; omega)
  have hm20 : more.length ≤ 20 := by omega
  have HO2 : Hid (FewB body bound → ∀ V A5 c5, Below w.heap.size w V → RdN V A5 (bound ++ more) → Calls Try.prog 11 #[.slice B body.length d, .slice A5 (bound.length + more.length) c5] V (OrdQ (ordL vsL readyL body (bound ++ more)) V)) := Lib.hid fun hf V A5 c5 hV h5 => by
    have h := order_any B d body A5 c5 (bound ++ more) V (r0.on hV) (fun x hx => ⟨((k0 x hx).1).on hV, (k0 x hx).2.1, fewB_each hf x hx⟩) (by have := hf.1; omega) h5 (fun s hs => by
      rcases List.mem_append.1 hs with hs | hs
      · exact k1 s hs
      · exact k2 s hs) (by have := hf.2.2; rw [List.length_append]; omega)
    rw [List.length_append] at h; exact h
  have HRA := Lib.hid r1; have HRM := Lib.hid r2
  rw [h1] at HO1; rw [h2] at HO2
  clear h1 h2
  clear r0 k0 r1 k1 r2 k2
  go_enter Try.func6, Try.ntmps6
  go_wp2_with (first
    | (go_at_call 9; refine (awake11_any _).mono ?_; rintro e w1 ⟨rfl, h'⟩; replace hB := on hB h'; clear h')
    | (go_at_call 10; refine (HFew.out _ hB).mono ?_; rintro e w2 ⟨b, hb, rfl, h'⟩; have HBx := Lib.hid hb; replace hB := on hB h'; clear hb h'; cases b)
    | (go_at_call 11; refine (HO1.out (HBx.out trivial) _ hB).mono ?_; rintro e w7 ⟨rfl, h'⟩; replace hB := on hB h'; clear h'; clear HO1)
    | (at_builtin; refine wpList_app0 rfl (.tmp 36) (.tmp 37) rfl A c bound rfl rfl (RdX.on HRA.out hB) (by have := (HBx.out trivial).2.2; omega) ?_; intro A5 c5 w5 hO5 hg5; have HO5 := Lib.hid hO5; have HZ5 := Lib.hid hB.size; replace hB := on hB hg5; clear hO5 hg5)
    | (at_builtin; refine wpList_app2 rfl (.tmp 38) (.tmp 39) rfl (own_less HO5.out HZ5.out) M m more rfl rfl (RdX.on HRM.out hB) (by have := (HBx.out trivial).2.2; omega) hB.size ?_; intro A6 c6 w6 hO6 hg6; have HO6 := Lib.hid hO6; replace hB := hB.trans hg6; clear hO6 hg6)
    | (go_at_call 11; refine (HO2.out (HBx.out trivial) _ A6 c6 hB HO6.out.rd).mono ?_; rintro e w8 ⟨A8, c8, B8, d8, rfl, _, hN8, h'⟩; have HN8 := Lib.hid hN8; replace hB := on hB h'; clear h' hN8; clear HO2)
    )
  all_goals
    go_ret
    exact ⟨rfl, hB⟩
set_option maxRecDepth 20000 in
set_option maxHeartbeats 16000000 in
theorem walk_ss (B : Option Addr) (d : Nat) (body : List LtI) (A : Option Addr) (c : Nat) (bound : List Nm) (M : Option Addr) (m : Nat) (more : List Nm) (w : World) (r0 : RdX 17 ltIC w B body) (k0 : ∀ x ∈ body, LtOk w x) (r1 : RdN w A bound) (k1 : NmOk bound) (r2 : RdN w M more) (k2 : NmOk more) (hm : ¬ (20 : Int) < (more.length : Int)) (l : List Nat) (U : List Nm) (h1 : ordL vsL readyL body bound = some (l, U)) (l2 : List Nat) (U2 : List Nm) (h2 : ordL vsL readyL body (bound ++ more) = some (l2, U2)) (he : namesL U2 = namesL (namesL U ++ more)) : Calls Try.prog 6 #[.slice B body.length d, .slice A bound.length c, .slice M more.length m] w fun e w' => e = .returned (.bool true) ∧ Below w.heap.size w w' := by
  have hB := Below.refl w.heap.size w
  have hm9 : more.length ≤ 9223372036854775807 := Nat.le_trans r2.1 (by decide)
  have HFew : Hid (∀ V, Below w.heap.size w V → Calls Try.prog 10 #[.slice B body.length d, .slice A bound.length c] V (FewBQ body bound V)) := Lib.hid fun V hV => fewB_any B A d c body bound V (r0.on hV) (fun x hx => ⟨((k0 x hx).1).on hV, (k0 x hx).2⟩) r1.1
  have HO1 : Hid (FewB body bound → ∀ V, Below w.heap.size w V → Calls Try.prog 11 #[.slice B body.length d, .slice A bound.length c] V (OrdQ (ordL vsL readyL body bound) V)) := Lib.hid fun hf V hV => order_any B d body A c bound V (r0.on hV) (fun x hx => ⟨((k0 x hx).1).on hV, (k0 x hx).2.1, fewB_each hf x hx⟩) (by have := hf.1; omega) (RdX.on r1 hV) k1 (by have := hf.2.2; omega)
  have hm20 : more.length ≤ 20 := by omega
  have HO2 : Hid (FewB body bound → ∀ V A5 c5, Below w.heap.size w V → RdN V A5 (bound ++ more) → Calls Try.prog 11 #[.slice B body.length d, .slice A5 (bound.length + more.length) c5] V (OrdQ (ordL vsL readyL body (bound ++ more)) V)) := Lib.hid fun hf V A5 c5 hV h5 => by
    have h := order_any B d body A5 c5 (bound ++ more) V (r0.on hV) (fun x hx => ⟨((k0 x hx).1).on hV, (k0 x hx).2.1, fewB_each hf x hx⟩) (by have := hf.1; omega) h5 (fun s hs => by
      rcases List.mem_append.1 hs with hs | hs
      · exact k1 s hs
      · exact k2 s hs) (by have := hf.2.2; rw [List.length_append]; omega)
    rw [List.length_append] at h; exact h
  have HRA := Lib.hid r1; have HRM := Lib.hid r2
  have HUL : Hid (FewB body bound → (namesL U).length ≤ 14000) := Lib.hid fun hf => by
    have g1 := bound_len h1 (fewB_each hf)
    have g2 := namesL_len U
    have := hf.1; have := hf.2.2
    omega
  have HNM : Hid (∀ V A9 c9, RdN V A9 (namesL U ++ more) → (namesL U).length ≤ 14000 → Calls Try.prog 26 #[.slice none 0 0, .slice A9 ((namesL U).length + more.length) c9] V (SaysN (namesL U2) V)) := Lib.hid fun V A9 c9 h9 hl => by
    have h := names_any none 0 [] A9 c9 (namesL U ++ more) V h9 ⟨Nat.zero_le _, fun i y hy => by simp at hy⟩ (by rw [List.length_append]; simp; omega)
    rw [List.length_append] at h
    have e : namesL (namesL U ++ more ++ vsT []) = namesL U2 := by rw [he]; simp [vsT]
    rw [e] at h; exact h
  have HSM : Hid (∀ V X x Y y, RdN V X (namesL U2) → RdN V Y (namesL U2) → Calls Try.prog 13 #[.slice X (namesL U2).length x, .slice Y (namesL U2).length y] V fun e w' => e = .returned (.bool true) ∧ Below V.heap.size V w') := Lib.hid fun V X x Y y hx hy => same11_yes X Y x y (namesL U2) V hx hy
  rw [h1] at HO1; rw [h2] at HO2
  clear h1 h2 he
  clear r0 k0 r1 k1 r2 k2
  go_enter Try.func6, Try.ntmps6
  go_wp2_with (first
    | (go_at_call 9; refine (awake11_any _).mono ?_; rintro e w1 ⟨rfl, h'⟩; replace hB := on hB h'; clear h')
    | (go_at_call 10; refine (HFew.out _ hB).mono ?_; rintro e w2 ⟨b, hb, rfl, h'⟩; have HBx := Lib.hid hb; replace hB := on hB h'; clear hb h'; cases b)
    | (go_at_call 11; refine (HO1.out (HBx.out trivial) _ hB).mono ?_; rintro e w7 ⟨A7, c7, B7, d7, rfl, _, hN7, h'⟩; have HN7 := Lib.hid hN7; replace hB := on hB h'; have HZ7 := Lib.hid hB.size; have h7 : Below w7.heap.size w7 w7 := Below.refl _ _; clear h' hN7 HO1)
    | (at_builtin; refine wpList_app0 rfl (.tmp 36) (.tmp 37) rfl A c bound rfl rfl (RdX.on HRA.out hB) (by have := (HBx.out trivial).2.2; omega) ?_; intro A5 c5 w5 hO5 hg5; have HO5 := Lib.hid hO5; replace hB := on hB hg5; replace h7 := on h7 hg5; clear hO5 hg5)
    | (at_builtin; refine wpList_app2 rfl (.tmp 38) (.tmp 39) rfl HO5.out M m more rfl rfl (RdX.on HRM.out hB) (by have := (HBx.out trivial).2.2; omega) h7.size ?_; intro A6 c6 w6 hO6 hg6; have HO6 := Lib.hid hO6; replace hB := hB.trans (hg6.mono HZ7.out); replace h7 := h7.trans hg6; clear hO6 hg6)
    | (go_at_call 11; refine (HO2.out (HBx.out trivial) _ A6 c6 hB HO6.out.rd).mono ?_; rintro e w8 ⟨A8, c8, B8, d8, rfl, _, hN8, h'⟩; have HN8 := Lib.hid hN8; replace hB := on hB h'; replace h7 := on h7 h'; have h8 : Below w8.heap.size w8 w8 := Below.refl _ _; have HZ8 := Lib.hid hB.size; clear h' hN8 HO2)
    | (at_builtin; refine wpList_app0 rfl (.tmp 54) (.tmp 55) rfl B7 d7 (namesL U) rfl rfl (RdX.on HN7.out.rd h7) (by have := HUL.out (HBx.out trivial); omega) ?_; intro A9 c9 w9 hO9 hg9; have HO9 := Lib.hid hO9; replace hB := on hB hg9; replace h8 := on h8 hg9; clear hO9 hg9)
    | (at_builtin; refine wpList_app2 rfl (.tmp 56) (.tmp 57) rfl HO9.out M m more rfl rfl (RdX.on HRM.out hB) (by have := HUL.out (HBx.out trivial); omega) h8.size ?_; intro A10 c10 w10 hO10 hg10; have HO10 := Lib.hid hO10; replace hB := hB.trans (hg10.mono HZ8.out); replace h8 := h8.trans hg10; clear hO10 hg10)
    | (go_at_call 26; refine (HNM.out _ A10 c10 HO10.out.rd (HUL.out (HBx.out trivial))).mono ?_; rintro e w11 ⟨A11, c11, rfl, hO11, h'⟩; have HO11 := Lib.hid hO11; replace hB := on hB h'; replace h8 := on h8 h'; clear h' hO11)
    | (go_at_call 13; refine (HSM.out _ B8 d8 A11 c11 (RdX.on HN8.out.rd h8) HO11.out.rd).mono ?_; rintro e w12 ⟨rfl, h'⟩; replace hB := on hB h'; clear h'))
  all_goals
    go_ret
    exact ⟨rfl, hB⟩
theorem walk (B : Option Addr) (d : Nat) (body : List LtI) (A : Option Addr) (c : Nat) (bound : List Nm) (M : Option Addr) (m : Nat) (more : List Nm) (w : World) (r0 : RdX 17 ltIC w B body) (k0 : ∀ x ∈ body, LtOk w x) (r1 : RdN w A bound) (k1 : NmOk bound) (r2 : RdN w M more) (k2 : NmOk more) : Calls Try.prog 6 #[.slice B body.length d, .slice A bound.length c, .slice M more.length m] w fun e w' => e = .returned (.bool true) ∧ Below w.heap.size w w' := by
  by_cases hm : (20 : Int) < (more.length : Int)
  · exact walk_no B d body A c bound M m more w r0 k0 r1 k1 r2 k2 hm
  cases h1 : ordL vsL readyL body bound with
  | some r =>
    obtain ⟨l, U⟩ := r
    obtain ⟨l2, U2, h2, he⟩ := more_some (T := more) h1
    exact walk_ss B d body A c bound M m more w r0 k0 r1 k1 r2 k2 hm l U h1 l2 U2 h2 he
  | none =>
    cases h2 : ordL vsL readyL body (bound ++ more) with
    | none => exact walk_nn B d body A c bound M m more w r0 k0 r1 k1 r2 k2 hm h1 h2
    | some r => exact walk_ns B d body A c bound M m more w r0 k0 r1 k1 r2 k2 hm h1 r.1 r.2 h2

theorem own : ownKnob Try.prog.godebug = none := by kernel_rfl

set_option maxRecDepth 100000 in
theorem lifted (os : Os) (started : os.Started) (H : Type) (enc : TypeId × Value → H) :
    ReturnsInHanded {} Try.checked os 6 .any (Rows.safeMoreSpec.pre6 enc Try.prog Try.f6 Rows.safeMoreRow.domain false) (Rows.safeMoreSpec.post enc Try.prog Try.f6 false true false false) := by
  refine returnsInHanded_of_change (C := Try.checked) own started (by kernel_rfl) Try.func6
    (ChangeSpec.witness6 (enc := enc) (C := Try.checked) false ⟨#[], #[.slice none 0 0, .slice none 0 0, .slice none 0 0], []⟩ 8 (by kernel_rfl) (by kernel_rfl) (by kernel_rfl) (by kernel_rfl)) ?_
  intro W base args ds gs before hval0 hW hcnd _
  have hval : ∀ (j : Nat) t v, Try.f6.params[j]? = some t → args[j]? = some v → Value.okWide Try.prog W .any base t v := hval0
  have hW' := hW
  obtain ⟨p, q, hA0, hV, rfl, hfz, hnd⟩ := hW
  have hA : DataW.TrodAll enc Try.prog W 0 (fun _ => true) true Try.f6.params.toList args.toList ds p := hA0
  have hAk := hA
  rw [Try.params6] at hA hval
  obtain ⟨v0, vs0, d0, ds0, p0, q0, hargs, rfl, rfl, h0, r0⟩ := trodAll_cons hA
  obtain ⟨v1, vs1, d1, ds1, p1, q1, rfl, rfl, rfl, h1, r1⟩ := trodAll_cons r0
  obtain ⟨v2, vs2, d2, ds2, p2, q2, rfl, rfl, rfl, h2, r2⟩ := trodAll_cons r1
  obtain ⟨rfl, rfl, rfl⟩ := trodAll_nil r2
  obtain rfl : args = #[v0, v1, v2] := by cases args; simp_all
  obtain ⟨rfl, rfl⟩ := trodVars_none hV
  obtain ⟨A0, c0, l0, rfl, r0', k0'⟩ := open_lits (okWide_slice Try.underlying22 (hval 0 22 v0 rfl rfl)) h0
  obtain ⟨A1, c1, l1, rfl, r1', k1'⟩ := open_nms (okWide_slice Try.underlying23 (hval 1 23 v1 rfl rfl)) h1
  obtain ⟨A2, c2, l2, rfl, r2', k2'⟩ := open_nms (okWide_slice Try.underlying23 (hval 2 23 v2 rfl rfl)) h2
  clear hA0 hval0
  refine (walk A0 c0 l0 A1 c1 l1 A2 c2 l2 W r0' k0' r1' k1' r2' k2').mono fun e W' ⟨he, hg⟩ => ?_
  subst he
  refine ⟨_, rfl, post_old hW' (by simpa using hAk) (by rw [Try.params6]; decide) (fun _ _ _ => (trodAll_cons_mk (shut_bool Try.underlying4 _) trodAll_mk0)) rfl (fun _ => rfl) hg⟩

theorem proved : Rows.SafeMoreSaid :=
  OpenClaim.holds_of_wide 6 Try.f6 rfl rfl rfl rfl rfl rfl rfl ⟨rfl, rfl, rfl, rfl, rfl⟩ rfl rfl rfl rfl rfl (by kernel_rfl) Try.func6 (by kernel_rfl)
    (of_decide_eq_true (by kernel_rfl)) (by unfold Func.isWrapper; first | (rw [if_pos (by decide +kernel)]; kernel_rfl) | (rw [if_neg (by decide +kernel)]; exact ⟨rfl, rfl⟩))
    (fun os started H enc _ => lifted os started H enc)
#print axioms proved
end Go.Proofs.Ytahljmddnfldlaa.safeMore

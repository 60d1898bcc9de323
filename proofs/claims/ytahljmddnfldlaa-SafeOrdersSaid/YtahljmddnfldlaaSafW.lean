/-
  Layer 11: what a law asks first.
-/
import Derived.Test.YtahljmddnfldlaaSafT
import Derived.Test.YtahljmddnfldlaaSafS
namespace Go.Proofs.Ytahljmddnfldlaa
open Go.RowKit FloM ValM Go.Shelf Go.Maps
set_option linter.unusedVariables false
set_option linter.unusedSimpArgs false
def tz : Tm := ⟨[], v0⟩
def awX : Tm := ⟨[88], v0⟩
def awL0 : LtI := ⟨3, ⟨[], none, 0, []⟩, [60], awX, awX, tz, none, 0, []⟩
def awL1 (A : Option Addr) : LtI := ⟨1, ⟨[113], A, 1, [awX]⟩, [], tz, tz, tz, none, 0, []⟩
def awR (A : Option Addr) : RlI := ⟨⟨[112], A, 1, [awX]⟩, 0, none, 0, []⟩
theorem awX_ok : TmOk awX := ⟨few_max (by decide), Nat.zero_le _, by decide, by decide⟩
theorem tz_ok : TmOk tz := ⟨Nat.zero_le _, Nat.zero_le _, by decide, by decide⟩
theorem aw_order (A : Option Addr) : ordL vsL readyL [awL0, awL1 A] [] = some ([1, 0], [[88], [88], [88]]) := by
  have h : ordL vsL readyL [awL0, awL1 none] [] = some ([1, 0], [[88], [88], [88]]) := by decide
  exact h
theorem aw_bad (A : Option Addr) : RlBad (awR A) := .inr ⟨[], [], rfl, rfl⟩
theorem aw_lits {W : World} {g k : Nat} (h1 : Row 40 W g (cellsOf tmC [awX])) (h2 : Row 43 W k (cellsOf ltIC [awL0, awL1 (some ⟨g, 0, none⟩)])) :
    RdX 17 ltIC W (some ⟨k, 0, none⟩) [awL0, awL1 (some ⟨g, 0, none⟩)] ∧ (∀ x ∈ [awL0, awL1 (some ⟨g, 0, none⟩)], x.rd W ∧ x.ok ∧ x.m.a.length ≤ 1000) := by
  refine ⟨rdX_row (fun _ => rfl) (few_max (by show 2 ≤ 1000; decide)) h2, fun x hx => ?_⟩
  simp only [List.mem_cons, List.not_mem_nil, or_false] at hx
  rcases hx with rfl | rfl
  · exact ⟨⟨⟨Nat.zero_le _, fun i y hy => by simp [awL0] at hy⟩, ⟨Nat.zero_le _, fun i y hy => by simp [awL0] at hy⟩⟩, ⟨⟨Nat.zero_le _, fun t ht => by simp [awL0] at ht⟩, few_max (by show 1 ≤ 1000; decide), awX_ok, awX_ok, tz_ok, fun s hs => by simp [awL0] at hs⟩, by show (0 : Nat) ≤ 1000; omega⟩
  · exact ⟨⟨rdX_row (cl := tmC) (fun _ => rfl) (few_max (by show 1 ≤ 1000; decide)) h1, ⟨Nat.zero_le _, fun i y hy => by simp [awL1] at hy⟩⟩, ⟨⟨few_max (by show 1 ≤ 1000; decide), fun t ht => (show t = awX by simpa [awL1] using ht) ▸ awX_ok⟩, Nat.zero_le _, tz_ok, tz_ok, tz_ok, fun s hs => by simp [awL1] at hs⟩, by show (1 : Nat) ≤ 1000; omega⟩
theorem aw_ord {W : World} {g k : Nat} (h1 : Row 40 W g (cellsOf tmC [awX])) (h2 : Row 43 W k (cellsOf ltIC [awL0, awL1 (some ⟨g, 0, none⟩)])) :
    Calls Try.prog 11 #[.slice (some ⟨k, 0, none⟩) 2 2, .slice none 0 0] W fun e w' => ∃ A c A2 c2, e = .returned (.tuple #[.slice A 2 c, .slice A2 1 c2, .int .i64 0]) ∧ OwnX 3 1 niC w' W.heap.size A c [1, 0] ∧ OwnN w' W.heap.size A2 c2 [[88]] ∧ Below W.heap.size W w' := by
  obtain ⟨a1, a2⟩ := aw_lits h1 h2
  have h := order_any (some ⟨k, 0, none⟩) 2 [awL0, awL1 (some ⟨g, 0, none⟩)] none 0 [] W a1 a2 (by show 2 ≤ 100; decide) ⟨Nat.zero_le _, fun i y hy => by simp at hy⟩ (fun s hs => by cases hs) (Nat.zero_le _)
  rw [aw_order] at h
  have e : namesL [[88], [88], [88]] = [[88]] := by decide
  refine h.mono ?_
  rintro e' w' ⟨A, c, A2, c2, h3, h4, h5, h6⟩
  rw [e] at h3 h5
  exact ⟨A, c, A2, c2, h3, h4, h5, h6⟩
theorem aw_rule (V : World) : Calls Try.prog 22 #[.agg #[.string ⟨#[112]⟩, .slice (some ⟨V.heap.size, 0, none⟩) 1 1, .int .i64 0, .slice none 0 0]] (V.alloc (.cells #[.string ⟨#[88]⟩, .int .i64 0, .int .i64 0, .string ⟨#[]⟩] 40)) fun e w' => e = .returned (.tuple #[.agg #[.string ⟨#[]⟩, .slice none 0 0, .int .i64 0, .slice none 0 0], .int .i64 7]) ∧ Below V.heap.size V w' := by
  have b1 : Below V.heap.size V (V.alloc (.cells #[.string ⟨#[88]⟩, .int .i64 0, .int .i64 0, .string ⟨#[]⟩] 40)) := (Below.refl _ _).alloc (Nat.le_refl _) _
  have r1 : Row 40 (V.alloc (.cells #[.string ⟨#[88]⟩, .int .i64 0, .int .i64 0, .string ⟨#[]⟩] 40)) V.heap.size (cellsOf tmC [awX]) := row_new V _
  have h := rule_bad (awR (some ⟨V.heap.size, 0, none⟩)) _ ⟨⟨rdX_row (cl := tmC) (fun _ => rfl) (few_max (by show 1 ≤ 1000; decide)) r1, ⟨Nat.zero_le _, fun i y hy => by simp [awR] at hy⟩, fun y hy => by simp [awR] at hy⟩, ⟨⟨few_max (by show 1 ≤ 1000; decide), fun t ht => by
    have : t = awX := by simpa [awR] using ht
    exact this ▸ awX_ok⟩, ⟨by show (-9223372036854775808 : Int) ≤ 0; omega, by show (0 : Int) < 9223372036854775808; omega⟩, fun y hy => by simp [awR] at hy⟩, by show (1 : Nat) ≤ 1000; omega, by show (0 : Nat) ≤ 100; omega, fun y hy => by simp [awR] at hy⟩ (aw_bad _)
  refine h.mono ?_
  rintro e w' ⟨h1, h2⟩
  exact ⟨h1, on b1 h2⟩
theorem aw_same (V : World) (A : Option Addr) (c : Nat) (h : RdN V A [[88]]) : Calls Try.prog 13 #[.slice A 1 c, .slice (some ⟨V.heap.size, 0, none⟩) 1 1] (V.alloc (.cells #[.string ⟨#[88]⟩] 9)) fun e w' => e = .returned (.bool true) ∧ Below V.heap.size V w' := by
  have b1 : Below V.heap.size V (V.alloc (.cells #[.string ⟨#[88]⟩] 9)) := (Below.refl _ _).alloc (Nat.le_refl _) _
  have r1 : Row 9 (V.alloc (.cells #[.string ⟨#[88]⟩] 9)) V.heap.size (cellsOf nmC [[88]]) := row_new V _
  have h := same11_yes A (some ⟨V.heap.size, 0, none⟩) c 1 [[88]] _ (RdX.on h b1) (rdX_row (cl := nmC) (fun _ => rfl) (few_max (by show 1 ≤ 1000; decide)) r1)
  refine h.mono ?_
  rintro e w' ⟨h1, h2⟩
  exact ⟨h1, on b1 h2⟩
theorem aw_vars (V : World) : Calls Try.prog 14 #[.agg (ltIC awL0).toArray] V fun e w' => ∃ A c, e = .returned (.slice A 1 c) ∧ Below V.heap.size V w' := by
  have h := vars_any awL0 V ⟨⟨Nat.zero_le _, fun i y hy => by simp [awL0] at hy⟩, ⟨Nat.zero_le _, fun i y hy => by simp [awL0] at hy⟩⟩ ⟨⟨Nat.zero_le _, fun t ht => by simp [awL0] at ht⟩, few_max (by show 1 ≤ 1000; decide), awX_ok, awX_ok, tz_ok, fun s hs => by simp [awL0] at hs⟩ (by show (0 : Nat) ≤ 1000; omega)
  have e : namesL (vsL awL0) = [[88]] := by decide
  rw [e] at h
  refine h.mono ?_
  rintro e w' ⟨A, c, h1, _, h2⟩
  exact ⟨A, c, h1, h2⟩
set_option maxRecDepth 20000 in
set_option maxHeartbeats 8000000 in
theorem awake11_any (w : World) : Calls Try.prog 9 #[] w fun e w' => e = .returned (.bool true) ∧ Below w.heap.size w w' := by
  go_enter Try.func9, Try.ntmps9
  go_upto_region 3 with fail
  generalize hW1 : World.alloc w _ = W1
  generalize hW2 : World.alloc W1 _ = W2
  generalize hW3 : World.alloc W2 _ = W3
  have s1 : W1.heap.size = w.heap.size + 1 := by rw [← hW1]; simp
  have s2 : W2.heap.size = w.heap.size + 1 + 1 := by rw [← hW2]; simp [s1]
  have b1 : Below w.heap.size w W1 := hW1 ▸ (Below.refl _ _).alloc (Nat.le_refl _) _
  have b2 : Below W1.heap.size W1 W2 := hW2 ▸ (Below.refl _ _).alloc (Nat.le_refl _) _
  have b3 : Below W2.heap.size W2 W3 := hW3 ▸ (Below.refl _ _).alloc (Nat.le_refl _) _
  have r1 : Row 40 W1 w.heap.size [.string ⟨#[88]⟩, .int .i64 0, .int .i64 0, .string ⟨#[]⟩] := by rw [← hW1]; exact row_new w _
  have r2 : Row 40 W2 (w.heap.size + 1) (cellsOf tmC [awX]) := by rw [← hW2, ← s1]; exact row_new W1 _
  have r3 : Row 43 W3 (w.heap.size + 1 + 1) (cellsOf ltIC [awL0, awL1 (some ⟨w.heap.size + 1, 0, none⟩)]) := by rw [← hW3, ← s2]; exact row_new W2 _
  have q1 := rowOn (rowOn r1 b2) b3
  have q2 := rowOn r2 b3
  have HB3 : Hid (Below w.heap.size w W3) := Lib.hid (on (on b1 b2) b3)
  have HQ1 := Lib.hid q1
  have HOrd := Lib.hid (aw_ord q2 r3)
  have HRG : Hid (∀ V, Below W3.heap.size W3 V → V.rangeAt (w.heap.size + 1 + 1) 0 (ltIC awL0)) := Lib.hid fun V hV j v hj => by
    rw [Nat.zero_add, (rowOn r3 hV).cell j]
    have h := cells_get (cl := ltIC) (sz := 17) (fun _ => rfl) [awL0, awL1 (some ⟨w.heap.size + 1, 0, none⟩)] 0 awL0 rfl j v hj
    rw [Nat.zero_mul, Nat.zero_add] at h
    exact h
  clear hW1 hW2 hW3 b1 b2 b3 r1 r2 r3 q1 q2 s1 s2
  go_upto_region 4 with (go_at_call 11; refine HOrd.out.mono ?_; rintro e w4 ⟨A, c, A2, c2, rfl, hO, hN, hB4⟩; have HO := Lib.hid hO; have HN := Lib.hid hN; have HB4 := Lib.hid hB4; clear hO hN hB4)
  obtain ⟨bo, oo, rfl, hbo, hco⟩ := (RdX.of_own (cl := niC) (sz := 1) (fun _ => rfl) HO.out).2 0 1 rfl
  have o0 : w4.cell? ⟨bo, oo, none⟩ = some (.int .i64 1) := by simpa using hco 0 _ rfl
  have HO0 := Lib.hid o0
  have c0 := (rowOn HQ1.out HB4.out).cell 0; have c1 := (rowOn HQ1.out HB4.out).cell 1; have c2' := (rowOn HQ1.out HB4.out).cell 2; have c3 := (rowOn HQ1.out HB4.out).cell 3
  simp only [List.getElem?_cons_zero, List.getElem?_cons_succ] at c0 c1 c2' c3
  have h4 : Below w4.heap.size w4 w4 := Below.refl _ _
  clear hco
  go_upto_region 5 with (go_at_call 22; refine (aw_rule _).mono ?_; rintro e w5 ⟨rfl, h'⟩; replace h4 := on h4 h'; clear h' c0 c1 c2' c3 o0)
  generalize hW6 : World.alloc w5 _ = w6
  have h6 : Below w4.heap.size w4 w6 := hW6 ▸ h4.alloc h4.size _
  have o1 := (keep h6 _ _ hbo).trans HO0.out
  clear hW6 h4
  go_wp2_with (first
    | (go_at_call 13; refine (aw_same _ A2 c2 (RdX.on HN.out.rd h6)).mono ?_; rintro e w7 ⟨rfl, h'⟩; replace h6 := on h6 h'; clear h' o1)
    | (refine wpList_load_want rfl 43 (.tmp 55) rfl (w.heap.size + 1 + 1) 0 rfl (ltIC awL0) _ (HRG.out _ (on HB4.out h6)) Try.underlying43 rfl (by kernel_rfl) ?_)
    | (go_at_call 14; refine (aw_vars _).mono ?_; rintro e w8 ⟨A7, c7, rfl, h'⟩; replace h6 := on h6 h'; clear h'))
  go_ret
  exact ⟨rfl, on HB3.out (on HB4.out h6)⟩
end Go.Proofs.Ytahljmddnfldlaa

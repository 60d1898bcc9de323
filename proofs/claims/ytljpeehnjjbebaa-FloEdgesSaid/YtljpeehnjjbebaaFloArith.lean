/-
  Contracts of flo.Add, Sub, Mul, Div, Of, and of the statements' own 'awake' and 'same'.
-/
import Derived.Test.YtljpeehnjjbebaaFloWalks
import Derived.Test.YtljpeehnjjbebaaFloLaws
namespace Go.Proofs.Ytljpeehnjjbebaa
open Go.RowKit FloM

/-! ### What is reckoned, NaN told by the tape -/
def nanPick (x y : Nat) (w : World) : Nat := (Question.nanBits .f64 x y).cut (w.tape w.drawn (.nanBits .f64 x y))
def fRes (o : Option Nat) (x y : Nat) (w : World) : Nat := match o with | some r => r | none => nanPick x y w
def fW (o : Option Nat) (w : World) : World := match o with | some _ => w | none => w.drew

@[go_sem] theorem fRes_some (r x y : Nat) (w : World) : fRes (some r) x y w = r := rfl
@[go_sem] theorem fW_some (r : Nat) (w : World) : fW (some r) w = w := rfl

theorem nanPick_isN (x y : Nat) (w : World) : isN (nanPick x y w) = true ∧ nanPick x y w < 18446744073709551616 := by
  unfold nanPick Question.cut
  simp only
  generalize w.tape w.drawn (.nanBits .f64 x y) = t
  refine ⟨?_, by omega⟩
  unfold isN infR
  simp only [decide_eq_true_eq]
  have h1 : t / 2 % (2 ^ 52 - 1) < 4503599627370495 := Nat.mod_lt _ (by decide)
  generalize t / 2 % (2 ^ 52 - 1) = q at h1
  rcases Nat.mod_two_eq_zero_or_one t with h | h
  · rw [h]; omega
  · rw [h]; omega

theorem run_arith (P : Program) (op : BinOp) (t : TypeId) (x y : Nat) (o : Option Nat) (w : World) (hop : op = .add ∨ op = .sub ∨ op = .mul ∨ op = .quo) (h : floatBits op .f64 x y = o) :
    (binOp op t (.float .f64 x) (.float .f64 y)).run P w = .ok (.float .f64 (fRes o x y w)) (fW o w) := by
  subst h
  rcases hop with rfl | rfl | rfl | rfl
  all_goals
    simp only [floatBits]
    unfold fRes fW
    split
    · rename_i r h
      simp [binOp, Op.floatArith, h]
    · rename_i h
      simp [binOp, Op.floatArith, h, Question.forced, nanPick]

@[go_sem] theorem run_add (P : Program) (t : TypeId) (x y : Nat) (w : World) : (binOp .add t (.float .f64 x) (.float .f64 y)).run P w = .ok (.float .f64 (fRes (Ieee.double.add x y) x y w)) (fW (Ieee.double.add x y) w) := run_arith P .add t x y _ w (by simp) rfl
@[go_sem] theorem run_sub (P : Program) (t : TypeId) (x y : Nat) (w : World) : (binOp .sub t (.float .f64 x) (.float .f64 y)).run P w = .ok (.float .f64 (fRes (Ieee.double.sub x y) x y w)) (fW (Ieee.double.sub x y) w) := run_arith P .sub t x y _ w (by simp) rfl
@[go_sem] theorem run_mul (P : Program) (t : TypeId) (x y : Nat) (w : World) : (binOp .mul t (.float .f64 x) (.float .f64 y)).run P w = .ok (.float .f64 (fRes (Ieee.double.mul x y) x y w)) (fW (Ieee.double.mul x y) w) := run_arith P .mul t x y _ w (by simp) rfl
@[go_sem] theorem run_quo (P : Program) (t : TypeId) (x y : Nat) (w : World) : (binOp .quo t (.float .f64 x) (.float .f64 y)).run P w = .ok (.float .f64 (fRes (Ieee.double.div x y) x y w)) (fW (Ieee.double.div x y) w) := run_arith P .quo t x y _ w (by simp) rfl

theorem fRes_code (o : Option Nat) (x y : Nat) (w : World) (ho : ∀ r, o = some r → r < 18446744073709551616) : codeW (fRes o x y w) = codeO o ∧ fRes o x y w < 18446744073709551616 := by
  cases o with
  | some r => exact ⟨rfl, ho r rfl⟩
  | none => exact ⟨codeW_isN (nanPick_isN x y w).1, (nanPick_isN x y w).2⟩
theorem add_lt (x y : Nat) (w : World) : fRes (Ieee.double.add x y) x y w < 18446744073709551616 := (fRes_code _ x y w (fun _ h => Ieee.Format.add_lt Ieee.double h)).2
theorem sub_lt (x y : Nat) (w : World) : fRes (Ieee.double.sub x y) x y w < 18446744073709551616 := (fRes_code _ x y w (fun _ h => Ieee.Format.sub_lt Ieee.double h)).2
theorem mul_lt (x y : Nat) (w : World) : fRes (Ieee.double.mul x y) x y w < 18446744073709551616 := (fRes_code _ x y w (fun _ h => Ieee.Format.mul_lt Ieee.double h)).2
theorem div_lt (x y : Nat) (w : World) : fRes (Ieee.double.div x y) x y w < 18446744073709551616 := (fRes_code _ x y w (fun _ h => Ieee.Format.div_lt Ieee.double h)).2
theorem fW_drawn (o : Option Nat) (w : World) : Drawn w (fW o w) := by
  cases o with
  | some r => exact Drawn.refl w
  | none => exact Drawn.drew w

/-! ### Add, Sub, Mul, Div, Of -/
def addC (a b : Int) : Int := codeO (Ieee.double.add (backW a) (backW b))
def subC (a b : Int) : Int := codeO (Ieee.double.sub (backW a) (backW b))
def mulC (a b : Int) : Int := codeO (Ieee.double.mul (backW a) (backW b))
def divC (a b : Int) : Int := codeO (Ieee.double.div (backW a) (backW b))
def ofC (n : Int) : Int := codeW (Ieee.double.nearest (n < 0) n.natAbs 0)

set_option maxHeartbeats 400000 in
theorem add_any (a b : Int) (w : World) : Calls Try.prog 18 #[.int .i64 a, .int .i64 b] w fun e w' => e = .returned (.int .i64 (addC a b)) ∧ Drawn w w' := by
  go_enter Try.func18, Try.ntmps18
  go_wp2_with (first | (go_at_call 16; refine (back_any _ _).mono ?_; rintro e w' ⟨rfl, rfl⟩) | (go_at_call 11; refine (code_any _ _ (add_lt _ _ _)).mono ?_; rintro e w' ⟨rfl, rfl⟩))
  go_ret
  exact ⟨ret_int (fRes_code _ _ _ _ (fun _ h => Ieee.Format.add_lt Ieee.double h)).1, fW_drawn _ _⟩
set_option maxHeartbeats 400000 in
theorem sub_any (a b : Int) (w : World) : Calls Try.prog 19 #[.int .i64 a, .int .i64 b] w fun e w' => e = .returned (.int .i64 (subC a b)) ∧ Drawn w w' := by
  go_enter Try.func19, Try.ntmps19
  go_wp2_with (first | (go_at_call 16; refine (back_any _ _).mono ?_; rintro e w' ⟨rfl, rfl⟩) | (go_at_call 11; refine (code_any _ _ (sub_lt _ _ _)).mono ?_; rintro e w' ⟨rfl, rfl⟩))
  go_ret
  exact ⟨ret_int (fRes_code _ _ _ _ (fun _ h => Ieee.Format.sub_lt Ieee.double h)).1, fW_drawn _ _⟩
set_option maxHeartbeats 400000 in
theorem mul_any (a b : Int) (w : World) : Calls Try.prog 20 #[.int .i64 a, .int .i64 b] w fun e w' => e = .returned (.int .i64 (mulC a b)) ∧ Drawn w w' := by
  go_enter Try.func20, Try.ntmps20
  go_wp2_with (first | (go_at_call 16; refine (back_any _ _).mono ?_; rintro e w' ⟨rfl, rfl⟩) | (go_at_call 11; refine (code_any _ _ (mul_lt _ _ _)).mono ?_; rintro e w' ⟨rfl, rfl⟩))
  go_ret
  exact ⟨ret_int (fRes_code _ _ _ _ (fun _ h => Ieee.Format.mul_lt Ieee.double h)).1, fW_drawn _ _⟩
set_option maxHeartbeats 400000 in
theorem div_any (a b : Int) (w : World) : Calls Try.prog 21 #[.int .i64 a, .int .i64 b] w fun e w' => e = .returned (.int .i64 (divC a b)) ∧ Drawn w w' := by
  go_enter Try.func21, Try.ntmps21
  go_wp2_with (first | (go_at_call 16; refine (back_any _ _).mono ?_; rintro e w' ⟨rfl, rfl⟩) | (go_at_call 11; refine (code_any _ _ (div_lt _ _ _)).mono ?_; rintro e w' ⟨rfl, rfl⟩))
  go_ret
  exact ⟨ret_int (fRes_code _ _ _ _ (fun _ h => Ieee.Format.div_lt Ieee.double h)).1, fW_drawn _ _⟩
set_option maxHeartbeats 400000 in
theorem of_any (n : Int) (w : World) : Calls Try.prog 22 #[.int .i64 n] w fun e w' => e = .returned (.int .i64 (ofC n)) ∧ w = w' := by
  go_enter Try.func22, Try.ntmps22
  go_wp2_with (go_at_call 11; refine (code_any _ _ (Ieee.Format.nearest_lt _ _ _ _)).mono ?_; rintro e w' ⟨rfl, rfl⟩)
  go_ret
  exact ⟨rfl, rfl⟩

/-! ### awake -/
set_option maxHeartbeats 800000 in
theorem awake_any (w : World) : Calls Try.prog 10 #[] w fun e w' => e = .returned (.bool true) ∧ w = w' := by
  have h1 : codeW 4607182418800017408 = 4607182418800017408 := by decide
  have h2 : right 0 = true := by decide
  have h3 : ofC 2 = 4611686018427387904 := by decide
  have h4 : backW 4607182418800017408 = 4607182418800017408 := by decide
  have h5 : (FloatKind.f64.format.order 4607182418800017408 4607182418800017408 == some .eq) = true := by decide
  go_enter Try.func10, Try.ntmps10
  go_wp2_with (first | (go_at_call 16; refine (back_any _ _).mono ?_; rintro e w' ⟨rfl, rfl⟩) | (go_at_call 11; refine (code_any _ _ (by decide)).mono ?_; rintro e w' ⟨rfl, rfl⟩) | (go_at_call 13; refine (right_any _ _).mono ?_; rintro e w' ⟨rfl, rfl⟩) | (go_at_call 22; refine (of_any _ _).mono ?_; rintro e w' ⟨rfl, rfl⟩))
  go_ret
  exact ⟨rfl, rfl⟩

/-! ### same -/
set_option maxHeartbeats 800000 in
theorem same_nan (x y : Nat) (w : World) (h1 : (FloatKind.f64.format.order x x != some .eq) = true) (h2 : (FloatKind.f64.format.order y y != some .eq) = true) :
    Calls Try.prog 15 #[.float .f64 x, .float .f64 y] w fun e w' => e = .returned (.bool true) ∧ w = w' := by
  go_enter Try.func15, Try.ntmps15
  go_wp2
  go_ret
  exact ⟨rfl, rfl⟩
set_option maxHeartbeats 800000 in
theorem same_num (x : Nat) (w : World) (h1 : (FloatKind.f64.format.order x x != some .eq) = false) (h2 : (FloatKind.f64.format.order x x == some .eq) = true) (h3 : (FloatKind.f64.format.order x 0 != some .eq) = true) :
    Calls Try.prog 15 #[.float .f64 x, .float .f64 x] w fun e w' => e = .returned (.bool true) ∧ w = w' := by
  go_enter Try.func15, Try.ntmps15
  go_wp2
  go_ret
  exact ⟨rfl, rfl⟩
set_option maxHeartbeats 800000 in
theorem same_zero (x r : Nat) (w : World) (h1 : (FloatKind.f64.format.order x x != some .eq) = false) (h2 : (FloatKind.f64.format.order x x == some .eq) = true) (h3 : (FloatKind.f64.format.order x 0 != some .eq) = false) (h4 : Ieee.double.div 4607182418800017408 x = some r) (h5 : (FloatKind.f64.format.order r r == some .eq) = true) :
    Calls Try.prog 15 #[.float .f64 x, .float .f64 x] w fun e w' => e = .returned (.bool true) ∧ w = w' := by
  go_enter Try.func15, Try.ntmps15
  go_wp2
  go_ret
  exact ⟨rfl, rfl⟩

theorem beq_of_bne {o : Option Ordering} (h : (o != some .eq) = false) : (o == some .eq) = true := by simpa [bne] using h

theorem same_any (x y : Nat) (w : World) (hx : x < 18446744073709551616) (hy : y < 18446744073709551616) (h : (isN x = true ∧ isN y = true) ∨ (isN x = false ∧ x = y)) :
    Calls Try.prog 15 #[.float .f64 x, .float .f64 y] w fun e w' => e = .returned (.bool true) ∧ w = w' := by
  rcases h with ⟨h1, h2⟩ | ⟨h1, rfl⟩
  · exact same_nan x y w ((order_self x hx).trans h1) ((order_self y hy).trans h2)
  · have o1 := (order_self x hx).trans h1
    obtain ⟨s, r, hr, rfl⟩ := wd_of x hx
    have hle : r ≤ infR := by rw [isN_wd s r hr] at h1; simpa using h1
    have oz := order_zero s r hle
    by_cases h0 : r = 0
    · subst h0
      refine same_zero _ (wd s infR) w o1 (beq_of_bne o1) ?_ (one_div_zero s) ?_
      · have : (Ieee.double.order (wd s 0) 0 == some .eq) = true := by rw [oz]; rfl
        show (Ieee.double.order (wd s 0) 0 != some .eq) = false
        rw [bne, this]; rfl
      · cases s <;> decide
    · refine same_num _ w o1 (beq_of_bne o1) ?_
      show (Ieee.double.order (wd s r) 0 != some .eq) = true
      rw [bne, oz]; simp [h0]
end Go.Proofs.Ytljpeehnjjbebaa

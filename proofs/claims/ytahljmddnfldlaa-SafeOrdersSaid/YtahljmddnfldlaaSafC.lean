/-
  Contracts of slices.Grow and Concat for terms, and of Clone for terms and steps.
-/
import Derived.Test.YtahljmddnfldlaaSafG
import Derived.LoopTactic
import Derived.Deep.LoopGhost
import Derived.Laws.Cover3
import Derived.Lib.AppendZeros
namespace Go.Proofs.Ytahljmddnfldlaa
open Go.RowKit FloM ValM Go.Shelf
set_option linter.unusedVariables false
set_option linter.unusedSimpArgs false
@[go_sem] theorem run_eql_terms (w : World) (a : Option Addr) (l c : Nat) : (binOp .eql 34 (.slice a l c) (.slice none 0 0)).run Try.prog w = .ok (.bool a.isNone) w := by
  simp only [binOp]
  simp [run_equal_slice_nil w _ _ a l c Try.underlying34]
@[go_sem] theorem run_eql_steps (w : World) (a : Option Addr) (l c : Nat) : (binOp .eql 41 (.slice a l c) (.slice none 0 0)).run Try.prog w = .ok (.bool a.isNone) w := by
  simp only [binOp]
  simp [run_equal_slice_nil w _ _ a l c Try.underlying41]
theorem infoTm : (Try.prog.info? 40).map (fun i => (i.zero, i.size, i.bytes)) = some (some (.agg #[.string ByteArray.empty, .int .i64 0, .int .i64 0, .string ByteArray.empty]), 4, 48) := by kernel_rfl
theorem infoSt : (Try.prog.info? 92).map (fun i => (i.zero, i.size, i.bytes)) = some (some (.agg #[.int .i64 0, .string ByteArray.empty]), 2, 24) := by kernel_rfl
section
variable {β : Type} {cl : β → List Value} {sz : Nat} {P : Program}
theorem wpList_appX (hcl : ∀ x, (cl x).length = sz) (h1c : ∀ x, ∀ u ∈ cl x, u.oneCell' = true) (hsz : 0 < sz) {w : World} {ops : Array Oper} {rest : List Oper} {o : Oper} {a : Act} {Q : Exit → Act → World → Prop} (hgd : o.guard = none) (s x : Operand) (t : TypeId)
    (ho : o.op = .call { callee := .builtin .append, args := #[s, x], argTypes := #[t, t] })
    (base : Nat) (E : TypeId) (i0 : TypeInfo) (z : Value) (bytes : Nat) (ht : P.underlying t = some (.slice E)) (hi : P.info? E = some i0) (hz : i0.zero = some z) (hs : i0.size = sz) (hb : i0.bytes = bytes) (hzs : z.cells.size = sz) (hby : bytes ≤ 1000)
    (A' : Option Addr) (n c' : Nat) (xs : List Value) (hsv : a.eval s = .slice A' n c') (hown : w.ownsRow base E sz (.slice A' n c') n xs) (A : Option Addr) (c : Nat) (l : List β) (hx : a.eval x = .slice A l.length c) (hr : RdX sz cl w A l) (hn : n + l.length ≤ 1000000) (hbase : base ≤ w.heap.size)
    (h : ∀ A2 c2 w', w'.ownsRow base E sz (.slice A2 (n + l.length) c2) (n + l.length) (xs ++ cellsOf cl l) → w.grownBy w' (Value.slice A' n c').ownBlock → wpList P ops Q rest (a.put o.dst (.slice A2 (n + l.length) c2)) w') : wpList P ops Q (o :: rest) a w := by
  refine wpList_plain hgd fun K hK => ?_
  obtain ⟨v', w', hrun, h2, h3⟩ := run_appX (P := P) hcl h1c hsz w base t o.type E i0 z bytes ht hi hz hs hb hzs hby _ n xs hown A c l hr hn hbase
  obtain ⟨A2, c2, rfl⟩ := own_form h2
  unfold Oper.wp execOp
  simp only [ho, resolve, invoke, builtin, Sem.run_bind, Sem.run_pure, Result.andThen_ok, List.map_toArray, List.map_cons, List.map_nil, hsv, hx, hrun]
  exact hK _ _ (h A2 c2 w' h2 h3)
end
theorem tm_one : ∀ x : Tm, ∀ u ∈ tmC x, u.oneCell' = true := fun x u hu => by
  simp only [tmC, List.mem_cons, List.not_mem_nil, or_false] at hu
  rcases hu with rfl | rfl | rfl | rfl <;> rfl
theorem si_one : ∀ x : SI, ∀ u ∈ siC x, u.oneCell' = true := fun x u hu => by
  simp only [siC, List.mem_cons, List.not_mem_nil, or_false] at hu
  rcases hu with rfl | rfl <;> rfl
/-- A slice of terms in memory of the call's own. -/
def SaysT (l : List Tm) (w : World) (e : Ending) (w' : World) : Prop := ∃ A c, e = .returned (.slice A l.length c) ∧ OwnX 40 4 tmC w' w.heap.size A c l ∧ Below w.heap.size w w'
def SaysP (l : List SI) (w : World) (e : Ending) (w' : World) : Prop := ∃ A c, e = .returned (.slice A l.length c) ∧ OwnX 92 2 siC w' w.heap.size A c l ∧ Below w.heap.size w w'
structure PtT where
  A : Option Addr
  c : Nat
  l : List Tm
def PtT.val (x : PtT) : Value := .slice x.A x.l.length x.c
def catT (xs : List PtT) : List Tm := xs.flatMap PtT.l
theorem catT_snoc {xs : List PtT} {k : Nat} {x : PtT} (h : xs[k]? = some x) : catT (xs.take (k + 1)) = catT (xs.take k) ++ x.l := by
  rw [List.take_add_one, h]; simp [catT]
theorem catT_le (xs : List PtT) (k : Nat) : (catT (xs.take k)).length ≤ (catT xs).length := by
  have e : catT xs = catT (xs.take k) ++ catT (xs.drop k) := by unfold catT; rw [← List.flatMap_append, List.take_append_drop]
  rw [e, List.length_append]; omega
def CatT1 (xs : List PtT) (s i : Value) : Prop := ∃ k : Nat, i = .int .i64 (k : Nat) ∧ k ≤ xs.length ∧ s = .int .i64 ((catT (xs.take k)).length : Nat)
def CatT2 (w : World) (B : Nat) (xs : List PtT) (s i : Value) (wr : World) : Prop := ∃ k : Nat, i = .int .i64 (k : Nat) ∧ k ≤ xs.length ∧ Below w.heap.size w wr ∧ ∃ A c, s = .slice A (catT (xs.take k)).length c ∧ wr.ownsRow B 40 4 (.slice A (catT (xs.take k)).length c) (catT (xs.take k)).length (cellsOf tmC (catT (xs.take k)))
set_option maxHeartbeats 1000000 in
theorem growTm_any (n : Nat) (w : World) (hn : n ≤ 1000000) :
    Calls Try.prog 49 #[.slice none 0 0, .int .i64 (n : Int)] w fun e w' => ∃ A c, e = .returned (.slice A 0 c) ∧ w'.ownsRow w.heap.size 40 4 (.slice A 0 c) 0 [] ∧ Below w.heap.size w w' := by
  obtain ⟨i0, hi0, hz0, hz1, hz2⟩ := info_parts infoTm
  by_cases h0 : n = 0
  · subst h0
    go_enter Try.func49, Try.ntmps49
    go_wp2
    go_ret
    exact ⟨none, 0, rfl, ⟨by simp, .inl ⟨rfl, rfl⟩⟩, Below.refl _ _⟩
  · have hr : ∀ ty, (Builtin.append_ #[34, 3] ty #[.slice none 0 0, .int .i64 (n : Int)]).run Try.prog w = .ok (.slice (some ⟨w.heap.size, 0, none⟩) n (grownCap w n 0 40)) (w.drew.alloc (.cells (Builtin.zeroCells (Value.cells (.agg #[.string ByteArray.empty, .int .i64 0, .int .i64 0, .string ByteArray.empty])) n ++ Builtin.zeroCells (Value.cells (.agg #[.string ByteArray.empty, .int .i64 0, .int .i64 0, .string ByteArray.empty])) (grownCap w n 0 40 - n)) 40)) := fun ty =>
      Lib.run_append_nil_zeros w 34 3 ty 40 i0 _ .i64 .i64 Try.underlying34 Try.underlying3 hi0 hz0 n (by omega) (by omega) (by omega) (by rw [hz2]; omega)
    have hge := grownCap_ge w n 0 40
    have hcm : grownCap w n 0 40 ≤ maxLen := grownCap_le_maxLen w n 0 40 (by unfold maxLen; omega)
    generalize grownCap w n 0 40 = cap at hr hge hcm
    have HCM := Lib.hid hcm; clear hcm
    have HR := Lib.hid hr; clear hr hi0 hz0 hz1 hz2
    go_enter Try.func49, Try.ntmps49
    go_wp2_with (at_builtin; refine Lib.wpList_append_run _ rfl _ _ _ _ rfl _ _ rfl rfl _ _ (HR.out _) ?_)
    go_ret
    refine ⟨some ⟨w.heap.size, 0, none⟩, cap, rfl, ⟨rfl, .inr ⟨w.heap.size, cap, _, rfl, Nat.le_refl _, heap_alloc_new w.drew _, Nat.zero_le _, HCM.out, ?_, by simp⟩⟩, ((Below.refl _ _).drew).alloc (Nat.le_refl _) _⟩
    simp [size_zeroCells, Value.cells]
    omega
set_option maxHeartbeats 4000000 in
theorem catTm_any (b : Nat) (cp : Nat) (xs : List PtT) (w : World) (hb : b < w.heap.size) (h : ∀ j x, xs[j]? = some x → w.cell? ⟨b, 0 + j, none⟩ = some x.val) (hx : ∀ x ∈ xs, RdX 4 tmC w x.A x.l) (hs : (catT xs).length ≤ 1000000) (hl : xs.length ≤ 1000) :
    Calls Try.prog 45 #[.slice (some ⟨b, 0, none⟩) xs.length cp] w (SaysT (catT xs) w) := by
  have HX := Lib.hid hx; have HH := Lib.hid h; clear hx h
  obtain ⟨i0, hi0, hz0, hz1, hz2⟩ := info_parts infoTm
  have HI := Lib.hid (And.intro hi0 (And.intro hz0 (And.intro hz1 hz2))); clear hi0 hz0 hz1 hz2
  go_enter Try.func45, Try.ntmps45
  go_wp2
  go_loop [3, 11] (fun s i => CatT1 xs s i) (fun _ i => xs.length - (intOf i).toNat)
  case atStart => exact ⟨0, rfl, Nat.zero_le _, rfl⟩
  case round =>
    obtain ⟨k, rfl, hk, rfl⟩ := hrel
    have hle := catT_le xs k
    by_cases hlt : k < xs.length
    · have hx := List.getElem?_eq_getElem hlt
      generalize xs[k] = x at hx
      have hc := HH.out k x hx
      rw [Nat.zero_add] at hc
      have hsn := catT_snoc hx
      have hle2 := catT_le xs (k + 1)
      rw [hsn, List.length_append] at hle2
      have HS := Lib.hid hsn; clear hsn hx
      unfold PtT.val at hc
      go_wp2
      go_round
      case rel => exact ⟨k + 1, by go_num, by omega, by rw [HS.out, List.length_append]; go_num⟩
      case measure => simp [intOf]; omega
    · obtain rfl : k = xs.length := by omega
      rw [List.take_length] at hle ⊢
      go_wp2_with (go_at_call 49; refine (growTm_any _ _ hs).mono ?_; rintro e w1 ⟨A1, c1, rfl, ho1, hb1⟩)
      have HO1 := Lib.hid ho1; clear ho1
      go_loopw [6, 27] (fun s i wr => CatT2 w w.heap.size xs s i wr) (fun _ i _ => xs.length - (intOf i).toNat)
      case atStart => exact ⟨0, rfl, Nat.zero_le _, hb1, A1, c1, rfl, HO1.out⟩
      case round =>
        obtain ⟨k, rfl, hk, hB, A2, c2, rfl, ho2⟩ := hrel
        have HO2 := Lib.hid ho2; clear ho2 HO1
        have hle := catT_le xs k
        by_cases hlt : k < xs.length
        · have hx := List.getElem?_eq_getElem hlt
          generalize xs[k] = x at hx
          have hc := (keep hB _ _ hb).trans (HH.out k x hx)
          rw [Nat.zero_add] at hc
          have hok : RdX 4 tmC wr x.A x.l := (HX.out x (List.mem_of_getElem? hx)).on hB
          have hsn := catT_snoc hx
          have hle2 := catT_le xs (k + 1)
          rw [hsn, List.length_append] at hle2
          have HS := Lib.hid hsn; have HK := Lib.hid hok; clear hsn hx hok
          unfold PtT.val at hc
          obtain ⟨hi0, hz0, hz1, hz2⟩ := HI.out
          have HI0 := Lib.hid hi0; have HZ0 := Lib.hid hz0; have HZ1 := Lib.hid hz1; have HZ2 := Lib.hid hz2
          clear hi0 hz0 hz1 hz2
          go_wp2_with (at_builtin; refine wpList_appX (cl := tmC) (sz := 4) (fun _ => rfl) tm_one (by omega) rfl (.tmp 31) (.tmp 32) 34 rfl w.heap.size 40 i0 _ 48 Try.underlying34 HI0.out HZ0.out HZ1.out HZ2.out rfl (by omega) A2 _ c2 _ rfl HO2.out x.A x.c x.l rfl HK.out (by omega) hB.size ?_; intro A3 c3 w3 ho3 hg3)
          have HO3 := Lib.hid ho3; clear ho3
          go_roundw
          case rel => exact ⟨k + 1, by go_num, by omega, hB.grown hg3 hB.size (own_base HO2.out), A3, c3, by rw [HS.out, List.length_append], by rw [HS.out, List.length_append, cellsOf_app]; exact HO3.out⟩
          case measure => simp [intOf]; omega
        · obtain rfl : k = xs.length := by omega
          have HO3 := HO2.out
          rw [List.take_length] at HO3 ⊢
          have HO4 := Lib.hid HO3; clear HO3 HO2
          go_wp2
          go_ret
          exact ⟨A2, c2, rfl, HO4.out, hB⟩
set_option maxHeartbeats 1000000 in
theorem cloneTm_any (A : Option Addr) (c : Nat) (l : List Tm) (w : World) (h : RdX 4 tmC w A l) (hl : l.length ≤ 1000000) :
    Calls Try.prog 43 #[.slice A l.length c] w (SaysT l w) := by
  cases A with
  | none =>
    have hl0 : l = [] := by
      cases l with
      | nil => rfl
      | cons x r => obtain ⟨b, o, e, _⟩ := h.2 0 x rfl; cases e
    subst hl0
    go_enter Try.func43, Try.ntmps43
    go_wp2
    go_ret
    exact ⟨none, 0, rfl, ⟨rfl, .inl ⟨rfl, rfl⟩⟩, Below.refl _ _⟩
  | some a =>
    have HH := Lib.hid h; clear h
    obtain ⟨i0, hi0, hz0, hz1, hz2⟩ := info_parts infoTm
    have HI0 := Lib.hid hi0; have HZ0 := Lib.hid hz0; have HZ1 := Lib.hid hz1; have HZ2 := Lib.hid hz2
    clear hi0 hz0 hz1 hz2
    have hB : Below w.heap.size w (w.alloc (.cells #[] 40)) := (Below.refl _ _).alloc (Nat.le_refl _) _
    have hown0 : (w.alloc (.cells #[] 40)).ownsRow w.heap.size 40 4 (.slice (some ⟨w.heap.size, 0, none⟩) 0 0) 0 [] := World.ownsRow_made w #[] 0 (Nat.le_refl _) (Nat.zero_le _) rfl
    have HOWN := Lib.hid hown0; clear hown0
    go_enter Try.func43, Try.ntmps43
    go_wp2_with (at_builtin; refine wpList_appX (cl := tmC) (sz := 4) (fun _ => rfl) tm_one (by omega) rfl (.tmp 5) (.tmp 6) 34 rfl w.heap.size 40 i0 _ 48 Try.underlying34 HI0.out HZ0.out HZ1.out HZ2.out rfl (by omega) _ 0 0 [] rfl HOWN.out (some a) c l rfl (HH.out.on hB) (by omega) hB.size ?_; intro A3 c3 w3 ho3 hg3)
    go_ret
    simp only [List.nil_append, Nat.zero_add] at ho3 ⊢
    exact ⟨A3, c3, rfl, ho3, hB.grown hg3 hB.size (own_base HOWN.out)⟩
set_option maxHeartbeats 1000000 in
theorem cloneSt_any (A : Option Addr) (c : Nat) (l : List SI) (w : World) (h : RdX 2 siC w A l) (hl : l.length ≤ 1000000) :
    Calls Try.prog 44 #[.slice A l.length c] w (SaysP l w) := by
  cases A with
  | none =>
    have hl0 : l = [] := by
      cases l with
      | nil => rfl
      | cons x r => obtain ⟨b, o, e, _⟩ := h.2 0 x rfl; cases e
    subst hl0
    go_enter Try.func44, Try.ntmps44
    go_wp2
    go_ret
    exact ⟨none, 0, rfl, ⟨rfl, .inl ⟨rfl, rfl⟩⟩, Below.refl _ _⟩
  | some a =>
    have HH := Lib.hid h; clear h
    obtain ⟨i0, hi0, hz0, hz1, hz2⟩ := info_parts infoSt
    have HI0 := Lib.hid hi0; have HZ0 := Lib.hid hz0; have HZ1 := Lib.hid hz1; have HZ2 := Lib.hid hz2
    clear hi0 hz0 hz1 hz2
    have hB : Below w.heap.size w (w.alloc (.cells #[] 92)) := (Below.refl _ _).alloc (Nat.le_refl _) _
    have hown0 : (w.alloc (.cells #[] 92)).ownsRow w.heap.size 92 2 (.slice (some ⟨w.heap.size, 0, none⟩) 0 0) 0 [] := World.ownsRow_made w #[] 0 (Nat.le_refl _) (Nat.zero_le _) rfl
    have HOWN := Lib.hid hown0; clear hown0
    go_enter Try.func44, Try.ntmps44
    go_wp2_with (at_builtin; refine wpList_appX (cl := siC) (sz := 2) (fun _ => rfl) si_one (by omega) rfl (.tmp 5) (.tmp 6) 41 rfl w.heap.size 92 i0 _ 24 Try.underlying41 HI0.out HZ0.out HZ1.out HZ2.out rfl (by omega) _ 0 0 [] rfl HOWN.out (some a) c l rfl (HH.out.on hB) (by omega) hB.size ?_; intro A3 c3 w3 ho3 hg3)
    go_ret
    simp only [List.nil_append, Nat.zero_add] at ho3 ⊢
    exact ⟨A3, c3, rfl, ho3, hB.grown hg3 hB.size (own_base HOWN.out)⟩
end Go.Proofs.Ytahljmddnfldlaa

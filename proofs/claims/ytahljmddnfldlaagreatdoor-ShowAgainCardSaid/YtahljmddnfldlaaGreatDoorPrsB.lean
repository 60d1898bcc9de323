/-
  Package parse: the reader and how it goes from token to token.
-/
import Derived.Test.YtahljmddnfldlaaGreatDoorPrsA
namespace Go.Proofs.YtahljmddnfldlaaGreatDoor
open Go.RowKit FloM ValM Go.Shelf
set_option linter.unusedVariables false
set_option linter.unusedSimpArgs false
/-! ### Worlds that differ in the blocks of X alone, below B -/
structure Fr (X : Nat → Prop) (B : Nat) (w w' : World) : Prop where
  os : w'.os = w.os
  tape : w'.tape = w.tape
  output : w'.output = w.output
  size : w.heap.size ≤ w'.heap.size
  block : ∀ k, k < B → ¬ X k → w'.heap[k]? = w.heap[k]?
section
variable {X Y : Nat → Prop} {B : Nat} {w w' w'' : World}
theorem Fr.of (h : Below B w w') : Fr X B w w' := ⟨h.os, h.tape, h.output, h.size, fun k hk _ => h.block k hk⟩
theorem Fr.refl (X : Nat → Prop) (B : Nat) (w : World) : Fr X B w w := Fr.of (Below.refl _ _)
theorem Fr.trans (h : Fr X B w w') (k : Fr X B w' w'') : Fr X B w w'' := ⟨k.os.trans h.os, k.tape.trans h.tape, k.output.trans h.output, Nat.le_trans h.size k.size, fun i hi hx => (k.block i hi hx).trans (h.block i hi hx)⟩
theorem Fr.mono {B' : Nat} (h : Fr X B w w') (hB : B' ≤ B) : Fr X B' w w' := ⟨h.os, h.tape, h.output, h.size, fun k hk hx => h.block k (Nat.lt_of_lt_of_le hk hB) hx⟩
theorem Fr.below (h : Fr X B w w') {B' : Nat} (hB : B' ≤ B) (hX : ∀ k, k < B' → ¬ X k) : Below B' w w' := ⟨h.os, h.tape, h.output, h.size, fun k hk => h.block k (Nat.lt_of_lt_of_le hk hB) (hX k hk)⟩
theorem Fr.next (h : Fr X w.heap.size w w') (k : Fr X w'.heap.size w' w'') : Fr X w.heap.size w w'' := h.trans (k.mono h.size)
theorem Fr.cell (h : Fr X B w w') {b o : Nat} (hb : b < B) (hx : ¬ X b) : w'.cell? ⟨b, o, none⟩ = w.cell? ⟨b, o, none⟩ := World.cell?_of_block (h.block b hb hx)
end
theorem fr_set (w : World) (D o : Nat) (v : Value) (B : Nat) : Fr (· = D) B w (w.setCell ⟨D, o, none⟩ v) :=
  ⟨rfl, rfl, rfl, by simp [World.setCell], fun b _ hb => Below.heap_setCell _ _ _ _ (by simpa using hb)⟩
/-! ### The reader -/
structure RdrAt (W : World) (rb tb z : Nat) (ts : List Tk) (o : Nat) : Prop where
  ex : ∃ off c, Row 94 W rb [.slice (some ⟨tb, off, none⟩) (ts.length + 2) c, .int .i64 (o : Int)] ∧ RdK W (some ⟨tb, off, none⟩) (ts ++ [endT z, endT z]) ∧ tb ≠ rb ∧ ts.length + 2 ≤ c
section
variable {W W' : World} {rb tb z o : Nat} {ts : List Tk}
theorem RdrAt.lt (h : RdrAt W rb tb z ts o) : rb < W.heap.size := by
  obtain ⟨off, c, hr, _⟩ := h.ex
  exact hr.lt
theorem RdrAt.on (h : RdrAt W rb tb z ts o) (hb : Below W.heap.size W W') : RdrAt W' rb tb z ts o := by
  obtain ⟨off, c, hr, hk, h2, h3⟩ := h.ex
  exact ⟨off, c, rowOn hr hb, hk.on hb, h2, h3⟩
theorem hd_at (z : Nat) (ts : List Tk) : (ts ++ [endT z, endT z])[0]? = some (hdT z ts) := by cases ts <;> rfl
theorem hd_next (z : Nat) (ts : List Tk) : (ts ++ [endT z, endT z])[1]? = some (hdT z ts.tail) := by
  match ts with
  | [] => rfl
  | [_] => rfl
  | _ :: _ :: _ => rfl
/-- What the reader's cells hold: its tokens' slice, and the next token. -/
structure HdAt (W : World) (rb b z : Nat) (ts : List Tk) (o off c : Nat) : Prop where
  row : Row 94 W rb [.slice (some ⟨b, off, none⟩) (ts.length + 2) c, .int .i64 (o : Int)]
  rd : RdK W (some ⟨b, off, none⟩) (ts ++ [endT z, endT z])
  ne : b ≠ rb
  cap : ts.length + 2 ≤ c
  lt : rb < W.heap.size
  bl : b < W.heap.size
  r0 : W.cell? ⟨rb, 0, none⟩ = some (.slice (some ⟨b, off, none⟩) (ts.length + 2) c)
  r1 : W.cell? ⟨rb, 1, none⟩ = some (.int .i64 (o : Int))
  f0 : W.frozen? ⟨rb, 0, none⟩ = false
  f1 : W.frozen? ⟨rb, 1, none⟩ = false
  c0 : W.cell? ⟨b, off, none⟩ = some (.int .i64 ((hdT z ts).k : Int))
  c1 : W.cell? ⟨b, off + 1, none⟩ = some (.string (bs (hdT z ts).t))
  c2 : W.cell? ⟨b, off + 2, none⟩ = some (.int .i64 ((hdT z ts).a : Int))
theorem RdrAt.hd (h : RdrAt W rb tb z ts o) : ∃ off c, HdAt W rb tb z ts o off c := by
  obtain ⟨off, c, hr, hk, h2, h3⟩ := h.ex
  obtain ⟨b', o', e, hb, c0, c1, c2⟩ := hk 0 _ (hd_at z ts)
  injection e with e; injection e with e1 e2 _; subst e1 e2
  exact ⟨off, c, hr, hk, h2, h3, hr.lt, hb, hr.cell 0, hr.cell 1, hr.frozen 0, hr.frozen 1, by simpa using c0, by simpa using c1, by simpa using c2⟩
theorem HdAt.at_ {off c : Nat} (h : HdAt W rb tb z ts o off c) : RdrAt W rb tb z ts o := ⟨off, c, h.row, h.rd, h.ne, h.cap⟩
theorem HdAt.on {off c : Nat} (h : HdAt W rb tb z ts o off c) (hb : Below W.heap.size W W') : HdAt W' rb tb z ts o off c :=
  ⟨rowOn h.row hb, h.rd.on hb, h.ne, h.cap, Nat.lt_of_lt_of_le h.lt hb.size, Nat.lt_of_lt_of_le h.bl hb.size, (keep hb _ _ h.lt).trans h.r0, (keep hb _ _ h.lt).trans h.r1, (rowOn h.row hb).frozen 0, (rowOn h.row hb).frozen 1, (keep hb _ _ h.bl).trans h.c0, (keep hb _ _ h.bl).trans h.c1, (keep hb _ _ h.bl).trans h.c2⟩
/-- The reader goes on by one token. -/
theorem HdAt.step {off c : Nat} {t : Tk} {r : List Tk} (h : HdAt W rb tb z (t :: r) o off c) : RdrAt (W.setCell ⟨rb, 0, none⟩ (.slice (some ⟨tb, off + 3, none⟩) (r.length + 2) (c - 1))) rb tb z r o := by
  have hF := fr_set W rb 0 (.slice (some ⟨tb, off + 3, none⟩) (r.length + 2) (c - 1)) W.heap.size
  refine ⟨off + 3, c - 1, Row.set (pre := []) h.row _, fun i v hv => ?_, h.ne, by have := h.cap; simp at this; omega⟩
  obtain ⟨b', o', e, hb, c0, c1, c2⟩ := h.rd (i + 1) v (by simpa using hv)
  injection e with e; injection e with e1 e2 _; subst e1 e2
  have hi : off + (i + 1) * 3 = off + 3 + i * 3 := by omega
  rw [hi] at c0 c1 c2
  exact ⟨tb, off + 3, rfl, Nat.lt_of_lt_of_le hb hF.size, (hF.cell hb h.ne).trans c0, (hF.cell hb h.ne).trans c1, (hF.cell hb h.ne).trans c2⟩
/-- A block behind those of the reader and of its tokens was written. -/
theorem RdrAt.far {g : Nat} (h : RdrAt W rb tb z ts o) (hl : rb < g) (ht : tb < g) (hF : Fr (· = g) (g + 1) W W') : RdrAt W' rb tb z ts o := by
  obtain ⟨off, c, hr, hk, h2, h3⟩ := h.ex
  refine ⟨off, c, (hF.block rb (by omega) (by omega)).trans hr, fun i v hv => ?_, h2, h3⟩
  obtain ⟨b', o', e, hb, c0, c1, c2⟩ := hk i v hv
  injection e with e; injection e with e1 e2 _; subst e1 e2
  have hc : ∀ k, W'.cell? ⟨tb, k, none⟩ = W.cell? ⟨tb, k, none⟩ := fun k => hF.cell (by omega) (by omega)
  exact ⟨tb, off, rfl, Nat.lt_of_lt_of_le hb hF.size, (hc _).trans c0, (hc _).trans c1, (hc _).trans c2⟩
set_option maxRecDepth 20000 in
set_option maxHeartbeats 2000000 in
theorem fail_any (k : Nat) (W : World) (h : RdrAt W rb tb z ts o) : Calls Tryz.prog 56 #[.pointer (some ⟨rb, 0, none⟩), .int .i64 (k : Int)] W fun e w' => e = .panicked [{ v := faultP (hdT z ts).a k, recovered := false }] ∧ W = w' := by
  obtain ⟨off, c, H⟩ := h.hd
  have r0 := H.r0; have c2 := H.c2; have hl := H.lt; have hb := H.bl
  generalize hdT z ts = t at c2 ⊢
  have h0 : (0 : Int) < ((ts.length + 2 : Nat) : Int) := by omega
  clear H h
  go_enter Tryz.func56, Tryz.ntmps56
  go_wp2
  exact ⟨rfl, rfl, rfl⟩
set_option maxRecDepth 20000 in
set_option maxHeartbeats 2000000 in
theorem next_any (m : ByteArray) (W : World) (h : RdrAt W rb tb z ts o) : Calls Tryz.prog 105 #[.pointer (some ⟨rb, 0, none⟩), .string m] W fun e w' => e = .returned (.bool ((hdT z ts).t == ls m)) ∧ W = w' := by
  obtain ⟨off, c, H⟩ := h.hd
  have r0 := H.r0; have c1 := H.c1; have hl := H.lt; have hb := H.bl
  generalize hdT z ts = t at c1 ⊢
  have h0 : (0 : Int) < ((ts.length + 2 : Nat) : Int) := by omega
  have he : ((bs t.t).toList == m.toList) = (t.t == ls m) := by rw [bsl, toList_ls]
  generalize (t.t == ls m) = q at he ⊢
  clear H h
  go_enter Tryz.func105, Tryz.ntmps105
  go_wp2
  go_ret
  exact ⟨rfl, rfl⟩
theorem slice_tok (b off n c : Nat) (V : World) (hc : n + 3 ≤ c) : (Instr.slice 88 (.slice (some ⟨b, off, none⟩) (n + 1 + 2) c) (some (.int .i64 1)) none none).run Tryz.prog V = .ok (.slice (some ⟨b, off + 3, none⟩) (n + 2) (c - 1)) V := by
  obtain ⟨i0, hi0, hz0, hz1, hz2⟩ := info_parts info_tokv
  have hel : Tryz.prog.elem 88 = 92 := by kernel_rfl
  have h := run_slice_l (P := Tryz.prog) (w := V) 88 (some ⟨b, off, none⟩) (n + 1 + 2) c (by rw [hel]; exact Tryz.underlying88) .i64 1 (by omega) (by omega)
  rw [h, hel]
  have hc1 : ¬ c = 1 := by omega
  simp [sizeOf, typeInfo, hi0, hz1, sliced, hc1, Addr.add]
def NeedQ (R : Ans Tk) (rb tb z o : Nat) (W : World) (e : Ending) (w' : World) : Prop := match R with
  | .ok t r => e = .returned t.val ∧ RdrAt w' rb tb z r o ∧ Fr (· = rb) W.heap.size W w'
  | .no a k => e = .panicked [{ v := faultP a k, recovered := false }] ∧ Fr (· = rb) W.heap.size W w'
theorem need_no {p : Tk → Bool} (h : p (hdT z ts) = false) : needP p z ts = .no (hdT z ts).a 2 := by
  cases ts with
  | nil => rfl
  | cons t r => unfold needP; simp only [hdT] at h ⊢; rw [h]; rfl
set_option maxRecDepth 20000 in
set_option maxHeartbeats 4000000 in
theorem need_pred (W : World) (h : RdrAt W rb tb z ts o) : Calls Tryz.prog 53 #[.pointer (some ⟨rb, 0, none⟩), .func (.func 55) #[] #[]] W (NeedQ (needP predT z ts) rb tb z o W) := by
  obtain ⟨off, c, H⟩ := h.hd
  have HH := Lib.hid H
  have r0 := H.r0; have c0 := H.c0; have c1 := H.c1; have c2 := H.c2; have hl := H.lt; have hb := H.bl
  have HP : Hid (∀ V, Calls Tryz.prog 55 #[.agg #[.int .i64 ((hdT z ts).k : Int), .string (bs (hdT z ts).t), .int .i64 ((hdT z ts).a : Int)]] V fun e w' => e = .returned (.bool (predT (hdT z ts))) ∧ Below V.heap.size V w') := Lib.hid fun V => isPred_any (hdT z ts) V
  have h0 : (0 : Int) < ((ts.length + 2 : Nat) : Int) := by omega
  have hB0 : Below W.heap.size W ((W.alloc (.cells #[.int .i64 0, .string ByteArray.empty, .int .i64 0] 92)).alloc (.cells #[.int .i64 ((hdT z ts).k : Int), .string (bs (hdT z ts).t), .int .i64 ((hdT z ts).a : Int)] 92)) := ((Below.refl _ _).alloc (Nat.le_refl _) _).alloc (by simp) _
  have HB0 := Lib.hid hB0
  clear H h hB0
  cases hp : predT (hdT z ts) with
  | false =>
    rw [hp] at HP
    rw [need_no hp]
    have HF : Hid (∀ V, Below W.heap.size W V → Calls Tryz.prog 56 #[.pointer (some ⟨rb, 0, none⟩), .int .i64 2] V fun e w' => e = .panicked [{ v := faultP (hdT z ts).a 2, recovered := false }] ∧ V = w') := Lib.hid fun V hV => fail_any 2 V (HH.out.on hV).at_
    clear hp
    generalize hdT z ts = t at c0 c1 c2 HP HF HB0
    go_enter Tryz.func53, Tryz.ntmps53
    go_wp2_with (first
      | (go_at_call 55; refine (HP.out _).mono ?_; rintro e w2 ⟨rfl, hb2⟩; have hB2 := on HB0.out hb2; clear hb2)
      | (go_at_call 56; refine (HF.out _ hB2).mono ?_; rintro e w3 ⟨rfl, rfl⟩))
    exact ⟨rfl, rfl, Fr.of hB2⟩
  | true =>
    rw [hp] at HP
    obtain ⟨t, r, rfl⟩ : ∃ t r, ts = t :: r := by
      cases ts with
      | nil => exact absurd (show predT (endT z) = true from hp) (by simp [predT, endT])
      | cons t r => exact ⟨t, r, rfl⟩
    have hn : needP predT z (t :: r) = .ok t r := by unfold needP; simp only [hdT] at hp; simp only; rw [hp]; rfl
    rw [hn]
    clear hp hn
    simp only [hdT] at c0 c1 c2 HP HB0
    have hcap := HH.out.cap
    simp only [List.length_cons] at r0 h0 hcap
    have hsl : ∀ V : World, (Instr.slice 88 (.slice (some ⟨tb, off, none⟩) (r.length + 1 + 2) c) (some (.int .i64 1)) none none).run Tryz.prog V = .ok (.slice (some ⟨tb, off + 3, none⟩) (r.length + 2) (c - 1)) V := fun V => slice_tok tb off r.length c V (by omega)
    go_enter Tryz.func53, Tryz.ntmps53
    go_wp2_with (go_at_call 55; refine (HP.out _).mono ?_; rintro e w2 ⟨rfl, hb2⟩; have HB2 := Lib.hid hb2; have HH2 := Lib.hid (HH.out.on (on HB0.out hb2)); have r0' := HH2.out.r0; have f0' := HH2.out.f0; have hl' := HH2.out.lt; simp only [List.length_cons] at r0'; have HR0 := Lib.hid (rowOn (Row.alloc (row_new (t := 92) W [.int .i64 0, .string ByteArray.empty, .int .i64 0]) _) hb2); have hR1 := row_new (t := 92) (W.alloc (.cells #[.int .i64 0, .string ByteArray.empty, .int .i64 0] 92)) [.int .i64 (t.k : Int), .string (bs t.t), .int .i64 (t.a : Int)]; rw [World.size_alloc] at hR1; have HR1 := Lib.hid (rowOn hR1 hb2); clear hb2 hR1; have d0 := HR1.out.cell 0; have d1 := HR1.out.cell 1; have d2 := HR1.out.cell 2; have e0 := HR0.out.cell 0; have e1 := HR0.out.cell 1; have e2 := HR0.out.cell 2; have g0 := HR0.out.frozen 0; have g1 := HR0.out.frozen 1; have g2 := HR0.out.frozen 2; simp only [List.getElem?_cons_zero, List.getElem?_cons_succ] at d0 d1 d2 e0 e1 e2; have hn0 := HR0.out.lt; have hn1 := HR1.out.lt)
    have hR := Row.set (pre := [.int .i64 (t.k : Int), .string (bs t.t)]) (post := []) (Row.set (pre := [.int .i64 (t.k : Int)]) (post := [.int .i64 0]) (Row.set (pre := []) (post := [.string ByteArray.empty, .int .i64 0]) (Row.far HR0.out (p := ⟨rb, 0, none⟩) (by simp; omega) (.slice (some ⟨tb, off + 3, none⟩) (r.length + 2) (c - 1))) (.int .i64 (t.k : Int))) (.string (bs t.t))) (.int .i64 (t.a : Int))
    refine bodyPost_ret (results_cell_row rfl _ _ W.heap.size _ _ _ _ rfl hR Tryz.underlying92 rfl (by kernel_rfl)) rfl ?_
    have hs := HH2.out.step
    have hb2 := on HB0.out HB2.out
    have hF := Fr.trans (Fr.of hb2) (fr_set w2 rb 0 (.slice (some ⟨tb, off + 3, none⟩) (r.length + 2) (c - 1)) W.heap.size)
    obtain ⟨V, hV⟩ : ∃ V, w2.setCell ⟨rb, 0, none⟩ (.slice (some ⟨tb, off + 3, none⟩) (r.length + 2) (c - 1)) = V := ⟨_, rfl⟩
    rw [hV] at hs hF
    have hK := Fr.trans (Fr.trans (fr_set V W.heap.size 0 (.int .i64 (t.k : Int)) (W.heap.size + 1)) (fr_set _ W.heap.size 1 (.string (bs t.t)) (W.heap.size + 1))) (fr_set _ W.heap.size 2 (.int .i64 (t.a : Int)) (W.heap.size + 1))
    show NeedQ _ _ _ _ _ _ (Ending.returned (.agg #[.int .i64 (t.k : Int), .string (bs t.t), .int .i64 (t.a : Int)])) _
    rw [hV]
    refine ⟨rfl, hs.far hl hb hK, hF.trans (Fr.of (hK.below (Nat.le_succ _) fun k hk e => by omega))⟩
set_option maxRecDepth 20000 in
set_option maxHeartbeats 4000000 in
theorem need_term (W : World) (h : RdrAt W rb tb z ts o) : Calls Tryz.prog 53 #[.pointer (some ⟨rb, 0, none⟩), .func (.func 88) #[] #[]] W (NeedQ (needP termT z ts) rb tb z o W) := by
  obtain ⟨off, c, H⟩ := h.hd
  have HH := Lib.hid H
  have r0 := H.r0; have c0 := H.c0; have c1 := H.c1; have c2 := H.c2; have hl := H.lt; have hb := H.bl
  have HP : Hid (∀ V, Calls Tryz.prog 88 #[.agg #[.int .i64 ((hdT z ts).k : Int), .string (bs (hdT z ts).t), .int .i64 ((hdT z ts).a : Int)]] V fun e w' => e = .returned (.bool (termT (hdT z ts))) ∧ Below V.heap.size V w') := Lib.hid fun V => isTerm_any (hdT z ts) V
  have h0 : (0 : Int) < ((ts.length + 2 : Nat) : Int) := by omega
  have hB0 : Below W.heap.size W ((W.alloc (.cells #[.int .i64 0, .string ByteArray.empty, .int .i64 0] 92)).alloc (.cells #[.int .i64 ((hdT z ts).k : Int), .string (bs (hdT z ts).t), .int .i64 ((hdT z ts).a : Int)] 92)) := ((Below.refl _ _).alloc (Nat.le_refl _) _).alloc (by simp) _
  have HB0 := Lib.hid hB0
  clear H h hB0
  cases hp : termT (hdT z ts) with
  | false =>
    rw [hp] at HP
    rw [need_no hp]
    have HF : Hid (∀ V, Below W.heap.size W V → Calls Tryz.prog 56 #[.pointer (some ⟨rb, 0, none⟩), .int .i64 2] V fun e w' => e = .panicked [{ v := faultP (hdT z ts).a 2, recovered := false }] ∧ V = w') := Lib.hid fun V hV => fail_any 2 V (HH.out.on hV).at_
    clear hp
    generalize hdT z ts = t at c0 c1 c2 HP HF HB0
    go_enter Tryz.func53, Tryz.ntmps53
    go_wp2_with (first
      | (go_at_call 88; refine (HP.out _).mono ?_; rintro e w2 ⟨rfl, hb2⟩; have hB2 := on HB0.out hb2; clear hb2)
      | (go_at_call 56; refine (HF.out _ hB2).mono ?_; rintro e w3 ⟨rfl, rfl⟩))
    exact ⟨rfl, rfl, Fr.of hB2⟩
  | true =>
    rw [hp] at HP
    obtain ⟨t, r, rfl⟩ : ∃ t r, ts = t :: r := by
      cases ts with
      | nil => exact absurd (show termT (endT z) = true from hp) (by simp [termT, endT])
      | cons t r => exact ⟨t, r, rfl⟩
    have hn : needP termT z (t :: r) = .ok t r := by unfold needP; simp only [hdT] at hp; simp only; rw [hp]; rfl
    rw [hn]
    clear hp hn
    simp only [hdT] at c0 c1 c2 HP HB0
    have hcap := HH.out.cap
    simp only [List.length_cons] at r0 h0 hcap
    have hsl : ∀ V : World, (Instr.slice 88 (.slice (some ⟨tb, off, none⟩) (r.length + 1 + 2) c) (some (.int .i64 1)) none none).run Tryz.prog V = .ok (.slice (some ⟨tb, off + 3, none⟩) (r.length + 2) (c - 1)) V := fun V => slice_tok tb off r.length c V (by omega)
    go_enter Tryz.func53, Tryz.ntmps53
    go_wp2_with (go_at_call 88; refine (HP.out _).mono ?_; rintro e w2 ⟨rfl, hb2⟩; have HB2 := Lib.hid hb2; have HH2 := Lib.hid (HH.out.on (on HB0.out hb2)); have r0' := HH2.out.r0; have f0' := HH2.out.f0; have hl' := HH2.out.lt; simp only [List.length_cons] at r0'; have HR0 := Lib.hid (rowOn (Row.alloc (row_new (t := 92) W [.int .i64 0, .string ByteArray.empty, .int .i64 0]) _) hb2); have hR1 := row_new (t := 92) (W.alloc (.cells #[.int .i64 0, .string ByteArray.empty, .int .i64 0] 92)) [.int .i64 (t.k : Int), .string (bs t.t), .int .i64 (t.a : Int)]; rw [World.size_alloc] at hR1; have HR1 := Lib.hid (rowOn hR1 hb2); clear hb2 hR1; have d0 := HR1.out.cell 0; have d1 := HR1.out.cell 1; have d2 := HR1.out.cell 2; have e0 := HR0.out.cell 0; have e1 := HR0.out.cell 1; have e2 := HR0.out.cell 2; have g0 := HR0.out.frozen 0; have g1 := HR0.out.frozen 1; have g2 := HR0.out.frozen 2; simp only [List.getElem?_cons_zero, List.getElem?_cons_succ] at d0 d1 d2 e0 e1 e2; have hn0 := HR0.out.lt; have hn1 := HR1.out.lt)
    have hR := Row.set (pre := [.int .i64 (t.k : Int), .string (bs t.t)]) (post := []) (Row.set (pre := [.int .i64 (t.k : Int)]) (post := [.int .i64 0]) (Row.set (pre := []) (post := [.string ByteArray.empty, .int .i64 0]) (Row.far HR0.out (p := ⟨rb, 0, none⟩) (by simp; omega) (.slice (some ⟨tb, off + 3, none⟩) (r.length + 2) (c - 1))) (.int .i64 (t.k : Int))) (.string (bs t.t))) (.int .i64 (t.a : Int))
    refine bodyPost_ret (results_cell_row rfl _ _ W.heap.size _ _ _ _ rfl hR Tryz.underlying92 rfl (by kernel_rfl)) rfl ?_
    have hs := HH2.out.step
    have hb2 := on HB0.out HB2.out
    have hF := Fr.trans (Fr.of hb2) (fr_set w2 rb 0 (.slice (some ⟨tb, off + 3, none⟩) (r.length + 2) (c - 1)) W.heap.size)
    obtain ⟨V, hV⟩ : ∃ V, w2.setCell ⟨rb, 0, none⟩ (.slice (some ⟨tb, off + 3, none⟩) (r.length + 2) (c - 1)) = V := ⟨_, rfl⟩
    rw [hV] at hs hF
    have hK := Fr.trans (Fr.trans (fr_set V W.heap.size 0 (.int .i64 (t.k : Int)) (W.heap.size + 1)) (fr_set _ W.heap.size 1 (.string (bs t.t)) (W.heap.size + 1))) (fr_set _ W.heap.size 2 (.int .i64 (t.a : Int)) (W.heap.size + 1))
    show NeedQ _ _ _ _ _ _ (Ending.returned (.agg #[.int .i64 (t.k : Int), .string (bs t.t), .int .i64 (t.a : Int)])) _
    rw [hV]
    refine ⟨rfl, hs.far hl hb hK, hF.trans (Fr.of (hK.below (Nat.le_succ _) fun k hk e => by omega))⟩
set_option maxRecDepth 20000 in
set_option maxHeartbeats 4000000 in
theorem need_var (W : World) (h : RdrAt W rb tb z ts o) : Calls Tryz.prog 53 #[.pointer (some ⟨rb, 0, none⟩), .func (.func 89) #[] #[]] W (NeedQ (needP varT z ts) rb tb z o W) := by
  obtain ⟨off, c, H⟩ := h.hd
  have HH := Lib.hid H
  have r0 := H.r0; have c0 := H.c0; have c1 := H.c1; have c2 := H.c2; have hl := H.lt; have hb := H.bl
  have HP : Hid (∀ V, Calls Tryz.prog 89 #[.agg #[.int .i64 ((hdT z ts).k : Int), .string (bs (hdT z ts).t), .int .i64 ((hdT z ts).a : Int)]] V fun e w' => e = .returned (.bool (varT (hdT z ts))) ∧ Below V.heap.size V w') := Lib.hid fun V => isVar_any (hdT z ts) V
  have h0 : (0 : Int) < ((ts.length + 2 : Nat) : Int) := by omega
  have hB0 : Below W.heap.size W ((W.alloc (.cells #[.int .i64 0, .string ByteArray.empty, .int .i64 0] 92)).alloc (.cells #[.int .i64 ((hdT z ts).k : Int), .string (bs (hdT z ts).t), .int .i64 ((hdT z ts).a : Int)] 92)) := ((Below.refl _ _).alloc (Nat.le_refl _) _).alloc (by simp) _
  have HB0 := Lib.hid hB0
  clear H h hB0
  cases hp : varT (hdT z ts) with
  | false =>
    rw [hp] at HP
    rw [need_no hp]
    have HF : Hid (∀ V, Below W.heap.size W V → Calls Tryz.prog 56 #[.pointer (some ⟨rb, 0, none⟩), .int .i64 2] V fun e w' => e = .panicked [{ v := faultP (hdT z ts).a 2, recovered := false }] ∧ V = w') := Lib.hid fun V hV => fail_any 2 V (HH.out.on hV).at_
    clear hp
    generalize hdT z ts = t at c0 c1 c2 HP HF HB0
    go_enter Tryz.func53, Tryz.ntmps53
    go_wp2_with (first
      | (go_at_call 89; refine (HP.out _).mono ?_; rintro e w2 ⟨rfl, hb2⟩; have hB2 := on HB0.out hb2; clear hb2)
      | (go_at_call 56; refine (HF.out _ hB2).mono ?_; rintro e w3 ⟨rfl, rfl⟩))
    exact ⟨rfl, rfl, Fr.of hB2⟩
  | true =>
    rw [hp] at HP
    obtain ⟨t, r, rfl⟩ : ∃ t r, ts = t :: r := by
      cases ts with
      | nil => exact absurd (show varT (endT z) = true from hp) (by simp [varT, endT])
      | cons t r => exact ⟨t, r, rfl⟩
    have hn : needP varT z (t :: r) = .ok t r := by unfold needP; simp only [hdT] at hp; simp only; rw [hp]; rfl
    rw [hn]
    clear hp hn
    simp only [hdT] at c0 c1 c2 HP HB0
    have hcap := HH.out.cap
    simp only [List.length_cons] at r0 h0 hcap
    have hsl : ∀ V : World, (Instr.slice 88 (.slice (some ⟨tb, off, none⟩) (r.length + 1 + 2) c) (some (.int .i64 1)) none none).run Tryz.prog V = .ok (.slice (some ⟨tb, off + 3, none⟩) (r.length + 2) (c - 1)) V := fun V => slice_tok tb off r.length c V (by omega)
    go_enter Tryz.func53, Tryz.ntmps53
    go_wp2_with (go_at_call 89; refine (HP.out _).mono ?_; rintro e w2 ⟨rfl, hb2⟩; have HB2 := Lib.hid hb2; have HH2 := Lib.hid (HH.out.on (on HB0.out hb2)); have r0' := HH2.out.r0; have f0' := HH2.out.f0; have hl' := HH2.out.lt; simp only [List.length_cons] at r0'; have HR0 := Lib.hid (rowOn (Row.alloc (row_new (t := 92) W [.int .i64 0, .string ByteArray.empty, .int .i64 0]) _) hb2); have hR1 := row_new (t := 92) (W.alloc (.cells #[.int .i64 0, .string ByteArray.empty, .int .i64 0] 92)) [.int .i64 (t.k : Int), .string (bs t.t), .int .i64 (t.a : Int)]; rw [World.size_alloc] at hR1; have HR1 := Lib.hid (rowOn hR1 hb2); clear hb2 hR1; have d0 := HR1.out.cell 0; have d1 := HR1.out.cell 1; have d2 := HR1.out.cell 2; have e0 := HR0.out.cell 0; have e1 := HR0.out.cell 1; have e2 := HR0.out.cell 2; have g0 := HR0.out.frozen 0; have g1 := HR0.out.frozen 1; have g2 := HR0.out.frozen 2; simp only [List.getElem?_cons_zero, List.getElem?_cons_succ] at d0 d1 d2 e0 e1 e2; have hn0 := HR0.out.lt; have hn1 := HR1.out.lt)
    have hR := Row.set (pre := [.int .i64 (t.k : Int), .string (bs t.t)]) (post := []) (Row.set (pre := [.int .i64 (t.k : Int)]) (post := [.int .i64 0]) (Row.set (pre := []) (post := [.string ByteArray.empty, .int .i64 0]) (Row.far HR0.out (p := ⟨rb, 0, none⟩) (by simp; omega) (.slice (some ⟨tb, off + 3, none⟩) (r.length + 2) (c - 1))) (.int .i64 (t.k : Int))) (.string (bs t.t))) (.int .i64 (t.a : Int))
    refine bodyPost_ret (results_cell_row rfl _ _ W.heap.size _ _ _ _ rfl hR Tryz.underlying92 rfl (by kernel_rfl)) rfl ?_
    have hs := HH2.out.step
    have hb2 := on HB0.out HB2.out
    have hF := Fr.trans (Fr.of hb2) (fr_set w2 rb 0 (.slice (some ⟨tb, off + 3, none⟩) (r.length + 2) (c - 1)) W.heap.size)
    obtain ⟨V, hV⟩ : ∃ V, w2.setCell ⟨rb, 0, none⟩ (.slice (some ⟨tb, off + 3, none⟩) (r.length + 2) (c - 1)) = V := ⟨_, rfl⟩
    rw [hV] at hs hF
    have hK := Fr.trans (Fr.trans (fr_set V W.heap.size 0 (.int .i64 (t.k : Int)) (W.heap.size + 1)) (fr_set _ W.heap.size 1 (.string (bs t.t)) (W.heap.size + 1))) (fr_set _ W.heap.size 2 (.int .i64 (t.a : Int)) (W.heap.size + 1))
    show NeedQ _ _ _ _ _ _ (Ending.returned (.agg #[.int .i64 (t.k : Int), .string (bs t.t), .int .i64 (t.a : Int)])) _
    rw [hV]
    refine ⟨rfl, hs.far hl hb hK, hF.trans (Fr.of (hK.below (Nat.le_succ _) fun k hk e => by omega))⟩
set_option maxRecDepth 20000 in
set_option maxHeartbeats 4000000 in
theorem need_cmp (W : World) (h : RdrAt W rb tb z ts o) : Calls Tryz.prog 53 #[.pointer (some ⟨rb, 0, none⟩), .func (.func 106) #[] #[]] W (NeedQ (needP cmpT z ts) rb tb z o W) := by
  obtain ⟨off, c, H⟩ := h.hd
  have HH := Lib.hid H
  have r0 := H.r0; have c0 := H.c0; have c1 := H.c1; have c2 := H.c2; have hl := H.lt; have hb := H.bl
  have HP : Hid (∀ V, Calls Tryz.prog 106 #[.agg #[.int .i64 ((hdT z ts).k : Int), .string (bs (hdT z ts).t), .int .i64 ((hdT z ts).a : Int)]] V fun e w' => e = .returned (.bool (cmpT (hdT z ts))) ∧ Below V.heap.size V w') := Lib.hid fun V => isCmp_any (hdT z ts) V
  have h0 : (0 : Int) < ((ts.length + 2 : Nat) : Int) := by omega
  have hB0 : Below W.heap.size W ((W.alloc (.cells #[.int .i64 0, .string ByteArray.empty, .int .i64 0] 92)).alloc (.cells #[.int .i64 ((hdT z ts).k : Int), .string (bs (hdT z ts).t), .int .i64 ((hdT z ts).a : Int)] 92)) := ((Below.refl _ _).alloc (Nat.le_refl _) _).alloc (by simp) _
  have HB0 := Lib.hid hB0
  clear H h hB0
  cases hp : cmpT (hdT z ts) with
  | false =>
    rw [hp] at HP
    rw [need_no hp]
    have HF : Hid (∀ V, Below W.heap.size W V → Calls Tryz.prog 56 #[.pointer (some ⟨rb, 0, none⟩), .int .i64 2] V fun e w' => e = .panicked [{ v := faultP (hdT z ts).a 2, recovered := false }] ∧ V = w') := Lib.hid fun V hV => fail_any 2 V (HH.out.on hV).at_
    clear hp
    generalize hdT z ts = t at c0 c1 c2 HP HF HB0
    go_enter Tryz.func53, Tryz.ntmps53
    go_wp2_with (first
      | (go_at_call 106; refine (HP.out _).mono ?_; rintro e w2 ⟨rfl, hb2⟩; have hB2 := on HB0.out hb2; clear hb2)
      | (go_at_call 56; refine (HF.out _ hB2).mono ?_; rintro e w3 ⟨rfl, rfl⟩))
    exact ⟨rfl, rfl, Fr.of hB2⟩
  | true =>
    rw [hp] at HP
    obtain ⟨t, r, rfl⟩ : ∃ t r, ts = t :: r := by
      cases ts with
      | nil => exact absurd (show cmpT (endT z) = true from hp) (by simp [cmpT, endT])
      | cons t r => exact ⟨t, r, rfl⟩
    have hn : needP cmpT z (t :: r) = .ok t r := by unfold needP; simp only [hdT] at hp; simp only; rw [hp]; rfl
    rw [hn]
    clear hp hn
    simp only [hdT] at c0 c1 c2 HP HB0
    have hcap := HH.out.cap
    simp only [List.length_cons] at r0 h0 hcap
    have hsl : ∀ V : World, (Instr.slice 88 (.slice (some ⟨tb, off, none⟩) (r.length + 1 + 2) c) (some (.int .i64 1)) none none).run Tryz.prog V = .ok (.slice (some ⟨tb, off + 3, none⟩) (r.length + 2) (c - 1)) V := fun V => slice_tok tb off r.length c V (by omega)
    go_enter Tryz.func53, Tryz.ntmps53
    go_wp2_with (go_at_call 106; refine (HP.out _).mono ?_; rintro e w2 ⟨rfl, hb2⟩; have HB2 := Lib.hid hb2; have HH2 := Lib.hid (HH.out.on (on HB0.out hb2)); have r0' := HH2.out.r0; have f0' := HH2.out.f0; have hl' := HH2.out.lt; simp only [List.length_cons] at r0'; have HR0 := Lib.hid (rowOn (Row.alloc (row_new (t := 92) W [.int .i64 0, .string ByteArray.empty, .int .i64 0]) _) hb2); have hR1 := row_new (t := 92) (W.alloc (.cells #[.int .i64 0, .string ByteArray.empty, .int .i64 0] 92)) [.int .i64 (t.k : Int), .string (bs t.t), .int .i64 (t.a : Int)]; rw [World.size_alloc] at hR1; have HR1 := Lib.hid (rowOn hR1 hb2); clear hb2 hR1; have d0 := HR1.out.cell 0; have d1 := HR1.out.cell 1; have d2 := HR1.out.cell 2; have e0 := HR0.out.cell 0; have e1 := HR0.out.cell 1; have e2 := HR0.out.cell 2; have g0 := HR0.out.frozen 0; have g1 := HR0.out.frozen 1; have g2 := HR0.out.frozen 2; simp only [List.getElem?_cons_zero, List.getElem?_cons_succ] at d0 d1 d2 e0 e1 e2; have hn0 := HR0.out.lt; have hn1 := HR1.out.lt)
    have hR := Row.set (pre := [.int .i64 (t.k : Int), .string (bs t.t)]) (post := []) (Row.set (pre := [.int .i64 (t.k : Int)]) (post := [.int .i64 0]) (Row.set (pre := []) (post := [.string ByteArray.empty, .int .i64 0]) (Row.far HR0.out (p := ⟨rb, 0, none⟩) (by simp; omega) (.slice (some ⟨tb, off + 3, none⟩) (r.length + 2) (c - 1))) (.int .i64 (t.k : Int))) (.string (bs t.t))) (.int .i64 (t.a : Int))
    refine bodyPost_ret (results_cell_row rfl _ _ W.heap.size _ _ _ _ rfl hR Tryz.underlying92 rfl (by kernel_rfl)) rfl ?_
    have hs := HH2.out.step
    have hb2 := on HB0.out HB2.out
    have hF := Fr.trans (Fr.of hb2) (fr_set w2 rb 0 (.slice (some ⟨tb, off + 3, none⟩) (r.length + 2) (c - 1)) W.heap.size)
    obtain ⟨V, hV⟩ : ∃ V, w2.setCell ⟨rb, 0, none⟩ (.slice (some ⟨tb, off + 3, none⟩) (r.length + 2) (c - 1)) = V := ⟨_, rfl⟩
    rw [hV] at hs hF
    have hK := Fr.trans (Fr.trans (fr_set V W.heap.size 0 (.int .i64 (t.k : Int)) (W.heap.size + 1)) (fr_set _ W.heap.size 1 (.string (bs t.t)) (W.heap.size + 1))) (fr_set _ W.heap.size 2 (.int .i64 (t.a : Int)) (W.heap.size + 1))
    show NeedQ _ _ _ _ _ _ (Ending.returned (.agg #[.int .i64 (t.k : Int), .string (bs t.t), .int .i64 (t.a : Int)])) _
    rw [hV]
    refine ⟨rfl, hs.far hl hb hK, hF.trans (Fr.of (hK.below (Nat.le_succ _) fun k hk e => by omega))⟩
set_option maxRecDepth 20000 in
set_option maxHeartbeats 4000000 in
theorem need_op (W : World) (h : RdrAt W rb tb z ts o) : Calls Tryz.prog 53 #[.pointer (some ⟨rb, 0, none⟩), .func (.func 123) #[] #[]] W (NeedQ (needP opT z ts) rb tb z o W) := by
  obtain ⟨off, c, H⟩ := h.hd
  have HH := Lib.hid H
  have r0 := H.r0; have c0 := H.c0; have c1 := H.c1; have c2 := H.c2; have hl := H.lt; have hb := H.bl
  have HP : Hid (∀ V, Calls Tryz.prog 123 #[.agg #[.int .i64 ((hdT z ts).k : Int), .string (bs (hdT z ts).t), .int .i64 ((hdT z ts).a : Int)]] V fun e w' => e = .returned (.bool (opT (hdT z ts))) ∧ Below V.heap.size V w') := Lib.hid fun V => isOp_any (hdT z ts) V
  have h0 : (0 : Int) < ((ts.length + 2 : Nat) : Int) := by omega
  have hB0 : Below W.heap.size W ((W.alloc (.cells #[.int .i64 0, .string ByteArray.empty, .int .i64 0] 92)).alloc (.cells #[.int .i64 ((hdT z ts).k : Int), .string (bs (hdT z ts).t), .int .i64 ((hdT z ts).a : Int)] 92)) := ((Below.refl _ _).alloc (Nat.le_refl _) _).alloc (by simp) _
  have HB0 := Lib.hid hB0
  clear H h hB0
  cases hp : opT (hdT z ts) with
  | false =>
    rw [hp] at HP
    rw [need_no hp]
    have HF : Hid (∀ V, Below W.heap.size W V → Calls Tryz.prog 56 #[.pointer (some ⟨rb, 0, none⟩), .int .i64 2] V fun e w' => e = .panicked [{ v := faultP (hdT z ts).a 2, recovered := false }] ∧ V = w') := Lib.hid fun V hV => fail_any 2 V (HH.out.on hV).at_
    clear hp
    generalize hdT z ts = t at c0 c1 c2 HP HF HB0
    go_enter Tryz.func53, Tryz.ntmps53
    go_wp2_with (first
      | (go_at_call 123; refine (HP.out _).mono ?_; rintro e w2 ⟨rfl, hb2⟩; have hB2 := on HB0.out hb2; clear hb2)
      | (go_at_call 56; refine (HF.out _ hB2).mono ?_; rintro e w3 ⟨rfl, rfl⟩))
    exact ⟨rfl, rfl, Fr.of hB2⟩
  | true =>
    rw [hp] at HP
    obtain ⟨t, r, rfl⟩ : ∃ t r, ts = t :: r := by
      cases ts with
      | nil => exact absurd (show opT (endT z) = true from hp) (by simp [opT, opL, endT])
      | cons t r => exact ⟨t, r, rfl⟩
    have hn : needP opT z (t :: r) = .ok t r := by unfold needP; simp only [hdT] at hp; simp only; rw [hp]; rfl
    rw [hn]
    clear hp hn
    simp only [hdT] at c0 c1 c2 HP HB0
    have hcap := HH.out.cap
    simp only [List.length_cons] at r0 h0 hcap
    have hsl : ∀ V : World, (Instr.slice 88 (.slice (some ⟨tb, off, none⟩) (r.length + 1 + 2) c) (some (.int .i64 1)) none none).run Tryz.prog V = .ok (.slice (some ⟨tb, off + 3, none⟩) (r.length + 2) (c - 1)) V := fun V => slice_tok tb off r.length c V (by omega)
    go_enter Tryz.func53, Tryz.ntmps53
    go_wp2_with (go_at_call 123; refine (HP.out _).mono ?_; rintro e w2 ⟨rfl, hb2⟩; have HB2 := Lib.hid hb2; have HH2 := Lib.hid (HH.out.on (on HB0.out hb2)); have r0' := HH2.out.r0; have f0' := HH2.out.f0; have hl' := HH2.out.lt; simp only [List.length_cons] at r0'; have HR0 := Lib.hid (rowOn (Row.alloc (row_new (t := 92) W [.int .i64 0, .string ByteArray.empty, .int .i64 0]) _) hb2); have hR1 := row_new (t := 92) (W.alloc (.cells #[.int .i64 0, .string ByteArray.empty, .int .i64 0] 92)) [.int .i64 (t.k : Int), .string (bs t.t), .int .i64 (t.a : Int)]; rw [World.size_alloc] at hR1; have HR1 := Lib.hid (rowOn hR1 hb2); clear hb2 hR1; have d0 := HR1.out.cell 0; have d1 := HR1.out.cell 1; have d2 := HR1.out.cell 2; have e0 := HR0.out.cell 0; have e1 := HR0.out.cell 1; have e2 := HR0.out.cell 2; have g0 := HR0.out.frozen 0; have g1 := HR0.out.frozen 1; have g2 := HR0.out.frozen 2; simp only [List.getElem?_cons_zero, List.getElem?_cons_succ] at d0 d1 d2 e0 e1 e2; have hn0 := HR0.out.lt; have hn1 := HR1.out.lt)
    have hR := Row.set (pre := [.int .i64 (t.k : Int), .string (bs t.t)]) (post := []) (Row.set (pre := [.int .i64 (t.k : Int)]) (post := [.int .i64 0]) (Row.set (pre := []) (post := [.string ByteArray.empty, .int .i64 0]) (Row.far HR0.out (p := ⟨rb, 0, none⟩) (by simp; omega) (.slice (some ⟨tb, off + 3, none⟩) (r.length + 2) (c - 1))) (.int .i64 (t.k : Int))) (.string (bs t.t))) (.int .i64 (t.a : Int))
    refine bodyPost_ret (results_cell_row rfl _ _ W.heap.size _ _ _ _ rfl hR Tryz.underlying92 rfl (by kernel_rfl)) rfl ?_
    have hs := HH2.out.step
    have hb2 := on HB0.out HB2.out
    have hF := Fr.trans (Fr.of hb2) (fr_set w2 rb 0 (.slice (some ⟨tb, off + 3, none⟩) (r.length + 2) (c - 1)) W.heap.size)
    obtain ⟨V, hV⟩ : ∃ V, w2.setCell ⟨rb, 0, none⟩ (.slice (some ⟨tb, off + 3, none⟩) (r.length + 2) (c - 1)) = V := ⟨_, rfl⟩
    rw [hV] at hs hF
    have hK := Fr.trans (Fr.trans (fr_set V W.heap.size 0 (.int .i64 (t.k : Int)) (W.heap.size + 1)) (fr_set _ W.heap.size 1 (.string (bs t.t)) (W.heap.size + 1))) (fr_set _ W.heap.size 2 (.int .i64 (t.a : Int)) (W.heap.size + 1))
    show NeedQ _ _ _ _ _ _ (Ending.returned (.agg #[.int .i64 (t.k : Int), .string (bs t.t), .int .i64 (t.a : Int)])) _
    rw [hV]
    refine ⟨rfl, hs.far hl hb hK, hF.trans (Fr.of (hK.below (Nat.le_succ _) fun k hk e => by omega))⟩
end
end Go.Proofs.YtahljmddnfldlaaGreatDoor

/-
  Layer 11: parameters that are literals, rules and names, opened; whether they are of a size that is looked at.
-/
import Derived.Test.YtahljmddnfldlaaSafW
import Derived.Test.YtahljmddnfldlaaSafF
namespace Go.Proofs.Ytahljmddnfldlaa
open Go.RowKit Go.ChangeShapes Go.WideShapes Go.ChangeAt Go.Joins Go.Deep Go.ChangeMaps FloM ValM
set_option linter.unusedVariables false
set_option linter.unusedSimpArgs false
section
variable {H : Type} {enc : TypeId × Value → H} {w : World} {base : Nat} {spare : Nat → Bool} {held : Bool}
instance : Inhabited Nm := ⟨[]⟩
theorem cells_nm11 {n : Nat} {cs : List Value} {x : DataW H × List MemPlace} (hl : cs.length = 1) (h : DataW.trod enc Try.prog w base spare held n 9 cs = some x) : ∃ s : Nm, cs = nmC s ∧ s.length ≤ maxLen := by
  obtain ⟨s, e0, _, w0⟩ := DataW.trod_string Try.underlying9 h
  subst e0
  exact ⟨ls s, by simp [nmC, bs_ls], by rw [ls_len]; exact w0⟩
theorem open_nms {v : Value} {d : DataW H} {p : List MemPlace} (hok : ∃ A n c, v = .slice A n c) (h : DataW.Trod enc Try.prog w base spare held 23 v d p) :
    ∃ (A : Option Addr) (c : Nat) (l : List Nm), v = .slice A l.length c ∧ RdN w A l ∧ NmOk l := by
  obtain ⟨A0, n0, c0, rfl⟩ := hok
  obtain ⟨fuel, hf⟩ := h
  obtain ⟨A, c, l, e, h1, h2, h3⟩ := rows_trod Try.underlying23 (sz := 1) cellsOf_s (by decide) nmC (fun s : Nm => s.length ≤ maxLen) (fun _ => rfl) (fun n cs x => cells_nm11) hf
  simp [Value.cells] at e
  obtain ⟨rfl, rfl, rfl⟩ := e
  exact ⟨_, _, l, rfl, h1, h2⟩
theorem open_lits {v : Value} {d : DataW H} {p : List MemPlace} (hok : ∃ A n c, v = .slice A n c) (h : DataW.Trod enc Try.prog w base spare held 22 v d p) :
    ∃ (A : Option Addr) (c : Nat) (l : List LtI), v = .slice A l.length c ∧ RdX 17 ltIC w A l ∧ ∀ x ∈ l, LtOk w x := by
  obtain ⟨A0, n0, c0, rfl⟩ := hok
  obtain ⟨fuel, hf⟩ := h
  obtain ⟨A, c, l, e, h1, h2, h3⟩ := rows_trod Try.underlying22 (sz := 17) cellsOf_li (by decide) ltIC (LtOk w) (fun _ => rfl) (fun n cs x => cells_lt) hf
  simp [Value.cells] at e
  obtain ⟨rfl, rfl, rfl⟩ := e
  exact ⟨_, _, l, rfl, h1, h2⟩
theorem open_lit {v : Value} {d : DataW H} {p : List MemPlace} (hok : ∃ c, v = .agg c ∧ c.size = Try.prog.cellsOf 43) (h : DataW.Trod enc Try.prog w base spare held 43 v d p) :
    ∃ x : LtI, v = .agg (ltIC x).toArray ∧ LtOk w x := by
  obtain ⟨cs0, rfl, hsz⟩ := hok
  obtain ⟨fuel, hf⟩ := h
  have hl : (Value.agg cs0).cells.toList.length = 17 := by
    simp only [Value.cells, Array.length_toList]
    rw [hsz]; kernel_rfl
  simp only [Value.cells] at hf hl
  obtain ⟨y, e, h2⟩ := cells_lt hl hf
  exact ⟨y, by rw [← e], h2⟩
theorem open_rule {v : Value} {d : DataW H} {p : List MemPlace} (hok : ∃ c, v = .agg c ∧ c.size = Try.prog.cellsOf 55) (h : DataW.Trod enc Try.prog w base spare held 55 v d p) :
    ∃ x : RlI, v = rlV x ∧ RlOk w x := by
  obtain ⟨cs0, rfl, hsz⟩ := hok
  obtain ⟨fuel, hf⟩ := h
  have hl : (Value.agg cs0).cells.toList.length = 4 := by
    simp only [Value.cells, Array.length_toList]
    rw [hsz]; kernel_rfl
  simp only [Value.cells] at hf hl
  obtain ⟨y, e, h2⟩ := cells_rl hl hf
  have e2 : cs0 = (rlIC y).toArray := by rw [← e]
  exact ⟨y, by rw [e2]; rfl, h2⟩
end
/-- What is looked at. -/
def FewB (body : List LtI) (bound : List Nm) : Prop := body.length ≤ 13 ∧ (∀ z ∈ body, FewL z) ∧ bound.length ≤ 20
def FewBQ (body : List LtI) (bound : List Nm) (W : World) (e : Ending) (w' : World) : Prop := ∃ b : Bool, (b = true → FewB body bound) ∧ e = .returned (.bool b) ∧ Below W.heap.size W w'
set_option maxRecDepth 20000 in
set_option maxHeartbeats 8000000 in
theorem fewB_any (B A : Option Addr) (d c : Nat) (body : List LtI) (bound : List Nm) (W : World) (hb : RdX 17 ltIC W B body) (hx : ∀ x ∈ body, LtOk W x) (hn : bound.length ≤ maxLen) :
    Calls Try.prog 10 #[.slice B body.length d, .slice A bound.length c] W (FewBQ body bound W) := by
  have hn9 : bound.length ≤ 9223372036854775807 := Nat.le_trans hn (by decide)
  have b1 : Below W.heap.size W (W.alloc (.cells #[.string ⟨#[]⟩, .slice none 0 0, .int .i64 0, .slice B body.length d] 55)) := (Below.refl _ _).alloc (Nat.le_refl _) _
  have r1 : Row 55 (W.alloc (.cells #[.string ⟨#[]⟩, .slice none 0 0, .int .i64 0, .slice B body.length d] 55)) W.heap.size (cellsOf rlIC [⟨⟨[], none, 0, []⟩, 0, B, d, body⟩]) := row_new W _
  have hnil : ∀ V : World, RdX 4 tmC V none [] := fun V => ⟨Nat.zero_le _, fun i y hy => by simp at hy⟩
  have hF : Hid (Calls Try.prog 18 #[.agg #[.slice (some ⟨W.heap.size, 0, none⟩) 1 1, .string ⟨#[]⟩, .slice none 0 0], .int .i64 1, .int .i64 13] (W.alloc (.cells #[.string ⟨#[]⟩, .slice none 0 0, .int .i64 0, .slice B body.length d] 55)) fun e w' => ∃ b : Bool, (b = true → body.length ≤ 13 ∧ ∀ z ∈ body, FewL z) ∧ e = .returned (.bool b) ∧ Below W.heap.size W w') := Lib.hid (by
    have h := few11_any ⟨some ⟨W.heap.size, 0, none⟩, 1, [⟨⟨[], none, 0, []⟩, 0, B, d, body⟩], ⟨[], none, 0, []⟩⟩ 1 13 (by omega) (by omega) _ ⟨rdX_row (cl := rlIC) (fun _ => rfl) (few_max (by show 1 ≤ 1000; decide)) r1, fun y hy => by
      have : y = ⟨⟨[], none, 0, []⟩, 0, B, d, body⟩ := by simpa using hy
      subst this
      exact ⟨hnil _, hb.on b1, fun z hz => ((hx z hz).1).on b1⟩, hnil _⟩
    refine h.mono ?_
    rintro e w' ⟨b, h1, h2, h3⟩
    refine ⟨b, fun e => ?_, h2, on b1 h3⟩
    obtain ⟨_, _, g⟩ := h1 e
    have g2 := g _ (List.mem_singleton_self _)
    exact ⟨g2.1, g2.2.2⟩)
  clear hb hx hnil r1 b1 hn
  go_enter Try.func10, Try.ntmps10
  go_wp2_with (go_at_call 18; refine hF.out.mono ?_; rintro e w2 ⟨b, hb, rfl, h'⟩; have HBx := Lib.hid hb; have HB2 := Lib.hid h'; clear hb h'; cases b)
  all_goals
    go_ret
    first
      | exact ⟨false, (fun h => by cases h), rfl, HB2.out⟩
      | exact ⟨decide ((bound.length : Int) ≤ 20), (fun h => ⟨(HBx.out trivial).1, (HBx.out trivial).2, by have h2 := of_decide_eq_true h; omega⟩), rfl, HB2.out⟩
end Go.Proofs.Ytahljmddnfldlaa

/-
  A parameter of type api.Value, opened to its three fields and shut again; the end of a law over plain data whose calls make memory of their own.
-/
import Derived.Test.YtdolhlbkhhnpmaaDoorChecked
import Derived.Below
import Derived.ChangeSame
import Derived.Lib.SmallJoins
import Derived.OpenShut
import Derived.ProofKit
import Derived.ChangeMaps5
import Derived.Deep.Slices
import Derived.Deep.Fields
import Derived.ReadAgain
import Derived.ChangeBears
import Derived.Test.YtdolhlbkhhnpmaaDoorShwPw
import Derived.Test.YtdolhlbkhhnpmaaDoorShwTx
import Derived.Maps.AppendAt
import Derived.Test.YtdolhlbkhhnpmaaDoorPrsTop
namespace Go.Proofs.YtdolhlbkhhnpmaaDoor
open Go.RowKit Go.ChangeShapes Go.WideShapes Go.ChangeAt Go.Joins Go.Deep Go.ChangeMaps
section
variable {H : Type} {enc : TypeId × Value → H} {w : World} {base : Nat} {spare : Nat → Bool} {held : Bool}
set_option maxRecDepth 20000 in
theorem open_val {r : Reach} {b0 : Nat} {v : Value} {d : DataW H} {p : List MemPlace} (hv : Value.okWide Tryd.prog w r b0 37 v) (h : DataW.Trod enc Tryd.prog w base spare held 37 v d p) :
    ∃ (k n : Int) (s : ByteArray), v = .agg #[.int .i64 k, .int .i64 n, .string s] ∧ d = .agg [.lit (.int .i64 k), .lit (.int .i64 n), .lit (.string s.data.toList)] ∧ p = [] ∧
      (Lit.int .i64 k).wf = true ∧ (Lit.int .i64 n).wf = true ∧ s.size ≤ maxLen := by
  obtain ⟨c0, c1, c2, y0, y1, y2, m, rfl, rfl, rfl, h0, h1, h2⟩ := open_agg3 Tryd.underlying37 (by kernel_rfl) (by kernel_rfl) hv h
  obtain ⟨k, e0, rfl, w0⟩ := DataW.trod_int Tryd.underlying3 h0
  obtain ⟨n, e1, rfl, w1⟩ := DataW.trod_int Tryd.underlying2 h1
  obtain ⟨s, e2, rfl, w2⟩ := DataW.trod_string Tryd.underlying9 h2
  injection e0 with e0; injection e1 with e1; injection e2 with e2
  subst e0 e1 e2
  exact ⟨k, n, s, rfl, rfl, rfl, w0, w1, w2⟩
set_option maxRecDepth 20000 in
theorem shut_val {k n : Int} {s : ByteArray} (w0 : (Lit.int .i64 k).wf = true) (w1 : (Lit.int .i64 n).wf = true) (w2 : s.size ≤ maxLen) :
    DataW.Trod enc Tryd.prog w base spare held 37 (.agg #[.int .i64 k, .int .i64 n, .string s]) (.agg [.lit (.int .i64 k), .lit (.int .i64 n), .lit (.string s.data.toList)]) [] :=
  shut_agg3 (y0 := (.lit (.int .i64 k), [])) (y1 := (.lit (.int .i64 n), [])) (y2 := (.lit (.string s.data.toList), [])) Tryd.underlying37 (by kernel_rfl) (by kernel_rfl)
    (by obtain ⟨f, h⟩ := shut_int (enc := enc) (w := w) (base := base) (spare := spare) (held := held) Tryd.underlying3 w0; exact ⟨f, h⟩)
    (by obtain ⟨f, h⟩ := shut_int (enc := enc) (w := w) (base := base) (spare := spare) (held := held) Tryd.underlying2 w1; exact ⟨f, h⟩)
    (by obtain ⟨f, h⟩ := shut_string (enc := enc) (w := w) (base := base) (sp := spare) (held := held) Tryd.underlying9 w2; exact ⟨f, h⟩)
end
/-- The end of a law over plain data (no place came in, no variable is named) that has left all old memory as it was. -/
theorem post_plain {H : Type} {enc : TypeId × Value → H} {P : Program} {f : Func} {s : ChangeSpec} {W W' : World} {args : Array Value} {v : Value} {ds gs : List (DataW H)}
    (hW : DataW.Whole enc P f.params.toList s.vars false W args.toList ds gs [])
    (hr : ∀ (b : Nat) (sp : Nat → Bool) (hd : Bool), DataW.TrodAll enc P W' b sp hd f.resultTypes.toList (v.resultList f.resultTypes.size) (s.fn H (ds ++ gs)).results [])
    (ha : ∀ sp : Nat → Bool, DataW.TrodAll enc P W' 0 sp true f.params.toList args.toList (s.fn H (ds ++ gs)).args [])
    (hv : ∀ sp : Nat → Bool, DataW.TrodVars enc P W' sp s.vars (s.fn H (ds ++ gs)).vars []) (hb : Below W.heap.size W W')
    (hok : ∀ (j : Nat) (t : TypeId) (r : Value), f.resultTypes[j]? = some t → (v.resultList f.resultTypes.size)[j]? = some r → Value.okWide P W' .any 0 t r) :
    s.post enc P f false true false false W args v W' := by
  refine ⟨ds, gs, [], [], [], [], hW, hr _ _ _, ha _, hv _, World.keptBut_mono (fun p hp => absurd hp (by simp)) (hb.frame (· ∈ ([] : List MemPlace))), fun _ => ?_⟩
  refine ⟨hok, _, _, [], ⟨[], [], trodAll_append (ha _) (hr _ _ _), hv _, rfl, ?_, ?_⟩, ?_⟩
  · intro _ _ h; cases h
  · intro h; cases h
  · intro _ h; cases h
end Go.Proofs.YtdolhlbkhhnpmaaDoor
namespace Go.Proofs.YtdolhlbkhhnpmaaDoor
open Go.RowKit Go.ChangeShapes Go.WideShapes Go.ChangeAt Go.Joins Go.Deep Go.ChangeMaps
set_option linter.unusedVariables false
set_option linter.unusedSimpArgs false
section
variable {H : Type} {enc : TypeId × Value → H} {w : World} {base : Nat} {spare : Nat → Bool} {held : Bool}
theorem cell_lt {w : World} {a : Addr} {v : Value} (h : w.cell? a = some v) : a.block < w.heap.size := by
  rcases Nat.lt_or_ge a.block w.heap.size with hl | hl
  · exact hl
  · simp [World.cell?, Array.getElem?_eq_none hl] at h
theorem add_spot {a : Addr} (h : a.spot = none) (n : Nat) : a.add n = ⟨a.block, a.off + n, none⟩ := by
  unfold Addr.add; split
  · rename_i e; subst e; cases a; simp_all
  · rfl
theorem add_off (a : Addr) (n : Nat) : ((a.add n).spot = none ↔ n ≠ 0 ∨ a.spot = none) := by
  unfold Addr.add; split <;> simp_all
/-- A slice whose elements are told by an opener of their own. -/
theorem rows_trod {β : Type} [Inhabited β] {T E : TypeId} (hu : Tryd.prog.underlying T = some (.slice E)) {sz : Nat} (hC : Tryd.prog.cellsOf E = sz) (hsz : 0 < sz) (cl : β → List Value) (ok : β → Prop) (hlen : ∀ u, (cl u).length = sz)
    (hel : ∀ (n : Nat) (cs : List Value) (x : DataW H × List MemPlace), cs.length = sz → DataW.trod enc Tryd.prog w base spare held n E cs = some x → ∃ u : β, cs = cl u ∧ ok u)
    {fuel : Nat} {cs : List Value} {x : DataW H × List MemPlace} (hf : DataW.trod enc Tryd.prog w base spare held fuel T cs = some x) :
    ∃ (A : Option Addr) (c : Nat) (l : List β), cs = [.slice A l.length c] ∧ RdX sz cl w A l ∧ (∀ u ∈ l, ok u) ∧ l.length ≤ c := by
  rcases open_slice hu hf with ⟨hcs, _⟩ | ⟨a, len, cap, m, n, D, Pl, hcs, _, hl, hm, hmm, _, hi⟩
  · exact ⟨none, 0, [], by simpa using hcs, ⟨Nat.zero_le _, fun i x hx => by simp at hx⟩, fun u hu => (by cases hu), Nat.le_refl _⟩
  · have hlm : len ≤ m := by rw [hmm]; split <;> omega
    obtain ⟨f, hff⟩ := choose_lt (p := fun i (u : β) => (∀ j x, (cl u)[j]? = some x → w.cell? (a.add (i * sz + j)) = some x) ∧ ok u) (n := len) (fun i hin => by
      obtain ⟨cs', hc, ht'⟩ := hi i (by omega)
      rw [hC] at hc
      obtain ⟨_, hcl, hat⟩ := World.cells?_some hc
      obtain ⟨u, rfl, h1⟩ := hel _ _ _ hcl ht'
      refine ⟨u, fun j x hj => ?_, h1⟩
      have hjl := (List.getElem?_eq_some_iff.1 hj).1
      have := hat j (by rw [hlen] at hjl; omega)
      rw [Go.Deep.add_add] at this
      rw [this, hj])
    refine ⟨some a, cap, (List.range len).map f, by simpa using hcs, ⟨by simpa using Nat.le_trans hl hm, fun i u hu => ?_⟩, fun u hu => ?_, by simpa using hl⟩
    · rw [List.getElem?_map, Option.map_eq_some_iff] at hu
      obtain ⟨j, hj, rfl⟩ := hu
      obtain ⟨hlj, hj⟩ := List.getElem?_eq_some_iff.1 hj
      rw [List.getElem_range] at hj; subst hj
      rw [List.length_range] at hlj
      have hz : ∀ u : β, ∃ x, (cl u)[0]? = some x := fun u => ⟨_, List.getElem?_eq_getElem (by rw [hlen]; exact hsz)⟩
      have hsp : a.spot = none := by
        obtain ⟨x, hx⟩ := hz (f 0)
        have := (hff 0 (by omega)).1 0 x hx
        exact World.cell?_spot (by simpa [Addr.add] using this)
      obtain ⟨ab, ao, asp⟩ := a
      simp only at hsp; subst hsp
      refine ⟨ab, ao, rfl, ?_, fun j x hx => ?_⟩
      · obtain ⟨x, hx⟩ := hz (f i)
        have h0 := (hff i hlj).1 0 x hx
        rw [add_spot rfl] at h0
        exact cell_lt h0
      · have h0 := (hff i hlj).1 j x hx
        rw [add_spot rfl] at h0
        rw [Nat.add_assoc]
        exact h0
    · rw [List.mem_map] at hu
      obtain ⟨i, hi', rfl⟩ := hu
      rw [List.mem_range] at hi'
      exact (hff i hi').2
theorem fields2 {P : Program} {t : TypeId} {f0 f1 : Field} (hs : P.underlying t = some (.struct #[f0, f1])) (hone : oneCellFields P #[f0, f1] = true) {n : Nat} {c0 c1 : Value} {x : DataW H × List MemPlace}
    (h : DataW.trod enc P w base spare held n t [c0, c1] = some x) :
    ∃ m y0 y1, DataW.trod enc P w base spare held m f0.type [c0] = some y0 ∧ DataW.trod enc P w base spare held m f1.type [c1] = some y1 := by
  obtain ⟨xs, m, _, hx, _, hlen, hg⟩ := DataW.trod_struct hs h
  obtain ⟨o0, k0⟩ := hone_of hone 0 f0 rfl
  obtain ⟨o1, k1⟩ := hone_of hone 1 f1 rfl
  match xs, hlen with
  | [y0, y1], _ =>
    exact ⟨m, y0, y1, by simpa [o0, k0] using hg 0 f0 rfl, by simpa [o1, k1] using hg 1 f1 rfl⟩
instance : Inhabited SI := ⟨(0, ByteArray.empty)⟩
def SiOk (s : SI) : Prop := s.2.size ≤ maxLen ∧ Fits s.1
theorem cells_si {n : Nat} {cs : List Value} {x : DataW H × List MemPlace} (hl : cs.length = 2) (h : DataW.trod enc Tryd.prog w base spare held n 33 cs = some x) :
    ∃ s : SI, cs = siC s ∧ SiOk s := by
  match cs, hl with
  | [c0, c1], _ =>
    obtain ⟨m, y0, y1, h0, h1⟩ := fields2 Tryd.underlying33 (by kernel_rfl) h
    obtain ⟨k, e0, _, w0⟩ := DataW.trod_int Tryd.underlying3 h0
    obtain ⟨s, e1, _, w1⟩ := DataW.trod_string Tryd.underlying9 h1
    injection e0 with e0; injection e1 with e1
    subst e0 e1
    exact ⟨(k, s), rfl, w1, fits_of w0⟩
/-- A parameter of type []api.Step reads as a list of steps. -/
theorem open_steps {v : Value} {d : DataW H} {p : List MemPlace} (hok : ∃ A n c, v = .slice A n c) (h : DataW.Trod enc Tryd.prog w base spare held 22 v d p) :
    ∃ (A : Option Addr) (c : Nat) (l : List SI), v = .slice A l.length c ∧ RdX 2 siC w A l ∧ (∀ s ∈ l, SiOk s) ∧ l.length ≤ c := by
  obtain ⟨A0, n0, c0, rfl⟩ := hok
  obtain ⟨fuel, hf⟩ := h
  obtain ⟨A, c, l, e, h1, h2, h3⟩ := rows_trod Tryd.underlying22 (sz := 2) (by kernel_rfl) (by decide) siC SiOk (fun _ => rfl) (fun n cs x => cells_si) hf
  simp [Value.cells] at e
  obtain ⟨rfl, rfl, rfl⟩ := e
  exact ⟨_, _, l, rfl, h1, h2, h3⟩
theorem trodAll_on {P : Program} {w w' : World} : ∀ {ts : List TypeId} {vs : List Value} {ds : List (DataW H)} {ps : List MemPlace}, DataW.TrodAll enc P w base spare held ts vs ds ps → (∀ p ∈ ps, w.sameAt w' p) → DataW.TrodAll enc P w' base spare held ts vs ds ps
  | [], [], [], _, h, _ => h
  | _ :: _, _ :: _, _ :: _, _, ⟨p, q, ⟨n, h1⟩, h2, e⟩, hs => ⟨p, q, ⟨n, DataW.trod_carry n _ _ _ h1 fun x hx => hs x (by rw [e]; exact List.mem_append_left _ hx)⟩, trodAll_on h2 fun x hx => hs x (by rw [e]; exact List.mem_append_right _ hx), e⟩
theorem kidsT : Kids Tryd.prog (· < Tryd.prog.types.size) := kids_rows (by kernel_rfl) (by kernel_rfl)
theorem fullT : ∀ t e, t < Tryd.prog.types.size → Tryd.prog.underlying t = some (.slice e) → 0 < Tryd.prog.cellsOf e := slices_full_of Tryd.prog (by kernel_rfl)
/-- The end of a law (no variable is named) that has left all old memory as it was and says that its arguments read as they did. -/
theorem post_old {H : Type} {enc : TypeId × Value → H} {f : Func} {s : ChangeSpec} {W W' : World} {args : Array Value} {v : Value} {ds : List (DataW H)} {before : List MemPlace}
    (hW : DataW.Whole enc Tryd.prog f.params.toList s.vars false W args.toList ds [] before)
    (hA : DataW.TrodAll enc Tryd.prog W 0 (fun _ => true) true f.params.toList args.toList ds before) (hT : ∀ t ∈ f.params.toList, t < Tryd.prog.types.size)
    (hr : ∀ (b : Nat) (sp : Nat → Bool) (hd : Bool), DataW.TrodAll enc Tryd.prog W' b sp hd f.resultTypes.toList (v.resultList f.resultTypes.size) (s.fn H (ds ++ [])).results [])
    (ha : (s.fn H (ds ++ [])).args = ds) (hv : ∀ sp : Nat → Bool, DataW.TrodVars enc Tryd.prog W' sp s.vars (s.fn H (ds ++ [])).vars []) (hb : Below W.heap.size W W') :
    s.post enc Tryd.prog f false true false false W args v W' := by
  have hlt := hW.lt
  refine ⟨ds, [], before, [], before, [], hW, hr _ _ _, ?_, hv _, World.keptBut_mono (fun p hp => ⟨hp, .inr (.inl hp)⟩) (hb.frame (· ∈ before)), fun h => by cases h⟩
  rw [ha]
  exact DataW.TrodAll.respare kidsT fullT hT (trodAll_on hA fun p hp => hb.same (hlt p hp)) fun p hp => by simpa using hlt p hp
end
end Go.Proofs.YtdolhlbkhhnpmaaDoor
namespace Go.Proofs.YtdolhlbkhhnpmaaDoor
open Go.RowKit FloM ValM Go.Shelf
set_option linter.unusedVariables false
set_option linter.unusedSimpArgs false
abbrev opS (k : Int) : SI := (k, ⟨#[]⟩)
theorem cells_of_get {β : Type} {cl : β → List Value} {sz : Nat} (hz : 0 < sz) (hs : ∀ x, (cl x).length = sz) : ∀ (l : List β) (j : Nat) (u : Value), (cellsOf cl l)[j]? = some u → ∃ x, l[j / sz]? = some x ∧ (cl x)[j % sz]? = some u
  | [], j, u, h => by simp [cellsOf] at h
  | x :: l, j, u, h => by
    have h' : (cl x ++ cellsOf cl l)[j]? = some u := h
    by_cases hj : j < sz
    · rw [List.getElem?_append_left (by rw [hs]; exact hj)] at h'
      exact ⟨x, by rw [Nat.div_eq_of_lt hj]; rfl, by rw [Nat.mod_eq_of_lt hj]; exact h'⟩
    · rw [List.getElem?_append_right (by rw [hs]; omega), hs] at h'
      obtain ⟨y, h1, h2⟩ := cells_of_get hz hs l (j - sz) u h'
      have e1 : j / sz = (j - sz) / sz + 1 := by rw [Nat.div_eq_sub_div hz (by omega)]
      have e2 : j % sz = (j - sz) % sz := Nat.mod_eq_sub_mod (by omega)
      exact ⟨y, by rw [e1]; exact h1, by rw [e2]; exact h2⟩
theorem si_news {w : World} {b o : Nat} {l : List SI} (h : RdX 2 siC w (some ⟨b, o, none⟩) l) : ∀ j u, (cellsOf siC l)[j]? = some u → w.cell? ((⟨b, o, none⟩ : Addr).add j) = some u := fun j u hu => by
  obtain ⟨x, h1, h2⟩ := cells_of_get (sz := 2) (by decide) (fun _ => rfl) l j u hu
  obtain ⟨b', o', e, _, hc⟩ := h.2 _ x h1
  injection e with e; injection e with e1 e2 _; subst e1 e2
  have h3 := hc _ u h2
  have hadd : (⟨b, o, none⟩ : Addr).add j = ⟨b, o + j, none⟩ := by unfold Addr.add; split <;> simp_all
  rw [hadd]
  rw [Nat.add_assoc, show j / 2 * 2 + j % 2 = j by omega] at h3
  exact h3
theorem si_cell (l : List SI) : ∀ u ∈ cellsOf siC l, u.oneCell' = true := by
  induction l with
  | nil => intro u hu; cases hu
  | cons x l ih =>
    intro u hu
    have hu' : u ∈ siC x ++ cellsOf siC l := hu
    rw [List.mem_append] at hu'
    rcases hu' with h | h
    · simp only [siC, List.mem_cons, List.not_mem_nil, or_false] at h
      rcases h with rfl | rfl <;> rfl
    · exact ih u h
theorem si_len (l : List SI) : (cellsOf siC l).length = l.length * 2 := by
  induction l with
  | nil => rfl
  | cons x l ih =>
    have : (siC x ++ cellsOf siC l).length = (x :: l).length * 2 := by rw [List.length_append, ih, List.length_cons]; show 2 + l.length * 2 = _; omega
    exact this
theorem si_app (a b : List SI) : cellsOf siC (a ++ b) = cellsOf siC a ++ cellsOf siC b := by
  induction a with
  | nil => rfl
  | cons x a ih => show siC x ++ cellsOf siC (a ++ b) = siC x ++ cellsOf siC a ++ cellsOf siC b; rw [ih, List.append_assoc]
theorem runS_some (w : World) (base : Nat) (ty : TypeId) (v : Value) (n : Nat) (xs : List Value) (hown : w.ownsRow base 33 2 v n xs) (ad : Addr) (c : Nat) (l : List SI) (hnews : ∀ j u, (cellsOf siC l)[j]? = some u → w.cell? (ad.add j) = some u) (hn : n + l.length ≤ 1000) (hbase : base ≤ w.heap.size) :
    ∃ v' w', (Builtin.append_ #[22, 22] ty #[v, .slice (some ad) l.length c]).run Tryd.prog w = .ok v' w' ∧ w'.ownsRow base 33 2 v' (n + l.length) (xs ++ cellsOf siC l) ∧ w.grownBy w' v.ownBlock := by
  obtain ⟨i, hi, hz, hs, hb⟩ := info_parts info_step
  obtain ⟨v', w', h1, h2, h3, _, h5⟩ := run_append_own_at (P := Tryd.prog) w base 22 ty 33 i _ 2 24 Tryd.underlying22 hi hz hs hb rfl (by omega) v n xs hown ad l.length c (cellsOf siC l) (si_len l) hnews (si_cell l) (by unfold maxLen; omega) (by omega) hbase
  exact ⟨v', w', h1, h2, h3⟩
theorem runS_none (w : World) (base : Nat) (ty : TypeId) (v : Value) (n : Nat) (xs : List Value) (hown : w.ownsRow base 33 2 v n xs) (c : Nat) :
    (Builtin.append_ #[22, 22] ty #[v, .slice none 0 c]).run Tryd.prog w = .ok v w := by
  obtain ⟨i, hi, hz, hs, hb⟩ := info_parts info_step
  rcases hown.2 with ⟨rfl, rfl⟩ | ⟨g, cap, cur, rfl, _, _, hnc, _⟩
  · simp [Builtin.append_, run_underlying Tryd.underlying22, sizeOf, typeInfo, hi, Builtin.lenOf, Builtin.firstCells]
  · simp [Builtin.append_, run_underlying Tryd.underlying22, sizeOf, typeInfo, hi, Builtin.lenOf, Builtin.firstCells, hnc, storeCells]
theorem runS (w : World) (base : Nat) (ty : TypeId) (v : Value) (n : Nat) (xs : List Value) (hown : w.ownsRow base 33 2 v n xs) (A : Option Addr) (c : Nat) (l : List SI) (hr : RdX 2 siC w A l) (hn : n + l.length ≤ 1000) (hbase : base ≤ w.heap.size) :
    ∃ v' w', (Builtin.append_ #[22, 22] ty #[v, .slice A l.length c]).run Tryd.prog w = .ok v' w' ∧ w'.ownsRow base 33 2 v' (n + l.length) (xs ++ cellsOf siC l) ∧ w.grownBy w' v.ownBlock := by
  match l, hr, hn with
  | [], hr, hn =>
    cases A with
    | some ad => exact runS_some w base ty v n xs hown ad c [] (fun j u hu => by simp [cellsOf] at hu) hn hbase
    | none => exact ⟨v, w, runS_none w base ty v n xs hown c, by simpa [cellsOf] using hown, ⟨rfl, rfl, rfl, Nat.le_refl _, fun _ _ _ => rfl⟩⟩
  | x :: r, hr, hn =>
    obtain ⟨b, o, rfl, _⟩ := hr.2 0 x rfl
    exact runS_some w base ty v n xs hown ⟨b, o, none⟩ c (x :: r) (si_news hr) hn hbase
/-- append(k, l..): k a row of the call's own, l wherever it lies (nil too); m is both. -/
theorem wpList_appS {w : World} {ops : Array Oper} {rest : List Oper} {o : Oper} {a : Act} {Q : Exit → Act → World → Prop} (hgd : o.guard = none) (s x : Operand)
    (ho : o.op = .call { callee := .builtin .append, args := #[s, x], argTypes := #[22, 22] })
    (base : Nat) (A' : Option Addr) (c' : Nat) (k l m : List SI) (hm : k ++ l = m) (hs : a.eval s = .slice A' k.length c') (hown : OwnX 33 2 siC w base A' c' k) (A : Option Addr) (c : Nat) (hx : a.eval x = .slice A l.length c) (hr : RdX 2 siC w A l) (hn : k.length + l.length ≤ 1000) (hbase : base ≤ w.heap.size)
    (h : ∀ A2 c2 w', OwnX 33 2 siC w' base A2 c2 m → w.grownBy w' (Value.slice A' k.length c').ownBlock → wpList Tryd.prog ops Q rest (a.put o.dst (.slice A2 m.length c2)) w') : wpList Tryd.prog ops Q (o :: rest) a w := by
  refine wpList_plain hgd fun K hK => ?_
  obtain ⟨v', w', hrun, h2, h3⟩ := runS w base o.type _ k.length (cellsOf siC k) hown A c l hr hn hbase
  subst hm
  rw [← si_app, ← List.length_append] at h2
  obtain ⟨A2, c2, rfl⟩ := own_form h2
  unfold Oper.wp execOp
  simp only [ho, resolve, invoke, builtin, Sem.run_bind, Sem.run_pure, Result.andThen_ok, List.map_toArray, List.map_cons, List.map_nil, hs, hx, hrun]
  exact hK _ _ (h A2 c2 w' h2 h3)
theorem ownS0 (w : World) {base : Nat} (hb : base ≤ w.heap.size) : OwnX 33 2 siC (w.alloc (.cells #[] 33)) base (some ⟨w.heap.size, 0, none⟩) 0 [] := OwnX.less (World.ownsRow_made w #[] 0 (Nat.le_refl _) (Nat.zero_le _) rfl) hb
/-! ### Two paths as one -/
def parL (s : List UInt8) : List UInt8 := [40] ++ s ++ [41]
theorem in_par (e : PE) (n : Nat) : inE e.ex n = e.tx ∨ inE e.ex n = parL e.tx := by
  unfold inE parL PE.ex
  split
  · exact .inr rfl
  · exact .inl rfl
theorem joins_text {P Q : List St} {k : Nat} (hk : k = 3 ∨ k = 4) (ha : pathX deepT P ≠ []) (hb : pathX deepT Q ≠ []) (hs : pathX deepT (P ++ Q ++ [⟨k, []⟩]) ≠ []) :
    ∃ x y, (x = pathX deepT P ∨ x = parL (pathX deepT P)) ∧ (y = pathX deepT Q ∨ y = parL (pathX deepT Q)) ∧ pathX deepT (P ++ Q ++ [⟨k, []⟩]) = x ++ [if k = 3 then 47 else 124] ++ y := by
  obtain ⟨ea, ga, sa, _, _, ta⟩ := tree_path ha
  obtain ⟨eb, gb, sb, _, _, tb⟩ := tree_path hb
  rw [ta, tb]
  have hg : (PE.bin k ea eb).good := ⟨hk, ga, gb⟩
  have hst : (PE.bin k ea eb).st = P ++ Q ++ [⟨k, []⟩] := by rw [← sa, ← sb]; rfl
  obtain ⟨e, ge, se, _, _, te⟩ := tree_path hs
  have h1 := run_tree e [] ge
  have h2 := run_tree (PE.bin k ea eb) [] hg
  rw [hst, ← se, h1] at h2
  have hex : e.ex = (PE.bin k ea eb).ex := by simpa using h2
  have htx : e.tx = (PE.bin k ea eb).tx := congrArg Prod.fst hex
  rw [te, htx]
  rcases hk with rfl | rfl
  · exact ⟨inE ea.ex 1, inE eb.ex 2, in_par ea 1, in_par eb 2, rfl⟩
  · exact ⟨inE ea.ex 0, inE eb.ex 1, in_par ea 0, in_par eb 1, rfl⟩
theorem joins_none {P : List St} (ha : pathX deepT P ≠ []) : pathX deepT (P ++ [⟨3, []⟩]) = [] := by
  obtain ⟨ea, ga, sa, _, _, ta⟩ := tree_path ha
  apply pathX_none
  rw [← sa, run_snoc, run_tree ea [] ga]
  rfl
end Go.Proofs.YtdolhlbkhhnpmaaDoor
namespace Go.Proofs.YtdolhlbkhhnpmaaDoor
open Go.RowKit FloM ValM Go.Shelf
set_option linter.unusedVariables false
set_option linter.unusedSimpArgs false
def siOf (s : St) : SI := ((s.k : Int), bs s.l)
theorem RdX.si {W : World} {A : Option Addr} {l : List St} (h : RdX 2 stC W A l) : RdX 2 siC W A (l.map siOf) := ⟨by rw [List.length_map]; exact h.1, fun i x hx => by
  rw [List.getElem?_map, Option.map_eq_some_iff] at hx
  obtain ⟨y, hy, rfl⟩ := hx
  exact h.2 i y hy⟩
theorem scells_of : ∀ l : List St, scells l = cellsOf stC l
  | [] => rfl
  | s :: l => by have := scells_of l; simp only [scells, cellsOf, List.flatMap_cons] at this ⊢; rw [this]; rfl
theorem OwnS.si {W : World} {base c : Nat} {A : Option Addr} {l : List St} (h : OwnS W base A c l) : RdX 2 siC W A (l.map siOf) := RdX.si (RdX.of_own (cl := stC) (fun _ => rfl) (by unfold OwnS at h; rw [scells_of] at h; exact h))
theorem st_kind : ∀ (e : PE), e.good → ∀ s ∈ e.st, 1 ≤ s.k ∧ s.k ≤ 7
  | .leaf b l, h, s, hs => by
    have : s = ⟨if b then 2 else 1, l⟩ := by simpa [PE.st] using hs
    subst this
    cases b <;> simp
  | .un k e, h, s, hs => by
    have hs' : s ∈ e.st ++ [⟨k, []⟩] := hs
    rw [List.mem_append, List.mem_singleton] at hs'
    rcases hs' with h1 | rfl
    · exact st_kind e h.2 s h1
    · have := h.1; simp only; omega
  | .bin k a b, h, s, hs => by
    have hs' : s ∈ a.st ++ b.st ++ [⟨k, []⟩] := hs
    rw [List.mem_append, List.mem_append, List.mem_singleton] at hs'
    rcases hs' with (h1 | h1) | rfl
    · exact st_kind a h.2.1 s h1
    · exact st_kind b h.2.2 s h1
    · have := h.1; simp only; omega
theorem stN_si {s : St} (h : 1 ≤ s.k ∧ s.k ≤ 7) : stN (siOf s) = s := by
  obtain ⟨k, l⟩ := s
  show normS (k : Int) (ls (bs l)) = _
  simp only at h
  unfold normS
  rw [ls_bs, if_pos (by omega), Int.toNat_natCast]
theorem back_si {x : SI} {s : St} (h : stN x = s) (hs : 1 ≤ s.k) : x = siOf s := by
  obtain ⟨k, l⟩ := x
  have h1 : normS k (ls l) = s := h
  unfold normS at h1
  subst h1
  simp only at hs
  unfold siOf
  simp only
  split at hs
  · rename_i hk
    rw [if_pos hk, bs_ls, Int.toNat_of_nonneg (by omega)]
  · omega
theorem map_si {e : PE} (h : e.good) : (e.st.map siOf).map stN = e.st := by
  rw [List.map_map]
  conv => rhs; rw [← List.map_id e.st]
  exact List.map_congr_left fun s hs => stN_si (st_kind e h s hs)
theorem si_map : ∀ {l : List SI} {m : List St}, l.map stN = m → (∀ s ∈ m, 1 ≤ s.k) → l = m.map siOf
  | [], m, h, _ => by subst h; rfl
  | x :: l, m, h, hk => by
    subst h
    rw [List.map_cons, List.map_cons]
    rw [List.map_cons] at hk
    rw [← si_map (l := l) rfl (fun s hs => hk s (List.mem_cons_of_mem _ hs)), ← back_si (x := x) rfl (hk _ (by simp))]
/-- A path's text is read as the path. -/
theorem read_back {e : PE} (h : e.good) (hd : e.dp ≤ 32) (hl : e.st.length ≤ 100) (z : Nat) : pathS z (toksL 0 (ls (bs e.tx))) = .ok e.st [] := by
  rw [ls_bs, toks_alone h]
  show wholeP (pathP 32) z (e.tk 0) = _
  unfold wholeP
  have h1 := (reads_tree e h 32).whole hd hl (z := z) 0 (r := []) rfl (by simp [hdT]) (by simp [hdT])
  rw [List.append_nil] at h1
  rw [h1]; rfl
theorem parse_back {e : PE} (h : e.good) (hd : e.dp ≤ 32) (hl : e.st.length ≤ 100) (W : World) : Calls Tryd.prog 10 #[.string (bs e.tx)] W fun e' w' => ∃ A c, e' = .returned (.tuple #[.slice A e.st.length c, .int .i64 0, .int .i64 0]) ∧ RdX 2 siC w' A (e.st.map siOf) ∧ Below W.heap.size W w' := by
  have hlen := tree_len h
  have h1 := parsePath_any (bs e.tx) W (by rw [bs_size]; omega)
  rw [read_back h hd hl] at h1
  refine h1.mono ?_
  rintro e' w' ⟨A, c, rfl, ho, hb⟩
  exact ⟨A, c, rfl, ho.si, hb⟩
set_option maxRecDepth 20000 in
set_option maxHeartbeats 4000000 in
theorem samePath_yes (A B : Option Addr) (c d : Nat) (l : List SI) (W : World) (h1 : RdX 2 siC W A l) (h2 : RdX 2 siC W B l) :
    Calls Tryd.prog 11 #[.slice A l.length c, .slice B l.length d] W fun e w' => e = .returned (.bool true) ∧ Below W.heap.size W w' := by
  have hmx : l.length ≤ 9223372036854775807 := Nat.le_trans h1.1 (by decide)
  have hne : ((l.length : Int) != (l.length : Int)) = false := by simp
  have H1 := Lib.hid h1; have H2 := Lib.hid h2
  clear h1 h2
  go_enter Tryd.func11, Tryd.ntmps11
  go_wp2
  go_loopw [13] (fun vi wr => ∃ k : Nat, vi = .int .i64 (k : Nat) ∧ k ≤ l.length ∧ Below W.heap.size W wr) (fun v _ => l.length - (intOf v).toNat)
  case atStart => exact ⟨0, rfl, Nat.zero_le _, Below.refl _ _⟩
  case round =>
    obtain ⟨k, rfl, hk, hb⟩ := hrel
    have HB := Lib.hid hb
    by_cases hlt : k < l.length
    · obtain ⟨x, hx⟩ : ∃ x, l[k]? = some x := ⟨_, List.getElem?_eq_getElem hlt⟩
      obtain ⟨b, o, rfl, hbl, hc⟩ := (H1.out.on hb).2 k x hx
      obtain ⟨b2, o2, rfl, hbl2, hc2⟩ := (H2.out.on hb).2 k x hx
      have x0 := hc 0 _ rfl; have x1 := hc 1 _ rfl; have y0 := hc2 0 _ rfl; have y1 := hc2 1 _ rfl
      rw [Nat.add_zero] at x0 y0
      clear hc hc2 hx hb
      go_wp2
      go_quiet (fail)
      go_wp2
      all_goals
        go_roundw
        case rel => exact ⟨k + 1, by go_num, by omega, by have h := HB.out; exact ⟨h.os, h.tape, h.output, h.size, h.block⟩⟩
        case measure => simp [intOf]; omega
    · obtain rfl : k = l.length := by omega
      go_wp2
      go_ret
      exact ⟨rfl, HB.out⟩
end Go.Proofs.YtdolhlbkhhnpmaaDoor

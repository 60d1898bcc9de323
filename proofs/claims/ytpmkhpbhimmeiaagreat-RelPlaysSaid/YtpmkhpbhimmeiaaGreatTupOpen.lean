/-
  Parameters that are slices of values or of numbers, opened to lists; the end of a law that has left all old memory as it was.
-/
import Derived.Test.YtpmkhpbhimmeiaaGreatTupMem
import Derived.Test.YtpmkhpbhimmeiaaGreatValOpen
import Derived.Deep.Slices
import Derived.Deep.Fields
import Derived.ReadAgain
import Derived.ChangeBears
namespace Go.Proofs.YtpmkhpbhimmeiaaGreat
open Go.RowKit Go.ChangeShapes Go.WideShapes Go.ChangeAt Go.Joins Go.Deep Go.ChangeMaps
set_option linter.unusedVariables false
section
variable {H : Type} {enc : TypeId × Value → H} {w : World} {base : Nat} {spare : Nat → Bool} {held : Bool}
theorem fields3 {P : Program} {t : TypeId} {f0 f1 f2 : Field} (hs : P.underlying t = some (.struct #[f0, f1, f2])) (hone : oneCellFields P #[f0, f1, f2] = true) {n : Nat} {c0 c1 c2 : Value} {x : DataW H × List MemPlace}
    (h : DataW.trod enc P w base spare held n t [c0, c1, c2] = some x) :
    ∃ m y0 y1 y2, DataW.trod enc P w base spare held m f0.type [c0] = some y0 ∧ DataW.trod enc P w base spare held m f1.type [c1] = some y1 ∧ DataW.trod enc P w base spare held m f2.type [c2] = some y2 := by
  obtain ⟨xs, m, _, hx, _, hlen, hg⟩ := DataW.trod_struct hs h
  obtain ⟨o0, k0⟩ := hone_of hone 0 f0 rfl
  obtain ⟨o1, k1⟩ := hone_of hone 1 f1 rfl
  obtain ⟨o2, k2⟩ := hone_of hone 2 f2 rfl
  match xs, hlen with
  | [y0, y1, y2], _ =>
    exact ⟨m, y0, y1, y2, by simpa [o0, k0] using hg 0 f0 rfl, by simpa [o1, k1] using hg 1 f1 rfl, by simpa [o2, k2] using hg 2 f2 rfl⟩
theorem cells_val {n : Nat} {cs : List Value} {x : DataW H × List MemPlace} (hl : cs.length = 3) (h : DataW.trod enc Tryz.prog w base spare held n 69 cs = some x) :
    ∃ v : V, cs = [.int .i64 v.k, .int .i64 v.n, .string v.s] ∧ Fits v.n ∧ v.s.size ≤ maxLen := by
  match cs, hl with
  | [c0, c1, c2], _ =>
    obtain ⟨m, y0, y1, y2, h0, h1, h2⟩ := fields3 Tryz.underlying69 (by kernel_rfl) h
    obtain ⟨k, e0, _, w0⟩ := DataW.trod_int Tryz.underlying3 h0
    obtain ⟨n, e1, _, w1⟩ := DataW.trod_int Tryz.underlying2 h1
    obtain ⟨s, e2, _, w2⟩ := DataW.trod_string Tryz.underlying9 h2
    injection e0 with e0; injection e1 with e1; injection e2 with e2
    subst e0 e1 e2
    exact ⟨⟨k, n, s⟩, rfl, fits_of w1, w2⟩
theorem cell_lt {w : World} {a : Addr} {v : Value} (h : w.cell? a = some v) : a.block < w.heap.size := by
  rcases Nat.lt_or_ge a.block w.heap.size with hl | hl
  · exact hl
  · simp [World.cell?, Array.getElem?_eq_none hl] at h
theorem add_spot {a : Addr} (h : a.spot = none) (n : Nat) : a.add n = ⟨a.block, a.off + n, none⟩ := by
  unfold Addr.add; split
  · rename_i e; subst e; cases a; simp_all
  · rfl
theorem add_off (a : Addr) (n : Nat) : ((a.add n).spot = none ↔ n ≠ 0 ∨ a.spot = none) := by
  unfold Addr.add; split <;> simp_all
instance : Inhabited V := ⟨⟨0, 0, ByteArray.empty⟩⟩
/-- A parameter of type []api.Value reads as a list of values. -/
theorem open_vals {v : Value} {d : DataW H} {p : List MemPlace} (hok : ∃ A n c, v = .slice A n c) (h : DataW.Trod enc Tryz.prog w base spare held 25 v d p) :
    ∃ (A : Option Addr) (c : Nat) (l : List V), v = .slice A l.length c ∧ RdV w A l ∧ OkL l ∧ l.length ≤ maxLen := by
  obtain ⟨A0, n0, c0, rfl⟩ := hok
  obtain ⟨fuel, hf⟩ := h
  rcases open_slice Tryz.underlying25 hf with ⟨hcs, _⟩ | ⟨a, len, cap, m, n, D, Pl, hcs, _, hl, hm, hmm, _, hi⟩
  · simp [Value.cells] at hcs
    obtain ⟨rfl, rfl, rfl⟩ := hcs
    exact ⟨none, 0, [], rfl, RdV.nil, fun _ h => absurd h (by simp), Nat.zero_le _⟩
  · simp [Value.cells] at hcs
    obtain ⟨rfl, rfl, rfl⟩ := hcs
    have hC : Tryz.prog.cellsOf 69 = 3 := by kernel_rfl
    have hlm : n0 ≤ m := by rw [hmm]; split <;> omega
    obtain ⟨f, hff⟩ := choose_lt (p := fun i (u : V) => (∀ j x, [Value.int .i64 u.k, .int .i64 u.n, .string u.s][j]? = some x → w.cell? (a.add (i * 3 + j)) = some x) ∧ Fits u.n ∧ u.s.size ≤ maxLen) (n := n0) (fun i hin => by
      obtain ⟨cs', hc, ht'⟩ := hi i (by omega)
      rw [hC] at hc
      obtain ⟨_, hcl, hat⟩ := World.cells?_some hc
      obtain ⟨u, rfl, h1, h2⟩ := cells_val hcl ht'
      refine ⟨u, fun j x hj => ?_, h1, h2⟩
      have := hat j (by simpa using (List.getElem?_eq_some_iff.1 hj).1)
      rw [Go.Deep.add_add] at this
      rw [this, hj])
    refine ⟨some a, c0, (List.range n0).map f, by simp, fun i v hv => ?_, fun v hv => ?_, by simpa using Nat.le_trans hl hm⟩
    · rw [List.getElem?_map, Option.map_eq_some_iff] at hv
      obtain ⟨j, hj, rfl⟩ := hv
      obtain ⟨hlj, hj⟩ := List.getElem?_eq_some_iff.1 hj
      rw [List.getElem_range] at hj; subst hj
      rw [List.length_range] at hlj
      have h0 := (hff i hlj).1 0 _ rfl
      have h1 := (hff i hlj).1 1 _ rfl
      have h2 := (hff i hlj).1 2 _ rfl
      have hsp : a.spot = none := by
        have := (hff 0 (by omega)).1 0 _ rfl
        exact World.cell?_spot (by simpa [Addr.add] using this)
      rw [add_spot hsp] at h0 h1 h2
      obtain ⟨ab, ao, asp⟩ := a
      simp only at hsp; subst hsp
      exact ⟨ab, ao, rfl, cell_lt h0, h0, h1, h2⟩
    · rw [List.mem_map] at hv
      obtain ⟨i, hi', rfl⟩ := hv
      exact (hff i (List.mem_range.1 hi')).2
/-- A parameter of type []int reads as a list of numbers. -/
theorem open_nums {v : Value} {d : DataW H} {p : List MemPlace} (hok : ∃ A n c, v = .slice A n c) (h : DataW.Trod enc Tryz.prog w base spare held 24 v d p) :
    ∃ (A : Option Addr) (c : Nat) (l : List Int), v = .slice A l.length c ∧ RdI w A l ∧ l.length ≤ c ∧ l.length ≤ maxLen ∧ (A = none → c = 0) := by
  obtain ⟨A0, n0, c0, rfl⟩ := hok
  obtain ⟨fuel, hf⟩ := h
  rcases open_ints Tryz.underlying24 Tryz.underlying3 (by kernel_rfl) hf with ⟨hcs, _⟩ | ⟨a, len, cap, zs, hcs, _, hl, hm, hz, _, hcell, _⟩
  · simp [Value.cells] at hcs
    obtain ⟨rfl, rfl, rfl⟩ := hcs
    exact ⟨none, 0, [], rfl, RdI.nil, Nat.le_refl _, Nat.zero_le _, fun _ => rfl⟩
  · simp [Value.cells] at hcs
    obtain ⟨rfl, rfl, rfl⟩ := hcs
    have hlz : n0 ≤ zs.length := by rw [hz]; split <;> omega
    refine ⟨some a, c0, zs.take n0, by rw [List.length_take, Nat.min_eq_left hlz], fun i x hx => ?_, by rw [List.length_take, Nat.min_eq_left hlz]; exact hl, by rw [List.length_take, Nat.min_eq_left hlz]; exact Nat.le_trans hl hm, fun h => by cases h⟩
    rw [List.getElem?_take] at hx
    split at hx
    · rename_i hin
      have h0 := hcell i (by omega)
      have hg : zs.getD i 0 = x := by simp [List.getD, hx]
      rw [hg] at h0
      have hsp : a.spot = none := by
        have := hcell 0 (by omega)
        exact World.cell?_spot (by simpa [Addr.add] using this)
      rw [add_spot hsp] at h0
      obtain ⟨ab, ao, asp⟩ := a
      simp only at hsp; subst hsp
      exact ⟨ab, ao, rfl, cell_lt h0, h0⟩
    · cases hx
theorem trodAll_on {P : Program} {w w' : World} : ∀ {ts : List TypeId} {vs : List Value} {ds : List (DataW H)} {ps : List MemPlace}, DataW.TrodAll enc P w base spare held ts vs ds ps → (∀ p ∈ ps, w.sameAt w' p) → DataW.TrodAll enc P w' base spare held ts vs ds ps
  | [], [], [], _, h, _ => h
  | _ :: _, _ :: _, _ :: _, _, ⟨p, q, ⟨n, h1⟩, h2, e⟩, hs => ⟨p, q, ⟨n, DataW.trod_carry n _ _ _ h1 fun x hx => hs x (by rw [e]; exact List.mem_append_left _ hx)⟩, trodAll_on h2 fun x hx => hs x (by rw [e]; exact List.mem_append_right _ hx), e⟩
end
theorem kidsT : Kids Tryz.prog (· < Tryz.prog.types.size) := kids_rows (by kernel_rfl) (by kernel_rfl)
theorem fullT : ∀ t e, t < Tryz.prog.types.size → Tryz.prog.underlying t = some (.slice e) → 0 < Tryz.prog.cellsOf e := slices_full_of Tryz.prog (by kernel_rfl)
/-- The end of a law (no variable is named) that has left all old memory as it was and says that its arguments read as they did. -/
theorem post_old {H : Type} {enc : TypeId × Value → H} {f : Func} {s : ChangeSpec} {W W' : World} {args : Array Value} {v : Value} {ds : List (DataW H)} {before : List MemPlace}
    (hW : DataW.Whole enc Tryz.prog f.params.toList s.vars false W args.toList ds [] before)
    (hA : DataW.TrodAll enc Tryz.prog W 0 (fun _ => true) true f.params.toList args.toList ds before) (hT : ∀ t ∈ f.params.toList, t < Tryz.prog.types.size)
    (hr : ∀ (b : Nat) (sp : Nat → Bool) (hd : Bool), DataW.TrodAll enc Tryz.prog W' b sp hd f.resultTypes.toList (v.resultList f.resultTypes.size) (s.fn H (ds ++ [])).results [])
    (ha : (s.fn H (ds ++ [])).args = ds) (hv : ∀ sp : Nat → Bool, DataW.TrodVars enc Tryz.prog W' sp s.vars (s.fn H (ds ++ [])).vars []) (hb : Below W.heap.size W W') :
    s.post enc Tryz.prog f false true false false W args v W' := by
  have hlt := hW.lt
  refine ⟨ds, [], before, [], before, [], hW, hr _ _ _, ?_, hv _, World.keptBut_mono (fun p hp => ⟨hp, .inr (.inl hp)⟩) (hb.frame (· ∈ before)), fun h => by cases h⟩
  rw [ha]
  exact DataW.TrodAll.respare kidsT fullT hT (trodAll_on hA fun p hp => hb.same (hlt p hp)) fun p hp => by simpa using hlt p hp
end Go.Proofs.YtpmkhpbhimmeiaaGreat

/-
  Paths that were read, and the document's comparison of two.
-/
import Derived.Test.YtdolhlbkhhnpmaaGreatDoorShwTx
import Derived.Test.YtdolhlbkhhnpmaaGreatDoorPrsTop
import Derived.Test.YtdolhlbkhhnpmaaGreatDoorChecked
import Derived.Below
import Derived.ChangeSame
import Derived.Lib.SmallJoins
import Derived.OpenShut
import Derived.ProofKit
import Derived.ChangeMaps5
import Derived.Deep.Slices
import Derived.Deep.Fields
import Derived.ReadAgain
import Derived.ChangeBears
import Derived.Test.YtdolhlbkhhnpmaaGreatDoorShwPw
namespace Go.Proofs.YtdolhlbkhhnpmaaGreatDoor
open Go.RowKit FloM ValM Go.Shelf
set_option linter.unusedVariables false
set_option linter.unusedSimpArgs false
def siOf (s : St) : SI := ((s.k : Int), bs s.l)
theorem RdX.si {W : World} {A : Option Addr} {l : List St} (h : RdX 2 stC W A l) : RdX 2 siC W A (l.map siOf) := ⟨by rw [List.length_map]; exact h.1, fun i x hx => by
  rw [List.getElem?_map, Option.map_eq_some_iff] at hx
  obtain ⟨y, hy, rfl⟩ := hx
  exact h.2 i y hy⟩
theorem scells_of : ∀ l : List St, scells l = cellsOf stC l
  | [] => rfl
  | s :: l => by have := scells_of l; simp only [scells, cellsOf, List.flatMap_cons] at this ⊢; rw [this]; rfl
theorem OwnS.si {W : World} {base c : Nat} {A : Option Addr} {l : List St} (h : OwnS W base A c l) : RdX 2 siC W A (l.map siOf) := RdX.si (RdX.of_own (cl := stC) (fun _ => rfl) (by unfold OwnS at h; rw [scells_of] at h; exact h))
theorem st_kind : ∀ (e : PE), e.good → ∀ s ∈ e.st, 1 ≤ s.k ∧ s.k ≤ 7
  | .leaf b l, h, s, hs => by
    have : s = ⟨if b then 2 else 1, l⟩ := by simpa [PE.st] using hs
    subst this
    cases b <;> simp
  | .un k e, h, s, hs => by
    have hs' : s ∈ e.st ++ [⟨k, []⟩] := hs
    rw [List.mem_append, List.mem_singleton] at hs'
    rcases hs' with h1 | rfl
    · exact st_kind e h.2 s h1
    · have := h.1; simp only; omega
  | .bin k a b, h, s, hs => by
    have hs' : s ∈ a.st ++ b.st ++ [⟨k, []⟩] := hs
    rw [List.mem_append, List.mem_append, List.mem_singleton] at hs'
    rcases hs' with (h1 | h1) | rfl
    · exact st_kind a h.2.1 s h1
    · exact st_kind b h.2.2 s h1
    · have := h.1; simp only; omega
theorem back_si {x : SI} {s : St} (h : stN x = s) (hs : 1 ≤ s.k) : x = siOf s := by
  obtain ⟨k, l⟩ := x
  have h1 : normS k (ls l) = s := h
  unfold normS at h1
  subst h1
  simp only at hs
  unfold siOf
  simp only
  split at hs
  · rename_i hk
    rw [if_pos hk, bs_ls, Int.toNat_of_nonneg (by omega)]
  · omega
theorem si_map : ∀ {l : List SI} {m : List St}, l.map stN = m → (∀ s ∈ m, 1 ≤ s.k) → l = m.map siOf
  | [], m, h, _ => by subst h; rfl
  | x :: l, m, h, hk => by
    subst h
    rw [List.map_cons, List.map_cons]
    rw [List.map_cons] at hk
    rw [← si_map (l := l) rfl (fun s hs => hk s (List.mem_cons_of_mem _ hs)), ← back_si (x := x) rfl (hk _ (by simp))]
set_option maxRecDepth 20000 in
set_option maxHeartbeats 4000000 in
theorem samePath_yes (A B : Option Addr) (c d : Nat) (l : List SI) (W : World) (h1 : RdX 2 siC W A l) (h2 : RdX 2 siC W B l) :
    Calls Tryz.prog 35 #[.slice A l.length c, .slice B l.length d] W fun e w' => e = .returned (.bool true) ∧ Below W.heap.size W w' := by
  have hmx : l.length ≤ 9223372036854775807 := Nat.le_trans h1.1 (by decide)
  have hne : ((l.length : Int) != (l.length : Int)) = false := by simp
  have H1 := Lib.hid h1; have H2 := Lib.hid h2
  clear h1 h2
  go_enter Tryz.func35, Tryz.ntmps35
  go_wp2
  go_loopw [13] (fun vi wr => ∃ k : Nat, vi = .int .i64 (k : Nat) ∧ k ≤ l.length ∧ Below W.heap.size W wr) (fun v _ => l.length - (intOf v).toNat)
  case atStart => exact ⟨0, rfl, Nat.zero_le _, Below.refl _ _⟩
  case round =>
    obtain ⟨k, rfl, hk, hb⟩ := hrel
    have HB := Lib.hid hb
    by_cases hlt : k < l.length
    · obtain ⟨x, hx⟩ : ∃ x, l[k]? = some x := ⟨_, List.getElem?_eq_getElem hlt⟩
      obtain ⟨b, o, rfl, hbl, hc⟩ := (H1.out.on hb).2 k x hx
      obtain ⟨b2, o2, rfl, hbl2, hc2⟩ := (H2.out.on hb).2 k x hx
      have x0 := hc 0 _ rfl; have x1 := hc 1 _ rfl; have y0 := hc2 0 _ rfl; have y1 := hc2 1 _ rfl
      rw [Nat.add_zero] at x0 y0
      clear hc hc2 hx hb
      go_wp2
      go_quiet (fail)
      go_wp2
      all_goals
        go_roundw
        case rel => exact ⟨k + 1, by go_num, by omega, by have h := HB.out; exact ⟨h.os, h.tape, h.output, h.size, h.block⟩⟩
        case measure => simp [intOf]; omega
    · obtain rfl : k = l.length := by omega
      go_wp2
      go_ret
      exact ⟨rfl, HB.out⟩
end Go.Proofs.YtdolhlbkhhnpmaaGreatDoor
namespace Go.Proofs.YtdolhlbkhhnpmaaGreatDoor
open Go.RowKit Go.ChangeShapes Go.WideShapes Go.ChangeAt Go.Joins Go.Deep Go.ChangeMaps
section
variable {H : Type} {enc : TypeId × Value → H} {w : World} {base : Nat} {spare : Nat → Bool} {held : Bool}
end
end Go.Proofs.YtdolhlbkhhnpmaaGreatDoor
namespace Go.Proofs.YtdolhlbkhhnpmaaGreatDoor
open Go.RowKit Go.ChangeShapes Go.WideShapes Go.ChangeAt Go.Joins Go.Deep Go.ChangeMaps
set_option linter.unusedVariables false
set_option linter.unusedSimpArgs false
section
variable {H : Type} {enc : TypeId × Value → H} {w : World} {base : Nat} {spare : Nat → Bool} {held : Bool}
theorem cell_lt {w : World} {a : Addr} {v : Value} (h : w.cell? a = some v) : a.block < w.heap.size := by
  rcases Nat.lt_or_ge a.block w.heap.size with hl | hl
  · exact hl
  · simp [World.cell?, Array.getElem?_eq_none hl] at h
theorem add_spot {a : Addr} (h : a.spot = none) (n : Nat) : a.add n = ⟨a.block, a.off + n, none⟩ := by
  unfold Addr.add; split
  · rename_i e; subst e; cases a; simp_all
  · rfl
/-- A slice whose elements are told by an opener of their own. -/
theorem rows_trod {β : Type} [Inhabited β] {T E : TypeId} (hu : Tryz.prog.underlying T = some (.slice E)) {sz : Nat} (hC : Tryz.prog.cellsOf E = sz) (hsz : 0 < sz) (cl : β → List Value) (ok : β → Prop) (hlen : ∀ u, (cl u).length = sz)
    (hel : ∀ (n : Nat) (cs : List Value) (x : DataW H × List MemPlace), cs.length = sz → DataW.trod enc Tryz.prog w base spare held n E cs = some x → ∃ u : β, cs = cl u ∧ ok u)
    {fuel : Nat} {cs : List Value} {x : DataW H × List MemPlace} (hf : DataW.trod enc Tryz.prog w base spare held fuel T cs = some x) :
    ∃ (A : Option Addr) (c : Nat) (l : List β), cs = [.slice A l.length c] ∧ RdX sz cl w A l ∧ (∀ u ∈ l, ok u) ∧ l.length ≤ c := by
  rcases open_slice hu hf with ⟨hcs, _⟩ | ⟨a, len, cap, m, n, D, Pl, hcs, _, hl, hm, hmm, _, hi⟩
  · exact ⟨none, 0, [], by simpa using hcs, ⟨Nat.zero_le _, fun i x hx => by simp at hx⟩, fun u hu => (by cases hu), Nat.le_refl _⟩
  · have hlm : len ≤ m := by rw [hmm]; split <;> omega
    obtain ⟨f, hff⟩ := choose_lt (p := fun i (u : β) => (∀ j x, (cl u)[j]? = some x → w.cell? (a.add (i * sz + j)) = some x) ∧ ok u) (n := len) (fun i hin => by
      obtain ⟨cs', hc, ht'⟩ := hi i (by omega)
      rw [hC] at hc
      obtain ⟨_, hcl, hat⟩ := World.cells?_some hc
      obtain ⟨u, rfl, h1⟩ := hel _ _ _ hcl ht'
      refine ⟨u, fun j x hj => ?_, h1⟩
      have hjl := (List.getElem?_eq_some_iff.1 hj).1
      have := hat j (by rw [hlen] at hjl; omega)
      rw [Go.Deep.add_add] at this
      rw [this, hj])
    refine ⟨some a, cap, (List.range len).map f, by simpa using hcs, ⟨by simpa using Nat.le_trans hl hm, fun i u hu => ?_⟩, fun u hu => ?_, by simpa using hl⟩
    · rw [List.getElem?_map, Option.map_eq_some_iff] at hu
      obtain ⟨j, hj, rfl⟩ := hu
      obtain ⟨hlj, hj⟩ := List.getElem?_eq_some_iff.1 hj
      rw [List.getElem_range] at hj; subst hj
      rw [List.length_range] at hlj
      have hz : ∀ u : β, ∃ x, (cl u)[0]? = some x := fun u => ⟨_, List.getElem?_eq_getElem (by rw [hlen]; exact hsz)⟩
      have hsp : a.spot = none := by
        obtain ⟨x, hx⟩ := hz (f 0)
        have := (hff 0 (by omega)).1 0 x hx
        exact World.cell?_spot (by simpa [Addr.add] using this)
      obtain ⟨ab, ao, asp⟩ := a
      simp only at hsp; subst hsp
      refine ⟨ab, ao, rfl, ?_, fun j x hx => ?_⟩
      · obtain ⟨x, hx⟩ := hz (f i)
        have h0 := (hff i hlj).1 0 x hx
        rw [add_spot rfl] at h0
        exact cell_lt h0
      · have h0 := (hff i hlj).1 j x hx
        rw [add_spot rfl] at h0
        rw [Nat.add_assoc]
        exact h0
    · rw [List.mem_map] at hu
      obtain ⟨i, hi', rfl⟩ := hu
      rw [List.mem_range] at hi'
      exact (hff i hi').2
theorem fields2 {P : Program} {t : TypeId} {f0 f1 : Field} (hs : P.underlying t = some (.struct #[f0, f1])) (hone : oneCellFields P #[f0, f1] = true) {n : Nat} {c0 c1 : Value} {x : DataW H × List MemPlace}
    (h : DataW.trod enc P w base spare held n t [c0, c1] = some x) :
    ∃ m y0 y1, DataW.trod enc P w base spare held m f0.type [c0] = some y0 ∧ DataW.trod enc P w base spare held m f1.type [c1] = some y1 := by
  obtain ⟨xs, m, _, hx, _, hlen, hg⟩ := DataW.trod_struct hs h
  obtain ⟨o0, k0⟩ := hone_of hone 0 f0 rfl
  obtain ⟨o1, k1⟩ := hone_of hone 1 f1 rfl
  match xs, hlen with
  | [y0, y1], _ =>
    exact ⟨m, y0, y1, by simpa [o0, k0] using hg 0 f0 rfl, by simpa [o1, k1] using hg 1 f1 rfl⟩
instance : Inhabited SI := ⟨(0, ByteArray.empty)⟩
def SiOk (s : SI) : Prop := s.2.size ≤ maxLen ∧ Fits s.1
theorem cells_si {n : Nat} {cs : List Value} {x : DataW H × List MemPlace} (hl : cs.length = 2) (h : DataW.trod enc Tryz.prog w base spare held n 44 cs = some x) :
    ∃ s : SI, cs = siC s ∧ SiOk s := by
  match cs, hl with
  | [c0, c1], _ =>
    obtain ⟨m, y0, y1, h0, h1⟩ := fields2 Tryz.underlying44 (by kernel_rfl) h
    obtain ⟨k, e0, _, w0⟩ := DataW.trod_int Tryz.underlying3 h0
    obtain ⟨s, e1, _, w1⟩ := DataW.trod_string Tryz.underlying9 h1
    injection e0 with e0; injection e1 with e1
    subst e0 e1
    exact ⟨(k, s), rfl, w1, fits_of w0⟩
theorem trodAll_on {P : Program} {w w' : World} : ∀ {ts : List TypeId} {vs : List Value} {ds : List (DataW H)} {ps : List MemPlace}, DataW.TrodAll enc P w base spare held ts vs ds ps → (∀ p ∈ ps, w.sameAt w' p) → DataW.TrodAll enc P w' base spare held ts vs ds ps
  | [], [], [], _, h, _ => h
  | _ :: _, _ :: _, _ :: _, _, ⟨p, q, ⟨n, h1⟩, h2, e⟩, hs => ⟨p, q, ⟨n, DataW.trod_carry n _ _ _ h1 fun x hx => hs x (by rw [e]; exact List.mem_append_left _ hx)⟩, trodAll_on h2 fun x hx => hs x (by rw [e]; exact List.mem_append_right _ hx), e⟩
theorem kidsT : Kids Tryz.prog (· < Tryz.prog.types.size) := kids_rows (by kernel_rfl) (by kernel_rfl)
theorem fullT : ∀ t e, t < Tryz.prog.types.size → Tryz.prog.underlying t = some (.slice e) → 0 < Tryz.prog.cellsOf e := slices_full_of Tryz.prog (by kernel_rfl)
/-- The end of a law (no variable is named) that has left all old memory as it was and says that its arguments read as they did. -/
theorem post_old {H : Type} {enc : TypeId × Value → H} {f : Func} {s : ChangeSpec} {W W' : World} {args : Array Value} {v : Value} {ds : List (DataW H)} {before : List MemPlace}
    (hW : DataW.Whole enc Tryz.prog f.params.toList s.vars false W args.toList ds [] before)
    (hA : DataW.TrodAll enc Tryz.prog W 0 (fun _ => true) true f.params.toList args.toList ds before) (hT : ∀ t ∈ f.params.toList, t < Tryz.prog.types.size)
    (hr : ∀ (b : Nat) (sp : Nat → Bool) (hd : Bool), DataW.TrodAll enc Tryz.prog W' b sp hd f.resultTypes.toList (v.resultList f.resultTypes.size) (s.fn H (ds ++ [])).results [])
    (ha : (s.fn H (ds ++ [])).args = ds) (hv : ∀ sp : Nat → Bool, DataW.TrodVars enc Tryz.prog W' sp s.vars (s.fn H (ds ++ [])).vars []) (hb : Below W.heap.size W W') :
    s.post enc Tryz.prog f false true false false W args v W' := by
  have hlt := hW.lt
  refine ⟨ds, [], before, [], before, [], hW, hr _ _ _, ?_, hv _, World.keptBut_mono (fun p hp => ⟨hp, .inr (.inl hp)⟩) (hb.frame (· ∈ before)), fun h => by cases h⟩
  rw [ha]
  exact DataW.TrodAll.respare kidsT fullT hT (trodAll_on hA fun p hp => hb.same (hlt p hp)) fun p hp => by simpa using hlt p hp
end
end Go.Proofs.YtdolhlbkhhnpmaaGreatDoor

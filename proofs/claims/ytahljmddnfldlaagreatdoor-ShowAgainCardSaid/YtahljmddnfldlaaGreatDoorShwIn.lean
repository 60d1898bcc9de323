/-
  Paths that were read, and the document's comparison of two.
-/
import Derived.Test.YtahljmddnfldlaaGreatDoorShwTx
import Derived.Test.YtahljmddnfldlaaGreatDoorPrsTop
import Derived.Test.YtahljmddnfldlaaGreatDoorChecked
import Derived.Below
import Derived.ChangeSame
import Derived.Lib.SmallJoins
import Derived.OpenShut
import Derived.ProofKit
import Derived.ChangeMaps5
import Derived.Deep.Slices
import Derived.Deep.Fields
import Derived.ReadAgain
import Derived.ChangeBears
import Derived.Test.YtahljmddnfldlaaGreatDoorShwPw
namespace Go.Proofs.YtahljmddnfldlaaGreatDoor
open Go.RowKit FloM ValM Go.Shelf
set_option linter.unusedVariables false
set_option linter.unusedSimpArgs false
def siOf (s : St) : SI := ((s.k : Int), bs s.l)
theorem RdX.si {W : World} {A : Option Addr} {l : List St} (h : RdX 2 stC W A l) : RdX 2 siC W A (l.map siOf) := ⟨by rw [List.length_map]; exact h.1, fun i x hx => by
  rw [List.getElem?_map, Option.map_eq_some_iff] at hx
  obtain ⟨y, hy, rfl⟩ := hx
  exact h.2 i y hy⟩
theorem scells_of : ∀ l : List St, scells l = cellsOf stC l
  | [] => rfl
  | s :: l => by have := scells_of l; simp only [scells, cellsOf, List.flatMap_cons] at this ⊢; rw [this]; rfl
theorem OwnS.si {W : World} {base c : Nat} {A : Option Addr} {l : List St} (h : OwnS W base A c l) : RdX 2 siC W A (l.map siOf) := RdX.si (RdX.of_own (cl := stC) (fun _ => rfl) (by unfold OwnS at h; rw [scells_of] at h; exact h))
theorem st_kind : ∀ (e : PE), e.good → ∀ s ∈ e.st, 1 ≤ s.k ∧ s.k ≤ 7
  | .leaf b l, h, s, hs => by
    have : s = ⟨if b then 2 else 1, l⟩ := by simpa [PE.st] using hs
    subst this
    cases b <;> simp
  | .un k e, h, s, hs => by
    have hs' : s ∈ e.st ++ [⟨k, []⟩] := hs
    rw [List.mem_append, List.mem_singleton] at hs'
    rcases hs' with h1 | rfl
    · exact st_kind e h.2 s h1
    · have := h.1; simp only; omega
  | .bin k a b, h, s, hs => by
    have hs' : s ∈ a.st ++ b.st ++ [⟨k, []⟩] := hs
    rw [List.mem_append, List.mem_append, List.mem_singleton] at hs'
    rcases hs' with (h1 | h1) | rfl
    · exact st_kind a h.2.1 s h1
    · exact st_kind b h.2.2 s h1
    · have := h.1; simp only; omega
theorem stN_si {s : St} (h : 1 ≤ s.k ∧ s.k ≤ 7) : stN (siOf s) = s := by
  obtain ⟨k, l⟩ := s
  show normS (k : Int) (ls (bs l)) = _
  simp only at h
  unfold normS
  rw [ls_bs, if_pos (by omega), Int.toNat_natCast]
theorem back_si {x : SI} {s : St} (h : stN x = s) (hs : 1 ≤ s.k) : x = siOf s := by
  obtain ⟨k, l⟩ := x
  have h1 : normS k (ls l) = s := h
  unfold normS at h1
  subst h1
  simp only at hs
  unfold siOf
  simp only
  split at hs
  · rename_i hk
    rw [if_pos hk, bs_ls, Int.toNat_of_nonneg (by omega)]
  · omega
theorem map_si {e : PE} (h : e.good) : (e.st.map siOf).map stN = e.st := by
  rw [List.map_map]
  conv => rhs; rw [← List.map_id e.st]
  exact List.map_congr_left fun s hs => stN_si (st_kind e h s hs)
theorem si_map : ∀ {l : List SI} {m : List St}, l.map stN = m → (∀ s ∈ m, 1 ≤ s.k) → l = m.map siOf
  | [], m, h, _ => by subst h; rfl
  | x :: l, m, h, hk => by
    subst h
    rw [List.map_cons, List.map_cons]
    rw [List.map_cons] at hk
    rw [← si_map (l := l) rfl (fun s hs => hk s (List.mem_cons_of_mem _ hs)), ← back_si (x := x) rfl (hk _ (by simp))]
set_option maxRecDepth 20000 in
set_option maxHeartbeats 4000000 in
theorem samePath_yes (A B : Option Addr) (c d : Nat) (l : List SI) (W : World) (h1 : RdX 2 siC W A l) (h2 : RdX 2 siC W B l) :
    Calls Tryz.prog 61 #[.slice A l.length c, .slice B l.length d] W fun e w' => e = .returned (.bool true) ∧ Below W.heap.size W w' := by
  have hmx : l.length ≤ 9223372036854775807 := Nat.le_trans h1.1 (by decide)
  have hne : ((l.length : Int) != (l.length : Int)) = false := by simp
  have H1 := Lib.hid h1; have H2 := Lib.hid h2
  clear h1 h2
  go_enter Tryz.func61, Tryz.ntmps61
  go_wp2
  go_loopw [13] (fun vi wr => ∃ k : Nat, vi = .int .i64 (k : Nat) ∧ k ≤ l.length ∧ Below W.heap.size W wr) (fun v _ => l.length - (intOf v).toNat)
  case atStart => exact ⟨0, rfl, Nat.zero_le _, Below.refl _ _⟩
  case round =>
    obtain ⟨k, rfl, hk, hb⟩ := hrel
    have HB := Lib.hid hb
    by_cases hlt : k < l.length
    · obtain ⟨x, hx⟩ : ∃ x, l[k]? = some x := ⟨_, List.getElem?_eq_getElem hlt⟩
      obtain ⟨b, o, rfl, hbl, hc⟩ := (H1.out.on hb).2 k x hx
      obtain ⟨b2, o2, rfl, hbl2, hc2⟩ := (H2.out.on hb).2 k x hx
      have x0 := hc 0 _ rfl; have x1 := hc 1 _ rfl; have y0 := hc2 0 _ rfl; have y1 := hc2 1 _ rfl
      rw [Nat.add_zero] at x0 y0
      clear hc hc2 hx hb
      go_wp2
      go_quiet (fail)
      go_wp2
      all_goals
        go_roundw
        case rel => exact ⟨k + 1, by go_num, by omega, by have h := HB.out; exact ⟨h.os, h.tape, h.output, h.size, h.block⟩⟩
        case measure => simp [intOf]; omega
    · obtain rfl : k = l.length := by omega
      go_wp2
      go_ret
      exact ⟨rfl, HB.out⟩
end Go.Proofs.YtahljmddnfldlaaGreatDoor
namespace Go.Proofs.YtahljmddnfldlaaGreatDoor
open Go.RowKit Go.ChangeShapes Go.WideShapes Go.ChangeAt Go.Joins Go.Deep Go.ChangeMaps
section
variable {H : Type} {enc : TypeId × Value → H} {w : World} {base : Nat} {spare : Nat → Bool} {held : Bool}
end
end Go.Proofs.YtahljmddnfldlaaGreatDoor
namespace Go.Proofs.YtahljmddnfldlaaGreatDoor
open Go.RowKit Go.ChangeShapes Go.WideShapes Go.ChangeAt Go.Joins Go.Deep Go.ChangeMaps
set_option linter.unusedVariables false
set_option linter.unusedSimpArgs false
section
variable {H : Type} {enc : TypeId × Value → H} {w : World} {base : Nat} {spare : Nat → Bool} {held : Bool}
instance : Inhabited SI := ⟨(0, ByteArray.empty)⟩
theorem trodAll_on {P : Program} {w w' : World} : ∀ {ts : List TypeId} {vs : List Value} {ds : List (DataW H)} {ps : List MemPlace}, DataW.TrodAll enc P w base spare held ts vs ds ps → (∀ p ∈ ps, w.sameAt w' p) → DataW.TrodAll enc P w' base spare held ts vs ds ps
  | [], [], [], _, h, _ => h
  | _ :: _, _ :: _, _ :: _, _, ⟨p, q, ⟨n, h1⟩, h2, e⟩, hs => ⟨p, q, ⟨n, DataW.trod_carry n _ _ _ h1 fun x hx => hs x (by rw [e]; exact List.mem_append_left _ hx)⟩, trodAll_on h2 fun x hx => hs x (by rw [e]; exact List.mem_append_right _ hx), e⟩
theorem kidsT : Kids Tryz.prog (· < Tryz.prog.types.size) := kids_rows (by kernel_rfl) (by kernel_rfl)
theorem fullT : ∀ t e, t < Tryz.prog.types.size → Tryz.prog.underlying t = some (.slice e) → 0 < Tryz.prog.cellsOf e := slices_full_of Tryz.prog (by kernel_rfl)
/-- The end of a law (no variable is named) that has left all old memory as it was and says that its arguments read as they did. -/
theorem post_old {H : Type} {enc : TypeId × Value → H} {f : Func} {s : ChangeSpec} {W W' : World} {args : Array Value} {v : Value} {ds : List (DataW H)} {before : List MemPlace}
    (hW : DataW.Whole enc Tryz.prog f.params.toList s.vars false W args.toList ds [] before)
    (hA : DataW.TrodAll enc Tryz.prog W 0 (fun _ => true) true f.params.toList args.toList ds before) (hT : ∀ t ∈ f.params.toList, t < Tryz.prog.types.size)
    (hr : ∀ (b : Nat) (sp : Nat → Bool) (hd : Bool), DataW.TrodAll enc Tryz.prog W' b sp hd f.resultTypes.toList (v.resultList f.resultTypes.size) (s.fn H (ds ++ [])).results [])
    (ha : (s.fn H (ds ++ [])).args = ds) (hv : ∀ sp : Nat → Bool, DataW.TrodVars enc Tryz.prog W' sp s.vars (s.fn H (ds ++ [])).vars []) (hb : Below W.heap.size W W') :
    s.post enc Tryz.prog f false true false false W args v W' := by
  have hlt := hW.lt
  refine ⟨ds, [], before, [], before, [], hW, hr _ _ _, ?_, hv _, World.keptBut_mono (fun p hp => ⟨hp, .inr (.inl hp)⟩) (hb.frame (· ∈ before)), fun h => by cases h⟩
  rw [ha]
  exact DataW.TrodAll.respare kidsT fullT hT (trodAll_on hA fun p hp => hb.same (hlt p hp)) fun p hp => by simpa using hlt p hp
end
end Go.Proofs.YtahljmddnfldlaaGreatDoor

/-
  Package safe: a set of names in memory; its making, and what it lists.
-/
import Derived.Test.YtahljmddnfldlaaSafC
import Derived.Test.YtahljmddnfldlaaSafM
import Derived.Test.YtahljmddnfldlaaIterLay
import Derived.Maps.OwnSet
import Derived.Maps.Range
import Derived.Sort.KeysCollected
namespace Go.Proofs.Ytahljmddnfldlaa
open Go.RowKit FloM ValM Go.Shelf Go.Maps
set_option linter.unusedVariables false
set_option linter.unusedSimpArgs false
theorem keyLaw : Keyed Try.prog 9 := string_keyed Try.underlying9
theorem zeroUnit (w : World) : (zeroValue 82).run Try.prog w = .ok (.agg #[]) w := by kernel_rfl
abbrev MapAt (w : World) (b n : Nat) (D : DataW Unit) : Prop := w.ownsMap Try.prog 9 (unitElem (H := Unit)) b n D
/-- A set of names in block b, of no more than n. -/
def SetAt (w : World) (b n : Nat) (S : List Nm) : Prop := ∃ D, MapAt w b n D ∧ ∀ s : Nm, Maps.has D (.string s) = decide (s ∈ S)
theorem SetAt.lt {w : World} {b n : Nat} {S : List Nm} (h : SetAt w b n S) : b < w.heap.size := by obtain ⟨D, h, _⟩ := h; exact h.lt
theorem SetAt.fr {X : Nat → Prop} {w w' : World} {b n B : Nat} {S : List Nm} (h : SetAt w b n S) (hF : Fr X B w w') (hb : b < B) (hX : ¬ X b) : SetAt w' b n S := by
  obtain ⟨D, ⟨es, clock, h1, h2⟩, h3⟩ := h
  exact ⟨D, ⟨es, clock, (hF.block b hb hX).trans h1, h2⟩, h3⟩
theorem SetAt.on {w w' : World} {b n : Nat} {S : List Nm} (h : SetAt w b n S) (hB : Below w.heap.size w w') : SetAt w' b n S := by
  have hl := h.lt
  obtain ⟨D, ⟨es, clock, h1, h2⟩, h3⟩ := h
  exact ⟨D, ⟨es, clock, (hB.block b hl).trans h1, h2⟩, h3⟩
theorem SetAt.mono {w : World} {b n m : Nat} {S : List Nm} (h : SetAt w b n S) (hn : n ≤ m) : SetAt w b m S := by
  obtain ⟨D, h1, h2⟩ := h; exact ⟨D, h1.mono hn, h2⟩
theorem SetAt.congr {w : World} {b n : Nat} {S T : List Nm} (h : SetAt w b n S) (e : ∀ s, s ∈ S ↔ s ∈ T) : SetAt w b n T := by
  obtain ⟨D, h1, h2⟩ := h; exact ⟨D, h1, fun s => by rw [h2]; exact decide_eq_decide.2 (e s)⟩
theorem setAt_made (w : World) : SetAt (w.alloc (.map #[] 0)) w.heap.size 0 [] := ⟨.map [], World.ownsMap_made w _ _ _, fun s => rfl⟩
theorem has_put {D : DataW Unit} (hD : IsMap D) (s t : Nm) (d : DataW Unit) : Maps.has (D.put (.string s) d) (.string t) = (decide (t = s) || Maps.has D (.string t)) := by
  by_cases e : t = s
  · subst e; rw [has_put_same hD (by trivial)]; simp
  · rw [has_put_other (by intro h; injection h with h; exact e h)]; simp [e]
theorem set_put {D : DataW Unit} {w w' : World} {b n : Nat} {S : List Nm} {s : Nm} (h0 : MapAt w b n D) (h : ∀ s : Nm, Maps.has D (.string s) = decide (s ∈ S)) (h1 : MapAt w' b (n + 1) (D.put (.string s) (.agg []))) : SetAt w' b (n + 1) (S ++ [s]) :=
  ⟨_, h1, fun t => by rw [has_put h0.isMap, h]; simp only [List.mem_append, List.mem_singleton]; by_cases e : t = s <;> by_cases e2 : t ∈ S <;> simp [e, e2]⟩
theorem key_of {s : List UInt8} (h : s.length ≤ maxLen) : keyOf Try.prog 9 (.string (bs s)) = some (.string s) := by
  have := Go.WideMaps.keyOf_string_mk (P := Try.prog) (k := 9) Try.underlying9 (s := bs s) (by rw [bs_size]; exact h)
  rw [this]; rfl
/-- A set's keys, sorted. -/
theorem set_keys {D : DataW Unit} {w : World} {b n : Nat} {S : List Nm} (h0 : MapAt w b n D) (h : ∀ s : Nm, Maps.has D (.string s) = decide (s ∈ S)) {ss : List (List UInt8)} (hp : ss.Perm (strKeys D)) : ss.mergeSort (fun x y => decide (x ≤ y)) = namesL S := by
  obtain ⟨es, hD, hpw, _⟩ := h0.entries keyLaw
  obtain ⟨es', hD', hko⟩ := World.ownsMap.keysOf h0
  obtain rfl : es = es' := by rw [hD] at hD'; simpa using hD'
  subst hD
  refine merge_rising (hp.trans ?_) (namesL_rising S)
  refine (perm_strKeys hpw (fun p hp => by obtain ⟨v, hv⟩ := hko p hp; obtain ⟨x, _, hx, _⟩ := Maps.keyOf_str Try.underlying9 hv; exact ⟨x, hx⟩) (namesL_rising S).nodup (fun x => ?_)).symm
  rw [namesL_mem, h]; simp
theorem size_keys {D : DataW Unit} : Maps.size D = (strKeys D).length := by cases D <;> simp [Maps.size, strKeys]
/-! ### Rows of names -/
def nmC (s : Nm) : List Value := [.string (bs s)]
def RdN (w : World) (A : Option Addr) (l : List Nm) : Prop := RdX 1 nmC w A l
def OwnN (w : World) (base : Nat) (A : Option Addr) (c : Nat) (l : List Nm) : Prop := OwnX 9 1 nmC w base A c l
theorem OwnN.rd {w : World} {base c : Nat} {A : Option Addr} {l : List Nm} (h : OwnN w base A c l) : RdN w A l := RdX.of_own (fun _ => rfl) h
theorem RdN.at_ {w : World} {A : Option Addr} {l : List Nm} (h : RdN w A l) {k : Nat} {s : Nm} (hs : l[k]? = some s) : ∃ b o, A = some ⟨b, o, none⟩ ∧ b < w.heap.size ∧ w.cell? ⟨b, o + k, none⟩ = some (.string (bs s)) := by
  obtain ⟨b, o, e, hl, hc⟩ := h.2 k s hs
  exact ⟨b, o, e, hl, by have := hc 0 _ rfl; rw [Nat.mul_one, Nat.add_zero] at this; exact this⟩
def NmOk (l : List Nm) : Prop := ∀ s ∈ l, s.length ≤ maxLen
theorem encStr_bs (s : Nm) : Go.Proofs.encStr s = .string (bs s) := rfl
theorem cells_nm : ∀ l : List Nm, l.map Go.Proofs.encStr = cellsOf nmC l
  | [] => rfl
  | s :: l => by
    have := cells_nm l
    simp only [cellsOf, List.map_cons, List.flatMap_cons] at this ⊢
    rw [this]; rfl
def SaysN (l : List Nm) (w : World) (e : Ending) (w' : World) : Prop := ∃ A c, e = .returned (.slice A l.length c) ∧ OwnN w' w.heap.size A c l ∧ Below w.heap.size w w'
set_option maxHeartbeats 4000000 in
set_option maxRecDepth 20000 in
theorem list_any (b n : Nat) (S : List Nm) (w : World) (h : SetAt w b n S) (hn : n ≤ 1000000) : Calls Try.prog 30 #[.map (some b)] w (SaysN (namesL S) w) := by
  obtain ⟨D, hD, hS⟩ := h
  have hsz : Maps.size D ≤ n := hD.size_le
  have HKEY : ∀ ss : List (List UInt8), ss.Perm (strKeys D) → ss.mergeSort (fun x y => decide (x ≤ y)) = namesL S := fun ss hp => set_keys hD hS hp
  refine (callsIn_wide (n := 6)).1 ?_
  have hfK : Fence.wide.fn 41 := trivial
  have hfS : Fence.wide.fn 40 := trivial
  refine callsIn_of_wp Try.func30 rfl trivial ?_ rfl
  simp only [Try.ntmps30, List.size_toArray, List.length_cons, List.length_nil, Nat.reduceAdd, Nat.reduceSub, Array.replicate_succ, Array.replicate_zero, List.push_toArray, List.append_toArray, List.nil_append, List.cons_append]
  gi_wp2_with (first
    | (gi_at_call 41; refine (Try.keysMap_any _ _).mono ?_; rintro e w' ⟨rfl, rfl⟩)
    | (gi_at_call 40; refine (Try.sortedKeys_any b n D (unitElem (H := Unit)) w hD (by unfold maxLen; omega) (by omega)).mono ?_; rintro e w' ⟨v, ss, rfl, hP, hrow, hnil, hb⟩))
  go_ret
  have hk := HKEY ss hP
  have hlen : ss.length = (namesL S).length := by rw [← hk]; exact ((List.mergeSort_perm ss _).length_eq).symm
  rw [hk, hlen, cells_nm] at hrow
  have hrow2 := ownsRow_base_a hrow (show w.heap.size ≤ _ by simp)
  obtain ⟨A, c, rfl⟩ := own_form hrow2
  exact ⟨A, c, rfl, hrow2, ((Below.refl _ w).alloc (Nat.le_refl _) _).trans (hb.mono (by simp))⟩
end Go.Proofs.Ytahljmddnfldlaa

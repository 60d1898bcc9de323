/-
  The contracts of a tree, over the list of its tuples alone.
-/
import Derived.Test.YtpmkhpbhimmeiaaGreatBtNew
import Derived.Test.YtpmkhpbhimmeiaaGreatBtHas
import Derived.Test.YtpmkhpbhimmeiaaGreatBtSet
import Derived.Test.YtpmkhpbhimmeiaaGreatBtTree
namespace Go.Proofs.YtpmkhpbhimmeiaaGreat
open Go.RowKit FloM ValM Go.Shelf
set_option linter.unusedVariables false
set_option linter.unusedSimpArgs false

/-! ### How many levels -/
def lg4 (k : Nat) : Nat := if k < 4 then 0 else 1 + lg4 (k / 4)
def deepestN (n : Nat) : Nat := if n < 1 then 0 else 1 + lg4 ((n + 1) / 2)
theorem lg4_of : ∀ (k m : Nat), 4 ^ k ≤ m → m < 4 ^ (k + 1) → lg4 m = k
  | 0, m, _, h => by rw [lg4, if_pos (by simpa using h)]
  | k + 1, m, h1, h2 => by
    have e1 : 4 ^ (k + 1) = 4 * 4 ^ k := by rw [Nat.pow_succ]; omega
    have e2 : 4 ^ (k + 1 + 1) = 4 * 4 ^ (k + 1) := by rw [Nat.pow_succ]; omega
    have hp : 0 < 4 ^ k := Nat.pow_pos (by omega)
    rw [lg4, if_neg (by omega), lg4_of k (m / 4) (by omega) (by omega)]; omega
theorem deepest_of {n k : Nat} (h1 : 2 * 4 ^ k - 1 ≤ n) (h2 : n < 2 * 4 ^ (k + 1) - 1) : deepestN n = k + 1 := by
  have hp : 0 < 4 ^ k := Nat.pow_pos (by omega)
  rw [deepestN, if_neg (by omega), lg4_of k _ (by omega) (by omega)]; omega

/-! ### A tree by its list -/
structure TreeS (X : Nat → Prop) (w : World) (g : Nat) (p : List Int) (M : List (List V)) : Prop where
  ex : ∃ L o P cp q, TreeAt X w g p L o P cp q ∧ L.map Sl.l = M
section
variable {X : Nat → Prop} {w w' : World} {g : Nat} {p : List Int} {M : List (List V)}
theorem TreeS.on (h : TreeS X w g p M) (hb : Below w.heap.size w w') : TreeS X w' g p M := by
  obtain ⟨L, o, P, cp, q, h, e⟩ := h.ex; exact ⟨L, o, P, cp, q, h.on hb, e⟩
theorem TreeS.onF (h : TreeS X w g p M) (hb : Fr X w.heap.size w w') (hg : w'.heap[g]? = w.heap[g]?) : TreeS X w' g p M := by
  obtain ⟨L, o, P, cp, q, h, e⟩ := h.ex; exact ⟨L, o, P, cp, q, h.onF hb hg, e⟩
theorem TreeS.lt (h : TreeS X w g p M) : g < w.heap.size := by
  obtain ⟨L, o, P, cp, q, h, e⟩ := h.ex; exact h.cells.2.2.2
/-- Another tree of X was written. -/
theorem TreeS.other {g' : Nat} (h : TreeS X w g p M) (hg' : X g') (hne : g ≠ g') (hb : Fr (· = g') w.heap.size w w') : TreeS X w' g p M :=
  h.onF (hb.sub fun k _ hk => by subst hk; exact hg') (hb.block g h.lt hne)
theorem TreeS.mem (h : TreeS X w g p M) : X g := by obtain ⟨L, o, P, cp, q, h, e⟩ := h.ex; exact h.mem
theorem TreeS.perm (h : TreeS X w g p M) : permB p = true := by obtain ⟨L, o, P, cp, q, h, e⟩ := h.ex; exact h.perm
theorem TreeS.few (h : TreeS X w g p M) : p.length ≤ 8 := by obtain ⟨L, o, P, cp, q, h, e⟩ := h.ex; exact h.few
theorem TreeS.small (h : TreeS X w g p M) : M.length ≤ 100000 := by obtain ⟨L, o, P, cp, q, h, e⟩ := h.ex; rw [← e, List.length_map]; exact h.small
theorem TreeS.fit (h : TreeS X w g p M) : FitS p M := by
  obtain ⟨L, o, P, cp, q, ht, e⟩ := h.ex
  subst e
  refine ⟨?_, fun x hx => ?_⟩
  · have := ht.sorted
    unfold Sorted at this
    unfold SortS
    rw [List.pairwise_map]; exact this
  · obtain ⟨z, hz, rfl⟩ := List.mem_map.1 hx
    exact ht.lens z hz
/-- A new tree, where X holds of its block and not of its permutation's. -/
theorem TreeS.start {w0 w1 : World} {P : Option Addr} {cp : Nat} (N : NewC p w0 w1 g P cp) (h : Below w1.heap.size w1 w) (hg : X g) (hP : ∀ a, P = some a → ¬ X a.block) (hp : permB p = true) (hl : p.length ≤ 8) : TreeS X w g p [] :=
  ⟨[], none, P, cp, none, ⟨hg, blk_on N.blk h, N.rp.on h, hP, (fun a ha => by have := N.row' a ha; have := (Array.getElem?_eq_some_iff.1 (show w1.heap[g]? = _ from N.blk)).1; have := h.size; omega), N.cap, N.capm, hp, hl, rfl, rfl, List.Pairwise.nil, (fun x hx => by cases hx), (fun k t h => by cases h), (fun _ => rfl), Nat.zero_le _⟩, rfl⟩
theorem NewC.lt {w0 w1 : World} {P : Option Addr} {cp : Nat} (N : NewC p w0 w1 g P cp) : g < w1.heap.size := (Array.getElem?_eq_some_iff.1 (show w1.heap[g]? = _ from N.blk)).1
theorem TreeS.one {w0 w1 : World} {P : Option Addr} {cp : Nat} (N : NewC p w0 w1 g P cp) (hp : permB p = true) (hl : p.length ≤ 8) : TreeS (· = g) w1 g p [] :=
  TreeS.start N (Below.refl _ _) rfl (fun a ha e => by have := N.row' a ha; omega) hp hl
theorem TreeS.two {w0 w1 w2 w3 : World} {g2 : Nat} {p2 : List Int} {P P2 : Option Addr} {cp cp2 : Nat} (N : NewC p w0 w1 g P cp) (h : Below w1.heap.size w1 w2) (N2 : NewC p2 w2 w3 g2 P2 cp2) (hp : permB p = true) (hl : p.length ≤ 8) (hp2 : permB p2 = true) (hl2 : p2.length ≤ 8) :
    TreeS (fun k => k = g ∨ k = g2) w3 g p [] ∧ TreeS (fun k => k = g ∨ k = g2) w3 g2 p2 [] ∧ g < g2 := by
  have h1 := N.lt; have h2 := h.size; have h3 := N2.fresh
  refine ⟨TreeS.start N (h.trans (N2.b.mono h2)) (.inl rfl) (fun a ha e => ?_) hp hl, TreeS.start N2 (Below.refl _ _) (.inr rfl) (fun a ha e => ?_) hp2 hl2, by omega⟩
  · have := N.row' a ha; omega
  · have := N2.row' a ha; have := N2.row a ha; omega
end

/-! ### Put -/
section
variable {X : Nat → Prop} {g : Nat} {p : List Int} {M : List (List V)}
def putB (p : List Int) (a : List V) (M : List (List V)) : Bool := decide (a.length = p.length) && !inS p a M
def putE (p : List Int) (a : List V) : Int := if a.length = p.length then 0 else 1
theorem putS_any (A : Option Addr) (ca : Nat) (a : List V) (w : World) (h : TreeS X w g p M) (hr : RdV w A a) (hM : M.length < 100000) (hX : ∀ i, X i → i < w.heap.size) :
    Calls Tryz.prog 40 #[.pointer (some ⟨g, 0, none⟩), .slice A a.length ca] w fun e w' =>
      e = .returned (.tuple #[.bool (putB p a M), .int .i64 (putE p a)]) ∧ TreeS X w' g p (putM p a M) ∧ Fr (· = g) w.heap.size w w' := by
  have hf := h.fit; have hpm := h.perm
  obtain ⟨L, o, P, cp, q, ht, rfl⟩ := h.ex
  have hin : ∀ b, inS p a (L.map Sl.l) = b → (b = true ↔ ∃ z ∈ L, cmpC p z.l a = 0) := fun b hb => by
    rw [← hb, inS_iff]
    constructor
    · rintro ⟨z, hz, h0⟩; obtain ⟨y, hy, rfl⟩ := List.mem_map.1 hz; exact ⟨y, hy, h0⟩
    · rintro ⟨y, hy, h0⟩; exact ⟨y.l, List.mem_map_of_mem hy, h0⟩
  by_cases ha : a.length = p.length
  · have eE : putE p a = 0 := by unfold putE; rw [if_pos ha]
    have eM : putM p a (L.map Sl.l) = insS p a (L.map Sl.l) := by unfold putM; rw [if_pos ha]
    have eB : putB p a (L.map Sl.l) = !inS p a (L.map Sl.l) := by unfold putB; simp [ha]
    refine (put_any A ca a w ht hr ha (by simpa using hM) hX).mono ?_
    rintro e w' (⟨rfl, hb, hz⟩ | ⟨rfl, L', o', q', L1, L2, ht', e1, e2, h1, h2, hF⟩)
    · have hi := (hin _ rfl).2 hz
      rw [eE, eM, eB, hi, ins_same hf.sort hi]
      exact ⟨rfl, ⟨L, o, P, cp, q, ht.on hb, rfl⟩, Fr.of hb⟩
    · have hi : inS p a (L.map Sl.l) = false := inS_not.2 fun z hz => by
        rw [e1, List.mem_append] at hz
        rcases hz with hz | hz
        · have := h1 z hz; omega
        · have := h2 z hz; omega
      rw [eE, eM, eB, hi, e1, ins_parts h1 h2]
      exact ⟨rfl, ⟨L', o', P, cp, q', ht', e2⟩, hF⟩
  · have eE : putE p a = 1 := by unfold putE; rw [if_neg ha]
    have eM : putM p a (L.map Sl.l) = L.map Sl.l := by unfold putM; rw [if_neg ha]
    have eB : putB p a (L.map Sl.l) = false := by unfold putB; simp [ha]
    refine (put_far A ca a.length w ht ha).mono ?_
    rintro e w' ⟨rfl, rfl⟩
    rw [eE, eM, eB]
    exact ⟨rfl, ⟨L, o, P, cp, q, ht, rfl⟩, Fr.refl _ _ _⟩
theorem lenS_any (w : World) (h : TreeS X w g p M) : Calls Tryz.prog 43 #[.pointer (some ⟨g, 0, none⟩)] w fun e w' => e = .returned (.int .i64 (M.length : Int)) ∧ w = w' := by
  obtain ⟨L, o, P, cp, q, ht, rfl⟩ := h.ex
  rw [List.length_map]; exact len_any w ht
def hasB (p : List Int) (a : List V) (M : List (List V)) : Bool := decide (a.length = p.length) && inS p a M
theorem hasB_iff {a : List V} (hp : permB p = true) (hf : FitS p M) : hasB p a M = true ↔ a ∈ M := by
  unfold hasB
  rw [Bool.and_eq_true, decide_eq_true_eq]
  exact ⟨fun h => (inS_mem hp h.1 hf.lens).1 h.2, fun h => ⟨hf.lens a h, (inS_mem hp (hf.lens a h) hf.lens).2 h⟩⟩
theorem hasS_any (A : Option Addr) (ca : Nat) (a : List V) (w : World) (h : TreeS X w g p M) (hr : RdV w A a) :
    Calls Tryz.prog 44 #[.pointer (some ⟨g, 0, none⟩), .slice A a.length ca] w fun e w' => e = .returned (.bool (hasB p a M)) ∧ Below w.heap.size w w' := by
  obtain ⟨L, o, P, cp, q, ht, rfl⟩ := h.ex
  by_cases ha : a.length = p.length
  · have e : hasB p a (L.map Sl.l) = hasL p a L := by
      unfold hasB inS hasL; rw [decide_eq_true ha, Bool.true_and, List.any_map]; rfl
    rw [e]
    exact hasT_any A ca a w ht hr ha
  · have e : hasB p a (L.map Sl.l) = false := by unfold hasB; rw [decide_eq_false ha, Bool.false_and]
    rw [e]
    refine (hasT_far A ca a.length w ht ha).mono ?_
    rintro e w' ⟨rfl, rfl⟩
    exact ⟨rfl, Below.refl _ _⟩

/-! ### Iterators -/
/-- A function is handed back that tells M. -/
def SaysQ (X : Nat → Prop) (M : List (List V)) (w : World) (e : Ending) (w' : World) : Prop :=
  ∃ gf lb, e = .returned (.func (.func gf) #[] lb) ∧ (∀ args w, (callFunc gf args).run Tryz.prog w = .ok (.enter gf args) w) ∧ SeqR gf lb X w'.heap.size M w' ∧ Below w.heap.size w w'
theorem allS_any (w : World) (h : TreeS X w g p M) (hX : ∀ k, X k → k < w.heap.size) : Calls Tryz.prog 46 #[.pointer (some ⟨g, 0, none⟩)] w (SaysQ X M w) := by
  obtain ⟨L, o, P, cp, q, ht, rfl⟩ := h.ex
  refine (all_any w ht).mono ?_
  rintro e w' ⟨B1, B2, B3, D, xl, rfl, hc⟩
  exact ⟨_, _, rfl, enters_of Tryz.func87 (by kernel_rfl) rfl, all_seq w w' ht hc hX, hc.b⟩
theorem beg_tw {hd xl : List V} {L : List Sl} (hp : permB p = true) (hl : ∀ x ∈ L, x.l.length = p.length) (hs : Sorted p L) (hx : pickL xl (p.take hd.length) = hd) :
    tw (p.take hd.length) xl ((dW (p.take hd.length) xl L).map Sl.l) = beg p hd (L.map Sl.l) := by
  rw [tw_dW (ws_take _ hp hl hs)]
  unfold beg cmpC
  rw [hx]
theorem fromS_any (A : Option Addr) (ca : Nat) (hd : List V) (w : World) (h : TreeS X w g p M) (hr : RdV w A hd) (hle : hd.length ≤ p.length) (hX : ∀ k, X k → k < w.heap.size) :
    Calls Tryz.prog 70 #[.pointer (some ⟨g, 0, none⟩), .slice A hd.length ca] w (SaysQ X (beg p hd M) w) := by
  obtain ⟨L, o, P, cp, q, ht, rfl⟩ := h.ex
  refine (from_any A ca hd w ht hr hle).mono ?_
  rintro e w' ⟨B1, B2, B3, D, xl, rfl, hc⟩
  have hws := ws_take hd.length ht.perm ht.lens ht.sorted
  refine ⟨_, _, rfl, enters_of Tryz.func87 (by kernel_rfl) rfl, ?_, hc.b⟩
  have := from_seq w w' ht hc hws hX
  rwa [beg_tw ht.perm ht.lens ht.sorted hc.pick] at this
/-! ### The iterator that tells nothing -/
set_option maxHeartbeats 1000000 in
theorem none_seq (X : Nat → Prop) (n₀ : Nat) (w : World) : SeqR 86 #[] X n₀ [] w := by
  intro l J Jx W hW hl hJ hJx hR h0
  refine callsIn_deep (n := l) ?_
  have H0 := Lib.hid h0
  clear h0 hJ hJx hR
  refine callsIn_of_wp Tryz.func86 rfl trivial ?_ rfl
  simp only [Tryz.ntmps86, List.size_toArray, List.length_cons, List.length_nil, Nat.reduceAdd, Nat.reduceSub, Array.replicate_succ, Array.replicate_zero, List.push_toArray, List.append_toArray, List.nil_append, List.cons_append]
  gi_wp2
  go_end0
  exact ⟨⟨_, rfl⟩, .inl ⟨[], rfl, H0.out⟩⟩
set_option maxHeartbeats 1000000 in
theorem fromS_far (n : Nat) (A : Option Addr) (ca : Nat) (w : World) (h : TreeS X w g p M) (hn : p.length < n) :
    Calls Tryz.prog 70 #[.pointer (some ⟨g, 0, none⟩), .slice A n ca] w (SaysQ X [] w) := by
  obtain ⟨L, o, P, cp, q, ht, rfl⟩ := h.ex
  have c0 := ht.cells.1; have hgl := ht.cells.2.2.2
  have hfew := ht.few
  have hn' : (p.length : Int) < (n : Int) := by omega
  have hd : decide ((p.length : Int) < (n : Int)) = true := decide_eq_true hn'
  clear ht h
  have hmf : ∀ (fn : Fn) (first cap : Array Value) (w : World), (Instr.makeFunc fn first cap).run Tryz.prog w = .ok (.func fn first cap) w := fun _ _ _ _ => rfl
  have hkp : ∀ o : Obj, (w.alloc o).cell? ⟨g, 0, none⟩ = some (.slice P p.length cp) := fun o => (keep ((Below.refl _ _).alloc (Nat.le_refl _) _) g 0 hgl).trans c0
  go_enter Tryz.func70, Tryz.ntmps70
  go_wp2
  go_ret
  exact ⟨_, _, rfl, enters_of Tryz.func86 (by kernel_rfl) rfl, none_seq _ _ _, by repeat (first | exact Below.refl _ _ | apply Below.drew | (refine bel_alloc ?_ ?_; (first | exact Nat.le_refl _ | omega | (focus (simp; done)) | (focus (simp; omega)))))⟩
end
set_option maxHeartbeats 1000000 in
theorem from_nil (X : Nat → Prop) (v : Value) (w : World) : Calls Tryz.prog 70 #[.pointer none, v] w (SaysQ X [] w) := by
  have hmf : ∀ (fn : Fn) (first cap : Array Value) (w : World), (Instr.makeFunc fn first cap).run Tryz.prog w = .ok (.func fn first cap) w := fun _ _ _ _ => rfl
  have hkp : (w.alloc (.cells #[.pointer none] 70)).cell? ⟨w.heap.size, 0, none⟩ = some (.pointer none) := by simp [World.cell?, heap_al, Array.getElem?_push]
  go_enter Tryz.func70, Tryz.ntmps70
  go_wp2
  go_ret
  exact ⟨_, _, rfl, enters_of Tryz.func86 (by kernel_rfl) rfl, none_seq _ _ _, by repeat (first | exact Below.refl _ _ | apply Below.drew | (refine bel_alloc ?_ ?_; (first | exact Nat.le_refl _ | omega | (focus (simp; done)) | (focus (simp; omega)))))⟩
set_option maxHeartbeats 1000000 in
theorem all_nil (X : Nat → Prop) (w : World) : Calls Tryz.prog 46 #[.pointer none] w (SaysQ X [] w) := by
  have hf := Lib.hid (from_nil X (.slice none 0 0) w)
  go_enter Tryz.func46, Tryz.ntmps46
  go_wp2_with (go_at_call 70; refine hf.out.mono ?_; rintro e w' ⟨gf, lb, rfl, hc⟩; replace hc := Lib.hid hc)
  go_ret
  exact ⟨gf, lb, rfl, hc.out⟩
end Go.Proofs.YtpmkhpbhimmeiaaGreat

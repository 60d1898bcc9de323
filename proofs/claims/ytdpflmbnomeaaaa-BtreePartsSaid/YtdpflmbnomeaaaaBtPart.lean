/-
  Rows of tuples that are put together of what was told; parts of a sorted list by its first column.
-/
import Derived.Test.YtdpflmbnomeaaaaBtPick
import Derived.Test.YtdpflmbnomeaaaaBtMerge
import Derived.Deep.AppendLies
namespace Go.Proofs.Ytdpflmbnomeaaaa
open Go.RowKit FloM ValM Go.Shelf
set_option linter.unusedVariables false
set_option linter.unusedSimpArgs false
theorem SlOk.grown {X : Nat → Prop} {W W' : World} {y : Sl} {v : Value} {base n : Nat} {cs : List Value} (h : SlOk X W y) (ho : W.ownsRow base 24 1 v n cs) (hg : W.grownBy W' v.ownBlock) : SlOk X W' y := by
  have hd : ∀ a, y.A = some a → W'.heap[a.block]? = W.heap[a.block]? := fun a ha => by
    obtain ⟨c, z, hc⟩ := h.ty a ha
    have hl := (Array.getElem?_eq_some_iff.1 hc).1
    refine hg.block _ hl fun e => ?_
    rcases ho.2 with ⟨e0, _⟩ | ⟨g, cap, cur, e0, _, hgg, _⟩
    · rw [e0] at e; simp [Value.ownBlock] at e
    · rw [e0] at e
      have hgk : a.block = g := by simpa [Value.ownBlock] using e
      rw [hgk, hgg] at hc; cases hc
  refine ⟨fun i v hv => ?_, h.off, h.cap, fun a ha => ?_⟩
  · obtain ⟨b, o, e, hl, c0, c1, c2⟩ := h.rd i v hv
    have hh := hd _ e
    have cc : ∀ o', W'.cell? ⟨b, o', none⟩ = W.cell? ⟨b, o', none⟩ := fun o' => World.cell?_of_block (w := W) hh
    exact ⟨b, o, e, Nat.lt_of_lt_of_le hl hg.size, (cc _).trans c0, (cc _).trans c1, (cc _).trans c2⟩
  · obtain ⟨c, z, hc⟩ := h.ty a ha
    exact ⟨c, z, (hd a ha).trans hc⟩
structure PartI (X : Nat → Prop) (w6 : World) (ys : List Sl) (A : Option Addr) (c : Nat) (W : World) : Prop where
  b : Below w6.heap.size w6 W
  own : W.ownsRow w6.heap.size 24 1 (.slice A ys.length c) ys.length (ys.map Sl.val)
  each : ∀ y ∈ ys, SlOk X W y
section
variable {X : Nat → Prop} {w6 W W' : World} {ys zs : List Sl} {A A' : Option Addr} {c c' : Nat}
theorem PartI.on (h : PartI X w6 ys A c W) (hb : Below W.heap.size W W') : PartI X w6 ys A c W' := ⟨h.b.trans (hb.mono h.b.size), own_on h.own hb, fun y hy => (h.each y hy).on hb⟩
theorem PartI.app (h : PartI X w6 ys A c W) (hz : ∀ z ∈ zs, SlOk X W z) (ho : W'.ownsRow w6.heap.size 24 1 (.slice A' (ys.length + zs.length) c') (ys.length + zs.length) (ys.map Sl.val ++ zs.map Sl.val)) (hg : W.grownBy W' (Value.slice A ys.length c).ownBlock) : PartI X w6 (ys ++ zs) A' c' W' := by
  refine ⟨h.b.grown hg h.b.size (own_base h.own), by simpa using ho, fun y hy => ?_⟩
  rcases List.mem_append.1 hy with hy | hy
  · exact (h.each y hy).grown h.own hg
  · exact (hz y hy).grown h.own hg
end
/-! ### Parts of a sorted list -/
def upT (c : List Int) (a : List V) (M : List (List V)) : List (List V) := M.filter fun y => cmpC c y a == -1 || cmpC c y a == 0
theorem ws_lists {p : List Int} (n : Nat) {M : List (List V)} (hp : permB p = true) (h : FitS p M) : M.Pairwise fun x y => cmpC (p.take n) x y ≤ 0 := by
  refine List.Pairwise.imp_of_mem (fun {x y} hx hy hh => ?_) h.sort
  have e := pick_head (a := x) (b := y) (p := p) (perm_in hp (h.lens x hx)) (perm_in hp (h.lens y hy)) n
  unfold cmpC at *
  rw [e] at hh
  split at hh <;> omega
theorem part_first {c : List Int} {M : List (List V)} (hw : M.Pairwise fun x y => cmpC c x y ≤ 0) {b : List V} (hb : M[0]? = some b) : upT c b M = M.filter fun y => cmpC c y b == 0 := by
  unfold upT
  refine List.filter_congr fun y hy => ?_
  obtain ⟨j, hj, rfl⟩ := List.getElem_of_mem hy
  obtain ⟨h0, rfl⟩ := List.getElem?_eq_some_iff.1 hb
  have hle : cmpC c M[j] M[0] ≠ -1 := by
    rcases Nat.eq_zero_or_pos j with rfl | hj0
    · rw [cmpC_self]; omega
    · have := List.pairwise_iff_getElem.1 hw 0 j h0 hj hj0
      rw [cmpC_anti]; omega
  simp [hle]
theorem part_same {c : List Int} {M : List (List V)} {a b : List V} (h : cmpC c a b = 0) : upT c b M = upT c a M := by
  unfold upT
  refine List.filter_congr fun y _ => ?_
  rw [cmpC_eq_r h]
theorem part_next {c : List Int} {M : List (List V)} (hw : M.Pairwise fun x y => cmpC c x y ≤ 0) {k : Nat} {a b : List V} (ha : M[k]? = some a) (hb : M[k + 1]? = some b) (h : cmpC c a b ≠ 0) : upT c b M = upT c a M ++ M.filter fun y => cmpC c y b == 0 := by
  obtain ⟨hk, ea⟩ := List.getElem?_eq_some_iff.1 ha
  obtain ⟨hk1, eb⟩ := List.getElem?_eq_some_iff.1 hb
  have hab : cmpC c a b = -1 := by
    have := List.pairwise_iff_getElem.1 hw k (k + 1) hk hk1 (by omega)
    rw [ea, eb] at this
    rcases cmpC_rng c a b with e | e | e <;> omega
  have lo : ∀ y ∈ M.take (k + 1), cmpC c y a ≤ 0 := fun y hy => by
    obtain ⟨j, hj⟩ := List.getElem?_of_mem hy
    rw [List.getElem?_take] at hj
    split at hj
    · rename_i hjk
      obtain ⟨hjl, rfl⟩ := List.getElem?_eq_some_iff.1 hj
      rcases Nat.lt_or_ge j k with h1 | h1
      · have := List.pairwise_iff_getElem.1 hw j k hjl hk h1; rwa [ea] at this
      · have : j = k := by omega
        subst this; rw [← ea, cmpC_self]; omega
    · cases hj
  have hi : ∀ y ∈ M.drop (k + 1), cmpC c b y ≤ 0 := fun y hy => by
    obtain ⟨j, hj⟩ := List.getElem?_of_mem hy
    rw [List.getElem?_drop] at hj
    obtain ⟨hjl, rfl⟩ := List.getElem?_eq_some_iff.1 hj
    rcases Nat.eq_zero_or_pos j with rfl | hj0
    · have : M[k + 1 + 0] = b := eb
      rw [this, cmpC_self]; omega
    · have := List.pairwise_iff_getElem.1 hw (k + 1) (k + 1 + j) hk1 hjl (by omega); rwa [eb] at this
  have l1 : ∀ y ∈ M.take (k + 1), cmpC c y b = -1 := fun y hy => cmpC_le_lt (lo y hy) hab
  have l2 : ∀ y ∈ M.drop (k + 1), cmpC c y a = 1 := fun y hy => by
    have h1 := hi y hy
    have h2 : cmpC c a y = -1 := by
      rcases cmpC_rng c b y with e | e | e
      · exact cmpC_lt hab e
      · rw [← cmpC_eq_r e]; exact hab
      · omega
    rw [cmpC_anti]; omega
  have e : ∀ f : List V → Bool, M.filter f = (M.take (k + 1)).filter f ++ (M.drop (k + 1)).filter f := fun f => by rw [← List.filter_append, List.take_append_drop]
  unfold upT
  rw [e (fun y => cmpC c y b == -1 || cmpC c y b == 0), e (fun y => cmpC c y a == -1 || cmpC c y a == 0), e (fun y => cmpC c y b == 0)]
  have f1 : (M.take (k + 1)).filter (fun y => cmpC c y b == -1 || cmpC c y b == 0) = M.take (k + 1) := List.filter_eq_self.2 fun y hy => by simp [l1 y hy]
  have f2 : (M.take (k + 1)).filter (fun y => cmpC c y a == -1 || cmpC c y a == 0) = M.take (k + 1) := List.filter_eq_self.2 fun y hy => by
    have := lo y hy
    rcases cmpC_rng c y a with e | e | e
    · simp [e]
    · simp [e]
    · omega
  have f3 : (M.take (k + 1)).filter (fun y => cmpC c y b == 0) = [] := List.filter_eq_nil_iff.2 fun y hy => by simp [l1 y hy]
  have f4 : (M.drop (k + 1)).filter (fun y => cmpC c y a == -1 || cmpC c y a == 0) = [] := List.filter_eq_nil_iff.2 fun y hy => by simp [l2 y hy]
  have f5 : (M.drop (k + 1)).filter (fun y => cmpC c y b == -1 || cmpC c y b == 0) = (M.drop (k + 1)).filter (fun y => cmpC c y b == 0) := List.filter_congr fun y hy => by
    have h1 := hi y hy
    have : cmpC c y b ≠ -1 := by rw [cmpC_anti]; omega
    simp [this]
  rw [f1, f2, f3, f4, f5]; simp
theorem part_last {c : List Int} {M : List (List V)} (hw : M.Pairwise fun x y => cmpC c x y ≤ 0) {k : Nat} {a : List V} (ha : M[k]? = some a) (hk : M.length = k + 1) : upT c a M = M := by
  obtain ⟨hkl, rfl⟩ := List.getElem?_eq_some_iff.1 ha
  unfold upT
  rw [List.filter_eq_self]
  intro y hy
  obtain ⟨j, hj, rfl⟩ := List.getElem_of_mem hy
  have h : cmpC c M[j] M[k] ≤ 0 := by
    rcases Nat.lt_or_ge j k with h1 | h1
    · exact List.pairwise_iff_getElem.1 hw j k hj hkl h1
    · have : j = k := by omega
      subst this; rw [cmpC_self]; omega
  rcases cmpC_rng c M[j] M[k] with e | e | e
  · simp [e]
  · simp [e]
  · omega
theorem beg_first {p : List Int} {M : List (List V)} {b : List V} {v : V} (hv : pickL b (p.take 1) = [v]) : beg p [v] M = M.filter fun y => cmpC (p.take 1) y b == 0 := by
  unfold beg cmpC
  rw [hv]; rfl
theorem pick_one {p : List Int} {y : List V} {q : Nat} (hq : p[0]? = some (q : Int)) {v : V} (hv : y[q]? = some v) : pickL y (p.take 1) = [v] := by
  have hl : q < y.length := (List.getElem?_eq_some_iff.1 hv).1
  obtain ⟨u, r, rfl⟩ : ∃ u r, p = u :: r := by
    cases p with
    | nil => simp at hq
    | cons u r => exact ⟨u, r, rfl⟩
  simp at hq; subst hq
  have hin : inR y.length (q : Int) = true := inR_iff.2 (by omega)
  rw [List.take_succ_cons, List.take_zero, pickL_take (v := v) (by unfold col; rw [if_pos hin, Int.toNat_natCast]; exact hv), pickL_nil]
theorem one_zero {p : List Int} {x y : List V} {u v : V} (hx : pickL x (p.take 1) = [u]) (hy : pickL y (p.take 1) = [v]) : cmpC (p.take 1) x y = 0 ↔ u = v := by
  unfold cmpC; rw [hx, hy, ord_zero]; simp
end Go.Proofs.Ytdpflmbnomeaaaa

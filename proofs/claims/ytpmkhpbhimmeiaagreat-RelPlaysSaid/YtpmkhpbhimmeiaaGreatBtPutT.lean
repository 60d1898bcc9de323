/-
  A tree behind Put.
-/
import Derived.Test.YtpmkhpbhimmeiaaGreatBtPut
namespace Go.Proofs.YtpmkhpbhimmeiaaGreat
open Go.RowKit FloM ValM Go.Shelf
set_option linter.unusedVariables false
set_option linter.unusedSimpArgs false

/-- A tuple that goes in at its place leaves the order. -/
theorem ins_sorted {p : List Int} {a : List V} {y : Sl} {L L' L1 L2 : List Sl} (h : InsP p a y L L' L1 L2) (hs : Sorted p L) : Sorted p L' := by
  have hs2 := hs
  rw [h.old] at hs2
  obtain ⟨s1, s2, s3⟩ := List.pairwise_append.1 hs2
  rw [h.new]
  refine List.pairwise_append.2 ⟨s1, List.Pairwise.cons (fun z hz => ?_) s2, fun x hx z hz => ?_⟩
  · have := h.more z hz
    rw [h.val, cmpC_anti, this]
  · rcases List.mem_cons.1 hz with rfl | hz
    · rw [h.val]; exact h.less x hx
    · exact s3 x hx z hz
theorem sorted_same {p : List Int} {L L' : List Sl} (h : L.map Sl.l = L'.map Sl.l) (hs : Sorted p L) : Sorted p L' := by
  have e : ∀ L : List Sl, Sorted p L ↔ (L.map Sl.l).Pairwise fun x y => cmpC p x y = -1 := fun L => by unfold Sorted; rw [List.pairwise_map]
  rw [e, ← h, ← e]; exact hs
theorem put_tree {X : Nat → Prop} {g : Nat} {p : List Int} {L : List Sl} {o : Option (Nat × Nd)} {P : Option Addr} {cp k : Nat} {q : Option Addr} {a : List V} {w w' : World} {e : Ending} (h : TreeAt X w g p L o P cp q) (ha : a.length = p.length) (hL : L.length < 100000) (hg : g < w.heap.size)
    (hlow : 2 * 4 ^ k - 1 ≤ L.length + 1) (hhigh : L.length < 2 * 4 ^ (k + 1) - 1) (hp : PutP X g P cp k p a L w e w') :
    ∃ L' o' q' L1 L2, TreeAt X w' g p L' o' P cp q' ∧ L.map Sl.l = L1 ++ L2 ∧ L'.map Sl.l = L1 ++ a :: L2 ∧ (∀ z ∈ L1, cmpC p z a = -1) ∧ (∀ z ∈ L2, cmpC p z a = 1) ∧ Fr (· = g) w.heap.size w w' := by
  obtain ⟨_, hF, k2, t2, t1, y, L1, L2, hb, ht, hi, hts, hfl, hc⟩ := hp
  have hX : Fr X w.heap.size w w' := hF.sub fun i _ hi => by subst hi; exact h.mem
  have hl1 : (flat k t1).length = L.length + 1 := by rw [hi.new, hi.old]; simp; omega
  have hl2 : (flat k2 t2).length = L.length + 1 := by have := congrArg List.length hfl; simpa [hl1] using this
  have hmap : (flat k2 t2).map Sl.l = L1.map Sl.l ++ a :: L2.map Sl.l := by rw [hfl, hi.new]; simp [hi.val]
  have h4 : 4 ^ (k + 1) = 4 * 4 ^ k := by rw [Nat.pow_succ]; omega
  have h44 : 4 ^ (k + 1 + 1) = 4 * 4 ^ (k + 1) := by rw [Nat.pow_succ]; omega
  have hpos : 0 < 4 ^ k := Nat.pow_pos (by omega)
  refine ⟨flat k2 t2, some (k2, t2), t2.ptr, L1.map Sl.l, L2.map Sl.l, ?_, by rw [hi.old]; simp, hmap, fun z hz => ?_, fun z hz => ?_, hF⟩
  · refine ⟨h.mem, ?_, h.rp.onF h.offP hX, h.offP, (fun a ha => Nat.lt_of_lt_of_le (h.inP a ha) hX.size), h.capP, h.capP', h.perm, h.few, ⟨rfl, ht⟩, rfl, sorted_same hfl.symm (ins_sorted hi h.sorted), fun x hx => ?_, fun k' t' he => ?_, fun he => (by cases he), by omega⟩
    · rw [hl2]; exact hb
    · have hm : x.l ∈ (flat k2 t2).map Sl.l := List.mem_map_of_mem hx
      rw [hmap, List.mem_append, List.mem_cons, List.mem_map, List.mem_map] at hm
      rcases hm with ⟨z, hz, he⟩ | he | ⟨z, hz, he⟩
      · rw [← he]; exact h.lens z (by rw [hi.old]; exact List.mem_append_left _ hz)
      · rw [he]; exact ha
      · rw [← he]; exact h.lens z (by rw [hi.old]; exact List.mem_append_right _ hz)
    · obtain ⟨rfl, rfl⟩ : k2 = k' ∧ t2 = t' := by injection he with he; injection he with h1 h2; exact ⟨h1, h2⟩
      rw [hl2]
      rcases hc with ⟨hn, hk, h1⟩ | ⟨hn, hk, h1⟩
      · rw [hk, h44]; exact ⟨by omega, by omega, by omega, by omega⟩
      · subst h1
        subst hk
        have hlen := flat_len k2 t2 ht.sh
        rw [hl2] at hlen
        refine ⟨hts.1, ?_, hlow, by omega⟩
        have h8 : (t2.ts.length + 1) * 4 ^ k2 < 8 * 4 ^ k2 := by omega
        have := Nat.lt_of_mul_lt_mul_right h8
        omega
  · obtain ⟨x, hx, rfl⟩ := List.mem_map.1 hz; exact hi.less x hx
  · obtain ⟨x, hx, rfl⟩ := List.mem_map.1 hz; exact hi.more x hx
/-- Put: the tuple is there, or it goes in. -/
theorem put_any {X : Nat → Prop} {g : Nat} {p : List Int} {L : List Sl} {o : Option (Nat × Nd)} {P : Option Addr} {cp : Nat} {q : Option Addr} (A : Option Addr) (ca : Nat) (a : List V) (w : World) (h : TreeAt X w g p L o P cp q) (hr : RdV w A a) (ha : a.length = p.length) (hL : L.length < 100000) (hX : ∀ i, X i → i < w.heap.size) :
    Calls Tryz.prog 40 #[.pointer (some ⟨g, 0, none⟩), .slice A a.length ca] w fun e w' =>
      (e = .returned (.tuple #[.bool false, .int .i64 0]) ∧ Below w.heap.size w w' ∧ ∃ z ∈ L, cmpC p z.l a = 0) ∨
      (e = .returned (.tuple #[.bool true, .int .i64 0]) ∧ ∃ L' o' q' L1 L2, TreeAt X w' g p L' o' P cp q' ∧ L.map Sl.l = L1 ++ L2 ∧ L'.map Sl.l = L1 ++ a :: L2 ∧ (∀ z ∈ L1, cmpC p z a = -1) ∧ (∀ z ∈ L2, cmpC p z a = 1) ∧ Fr (· = g) w.heap.size w w') := by
  have hg := h.cells.2.2.2
  have hfew := h.few
  rcases o with _ | ⟨k, t⟩
  · obtain rfl : q = none := h.root
    obtain rfl : L = [] := h.none rfl
    refine (put_more (k := 0) A ca a w h ha hL (by omega) hX (fun W hW => ?_)).mono fun e w' hp => .inr ⟨hp.1, put_tree h ha hL hg (by simp) (by simp) hp⟩
    refine (with_nil A P ca cp a p.length W (hr.on hW) (by omega) (fun i hi => Nat.lt_of_lt_of_le (hX i hi) hW.size)).mono ?_
    rintro e w' ⟨d, y, Bt, dt, Bk, dk, rfl, hN, hy, hB⟩
    exact ⟨.mk d [y] [], y, [], [], rfl, ⟨⟨Bt, dt, Bk, dk, hN⟩, rfl⟩, ⟨rfl, by simp [flat], hy, fun z hz => (by cases hz), fun z hz => (by cases hz)⟩, ⟨by simp [Nd.ts], by simp [Nd.ts]⟩, hB⟩
  · obtain ⟨rfl, ht⟩ := RootAt.some h.root
    obtain rfl : flat k t = L := h.all
    obtain ⟨l1, l2, l3, l4⟩ := h.low k t rfl
    have hk : k ≤ 20 := by
      apply Nat.le_of_not_lt
      intro hk
      have h1 : 4 ^ 20 ≤ 4 ^ k := Nat.pow_le_pow_right (by omega) (by omega)
      have h2 : (4 : Nat) ^ 20 = 1099511627776 := by decide
      omega
    have hw : ∀ W, Below w.heap.size w W → Calls Tryz.prog 64 #[.pointer t.ptr, .slice A a.length ca, .slice P p.length cp] W (WithN X k t a p W) := fun W hW =>
      with_any A P ca cp a p (by omega) (by omega) k t W (ht.on hW) (hr.on hW) (h.rp.on hW) (fun x hx => by rw [h.lens x hx]; omega) l1 l2 h.sorted (fun i hi => Nat.lt_of_lt_of_le (hX i hi) hW.size)
    by_cases hz : ∃ z ∈ flat k t, cmpC p z.l a = 0
    · refine (put_same A ca a w h ha (fun W hW => (hw W hW).mono ?_)).mono fun e w' hp => .inl ⟨hp.1, hp.2, hz⟩
      rintro e w' ⟨hB, ⟨rfl, _⟩ | ⟨t', y, L1, L2, rfl, _, _, _, hi⟩⟩
      · exact ⟨⟨_, rfl⟩, hB⟩
      · obtain ⟨z, hz, h0⟩ := hz
        rw [hi.old, List.mem_append] at hz
        rcases hz with hz | hz
        · have := hi.less z hz; omega
        · have := hi.more z hz; omega
    · refine (put_more (k := k) A ca a w h ha hL hk hX (fun W hW => (hw W hW).mono ?_)).mono fun e w' hp => .inr ⟨hp.1, put_tree h ha hL hg (by omega) l4 hp⟩
      rintro e w' ⟨hB, ⟨_, h0⟩ | ⟨t', y, L1, L2, rfl, ht', n1, n2, hi⟩⟩
      · exact absurd h0 hz
      · exact ⟨t', y, L1, L2, rfl, ht', hi, ⟨by omega, by omega⟩, hB⟩
end Go.Proofs.YtpmkhpbhimmeiaaGreat

/-
  Package rel, for the laws: what is found, as mathematics; Find and All of a law's one relation; the document's own plain permutation; slices of tuples with their room.
-/
import Derived.Test.YtojanokicfeghaaRelB
namespace Go.Proofs.Ytojanokicfeghaa
open Go.RowKit FloM ValM Go.Shelf
set_option linter.unusedVariables false
set_option linter.unusedSimpArgs false
section
variable {n : Nat} {H : List (List V)} {x : List V}
theorem findL_yes {cols : List Int} {vals : List V} (hl : cols.length = vals.length) (hd : distB n cols = true) : findL n cols vals H = foundL cols vals (puts (upto n) H) := by unfold findL; rw [if_pos ⟨hl, hd⟩]
theorem findL_no {cols : List Int} {vals : List V} (hd : distB n cols = false) : findL n cols vals H = [] := by unfold findL; rw [if_neg (by rw [hd]; simp)]
theorem upto_dist (n : Nat) : distB n (upto n) = true := distB_iff.2 ⟨fun x hx => upto_mem.1 hx, upto_nodup n⟩
theorem find_all (hx : x ∈ H) (hn : x.length = n) : findL n (upto n) x H = [x] := by
  rw [findL_yes (by rw [upto_len, hn]) (upto_dist n)]
  refine sort_ext found_sort (show SortS _ [x] from List.pairwise_singleton _ _) fun t => ?_
  rw [found_mem, puts_mem (upto_perm n), upto_len, List.mem_singleton]
  constructor
  · rintro ⟨⟨h1, h2⟩, h3⟩
    rwa [pick_upto t n (by omega)] at h3
  · rintro rfl
    exact ⟨⟨hx, hn⟩, pick_upto _ n (by omega)⟩
theorem find_none : findL n [] [] H = puts (upto n) H := by
  rw [findL_yes rfl (distB_iff.2 ⟨fun x hx => (by cases hx), List.nodup_nil⟩)]
  unfold foundL
  rw [List.filter_eq_self]
  intro t _
  rw [pickL_nil, beq_iff_eq, ord_zero]
theorem one_dist {c : Int} (h0 : 0 ≤ c) (h1 : c < (n : Int)) : distB n [c] = true := distB_iff.2 ⟨fun x hx => by rw [List.mem_singleton] at hx; subst hx; exact inR_iff.2 ⟨h0, h1⟩, by simp⟩
theorem find_some {c : Nat} {v : V} (hx : x ∈ H) (hn : x.length = n) (hv : x[c]? = some v) : 1 ≤ (findL n [(c : Int)] [v] H).length := by
  have hc : c < n := by rw [← hn]; exact (List.getElem?_eq_some_iff.1 hv).1
  have hm : x ∈ findL n [(c : Int)] [v] H := by
    rw [findL_yes rfl (one_dist (by omega) (by omega)), found_mem, puts_mem (upto_perm n), upto_len]
    exact ⟨⟨hx, hn⟩, by rw [pickL_take (show col x c = some v by unfold col; rw [if_pos (inR_iff.2 ⟨by omega, by omega⟩)]; simpa using hv)]; rfl⟩
  exact List.length_pos_of_mem hm
theorem find_le (cols : List Int) (vals : List V) : (findL n cols vals H).length ≤ (puts (upto n) H).length := by
  unfold findL
  split
  · exact List.length_filter_le _ _
  · simp
theorem find_two {c i : Nat} {v u : V} (hc : c < n) : (findL n [(c : Int), (i : Int)] [v, u] H).length ≤ (findL n [(c : Int)] [v] H).length := by
  cases hd : distB n [(c : Int), (i : Int)] with
  | false => rw [findL_no hd]; simp
  | true =>
    rw [findL_yes rfl hd, findL_yes rfl (one_dist (by omega) (by omega))]
    unfold foundL
    rw [← List.countP_eq_length_filter, ← List.countP_eq_length_filter]
    refine List.countP_mono_left fun t ht h => ?_
    rw [beq_iff_eq, ord_zero] at h ⊢
    have hl : t.length = n := by have := ((puts_mem (upto_perm n) H).1 ht).2; rwa [upto_len] at this
    have hin := (distB_iff.1 hd).1
    have h1 := congrArg (·[0]?) h
    have h2 := pick_at (t := t) (p := [(c : Int), (i : Int)]) (by rw [hl]; exact hin) 0
    have hq := pick_at (t := t) (p := [(c : Int)]) (by rw [hl]; intro x hx; rw [List.mem_singleton] at hx; subst hx; exact inR_iff.2 ⟨by omega, by omega⟩)
    have hlen := pick_perm_len (t := t) (p := [(c : Int)]) (by rw [hl]; intro x hx; rw [List.mem_singleton] at hx; subst hx; exact inR_iff.2 ⟨by omega, by omega⟩)
    apply List.ext_getElem?
    intro j
    rcases j with _ | j
    · rw [hq 0]; simp at h1 h2 ⊢; rw [← h2]; exact h1
    · rw [List.getElem?_eq_none (by rw [hlen]; simp), List.getElem?_eq_none (by simp)]
theorem find_twice (c : Int) (vals : List V) : findL n [c, c] vals H = [] := findL_no (by
  rw [Bool.eq_false_iff]; intro h
  have := (distB_iff.1 h).2
  simp at this)
theorem find_far (vals : List V) : findL n [(n : Int)] vals H = [] := findL_no (by
  rw [Bool.eq_false_iff]; intro h
  have := inR_iff.1 ((distB_iff.1 h).1 _ (List.mem_singleton.2 rfl))
  omega)
theorem find_lens {cols : List Int} {vals : List V} {t : List V} (h : t ∈ findL n cols vals H) : t.length = n := by
  unfold findL at h
  split at h
  · have := ((puts_mem (upto_perm n) H).1 (found_mem.1 h).1).2; rwa [upto_len] at this
  · cases h
end
section
variable {w W : World} {r n g0 : Nat} {gs : List Nat} {ps : List (List Int)} {H : List (List V)}
theorem oneFind (C A : Option Addr) (cc ca : Nat) (cols : List Int) (vals : List V) (h : OneR w r n g0 gs ps H W) (hn : n ≤ 8) (hH : H.length ≤ 100000) (hc : RdI W C cols) (oc : ∀ b o, C = some ⟨b, o, none⟩ → ¬ (b = g0 ∨ b ∈ gs)) (hv : RdV W A vals) (lc : cols.length ≤ 1000) :
    Calls Try.prog 28 #[.pointer (some ⟨r, 0, none⟩), .slice C cols.length cc, .slice A vals.length ca] W fun e w' => ∃ B d ys, e = .returned (.slice B (findL n cols vals H).length d) ∧ RdL w' B ys ∧ lsOf ys = findL n cols vals H ∧ Below W.heap.size W w' := by
  refine (relFind_any C A cc ca cols vals W h.s h.x1 hH hc oc hv lc).mono ?_
  rintro e w' ⟨B, d, ys, rfl, hy, hr, he, hb⟩
  refine ⟨B, d, ys, rfl, ⟨hr, fun y hm => ⟨he y hm, ?_⟩⟩, hy, hb⟩
  rw [find_lens (show y.l ∈ findL n cols vals H by rw [← hy]; exact List.mem_map.2 ⟨y, hm, rfl⟩)]
  unfold maxLen; omega
theorem oneAll (h : OneR w r n g0 gs ps H W) (hn : n ≤ 8) (hH : H.length ≤ 100000) :
    Calls Try.prog 30 #[.pointer (some ⟨r, 0, none⟩)] W fun e w' => ∃ B d ys, e = .returned (.slice B (puts (upto n) H).length d) ∧ RdL w' B ys ∧ lsOf ys = puts (upto n) H ∧ Below W.heap.size W w' := by
  have hl := puts_len (upto n) H
  refine (relAll_any W h.s h.x1 (by omega)).mono ?_
  rintro e w' ⟨B, d, ys, hs⟩
  refine ⟨B, d, ys, hs.val, hs.rd.rdL (fun y hm => ?_), hs.vals, hs.b⟩
  have := ((puts_mem (upto_perm n) H).1 (show y.l ∈ puts (upto n) H by rw [← hs.vals]; exact List.mem_map.2 ⟨y, hm, rfl⟩)).2
  rw [upto_len] at this
  unfold maxLen; omega
end
section
open Go.ChangeShapes Go.WideShapes Go.ChangeAt Go.Joins Go.Deep Go.ChangeMaps
variable {H : Type} {enc : TypeId × Value → H} {w : World} {base : Nat} {spare : Nat → Bool} {held : Bool}
/-- A parameter of type [][]api.Value reads as a list of tuples. -/
theorem open_tupsC {v : Value} {d : DataW H} {p : List MemPlace} (hok : ∃ A n c, v = .slice A n c) (h : DataW.Trod enc Try.prog w base spare held 22 v d p) :
    ∃ (A : Option Addr) (c : Nat) (xs : List Sl), v = .slice A xs.length c ∧ RdL w A xs ∧ xs.length ≤ maxLen ∧ xs.length ≤ c ∧ ∀ x ∈ xs, x.l.length ≤ x.c := by
  obtain ⟨A0, n0, c0, rfl⟩ := hok
  obtain ⟨fuel, hf⟩ := h
  rcases open_slice Try.underlying22 hf with ⟨hcs, _⟩ | ⟨a, len, cap, m, n, D, Pl, hcs, _, hl, hm, hmm, _, hi⟩
  · simp [Value.cells] at hcs
    obtain ⟨rfl, rfl, rfl⟩ := hcs
    exact ⟨none, 0, [], rfl, RdL.nil, Nat.zero_le _, Nat.le_refl _, fun x h => by cases h⟩
  · simp [Value.cells] at hcs
    obtain ⟨rfl, rfl, rfl⟩ := hcs
    have hC : Try.prog.cellsOf 23 = 1 := by kernel_rfl
    have hlm : n0 ≤ m := by rw [hmm]; split <;> omega
    obtain ⟨f, hff⟩ := choose_lt (p := fun i (u : Sl) => w.cell? (a.add i) = some u.val ∧ RdV w u.A u.l ∧ u.l.length ≤ maxLen ∧ u.l.length ≤ u.c) (n := n0) (fun i hin => by
      obtain ⟨cs', hc, ht'⟩ := hi i (by omega)
      rw [hC] at hc
      obtain ⟨_, hcl, hat⟩ := World.cells?_some hc
      obtain ⟨A, c, l, rfl, h1, h2, h3⟩ := vals_trod ht'
      refine ⟨⟨A, c, l⟩, ?_, h1, h2, h3⟩
      have := hat 0 (by simp)
      rw [Go.Deep.add_add] at this
      simpa [Sl.val] using this)
    refine ⟨some a, c0, (List.range n0).map f, by simp, ⟨fun i u hu => ?_, fun x hx => ?_⟩, by simpa using Nat.le_trans hl hm, by simpa using hl, fun x hx => ?_⟩
    · rw [List.getElem?_map, List.getElem?_map, Option.map_eq_some_iff] at hu
      obtain ⟨y, hy, rfl⟩ := hu
      rw [Option.map_eq_some_iff] at hy
      obtain ⟨j, hj, rfl⟩ := hy
      obtain ⟨hlj, hj⟩ := List.getElem?_eq_some_iff.1 hj
      rw [List.getElem_range] at hj; subst hj
      rw [List.length_range] at hlj
      have h0 := (hff i hlj).1
      have hsp : a.spot = none := by
        have := (hff 0 (by omega)).1
        exact World.cell?_spot (by simpa [Addr.add] using this)
      rw [add_spot hsp] at h0
      obtain ⟨ab, ao, asp⟩ := a
      simp only at hsp; subst hsp
      exact ⟨ab, ao, rfl, cell_lt h0, h0⟩
    · rw [List.mem_map] at hx
      obtain ⟨i, hi', rfl⟩ := hx
      exact ⟨(hff i (List.mem_range.1 hi')).2.1, (hff i (List.mem_range.1 hi')).2.2.1⟩
    · rw [List.mem_map] at hx
      obtain ⟨i, hi', rfl⟩ := hx
      exact (hff i (List.mem_range.1 hi')).2.2.2
end
/-! ### The document's own plain permutation -/
def PlainRel (w0 : World) (n : Nat) (out i : Value) (wr : World) : Prop := ∃ k : Nat, i = .int .i64 (k : Nat) ∧ k ≤ n ∧ Below w0.heap.size w0 wr ∧ ∃ A c, out = .slice A k c ∧ wr.ownsRow w0.heap.size 3 1 (.slice A k c) k (icells (upto k))
set_option maxRecDepth 20000 in
set_option maxHeartbeats 4000000 in
theorem plain_any (n : Nat) (w : World) (hn : n ≤ 1000) : Calls Try.prog 32 #[.int .i64 (n : Int)] w fun e w' => ∃ A c, e = .returned (.slice A n c) ∧ RdI w' A (upto n) ∧ (∀ b o, A = some ⟨b, o, none⟩ → w.heap.size ≤ b) ∧ Below w.heap.size w w' := by
  obtain ⟨i0, hi0, hz0, hz1, hz2⟩ := info_parts info_int
  have HI0 := Lib.hid hi0; have HZ0 := Lib.hid hz0; have HZ1 := Lib.hid hz1; have HZ2 := Lib.hid hz2
  clear hi0 hz0 hz1 hz2
  go_enter Try.func32, Try.ntmps32
  go_wp2
  go_loopw [3, 4] (fun out i wr => PlainRel w n out i wr) (fun _ i _ => n - (intOf i).toNat)
  case atStart => exact ⟨0, rfl, Nat.zero_le _, Below.refl _ _, none, 0, rfl, own_nil w _ _ _⟩
  case round =>
    obtain ⟨k, rfl, hk, hB, Ap, cp, rfl, hown⟩ := hrel
    have HO := Lib.hid hown; clear hown
    by_cases hlt : k < n
    · go_wp2_with (first | (at_builtin; refine wpList_append_own _ rfl (.tmp 10) (.tmp 12) _ rfl w.heap.size 3 i0 (.int .i64 0) 1 8 Try.underlying28 HI0.out HZ0.out HZ1.out HZ2.out rfl (by omega) (.slice Ap k cp) k (icells (upto k)) rfl (own_on HO.out ((Below.refl _ _).alloc (Nat.le_refl _) _)) ⟨wr.heap.size, 0, none⟩ 1 1 [.int .i64 (k : Int)] rfl (by simp) (news_one wr #[.int .i64 (k : Int)] _) (by simp [Value.oneCell']) (by unfold maxLen; omega) (by omega) (by have := hB.size; simp; omega) ?_; intro v' w' ho' hg' _; obtain ⟨A2, c2, rfl⟩ := own_form ho'))
      go_roundw
      case rel =>
        have hb3 : Below w.heap.size w (wr.alloc (.cells #[.int .i64 (k : Int)] 3)) := on hB ((Below.refl _ _).alloc (Nat.le_refl _) _)
        refine ⟨k + 1, by go_num, by omega, hb3.grown hg' hb3.size (own_base HO.out), A2, c2, rfl, ?_⟩
        rw [upto_snoc]
        simpa [icells] using ho'
      case measure => simp [intOf]; omega
    · obtain rfl : k = n := by omega
      go_wp2
      go_ret
      exact ⟨Ap, cp, rfl, own_rdI HO.out, own_adr HO.out, hB⟩
end Go.Proofs.Ytojanokicfeghaa

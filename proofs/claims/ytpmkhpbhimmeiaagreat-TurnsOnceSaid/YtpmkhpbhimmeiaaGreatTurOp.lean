/-
  The operations that a law of package turns is given, read, opened and counted; one Turns beside old memory; the law's awake.
-/
import Derived.Test.YtpmkhpbhimmeiaaGreatTurC
import Derived.Test.YtpmkhpbhimmeiaaGreatRelB
import Derived.Test.YtpmkhpbhimmeiaaGreatBtOpenT
namespace Go.Proofs.YtpmkhpbhimmeiaaGreat
open Go.RowKit FloM ValM Go.Shelf
set_option linter.unusedVariables false
set_option linter.unusedSimpArgs false
/-! ### Find, All and New -/
/-- What a search hands back, with its room. -/
def FindQC (L : List (List V)) (W : World) (e : Ending) (w' : World) : Prop := ∃ B d ys, e = .returned (.slice B L.length d) ∧ RdL w' B ys ∧ lsOf ys = L ∧ Below W.heap.size W w' ∧ L.length ≤ d
section
variable {X Y Z : Nat → Prop} {w w' : World} {t p n : Nat} {a l q b : RI} {HA HL HP : List (List V)} {left : Int}
set_option maxHeartbeats 1000000 in
theorem turAll_any (w : World) (h : TurG X w t p n a l q b HA HL HP) (hX : ∀ k, X k → k < w.heap.size) (hH : HA.length ≤ 100000) :
    Calls Tryz.prog 33 #[.pointer (some ⟨t, 0, none⟩)] w (FindQ (puts (upto n) HA) w) := by
  obtain ⟨c0, c1, c2, c3, c4⟩ := cell5 h.rcd
  unfold partV at c1
  have HM := Lib.hid (made_any w h)
  have HH := Lib.hid (xAll h.ra hX (RelG.few h.ra) hH)
  clear h hX
  go_enter Tryz.func33, Tryz.ntmps33
  go_wp2_with (first
    | (go_at_call 59; refine HM.out.mono ?_; rintro e w1 ⟨rfl, rfl⟩)
    | (go_at_call 17; refine HH.out.mono ?_; rintro e w1 ⟨B, d, ys, rfl, hy, hs, hb⟩))
  go_ret
  exact ⟨B, d, ys, rfl, hy, hs, hb⟩
set_option maxHeartbeats 1000000 in
theorem turFind_any (C A : Option Addr) (cc ca : Nat) (cols : List Int) (vals : List V) (w : World) (h : TurG X w t p n a l q b HA HL HP) (hX : ∀ k, X k → k < w.heap.size) (hH : HA.length ≤ 100000) (hc : RdI w C cols) (oc : cols ≠ [] → ∀ b o, C = some ⟨b, o, none⟩ → ¬ X b) (hv : RdV w A vals) (lc : cols.length ≤ 1000) :
    Calls Tryz.prog 34 #[.pointer (some ⟨t, 0, none⟩), .slice C cols.length cc, .slice A vals.length ca] w (FindQ (findL n cols vals HA) w) := by
  obtain ⟨c0, c1, c2, c3, c4⟩ := cell5 h.rcd
  unfold partV at c1
  have HM := Lib.hid (made_any w h)
  have HH := Lib.hid (xFind C A cc ca cols vals h.ra hX (RelG.few h.ra) hH hc oc hv lc)
  clear h hX hc oc hv
  go_enter Tryz.func34, Tryz.ntmps34
  go_wp2_with (first
    | (go_at_call 59; refine HM.out.mono ?_; rintro e w1 ⟨rfl, rfl⟩)
    | (go_at_call 18; refine HH.out.mono ?_; rintro e w1 ⟨B, d, ys, rfl, hy, hs, hb⟩))
  go_ret
  exact ⟨B, d, ys, rfl, hy, hs, hb⟩
set_option maxHeartbeats 1000000 in
theorem turLatest_any (C A : Option Addr) (cc ca : Nat) (cols : List Int) (vals : List V) (w : World) (h : TurG X w t p n a l q b HA HL HP) (hX : ∀ k, X k → k < w.heap.size) (hH : HL.length ≤ 100000) (hc : RdI w C cols) (oc : cols ≠ [] → ∀ b o, C = some ⟨b, o, none⟩ → ¬ X b) (hv : RdV w A vals) (lc : cols.length ≤ 1000) :
    Calls Tryz.prog 32 #[.pointer (some ⟨t, 0, none⟩), .slice C cols.length cc, .slice A vals.length ca] w (FindQ (findL n cols vals HL) w) := by
  obtain ⟨c0, c1, c2, c3, c4⟩ := cell5 h.rcd
  unfold partV at c2
  have HM := Lib.hid (made_any w h)
  have HH := Lib.hid (xFind C A cc ca cols vals h.rl hX (RelG.few h.rl) hH hc oc hv lc)
  clear h hX hc oc hv
  go_enter Tryz.func32, Tryz.ntmps32
  go_wp2_with (first
    | (go_at_call 59; refine HM.out.mono ?_; rintro e w1 ⟨rfl, rfl⟩)
    | (go_at_call 18; refine HH.out.mono ?_; rintro e w1 ⟨B, d, ys, rfl, hy, hs, hb⟩))
  go_ret
  exact ⟨B, d, ys, rfl, hy, hs, hb⟩
set_option maxHeartbeats 1000000 in
theorem turFindC_any (C A : Option Addr) (cc ca : Nat) (cols : List Int) (vals : List V) (w : World) (h : TurG X w t p n a l q b HA HL HP) (hX : ∀ k, X k → k < w.heap.size) (hH : HA.length ≤ 100000) (hc : RdI w C cols) (oc : cols ≠ [] → ∀ b o, C = some ⟨b, o, none⟩ → ¬ X b) (hv : RdV w A vals) (lc : cols.length ≤ 1000) :
    Calls Tryz.prog 34 #[.pointer (some ⟨t, 0, none⟩), .slice C cols.length cc, .slice A vals.length ca] w (FindQC (findL n cols vals HA) w) := by
  obtain ⟨c0, c1, c2, c3, c4⟩ := cell5 h.rcd
  unfold partV at c1
  have HM := Lib.hid (made_any w h)
  have HH := Lib.hid (xFindC C A cc ca cols vals h.ra hX (RelG.few h.ra) hH hc oc hv lc)
  clear h hX hc oc hv
  go_enter Tryz.func34, Tryz.ntmps34
  go_wp2_with (first
    | (go_at_call 59; refine HM.out.mono ?_; rintro e w1 ⟨rfl, rfl⟩)
    | (go_at_call 18; refine HH.out.mono ?_; rintro e w1 ⟨B, d, ys, rfl, hy, hs, hb, hcap⟩))
  go_ret
  exact ⟨B, d, ys, rfl, hy, hs, hb, hcap⟩
set_option maxHeartbeats 1000000 in
theorem turLatestC_any (C A : Option Addr) (cc ca : Nat) (cols : List Int) (vals : List V) (w : World) (h : TurG X w t p n a l q b HA HL HP) (hX : ∀ k, X k → k < w.heap.size) (hH : HL.length ≤ 100000) (hc : RdI w C cols) (oc : cols ≠ [] → ∀ b o, C = some ⟨b, o, none⟩ → ¬ X b) (hv : RdV w A vals) (lc : cols.length ≤ 1000) :
    Calls Tryz.prog 32 #[.pointer (some ⟨t, 0, none⟩), .slice C cols.length cc, .slice A vals.length ca] w (FindQC (findL n cols vals HL) w) := by
  obtain ⟨c0, c1, c2, c3, c4⟩ := cell5 h.rcd
  unfold partV at c2
  have HM := Lib.hid (made_any w h)
  have HH := Lib.hid (xFindC C A cc ca cols vals h.rl hX (RelG.few h.rl) hH hc oc hv lc)
  clear h hX hc oc hv
  go_enter Tryz.func32, Tryz.ntmps32
  go_wp2_with (first
    | (go_at_call 59; refine HM.out.mono ?_; rintro e w1 ⟨rfl, rfl⟩)
    | (go_at_call 18; refine HH.out.mono ?_; rintro e w1 ⟨B, d, ys, rfl, hy, hs, hb, hcap⟩))
  go_ret
  exact ⟨B, d, ys, rfl, hy, hs, hb, hcap⟩
theorem turAllT_any (w : World) (h : TurG X w t p n a l q b HA HL HP) (hX : ∀ k, X k → k < w.heap.size) (hH : HA.length ≤ 100000) :
    Calls Tryz.prog 33 #[.pointer (some ⟨t, 0, none⟩)] w fun e w' => ∃ A c xs, SaysT X (puts (upto n) HA) w e w' A c xs := by
  obtain ⟨c0, c1, c2, c3, c4⟩ := cell5 h.rcd
  unfold partV at c1
  have HM := Lib.hid (made_any w h)
  have HH := Lib.hid (relAll_any w h.ra hX (Nat.le_trans (puts_len _ _) hH))
  clear h hX
  go_enter Tryz.func33, Tryz.ntmps33
  go_wp2_with (first
    | (go_at_call 59; refine HM.out.mono ?_; rintro e w1 ⟨rfl, rfl⟩)
    | (go_at_call 17; refine HH.out.mono ?_; rintro e w1 ⟨B, d, ys, hs⟩; obtain rfl := hs.val; have HS := Lib.hid hs; clear hs))
  go_ret
  exact ⟨B, d, ys, HS.out⟩
end
/-- An operation: a tuple, and whether a turn begins. -/
structure OpV where
  A : Option Addr
  c : Nat
  l : List V
  t : Bool
instance : Inhabited OpV := ⟨⟨none, 0, [], false⟩⟩
structure RdO (w : World) (A : Option Addr) (os : List OpV) : Prop where
  rd : ∀ (i : Nat) (o : OpV), os[i]? = some o → ∃ b k, A = some ⟨b, k, none⟩ ∧ b < w.heap.size ∧ w.cell? ⟨b, k + i * 2, none⟩ = some (.slice o.A o.l.length o.c) ∧ w.cell? ⟨b, k + i * 2 + 1, none⟩ = some (.bool o.t)
  each : ∀ o ∈ os, RdV w o.A o.l ∧ o.l.length ≤ maxLen
theorem RdO.on {w w' : World} {A : Option Addr} {os : List OpV} (h : RdO w A os) (hb : Below w.heap.size w w') : RdO w' A os :=
  ⟨fun i o hi => by
    obtain ⟨b, k, e, hl, c0, c1⟩ := h.rd i o hi
    exact ⟨b, k, e, Nat.lt_of_lt_of_le hl hb.size, (keep hb _ _ hl).trans c0, (keep hb _ _ hl).trans c1⟩, fun o ho => ⟨(h.each o ho).1.on hb, (h.each o ho).2⟩⟩
/-! ### Opening a parameter -/
section
open Go.ChangeShapes Go.WideShapes Go.ChangeAt Go.Joins Go.Deep Go.ChangeMaps
variable {H : Type} {enc : TypeId × Value → H} {w : World} {base : Nat} {spare : Nat → Bool} {held : Bool}
theorem fields2 {P : Program} {t : TypeId} {f0 f1 : Field} (hs : P.underlying t = some (.struct #[f0, f1])) (hone : oneCellFields P #[f0, f1] = true) {n : Nat} {c0 c1 : Value} {x : DataW H × List MemPlace}
    (h : DataW.trod enc P w base spare held n t [c0, c1] = some x) :
    ∃ m y0 y1, DataW.trod enc P w base spare held m f0.type [c0] = some y0 ∧ DataW.trod enc P w base spare held m f1.type [c1] = some y1 := by
  obtain ⟨xs, m, _, hx, _, hlen, hg⟩ := DataW.trod_struct hs h
  obtain ⟨o0, k0⟩ := hone_of hone 0 f0 rfl
  obtain ⟨o1, k1⟩ := hone_of hone 1 f1 rfl
  match xs, hlen with
  | [y0, y1], _ =>
    exact ⟨m, y0, y1, by simpa [o0, k0] using hg 0 f0 rfl, by simpa [o1, k1] using hg 1 f1 rfl⟩
theorem cells_op {n : Nat} {cs : List Value} {x : DataW H × List MemPlace} (hl : cs.length = 2) (h : DataW.trod enc Tryz.prog w base spare held n 63 cs = some x) :
    ∃ o : OpV, cs = [.slice o.A o.l.length o.c, .bool o.t] ∧ RdV w o.A o.l ∧ o.l.length ≤ maxLen := by
  match cs, hl with
  | [c0, c1], _ =>
    obtain ⟨m, y0, y1, h0, h1⟩ := fields2 Tryz.underlying63 (by kernel_rfl) h
    obtain ⟨A, c, l, e0, hr, hm, _⟩ := vals_trod h0
    obtain ⟨t, e1, _⟩ := DataW.trod_bool Tryz.underlying4 h1
    injection e0 with e0; injection e1 with e1
    subst e0 e1
    exact ⟨⟨A, c, l, t⟩, rfl, hr, hm⟩
/-- A parameter of type []Op reads as a list of operations. -/
theorem open_ops {v : Value} {d : DataW H} {p : List MemPlace} (hok : ∃ A n c, v = .slice A n c) (h : DataW.Trod enc Tryz.prog w base spare held 50 v d p) :
    ∃ (A : Option Addr) (c : Nat) (os : List OpV), v = .slice A os.length c ∧ RdO w A os ∧ os.length ≤ maxLen := by
  obtain ⟨A0, n0, c0, rfl⟩ := hok
  obtain ⟨fuel, hf⟩ := h
  rcases open_slice Tryz.underlying50 hf with ⟨hcs, _⟩ | ⟨a, len, cap, m, n, D, Pl, hcs, _, hl, hm, hmm, _, hi⟩
  · simp [Value.cells] at hcs
    obtain ⟨rfl, rfl, rfl⟩ := hcs
    exact ⟨none, 0, [], rfl, ⟨fun i o hi => by simp at hi, fun o ho => by cases ho⟩, Nat.zero_le _⟩
  · simp [Value.cells] at hcs
    obtain ⟨rfl, rfl, rfl⟩ := hcs
    have hC : Tryz.prog.cellsOf 63 = 2 := by kernel_rfl
    have hlm : n0 ≤ m := by rw [hmm]; split <;> omega
    obtain ⟨f, hff⟩ := choose_lt (p := fun i (u : OpV) => (∀ j x, [Value.slice u.A u.l.length u.c, .bool u.t][j]? = some x → w.cell? (a.add (i * 2 + j)) = some x) ∧ RdV w u.A u.l ∧ u.l.length ≤ maxLen) (n := n0) (fun i hin => by
      obtain ⟨cs', hc, ht'⟩ := hi i (by omega)
      rw [hC] at hc
      obtain ⟨_, hcl, hat⟩ := World.cells?_some hc
      obtain ⟨u, rfl, h1, h2⟩ := cells_op hcl ht'
      refine ⟨u, fun j x hj => ?_, h1, h2⟩
      have := hat j (by simpa using (List.getElem?_eq_some_iff.1 hj).1)
      rw [Go.Deep.add_add] at this
      rw [this, hj])
    refine ⟨some a, c0, (List.range n0).map f, by simp, ⟨fun i o ho => ?_, fun o ho => ?_⟩, by simpa using Nat.le_trans hl hm⟩
    · rw [List.getElem?_map, Option.map_eq_some_iff] at ho
      obtain ⟨j, hj, rfl⟩ := ho
      obtain ⟨hlj, hj⟩ := List.getElem?_eq_some_iff.1 hj
      rw [List.getElem_range] at hj; subst hj
      rw [List.length_range] at hlj
      have h0 := (hff i hlj).1 0 _ rfl
      have h1 := (hff i hlj).1 1 _ rfl
      have hsp : a.spot = none := by
        have := (hff 0 (by omega)).1 0 _ rfl
        exact World.cell?_spot (by simpa [Addr.add] using this)
      rw [add_spot hsp] at h0 h1
      obtain ⟨ab, ao, asp⟩ := a
      simp only at hsp; subst hsp
      exact ⟨ab, ao, rfl, cell_lt h0, h0, h1⟩
    · rw [List.mem_map] at ho
      obtain ⟨i, hi', rfl⟩ := ho
      exact (hff i (List.mem_range.1 hi')).2
end
/-! ### few -/
set_option maxHeartbeats 2000000 in
theorem fewO_any (A B : Option Addr) (c d : Nat) (ps : List IS) (xs : List OpV) (w : World) (hp : RdP w A ps) (hx : RdO w B xs) (lp : ps.length ≤ maxLen) (lx : xs.length ≤ maxLen) :
    Calls Tryz.prog 23 #[.slice A ps.length c, .slice B xs.length d] w fun e w' => e = .returned (.bool (fewR (ps.map IS.l) (xs.map OpV.l))) ∧ w = w' := by
  unfold maxLen at lp lx
  have HP := Lib.hid hp; have HX := Lib.hid hx; clear hp hx
  go_enter Tryz.func23, Tryz.ntmps23
  go_wp2
  go_loop [9] (fun v => ∃ k : Nat, v = .int .i64 (k : Nat) ∧ k ≤ ps.length ∧ ∀ x ∈ ps.take k, x.l.length ≤ 12) (fun v => ps.length - (intOf v).toNat)
  case atStart => exact ⟨0, rfl, Nat.zero_le _, by simp⟩
  case round =>
    obtain ⟨k, rfl, hk, hn⟩ := hrel
    have HN := Lib.hid hn; clear hn
    by_cases hlt : k < ps.length
    · obtain ⟨b, o, rfl, hb, hrow⟩ := HP.out.row (by omega)
      have hy := List.getElem?_eq_getElem hlt
      generalize ps[k] = y at hy
      have cy := hrow k y hy
      have hyl := (HP.out.each y (List.mem_of_getElem? hy)).2
      unfold maxLen at hyl
      have HY := Lib.hid hy; clear hrow hy
      by_cases h12 : y.l.length ≤ 12
      · have h12' : ¬ (12 : Int) < (y.l.length : Int) := by omega
        go_wp2
        refine ⟨⟨k + 1, by go_num, by omega, ?_⟩, by simp [intOf]; omega⟩
        intro x hx
        rw [take_snoc' HY.out, List.mem_append, List.mem_singleton] at hx
        rcases hx with hx | rfl
        · exact HN.out x hx
        · exact h12
      · have h12' : (12 : Int) < (y.l.length : Int) := by omega
        have HF := Lib.hid (fewR_no1 (M := xs.map OpV.l) (List.mem_map_of_mem (List.mem_of_getElem? HY.out)) (show 12 < y.l.length by omega))
        go_wp2
        go_ret
        exact ⟨by rw [HF.out]; rfl, rfl⟩
    · obtain rfl : k = ps.length := by omega
      have hall := HN.out
      rw [List.take_of_length_le (Nat.le_refl _)] at hall
      have HA := Lib.hid hall; clear hall
      go_wp2
      go_loop [21] (fun v => ∃ k : Nat, v = .int .i64 (k : Nat) ∧ k ≤ xs.length ∧ ∀ x ∈ xs.take k, x.l.length ≤ 12) (fun v => xs.length - (intOf v).toNat)
      case atStart => exact ⟨0, rfl, Nat.zero_le _, by simp⟩
      case round =>
        obtain ⟨k, rfl, hk, hn⟩ := hrel
        have HN2 := Lib.hid hn; clear hn
        by_cases hlt : k < xs.length
        · have hy := List.getElem?_eq_getElem hlt
          generalize xs[k] = y at hy
          obtain ⟨b, o, rfl, hb, cy, _⟩ := HX.out.rd _ _ hy
          have hyl : y.l.length ≤ maxLen := (HX.out.each y (List.mem_of_getElem? hy)).2
          unfold maxLen at hyl
          have HY := Lib.hid hy; clear hy
          by_cases h12 : y.l.length ≤ 12
          · have h12' : ¬ (12 : Int) < (y.l.length : Int) := by omega
            go_wp2
            refine ⟨⟨k + 1, by go_num, by omega, ?_⟩, by simp [intOf]; omega⟩
            intro x hx
            rw [take_snoc' HY.out, List.mem_append, List.mem_singleton] at hx
            rcases hx with hx | rfl
            · exact HN2.out x hx
            · exact h12
          · have h12' : (12 : Int) < (y.l.length : Int) := by omega
            have HF := Lib.hid (fewR_no2 (ps := ps.map IS.l) (List.mem_map_of_mem (List.mem_of_getElem? HY.out)) (show 12 < y.l.length by omega))
            go_wp2
            go_ret
            exact ⟨by rw [HF.out]; rfl, rfl⟩
        · obtain rfl : k = xs.length := by omega
          have hall := HN2.out
          rw [List.take_of_length_le (Nat.le_refl _)] at hall
          have HF := Lib.hid (fewR_all (ps := ps.map IS.l) (M := xs.map OpV.l) (fun p hp => by obtain ⟨x, hx, rfl⟩ := List.mem_map.1 hp; exact HA.out x hx) (fun a ha => by obtain ⟨x, hx, rfl⟩ := List.mem_map.1 ha; exact hall x hx))
          clear hall
          by_cases h1 : ps.length ≤ 10
          · have h1' : (ps.length : Int) ≤ 10 := by omega
            go_wp2
            go_ret
            refine ⟨?_, rfl⟩
            rw [HF.out, List.length_map, List.length_map, decide_eq_true h1, Bool.true_and]
            exact congrArg (fun b => Ending.returned (.bool b)) (decide_eq_decide.2 (by omega))
          · have h1' : ¬ (ps.length : Int) ≤ 10 := by omega
            go_wp2
            go_ret
            refine ⟨?_, rfl⟩
            rw [HF.out, List.length_map, List.length_map, decide_eq_false h1, Bool.false_and]; rfl
end Go.Proofs.YtpmkhpbhimmeiaaGreat

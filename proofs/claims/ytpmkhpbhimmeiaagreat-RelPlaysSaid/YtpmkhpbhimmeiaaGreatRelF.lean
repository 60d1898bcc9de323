/-
  Package rel: how a sort's own function compares: Compare of tuples lays blocks and draws, and does nothing else; the order of a relation's tuples.
-/
import Derived.Test.YtpmkhpbhimmeiaaGreatRelA
import Derived.Test.YtpmkhpbhimmeiaaGreatSortLay
import Derived.Test.YtpmkhpbhimmeiaaGreatTupPickP
import Derived.Shelf.RegionOpen
namespace Go.Proofs.YtpmkhpbhimmeiaaGreat
open Go.RowKit FloM ValM Go.Shelf
set_option linter.unusedVariables false
set_option linter.unusedSimpArgs false
/-- Blocks were laid, and orders drawn, and nothing else was done. -/
structure Grown (w w' : World) : Prop where
  b : Below w.heap.size w w'
  d : w.drawn ≤ w'.drawn
theorem Grown.refl (w : World) : Grown w w := ⟨Below.refl _ _, Nat.le_refl _⟩
theorem Grown.trans {a b c : World} (h : Grown a b) (k : Grown b c) : Grown a c := ⟨on h.b k.b, Nat.le_trans h.d k.d⟩
theorem Grown.drew {w w' : World} (h : Grown w w') : Grown w w'.drew := ⟨h.b.drew, Nat.le_trans h.d (Nat.le_succ _)⟩
theorem Grown.same {w w' : World} (h : Grown w w') : ∃ q os, w' = Sort.grow (w.drewN q) os := by
  refine ⟨w'.drawn - w.drawn, w'.heap.extract w.heap.size w'.heap.size, ?_⟩
  have hs := h.b.size
  have hh : w'.heap = w.heap ++ w'.heap.extract w.heap.size w'.heap.size := by
    apply Array.ext_getElem?
    intro i
    by_cases hi : i < w.heap.size
    · rw [Array.getElem?_append_left hi]; exact h.b.block i hi
    · rw [Array.getElem?_append_right (by omega), Array.getElem?_extract]
      by_cases h2 : i < w'.heap.size
      · rw [if_pos (by omega)]; congr 1; omega
      · rw [if_neg (by omega)]; exact Array.getElem?_eq_none (by omega)
  obtain ⟨wh, wt, wd, wo, wp⟩ := w
  obtain ⟨wh', wt', wd', wo', wp'⟩ := w'
  have e1 := h.b.os; have e2 := h.b.tape; have e3 := h.b.output; have e4 := h.d
  simp only at e1 e2 e3 e4 hh
  subst e1 e2 e3
  unfold Sort.grow World.drewN
  simp only
  rw [← hh, show wd + (wd' - wd) = wd' by omega]
def SaysG (r : Int) (w : World) (e : Ending) (w' : World) : Prop := e = .returned (.int .i64 r) ∧ Grown w w'
set_option maxHeartbeats 1000000 in
theorem compareV_grown (k n l m : Int) (s t : ByteArray) (w : World) : Calls Tryz.prog 76 #[.agg #[.int .i64 k, .int .i64 n, .string s], .agg #[.int .i64 l, .int .i64 m, .string t]] w (SaysG (cmpV ⟨k, n, s⟩ ⟨l, m, t⟩) w) := by
  go_enter Tryz.func76, Tryz.ntmps76
  go_wp2_with (first | (go_at_call 101; refine (cmp_int _ _ _).mono ?_; rintro e w' ⟨rfl, rfl⟩) | (go_at_call 102; refine (cmp_i64 _ _ _).mono ?_; rintro e w' ⟨rfl, rfl⟩) | (go_at_call 103; refine (strcmp_any _ _ _).mono ?_; rintro e w' ⟨rfl, rfl⟩))
  all_goals
    go_ret
    refine ⟨ret_int ?_, ((Below.refl _ _).alloc (Nat.le_refl _) _).alloc (by simp) _, Nat.le_refl _⟩
    simp only [bne_iff_ne, bne_eq_false_iff_eq] at *
    simp [cmpV, *]
def CmpRelG (w : World) (a b : List V) (p : List Int) (i k : Value) (wr : World) : Prop := ∃ x y : Nat, i = .int .i64 (x : Nat) ∧ k = .int .i64 (y : Nat) ∧ x ≤ p.length ∧ y ≤ p.length ∧ Grown w wr ∧
  ordV (pickL a p) (pickL b p) = ordV (pickL a (p.drop x)) (pickL b (p.drop y)) ∧ (x < p.length → ∃ c, p[x]? = some c ∧ inR a.length c = true) ∧ (y < p.length → ∃ c, p[y]? = some c ∧ inR b.length c = true)
set_option maxHeartbeats 4000000 in
theorem compareT_grown (A B P : Option Addr) (ca cb cp : Nat) (a b : List V) (p : List Int) (w : World) (ha : RdV w A a) (hb : RdV w B b) (hp : RdI w P p) (la : a.length ≤ maxLen) (lb : b.length ≤ maxLen) (lp : p.length ≤ maxLen) :
    Calls Tryz.prog 51 #[.slice A a.length ca, .slice B b.length cb, .slice P p.length cp] w (SaysG (ordV (pickL a p) (pickL b p)) w) := by
  have lp' := lp
  unfold maxLen at la lb lp'
  have HA := Lib.hid ha; clear ha
  have HB := Lib.hid hb; clear hb
  have HP := Lib.hid hp; clear hp
  go_enter Tryz.func51, Tryz.ntmps51
  go_wp2_with (go_at_call 75; refine (next_any _ _ _ _ 0 _ HP.out lp (Nat.zero_le _)).mono ?_; rintro e w' ⟨rfl, rfl⟩)
  go_loopw [7, 8] (fun i k wr => CmpRelG w a b p i k wr) (fun i k _ => p.length - (intOf i).toNat)
  case atStart =>
    have n1 := nextL_le (size := a.length) (p := p) (i := 0) (Nat.zero_le _)
    have n2 := nextL_le (size := b.length) (p := p) (i := 0) (Nat.zero_le _)
    exact ⟨_, _, rfl, rfl, n1.2, n2.2, Grown.refl _, by rw [pick_next a p _ 0 rfl (Nat.zero_le _), pick_next b p _ 0 rfl (Nat.zero_le _)]; rfl, next_in _ p _ 0 rfl, next_in _ p _ 0 rfl⟩
  case round =>
    obtain ⟨x, y, rfl, rfl, hx, hy, hB, he, hxi, hyi⟩ := hrel
    have HE := Lib.hid he; clear he
    have HXI := Lib.hid hxi; clear hxi
    have HYI := Lib.hid hyi; clear hyi
    by_cases h1 : x < p.length
    · by_cases h2 : y < p.length
      · obtain ⟨cx, ecx, hcx⟩ := HXI.out h1
        obtain ⟨cy, ecy, hcy⟩ := HYI.out h2
        obtain ⟨⟨ka, na, sa⟩, eva, ela⟩ := col_some hcx
        obtain ⟨⟨kb, nb, sb⟩, evb, elb⟩ := col_some hcy
        obtain ⟨mx, rfl⟩ := Int.eq_ofNat_of_zero_le (inR_iff.1 hcx).1
        obtain ⟨my, rfl⟩ := Int.eq_ofNat_of_zero_le (inR_iff.1 hcy).1
        have hmx : mx < a.length := by have := (inR_iff.1 hcx).2; omega
        have hmy : my < b.length := by have := (inR_iff.1 hcy).2; omega
        rw [Int.toNat_natCast] at eva evb
        obtain ⟨ab, ao, rfl, hal, a0, a1, a2⟩ := (HA.out.on hB.b) mx _ eva
        obtain ⟨bb, bo, rfl, hbl, b0, b1, b2⟩ := (HB.out.on hB.b) my _ evb
        obtain ⟨pb, po, rfl, hpl, hpx⟩ := (HP.out.on hB.b) x _ ecx
        obtain ⟨pb', po', e, _, hpy⟩ := (HP.out.on hB.b) y _ ecy
        injection e with e; injection e with e1 e2; subst e1 e2
        have HS := Lib.hid (show ordV (pickL a (p.drop x)) (pickL b (p.drop y)) = ordV (⟨ka, na, sa⟩ :: pickL a (p.drop (x + 1))) (⟨kb, nb, sb⟩ :: pickL b (p.drop (y + 1))) by rw [drop_at ecx, drop_at ecy, pickL_take ela, pickL_take elb])
        clear eva evb ela elb ecx ecy hcx hcy HXI HYI
        simp only at a0 a1 a2 b0 b1 b2
        by_cases hz : cmpV ⟨ka, na, sa⟩ ⟨kb, nb, sb⟩ = 0
        · have HZ := Lib.hid hz; clear hz
          go_wp2_with fail
          go_region_held3 (fun u => Grown wr u ∧ u.cell? ⟨pb, po + x, none⟩ = some (.int .i64 (mx : Int)) ∧ u.cell? ⟨pb, po + y, none⟩ = some (.int .i64 (my : Int)) ∧ u.cell? ⟨ab, ao + mx * 3, none⟩ = some (.int .i64 ka) ∧ u.cell? ⟨ab, ao + mx * 3 + 1, none⟩ = some (.int .i64 na) ∧ u.cell? ⟨ab, ao + mx * 3 + 2, none⟩ = some (.string sa) ∧ u.cell? ⟨bb, bo + my * 3, none⟩ = some (.int .i64 kb) ∧ u.cell? ⟨bb, bo + my * 3 + 1, none⟩ = some (.int .i64 nb) ∧ u.cell? ⟨bb, bo + my * 3 + 2, none⟩ = some (.string sb))
            (first | exact ⟨Grown.refl _, hpx, hpy, a0, a1, a2, b0, b1, b2⟩ | exact ⟨(Grown.refl _).drew, hpx, hpy, a0, a1, a2, b0, b1, b2⟩ | exact ⟨h4, (k4 _ _ hpl).trans hpx, (k4 _ _ hpl).trans hpy, (k4 _ _ hal).trans a0, (k4 _ _ hal).trans a1, (k4 _ _ hal).trans a2, (k4 _ _ hbl).trans b0, (k4 _ _ hbl).trans b1, (k4 _ _ hbl).trans b2⟩)
            ((go_at_call 76; refine (compareV_grown _ _ _ _ _ _ _).mono ?_; rintro e w4 ⟨rfl, h4⟩; rw [HZ.out]; replace h4 : Grown wr w4 := (Grown.refl wr).drew.trans h4; have k4 := keep h4.b))
          all_goals
            go_wp2_with (go_at_call 75; refine (next_succ _ _ _ _ _ _ (HP.out.on (on hB.1 h4.b)) lp (by assumption)).mono ?_; rintro e w' ⟨rfl, rfl⟩)
            go_roundw
            case rel =>
              have n1 := nextL_le (size := a.length) (p := p) (i := x + 1) h1
              have n2 := nextL_le (size := b.length) (p := p) (i := y + 1) h2
              exact ⟨_, _, rfl, rfl, n1.2, n2.2, hB.trans h4, by rw [HE.out, HS.out, ordV_same HZ.out, pick_next a p _ (x + 1) rfl h1, pick_next b p _ (y + 1) rfl h2], next_in _ p _ (x + 1) rfl, next_in _ p _ (y + 1) rfl⟩
            case measure =>
              have n1 := nextL_le (size := a.length) (p := p) (i := x + 1) h1
              simp [intOf]; omega
        · obtain ⟨r, hr⟩ : ∃ r, cmpV ⟨ka, na, sa⟩ ⟨kb, nb, sb⟩ = r := ⟨_, rfl⟩
          have HZ := Lib.hid hz; clear hz
          have hr0 : (r != 0) = true := by rw [← hr]; simpa using HZ.out
          have HR := Lib.hid hr; clear hr
          go_wp2_with fail
          go_region_held3 (fun u => Grown wr u ∧ u.cell? ⟨pb, po + x, none⟩ = some (.int .i64 (mx : Int)) ∧ u.cell? ⟨pb, po + y, none⟩ = some (.int .i64 (my : Int)) ∧ u.cell? ⟨ab, ao + mx * 3, none⟩ = some (.int .i64 ka) ∧ u.cell? ⟨ab, ao + mx * 3 + 1, none⟩ = some (.int .i64 na) ∧ u.cell? ⟨ab, ao + mx * 3 + 2, none⟩ = some (.string sa) ∧ u.cell? ⟨bb, bo + my * 3, none⟩ = some (.int .i64 kb) ∧ u.cell? ⟨bb, bo + my * 3 + 1, none⟩ = some (.int .i64 nb) ∧ u.cell? ⟨bb, bo + my * 3 + 2, none⟩ = some (.string sb))
            (first | exact ⟨Grown.refl _, hpx, hpy, a0, a1, a2, b0, b1, b2⟩ | exact ⟨(Grown.refl _).drew, hpx, hpy, a0, a1, a2, b0, b1, b2⟩ | exact ⟨h4, (k4 _ _ hpl).trans hpx, (k4 _ _ hpl).trans hpy, (k4 _ _ hal).trans a0, (k4 _ _ hal).trans a1, (k4 _ _ hal).trans a2, (k4 _ _ hbl).trans b0, (k4 _ _ hbl).trans b1, (k4 _ _ hbl).trans b2⟩)
            ((go_at_call 76; refine (compareV_grown _ _ _ _ _ _ _).mono ?_; rintro e w4 ⟨rfl, h4⟩; rw [HR.out]; replace h4 : Grown wr w4 := (Grown.refl wr).drew.trans h4; have k4 := keep h4.b))
          all_goals
            go_wp2
            go_ret
            exact ⟨ret_int (by rw [HE.out, HS.out, ordV_other HZ.out, HR.out]), hB.trans h4⟩
      · have hy' : y = p.length := by omega
        obtain ⟨cx, ecx, hcx⟩ := HXI.out h1
        obtain ⟨va, eva, ela⟩ := col_some hcx
        have HS := Lib.hid (show ordV (pickL a (p.drop x)) (pickL b (p.drop y)) = 1 by rw [show p.drop y = [] from List.drop_of_length_le (by omega), drop_at ecx, pickL_take ela, pickL_nil, ordV])
        clear eva ela ecx hcx HXI HYI hy'
        go_wp2
        go_ret
        exact ⟨ret_int (by rw [HE.out, HS.out]), hB⟩
    · by_cases h2 : y < p.length
      · obtain ⟨cy, ecy, hcy⟩ := HYI.out h2
        obtain ⟨vb, evb, elb⟩ := col_some hcy
        have HS := Lib.hid (show ordV (pickL a (p.drop x)) (pickL b (p.drop y)) = -1 by rw [show p.drop x = [] from List.drop_of_length_le (by omega), drop_at ecy, pickL_take elb, pickL_nil, ordV])
        clear evb elb ecy hcy HXI HYI
        go_wp2
        go_ret
        exact ⟨ret_int (by rw [HE.out, HS.out]), hB⟩
      · have HS := Lib.hid (show ordV (pickL a (p.drop x)) (pickL b (p.drop y)) = 0 by rw [List.drop_of_length_le (by omega), List.drop_of_length_le (by omega), pickL_nil, pickL_nil, ordV])
        clear HXI HYI
        go_wp2
        go_ret
        exact ⟨ret_int (by rw [HE.out, HS.out]), hB⟩
end Go.Proofs.YtpmkhpbhimmeiaaGreat
/-
  Package rel: what slices.SortFunc does to a row of tuples in Find.
-/
namespace Go.Proofs.YtpmkhpbhimmeiaaGreat
open Go.RowKit FloM ValM Go.Shelf
set_option linter.unusedVariables false
set_option linter.unusedSimpArgs false
set_option maxHeartbeats 1000000 in
theorem find1_grown (A B P : Option Addr) (ca cb cp r rb n : Nat) (a b : List V) (w : World) (hbx : w.cell? ⟨rb, 0, none⟩ = some (.pointer (some ⟨r, 0, none⟩))) (hr1 : w.cell? ⟨r, 1, none⟩ = some (.slice P n cp)) (hp : RdI w P (upto n)) (hn : n ≤ 8) (ha : RdV w A a) (hb : RdV w B b) (la : a.length ≤ 1000) (lb : b.length ≤ 1000) :
    Calls Tryz.prog 50 #[.slice A a.length ca, .slice B b.length cb, .pointer (some ⟨rb, 0, none⟩)] w (SaysG (cmpC (upto n) a b) w) := by
  have hc := compareT_grown A B P ca cb cp a b (upto n) w ha hb hp (by unfold maxLen; omega) (by unfold maxLen; omega) (by rw [upto_len]; unfold maxLen; omega)
  rw [upto_len] at hc
  have HC := Lib.hid hc
  clear hc hp ha hb
  go_enter Tryz.func50, Tryz.ntmps50
  go_wp2_with (go_at_call 51; refine HC.out.mono ?_; rintro e w' ⟨rfl, h'⟩)
  go_ret
  exact ⟨rfl, h'⟩
/-- A tuple of n values that lies outside of the block blk. -/
def Tu (w : World) (n blk : Nat) : Type := { x : Sl // RdV w x.A x.l ∧ x.l.length = n ∧ ∀ a, x.A = some a → a.block ≠ blk }
section
variable {w : World} {n blk : Nat}
def Tu.enc (x : Tu w n blk) : Value := x.1.val
def Tu.cf (x y : Tu w n blk) : Int := cmpC (upto n) x.1.l y.1.l
theorem Tu.lt (x y : Tu w n blk) : ltOf Tu.cf x y = decide (cmpC (upto n) x.1.l y.1.l = -1) := by
  unfold ltOf Tu.cf
  have := cmpC_rng (upto n) x.1.l y.1.l
  rcases this with h | h | h <;> simp [h]
theorem Tu.swo : Sort.SWO (ltOf (Tu.cf (w := w) (n := n) (blk := blk))) where
  irrefl x := by rw [Tu.lt]; exact decide_eq_false (by rw [cmpC_self]; decide)
  trans x y z h1 h2 := by
    rw [Tu.lt] at *
    exact decide_eq_true (cmpC_lt (of_decide_eq_true h1) (of_decide_eq_true h2))
  ntrans x y z h1 h2 := by
    rw [Tu.lt] at *
    have h1 := of_decide_eq_false h1
    have h2 := of_decide_eq_false h2
    refine decide_eq_false fun h => ?_
    have q1 := cmpC_rng (upto n) x.1.l y.1.l
    have q2 := cmpC_rng (upto n) y.1.l z.1.l
    have a1 := cmpC_anti (upto n) x.1.l y.1.l
    have a2 := cmpC_anti (upto n) y.1.l z.1.l
    have t := ord_trans (pickL z.1.l (upto n)) (pickL y.1.l (upto n)) (pickL x.1.l (upto n)) (by unfold cmpC at *; omega) (by unfold cmpC at *; omega)
    have a3 := cmpC_anti (upto n) x.1.l z.1.l
    unfold cmpC at *
    omega
end
/-- Behind the sort's steps all but the row lies as it lay. -/
theorem sortWorld_fr {α : Type} [Inhabited α] (enc : α → Value) (w : World) (blk off m : Nat) (dk : Array α) (os : Array Obj) : Fr (· = blk) w.heap.size w (sortWorld enc w blk off m dk os) := by
  refine ⟨rfl, rfl, rfl, ?_, fun k hk hne => ?_⟩
  · simp [sortWorld, Sort.putRow, Sort.mapBlock, Sort.ahead]
  · unfold sortWorld
    rw [Sort.heap_grow_old _ _ (by simpa [Sort.putRow, Sort.mapBlock, Sort.ahead] using hk)]
    simp only [Sort.putRow, Sort.mapBlock, Sort.ahead]
    rw [Array.getElem?_modify, if_neg (fun e => hne e.symm)]
theorem pmap_back {p : Sl → Prop} : ∀ (xs : List Sl) (h : ∀ x ∈ xs, p x), (xs.pmap (fun x hx => (⟨x, hx⟩ : { x : Sl // p x })) h).map (fun y => y.1) = xs
  | [], _ => rfl
  | x :: xs, h => by simp only [List.pmap_cons, List.map_cons]; rw [pmap_back xs]
set_option maxHeartbeats 1000000 in
theorem sortF_any (A : Option Addr) (c r rb n cp : Nat) (P0 : Option Addr) (xs : List Sl) (w : World) (hrow : RdC w A (xs.map Sl.val)) (hfz : ∀ j, j < xs.length → ∀ b o, A = some ⟨b, o, none⟩ → w.frozen? ⟨b, o + j, none⟩ = false)
    (hx : ∀ x ∈ xs, RdV w x.A x.l ∧ x.l.length = n ∧ ∀ a b, x.A = some a → A = some b → a.block ≠ b.block)
    (hbx : w.cell? ⟨rb, 0, none⟩ = some (.pointer (some ⟨r, 0, none⟩))) (hrb : rb < w.heap.size) (hr1 : w.cell? ⟨r, 1, none⟩ = some (.slice P0 n cp)) (hr : r < w.heap.size) (hp : RdI w P0 (upto n))
    (hoff : ∀ b, A = some b → rb ≠ b.block ∧ r ≠ b.block ∧ ∀ a, P0 = some a → a.block ≠ b.block) (hn : n ≤ 8) (hd : (xs.map Sl.l).Nodup) (hlen : xs.length ≤ 1000000) :
    Calls Tryz.prog 49 #[.slice A xs.length c, .func (.func 50) #[] #[.pointer (some ⟨rb, 0, none⟩)]] w fun e w' =>
      e = .returned (.tuple #[]) ∧ ∃ ys : List Sl, ys.Perm xs ∧ SortS (upto n) (ys.map Sl.l) ∧ RdC w' A (ys.map Sl.val) ∧ Fr (fun k => ∃ b, A = some b ∧ k = b.block) w.heap.size w w' := by
  rcases xs with _ | ⟨x0, xs⟩
  · have h := AnyF.slices_SortFunc_none { Tryz.sortT with } A c (.func (.func 50) #[] #[.pointer (some ⟨rb, 0, none⟩)]) w
    refine Calls.mono (h : Calls Tryz.prog 49 _ _ _) ?_
    rintro e w' ⟨rfl, rfl⟩
    exact ⟨rfl, [], List.Perm.refl _, List.Pairwise.nil, hrow, Fr.refl _ _ _⟩
  · obtain ⟨blk, off, rfl, hbl, _⟩ := hrow 0 _ rfl
    have hx' : ∀ x ∈ x0 :: xs, RdV w x.A x.l ∧ x.l.length = n ∧ ∀ a, x.A = some a → a.block ≠ blk := fun x hm => ⟨(hx x hm).1, (hx x hm).2.1, fun a ha => (hx x hm).2.2 a _ ha rfl⟩
    obtain ⟨q1, q2, q3⟩ := hoff _ rfl
    let d : Array (Tu w n blk) := ((x0 :: xs).pmap (fun x hm => (⟨x, hm⟩ : Tu w n blk)) hx').toArray
    haveI : Inhabited (Tu w n blk) := ⟨⟨x0, hx' x0 (List.mem_cons_self ..)⟩⟩
    have hback : d.toList.map (fun y => y.1) = x0 :: xs := pmap_back _ hx'
    have hsz : d.size = (x0 :: xs).length := by have := congrArg List.length hback; simpa using this
    have hget : ∀ (d' : Array (Tu w n blk)) (j : Nat), j < d'.size → (d'.toList.map (fun y => y.1))[j]? = some (d'[j]!).1 := fun d' j hj => by
      rw [List.getElem?_map, Array.getElem?_toList, Array.getElem?_eq_getElem hj, getElem!_pos d' j hj]; rfl
    have hH : Sort.Holds Tu.enc w blk off d := fun j hj => by
      have h1 := hget d j hj
      rw [hback] at h1
      obtain ⟨b', o', e, _, hc⟩ := hrow j (d[j]!).1.val (by rw [List.getElem?_map, h1]; rfl)
      injection e with e; injection e with e1 e2 _; subst e1 e2
      exact ⟨hc, hfz j (by rw [← hsz]; exact hj) _ _ rfl⟩
    have hcmp : CmpLays1 Tryz.prog 50 #[.pointer (some ⟨rb, 0, none⟩)] Tu.enc Tu.cf blk off d.size w := fun m os dk hs x y => by
      have hF := sortWorld_fr (α := Tu w n blk) Tu.enc w blk off m dk os
      have hrd : ∀ z : Tu w n blk, RdV (sortWorld (α := Tu w n blk) Tu.enc w blk off m dk os) z.1.A z.1.l := fun z => z.2.1.onF (X := (· = blk)) (fun a ha e => z.2.2.2 a ha e) hF
      have hc := find1_grown x.1.A y.1.A P0 x.1.c y.1.c cp r rb n x.1.l y.1.l (sortWorld (α := Tu w n blk) Tu.enc w blk off m dk os) ((hF.cell hrb q1).trans hbx) ((hF.cell hr q2).trans hr1) (hp.onF (X := (· = blk)) (fun a ha e => q3 a ha e) hF) hn (hrd x) (hrd y) (by rw [x.2.2.1]; omega) (by rw [y.2.2.1]; omega)
      refine Calls.mono hc ?_
      rintro e w' ⟨rfl, hg⟩
      exact ⟨rfl, hg.same⟩
    have hcon := Any.slices_SortFunc Tryz.sortT Tu.enc (fun _ => rfl) Tu.cf Tu.swo 50 #[.pointer (some ⟨rb, 0, none⟩)] blk off c d w (enters_of Tryz.func50 (by kernel_rfl) rfl) hcmp hH hbl (by rw [hsz]; omega)
    rw [hsz] at hcon
    refine Calls.mono (hcon : Calls Tryz.prog 49 _ _ _) ?_
    rintro e w' ⟨rfl, d', m, os, hpm, hsd, rfl⟩
    obtain ⟨hp1, _, hp3⟩ := hpm
    have hF := sortWorld_fr (α := Tu w n blk) Tu.enc w blk off m d' os
    have hpl : d'.toList.Perm d.toList := by
      rw [← hsz] at hp3
      have e1 : d'.extract 0 d.size = d' := by rw [← hp1]; exact Array.extract_size ..
      have e2 : d.extract 0 d.size = d := Array.extract_size ..
      rwa [e1, e2] at hp3
    have hperm : (d'.toList.map (fun y => y.1)).Perm (x0 :: xs) := by
      have := hpl.map (fun y => y.1)
      rwa [hback] at this
    refine ⟨rfl, d'.toList.map (fun y => y.1), hperm, ?_, fun j u hu => ?_, hF.sub fun k _ hk => ⟨_, rfl, hk⟩⟩
    · have hnd : ((d'.toList.map (fun y => y.1)).map Sl.l).Nodup := ((hperm.map Sl.l).nodup_iff).2 hd
      unfold SortS
      rw [List.pairwise_iff_getElem]
      intro i j hi hj hij
      simp only [List.length_map, Array.length_toList] at hi hj
      have h1 := hsd i j (Nat.zero_le _) hij (by rw [← hsz, ← hp1]; exact hj)
      rw [Tu.lt] at h1
      have h1 := of_decide_eq_false h1
      have gi : (d'.toList.map (fun y => y.1))[i]? = some (d'[i]!).1 := hget d' i hi
      have gj : (d'.toList.map (fun y => y.1))[j]? = some (d'[j]!).1 := hget d' j hj
      have ei : ((d'.toList.map (fun y => y.1)).map Sl.l)[i]'(by simpa using hi) = (d'[i]!).1.l := by
        rw [List.getElem_map]; congr 1; exact (List.getElem?_eq_some_iff.1 gi).2
      have ej : ((d'.toList.map (fun y => y.1)).map Sl.l)[j]'(by simpa using hj) = (d'[j]!).1.l := by
        rw [List.getElem_map]; congr 1; exact (List.getElem?_eq_some_iff.1 gj).2
      have hne := List.pairwise_iff_getElem.1 hnd i j (by simpa using hi) (by simpa using hj) hij
      rw [ei, ej] at hne
      rw [ei, ej]
      have z := (not_congr (cmpC_zero (upto_perm n) (by rw [(d'[i]!).2.2.1, upto_len]) (by rw [(d'[j]!).2.2.1, upto_len]))).2 hne
      have a := cmpC_anti (upto n) (d'[i]!).1.l (d'[j]!).1.l
      rcases cmpC_rng (upto n) (d'[i]!).1.l (d'[j]!).1.l with h | h | h
      · exact h
      · exact absurd h z
      · omega
    · rw [List.getElem?_map, Option.map_eq_some_iff] at hu
      obtain ⟨y, hy, rfl⟩ := hu
      have hj : j < d'.size := by have := (List.getElem?_eq_some_iff.1 hy).1; simpa using this
      rw [hget d' j hj] at hy
      cases hy
      exact ⟨blk, off, rfl, Nat.lt_of_lt_of_le hbl hF.size, (holds_sortWorld Tu.enc w blk off m d d' os hbl hH hp1 j hj).1⟩
end Go.Proofs.YtpmkhpbhimmeiaaGreat
/-
  Package rel: contract of matching.
-/
namespace Go.Proofs.YtpmkhpbhimmeiaaGreat
open Go.RowKit FloM ValM Go.Shelf
set_option linter.unusedVariables false
set_option linter.unusedSimpArgs false
theorem keepZ {W w1 : World} (hb : Below W.heap.size W w1) : ∀ b o, b < W.heap.size → w1.frozen? ⟨b, o, none⟩ = W.frozen? ⟨b, o, none⟩ := fun b o h => by simp [World.frozen?, hb.block b h]
theorem ltOn {W w1 : World} (hb : Below W.heap.size W w1) : ∀ b, b < W.heap.size → b < w1.heap.size := fun b h => Nat.lt_of_lt_of_le h hb.size
theorem rdV_far' {X : Nat → Prop} {w w' : World} {A : Option Addr} {l : List V} (h : RdV w A l) (hx : ∀ b o, A = some ⟨b, o, none⟩ → ¬ X b) (hF : Fr X w.heap.size w w') : RdV w' A l := fun i v hv => by
  obtain ⟨b, o, e, hl, c0, c1, c2⟩ := h i v hv
  have k : ∀ j, w'.cell? ⟨b, j, none⟩ = w.cell? ⟨b, j, none⟩ := fun j => hF.cell hl (hx b o e)
  exact ⟨b, o, e, Nat.lt_of_lt_of_le hl hF.size, (k _).trans c0, (k _).trans c1, (k _).trans c2⟩
/-- What matching's iterator has captured. -/
structure MatchC (w w' : World) (B1 B2 B3 B4 g : Nat) (P : Option Addr) (cp : Nat) (p : List Int) (Wn : Option Addr) (cw : Nat) (want : List V) (C : Option Addr) (cc : Nat) (cols : List Int) : Prop where
  h1 : w'.heap[B1]? = some (.cells #[.pointer (some ⟨g, 0, none⟩), .slice P p.length cp] 72 (0, 0))
  h2 : ∃ HA hc, w'.cell? ⟨B2, 0, none⟩ = some (.slice HA (pickL want (p.take (leadL cols p))).length hc) ∧ RdV w' HA (pickL want (p.take (leadL cols p))) ∧ ∀ b o, HA = some ⟨b, o, none⟩ → w.heap.size ≤ b
  h3 : w'.heap[B3]? = some (.cells #[.slice Wn want.length cw] 25 (0, 0))
  h4 : w'.heap[B4]? = some (.cells #[.slice C cols.length cc] 24 (0, 0))
  g1 : w.heap.size ≤ B1
  g2 : w.heap.size ≤ B2
  l2 : B2 < w'.heap.size
  g3 : w.heap.size ≤ B3
  g4 : w.heap.size ≤ B4
  b : Below w.heap.size w w'
theorem rdI_take {w : World} {P : Option Addr} {p : List Int} (h : RdI w P p) (k : Nat) : RdI w P (p.take k) := fun i x hx => h i x (by rw [List.getElem?_take] at hx; split at hx <;> first | exact hx | cases hx)
theorem heap_al3 (w : World) (A B C : Obj) : (((w.alloc A).alloc B).alloc C).heap[w.heap.size]? = some A ∧ (((w.alloc A).alloc B).alloc C).heap[w.heap.size + 1]? = some B ∧ (((w.alloc A).alloc B).alloc C).heap[w.heap.size + 1 + 1]? = some C :=
  ⟨by rw [heap_alloc_old _ _ (by simp; omega), heap_alloc_old _ _ (by simp), heap_alloc_new], by rw [heap_alloc_old _ _ (by simp)]; exact heap_alloc2_new w A B, by have := heap_alloc_new ((w.alloc A).alloc B) C; simpa using this⟩
set_option maxRecDepth 20000 in
set_option maxHeartbeats 4000000 in
theorem matching_any (g : Nat) (P Wn C : Option Addr) (cp cw cc : Nat) (p cols : List Int) (want : List V) (w : World) (hp : RdI w P p) (hcap : p.length ≤ cp) (hpin : ∀ a, P = some a → a.block < w.heap.size) (hw : RdV w Wn want) (hc : RdI w C cols) (lp : p.length ≤ 1000) (lw : want.length ≤ 1000) (lc : cols.length ≤ 1000) :
    Calls Tryz.prog 48 #[.agg #[.pointer (some ⟨g, 0, none⟩), .slice P p.length cp], .slice Wn want.length cw, .slice C cols.length cc] w fun e w' =>
      ∃ B1 B2 B3 B4, e = .returned (.func (.func 72) #[] #[.pointer (some ⟨B1, 0, none⟩), .pointer (some ⟨B2, 0, none⟩), .pointer (some ⟨B3, 0, none⟩), .pointer (some ⟨B4, 0, none⟩)]) ∧ MatchC w w' B1 B2 B3 B4 g P cp p Wn cw want C cc cols := by
  have hmf : ∀ (fn : Fn) (first cap : Array Value) (w : World), (Instr.makeFunc fn first cap).run Tryz.prog w = .ok (.func fn first cap) w := fun _ _ _ _ => rfl
  go_enter Tryz.func48, Tryz.ntmps48
  go_wp2_with fail
  obtain ⟨e1, e2, e3⟩ := heap_al3 w (.cells #[.pointer (some ⟨g, 0, none⟩), .slice P p.length cp] 72) (.cells #[.slice Wn want.length cw] 25) (.cells #[.slice C cols.length cc] 24)
  have hb0 : Below w.heap.size w (((w.alloc (.cells #[.pointer (some ⟨g, 0, none⟩), .slice P p.length cp] 72)).alloc (.cells #[.slice Wn want.length cw] 25)).alloc (.cells #[.slice C cols.length cc] 24)) := (((Below.refl _ _).alloc (Nat.le_refl _) _).alloc (by simp) _).alloc (by simp; omega) _
  have hs0 : (((w.alloc (.cells #[.pointer (some ⟨g, 0, none⟩), .slice P p.length cp] 72)).alloc (.cells #[.slice Wn want.length cw] 25)).alloc (.cells #[.slice C cols.length cc] 24)).heap.size = w.heap.size + 3 := by simp
  generalize hW : (((w.alloc (.cells #[.pointer (some ⟨g, 0, none⟩), .slice P p.length cp] 72)).alloc (.cells #[.slice Wn want.length cw] 25)).alloc (.cells #[.slice C cols.length cc] 24)) = W at *
  clear hW
  obtain ⟨c0, c1⟩ := cell2 e1
  have c2 := cell_box' e2
  have c3 := cell_box' e3
  have hl1 : w.heap.size < W.heap.size := by omega
  have hl2 : w.heap.size + 1 < W.heap.size := by omega
  have hl3 : w.heap.size + 1 + 1 < W.heap.size := by omega
  have HP := Lib.hid (hp.on hb0); have HC := Lib.hid (hc.on hb0); have HWN := Lib.hid (hw.on hb0)
  obtain ⟨k, hk⟩ : ∃ k, leadL cols p = k := ⟨_, rfl⟩
  have hkp : k ≤ p.length := by rw [← hk]; exact lead_le cols p
  have HK := Lib.hid hk
  have hki : (k : Int) ≤ (cp : Int) := by omega
  have hki0 : (0 : Int) ≤ (k : Int) := by omega
  have HPK : Hid (∀ W2, Below W.heap.size W W2 → Calls Tryz.prog 71 #[.slice Wn want.length cw, .slice P k cp] W2 (SaysV (pickL want (p.take k)) W2)) := Lib.hid fun W2 h2 => by
    have := pick_any Wn P cw cp want (p.take k) W2 (HWN.out.on h2) ((rdI_take HP.out k).on h2) (by unfold maxLen; omega) (by rw [List.length_take]; omega)
    rw [List.length_take, Nat.min_eq_left hkp] at this
    exact this
  have HB0 := Lib.hid hb0
  have HLD : Hid (∀ W2, Below W.heap.size W W2 → Calls Tryz.prog 56 #[.agg #[.pointer (some ⟨g, 0, none⟩), .slice P p.length cp], .slice C cols.length cc] W2 fun e w' => e = .returned (.int .i64 (k : Nat)) ∧ Below W2.heap.size W2 w') := Lib.hid fun W2 h2 => by
    have := leading_any (.pointer (some ⟨g, 0, none⟩)) P C cp cc p cols W2 (HP.out.on h2) (HC.out.on h2) lp lc ⟨_, rfl⟩
    rw [HK.out] at this; exact this
  clear hp hc hw hb0 hk hs0
  obtain ⟨hd, hhd⟩ : ∃ hd, pickL want (p.take k) = hd := ⟨_, rfl⟩
  rw [hhd] at HPK
  have HHD := Lib.hid hhd; clear hhd
  go_region_held3 (fun u => Below W.heap.size W u ∧ u.cell? ⟨w.heap.size, 0, none⟩ = some (.pointer (some ⟨g, 0, none⟩)) ∧ u.cell? ⟨w.heap.size, 1, none⟩ = some (.slice P p.length cp) ∧ u.cell? ⟨w.heap.size + 1, 0, none⟩ = some (.slice Wn want.length cw) ∧ u.cell? ⟨w.heap.size + 1 + 1, 0, none⟩ = some (.slice C cols.length cc))
    ((refine (fun hh => ⟨hh, held_cell hl1 c0 hh, held_cell hl1 c1 hh, held_cell hl2 c2 hh, held_cell hl3 c3 hh⟩) ?_; repeat (first | exact Below.refl _ _ | exact h3 | exact h2 | apply Below.drew | (refine Below.setCell ?_ ?_ _; rotate_left; (first | omega | (focus (simp; done)) | (focus (simp; omega)))) | (refine bel_alloc ?_ ?_; (first | omega | (focus (simp; done)) | (focus (simp; omega)))))))
    ((first
      | (go_at_call 56; refine (HLD.out _ ?_).mono ?_; (repeat (first | exact Below.refl _ _ | apply Below.drew | (refine bel_alloc ?_ ?_; (first | omega | (focus (simp; done)) | (focus (simp; omega)))))); rintro e w2 ⟨rfl, hb2⟩; have h2 : Below W.heap.size W w2 := by { refine Below.trans ?_ (hb2.mono (by first | exact Nat.le_refl _ | (focus (simp; done)) | (focus (simp; omega)))); (repeat (first | exact Below.refl _ _ | apply Below.drew | (refine bel_alloc ?_ ?_; (first | omega | (focus (simp; done)) | (focus (simp; omega)))))) }; have kc2 := keep hb2; have kf2 := keepZ hb2; have q2 := ltOn hb2; have s2 := h2.size; replace hb2 := Lib.hid hb2; dsimp only)
      | (go_at_call 71; refine (HPK.out _ ?_).mono ?_; (repeat (first | exact Below.refl _ _ | exact h2 | apply Below.drew | (refine bel_alloc ?_ ?_; (first | omega | (focus (simp; done)) | (focus (simp; omega)))))); rintro e w3 ⟨HA, hc, rfl, hr3, ho3, hb3⟩; have h3 : Below W.heap.size W w3 := by { refine Below.trans ?_ (hb3.mono (by first | exact Nat.le_refl _ | (focus (simp; done)) | omega | (focus (simp; omega)))); (repeat (first | exact h2 | apply Below.drew | (refine bel_alloc ?_ ?_; (first | omega | (focus (simp; done)) | (focus (simp; omega)))))) }; have kc3 := keep hb3; have kf3 := keepZ hb3; have q3 := ltOn hb3; have s3 := h3.size; replace hb3 := Lib.hid hb3; replace hr3 := Lib.hid hr3; replace ho3 := Lib.hid ho3; dsimp only)))
  · go_wp2
    go_ret
    have hb4 : Below W.heap.size W (w3.alloc (.cells #[.slice HA hd.length hc] 25)) := h3.alloc s3 _
    have hbf := on HB0.out hb4
    refine ⟨_, _, _, _, rfl, (hb4.block _ hl1).trans e1, ⟨HA, hc, ?_, ?_, fun b o hb => ?_⟩, (hb4.block _ hl2).trans e2, (hb4.block _ hl3).trans e3, Nat.le_refl _, by omega, by simp, by omega, by omega, hbf⟩
    · rw [HK.out, HHD.out]; exact cell_box' (heap_alloc_new _ _)
    · rw [HK.out, HHD.out]; exact hr3.out.on ((Below.refl _ _).alloc (Nat.le_refl _) _)
    · have := ho3.out b o hb; omega
  · go_wp2
    go_ret
    have hb4 : Below W.heap.size W (w3.setCell ⟨w2.heap.size, 0, none⟩ (.slice HA hd.length hc)) := h3.setCell s2 _
    have hbf := on HB0.out hb4
    have hsz : (w3.setCell ⟨w2.heap.size, 0, none⟩ (.slice HA hd.length hc)).heap.size = w3.heap.size := by simp [World.setCell]
    have hF : Fr (· = w2.heap.size) w3.heap.size w3 (w3.setCell ⟨w2.heap.size, 0, none⟩ (.slice HA hd.length hc)) := fr_set w3 _ 0 _ _
    refine ⟨_, _, _, _, rfl, (hb4.block _ hl1).trans e1, ⟨HA, hc, ?_, ?_, fun b o hb => ?_⟩, (hb4.block _ hl2).trans e2, (hb4.block _ hl3).trans e3, Nat.le_refl _, by omega, ?_, by omega, by omega, hbf⟩
    · rw [HK.out, HHD.out]; exact World.cell?_setCell_same _ _ _ ((kc3 _ 0 (by simp)).trans (cell_box' (heap_alloc_new w2 _)))
    · rw [HK.out, HHD.out]; exact rdV_far' hr3.out (fun b o hb e => by have := ho3.out b o hb; simp at this; omega) hF
    · have := ho3.out b o hb; simp at this; omega
    · rw [hsz]; exact q3 _ (by simp)
  · go_wp2
    go_ret
    have hb4 : Below W.heap.size W (w3.setCell ⟨W.heap.size, 0, none⟩ (.slice HA hd.length hc)) := h3.setCell (Nat.le_refl _) _
    have hbf := on HB0.out hb4
    have hsz : (w3.setCell ⟨W.heap.size, 0, none⟩ (.slice HA hd.length hc)).heap.size = w3.heap.size := by simp [World.setCell]
    have hF : Fr (· = W.heap.size) w3.heap.size w3 (w3.setCell ⟨W.heap.size, 0, none⟩ (.slice HA hd.length hc)) := fr_set w3 _ 0 _ _
    have hw2 : W.heap.size < w2.heap.size := q2 _ (by simp)
    refine ⟨_, _, _, _, rfl, (hb4.block _ hl1).trans e1, ⟨HA, hc, ?_, ?_, fun b o hb => ?_⟩, (hb4.block _ hl2).trans e2, (hb4.block _ hl3).trans e3, Nat.le_refl _, by omega, ?_, by omega, by omega, hbf⟩
    · rw [HK.out, HHD.out]; exact World.cell?_setCell_same _ _ _ ((kc3 _ 0 hw2).trans ((kc2 _ 0 (by simp)).trans (cell_box' (heap_alloc_new W _))))
    · rw [HK.out, HHD.out]; exact rdV_far' hr3.out (fun b o hb e => by have := ho3.out b o hb; omega) hF
    · have := ho3.out b o hb; omega
    · rw [hsz]; exact q3 _ hw2
end Go.Proofs.YtpmkhpbhimmeiaaGreat
/-
  Iterators whose rounds leave all that is not their own as it lay; a range over one, whose body appends to a row.
-/
namespace Go.Proofs.YtpmkhpbhimmeiaaGreat
open Go.RowKit FloM ValM Go.Shelf
set_option linter.unusedVariables false
set_option linter.unusedSimpArgs false
attribute [local go_sem] Oper.semAt_some
/-- Behind a round: o was the row of the body's own ahead of it. -/
def RoundPostM (X : Nat → Prop) (l : Nat) (J : Option Nat → List Sl → World → Prop) (o : Option Nat) (xs : List Sl) (W1 : World) (e : Ending) (W' : World) : Prop :=
  e = .returned (.bool true) ∧ (∃ o', J o' xs W' ∧ (o' = o ∨ ∃ k, o' = some k ∧ W1.heap.size ≤ k)) ∧ Fr (fun k => X k ∨ o = some k ∨ k = l) W1.heap.size W1 W' ∧ KF W1 W' ∧ KN l W1 W'
def RoundM (X : Nat → Prop) (L : List (List V)) (l : Nat) (J : Option Nat → List Sl → World → Prop) : Prop :=
  ∀ (o : Option Nat) (pre : List Sl) (x : Sl) (W1 : World), J o pre W1 → pre.map Sl.l ++ [x.l] <+: L → SlOk X W1 x → YieldAt Fence.wide 0 Tryz.prog l #[x.val] W1 (RoundPostM X l J o (pre ++ [x]) W1)
def SeqM (g : Nat) (lb : Array Value) (X : Nat → Prop) (L : List (List V)) (w : World) : Prop :=
  ∀ (l : Nat) (J : Option Nat → List Sl → World → Prop) (W : World), Below w.heap.size w W → w.heap.size ≤ l → l < W.heap.size →
    (∀ o s A B, J o s A → Calm W.heap.size A B → J o s B) → RoundM X L l J → J none [] W →
    CallsIn Fence.wide 0 Tryz.prog g (#[.func (.yield l) #[] #[]] ++ lb) W fun e W' => (∃ v, e = .returned v) ∧ ∃ o xs, xs.map Sl.l = L ∧ J o xs W'
/-- How a round's body is left. -/
def postM (B : Nat) (X : Nat → Prop) (I : Option Nat → List Sl → World → Prop) (o : Option Nat) (xs : List Sl) (W : World) : Exit → Act → World → Prop
  | .normal, _, W' => KeepsFrom B W W' ∧ Fr (fun k => X k ∨ o = some k) W.heap.size W W' ∧ KF W W' ∧ ∃ o', I o' xs W' ∧ (o' = o ∨ ∃ k, o' = some k ∧ W.heap.size ≤ k)
  | _, _, _ => False
theorem wpIn_seqM {n : Nat} {g : Operand} {ps : Array Tmp} {assign body : Code} {Q : Exit → Act → World → Prop} {a : Act} {w w0 : World}
    {gf : Nat} {lb : Array Value} (hg : a.eval g = .func (.func gf) #[] lb) (eg : ∀ args w, (callFunc gf args).run Tryz.prog w = .ok (.enter gf args) w)
    {X : Nat → Prop} {L : List (List V)} (hseq : SeqM gf lb X L w0) (hb0 : Below w0.heap.size w0 w) (hps : ps.size = 1)
    (I : Option Nat → List Sl → World → Prop) (hI : ∀ o s A B, I o s A → Calm w.heap.size A B → I o s B) (h0 : I none [] w) (a₁ : Sl → Act)
    (hassign : ∀ (l : Nat) (x : Sl) (W : World) (K : Act → World → Prop), K (a₁ x) W →
      assign.wpIn (Fence.wide.inRound l) 0 Tryz.prog (Exit.then K (fun _ _ _ => False)) { tmps := (ps.zip #[x.val]).foldl (fun t (p, v) => t.setIfInBounds p v) a.tmps, defers := [] } W)
    (hbody : ∀ (l : Nat) (o : Option Nat) (pre : List Sl) (x : Sl) (W : World), w.heap.size ≤ l → I o pre W → pre.map Sl.l ++ [x.l] <+: L → SlOk X W x → body.wpIn (Fence.wide.inRound l) 0 Tryz.prog (postM w.heap.size X I o (pre ++ [x]) W) (a₁ x) W)
    (hdone : ∀ (D : Nat) (o : Option Nat) (xs : List Sl) (W : World), w.heap.size ≤ D → xs.map Sl.l = L → I o xs W → W.heap[D]? = some (.deferred (some [])) → Q .normal { a with defers := { target := .collected D, args := #[] } :: a.defers } W) :
    (Code.rangeFunc g ps assign body).wpIn Fence.wide n Tryz.prog Q a w := by
  refine wpIn_rangeFunc fun fn hfn => ?_
  -- the loop's record, and the block for what the rounds put off
  have hD0 : w.heap.size ≤ w.heap.size := Nat.le_refl _
  let rec' : LoopState → Option Code → Loop := fun st pe => { state := st, pending := pe, fn, tmps := a.tmps, params := ps, assign, body, defers := w.heap.size }
  let W1 := (w.alloc (.deferred (some []))).alloc (.loop (rec' .ready none))
  have hW1 : Below w.heap.size w W1 := ((Below.refl _ w).alloc (Nat.le_refl _) _).alloc (by simp) _
  have hL1 : W1.heap[w.heap.size + 1]? = some (.loop (rec' .ready none)) := by
    have := World.alloc_heap_new (w.alloc (.deferred (some []))) (.loop (rec' .ready none)); rwa [World.size_alloc] at this
  have hK1 : W1.heap[w.heap.size]? = some (.deferred (some [])) := (Below.heap_alloc _ _ _ (by simp)).trans (World.alloc_heap_new w _)
  have hs1 : w.heap.size ≤ W1.heap.size := hW1.size
  refine ⟨w.heap.size + 1, [{ target := .collected w.heap.size, args := #[] }], W1, { target := .fn (.func gf) lb, args := #[.func (.yield (w.heap.size + 1)) #[] #[]] }, W1, gf,
    #[.func (.yield (w.heap.size + 1)) #[] #[]] ++ lb, W1, run_enterLoop_outer _ _ _ _ _, ?_, fun _ _ => trivial, ?_, (fun h => by cases h), ?_⟩
  · simp only [resolve, hg]; simp [go_sem]
  · simp [invoke, go_sem, eg]
  -- the caller's invariant, with the two blocks beside it
  have up : ∀ {A B : World}, Calm W1.heap.size A B → Calm w.heap.size A B := fun h => h.mono hs1
  have two : ∀ {A B : World} {k : Nat} {o : Obj}, k < W1.heap.size → Calm W1.heap.size A B → A.heap[k]? = some o → B.heap[k]? = some o := fun hk h ha => h.same _ _ ha (.inl hk)
  have l1 : w.heap.size + 1 < W1.heap.size := (Array.getElem?_eq_some_iff.1 hL1).1
  refine callsIn_deep ((hseq (w.heap.size + 1)
    (fun o pre W => I o pre W ∧ W.heap[w.heap.size + 1]? = some (.loop (rec' .ready none)) ∧ W.heap[w.heap.size]? = some (.deferred (some [])))
    W1 (hb0.trans (hW1.mono hb0.size)) (by have := hb0.size; omega) l1
    (fun o s A B hs hc => ⟨hI o s A B hs.1 (up hc), two l1 hc hs.2.1, two (by omega) hc hs.2.2⟩)
    ?_ ⟨hI _ _ _ _ h0 (Calm.of_below hW1), hL1, hK1⟩).mono ?_)
  · -- one round
    rintro o pre x W ⟨hi, hl, hk⟩ hpre hok
    have hlt : w.heap.size + 1 < W.heap.size := (Array.getElem?_eq_some_iff.1 hl).1
    have hy := run_yield (P := Tryz.prog) (args := #[x.val]) hl (by rw [hps]; rfl)
    refine ⟨fn, _, assign, body, hy, roundIn_of_wpIn hfn (hassign _ x W _ ⟨_, run_beginRound hl rfl, ?_⟩)⟩
    have c2 : Calm w.heap.size W (W.putObj (w.heap.size + 1) (.loop { rec' .ready none with state := .busy })) := Calm.put hl rfl (by omega)
    have hl2 : (W.putObj (w.heap.size + 1) (.loop { rec' .ready none with state := .busy })).heap[w.heap.size + 1]? = some (.loop { rec' .ready none with state := .busy }) := World.putObj_heap_same hlt
    have hk2 : (W.putObj (w.heap.size + 1) (.loop { rec' .ready none with state := .busy })).heap[w.heap.size]? = some (.deferred (some [])) := (World.putObj_heap_other (by omega)).trans hk
    refine wpIn_mono (hbody _ o pre x _ (by omega) (hI _ _ _ _ hi c2) hpre (c2.slOk hok)) ?_
    have fin : ∀ (jump : Option Code) (W3 : World), KeepsFrom w.heap.size (W.putObj (w.heap.size + 1) (.loop { rec' .ready none with state := .busy })) W3 →
        (Instr.endRound (w.heap.size + 1) jump).run Tryz.prog W3 = .ok (.bool jump.isNone) (W3.putObj (w.heap.size + 1) (.loop (rec' (if jump.isNone then .ready else .done) jump))) ∧
        Calm w.heap.size W3 (W3.putObj (w.heap.size + 1) (.loop (rec' (if jump.isNone then .ready else .done) jump))) ∧
        (W3.putObj (w.heap.size + 1) (.loop (rec' (if jump.isNone then .ready else .done) jump))).heap[w.heap.size + 1]? = some (.loop (rec' (if jump.isNone then .ready else .done) jump)) ∧
        (W3.putObj (w.heap.size + 1) (.loop (rec' (if jump.isNone then .ready else .done) jump))).heap[w.heap.size]? = some (.deferred (some [])) := fun jump W3 hk3 => by
      have hl3 := hk3.same _ _ (by omega) hl2 rfl
      exact ⟨run_endRound jump hl3, Calm.put hl3 rfl (by omega), World.putObj_heap_same (Array.getElem?_eq_some_iff.1 hl3).1, (World.putObj_heap_other (by omega)).trans (hk3.same _ _ (Nat.le_refl _) hk2 rfl)⟩
    have kn : ∀ (W3 : World) (o' : Obj), KeepsFrom w.heap.size (W.putObj (w.heap.size + 1) (.loop { rec' .ready none with state := .busy })) W3 → KN (w.heap.size + 1) W (W3.putObj (w.heap.size + 1) o') := fun W3 o' hk3 =>
      ⟨Nat.le_trans c2.size (Nat.le_trans hk3.size (by simp)), fun k o hlk hka ho => (World.putObj_heap_other (by omega)).trans (hk3.same k o (by omega) ((World.putObj_heap_other (by omega)).trans hka) ho)⟩
    rintro e a3 W3 hp
    cases e with
    | normal =>
      obtain ⟨hk3, hf3, hq3, o2, hi3, ho2⟩ := hp
      obtain ⟨hr, c3, hl4, hk4⟩ := fin none W3 hk3
      have hfl : ∀ (A : World) (ob : Obj) (B : Nat), Fr (fun k => X k ∨ o = some k ∨ k = w.heap.size + 1) B A (A.putObj (w.heap.size + 1) ob) := fun A ob B => ⟨rfl, rfl, rfl, by simp, fun k _ hx => World.putObj_heap_other (fun e => hx (.inr (.inr e)))⟩
      have hsz : (W.putObj (w.heap.size + 1) (.loop { rec' .ready none with state := .busy })).heap.size = W.heap.size := by simp
      rw [hsz] at hf3
      exact ⟨_, _, hr, rfl, ⟨o2, ⟨hI _ _ _ _ hi3 c3, hl4, hk4⟩, ho2.imp_right fun ⟨k, e, hkk⟩ => ⟨k, e, by rw [hsz] at hkk; exact hkk⟩⟩, ((hfl W _ _).trans (hf3.sub fun k _ hk => hk.imp_right .inl)).trans (hfl W3 _ _), ((KF.calm c2).trans hq3).trans (KF.calm c3), kn W3 _ hk3⟩
    | ret => exact hp.elim
    | exit id => exact hp.elim
    | goto t => exact hp.elim
    | panic ch => exact hp.elim
    | outgrown => exact hp.elim
  · -- behind the iterator
    rintro e W2 ⟨⟨v, rfl⟩, o, xs, hS, hi, hl, hk⟩
    exact ⟨none, _, run_endLoop hl (by simp [rec']), hdone _ o xs _ (Nat.le_refl _) hS (hI _ _ _ _ hi (Calm.put hl rfl (by omega))) ((World.putObj_heap_other (by omega)).trans hk)⟩
end Go.Proofs.YtpmkhpbhimmeiaaGreat
/-
  Package rel: what matching's iterator tells.
-/
namespace Go.Proofs.YtpmkhpbhimmeiaaGreat
open Go.RowKit FloM ValM Go.Shelf
set_option linter.unusedVariables false
set_option linter.unusedSimpArgs false
attribute [local go_sem] Oper.semAt_some
def matB (cols : List Int) (want t : List V) : Bool := cmpC cols t want == 0
theorem wpIn_seqA (d : Tmp) {n : Nat} {g : Operand} {ps : Array Tmp} {assign body : Code} {Q : Exit → Act → World → Prop} {a : Act} {w w0 : World}
    {gf : Nat} {lb : Array Value} (hg : a.eval g = .func (.func gf) #[] lb) (eg : ∀ args w, (callFunc gf args).run Tryz.prog w = .ok (.enter gf args) w)
    {X : Nat → Prop} {n₀ : Nat} {L : List (List V)} (hseq : SeqR gf lb X n₀ L w0) (hb0 : Below w0.heap.size w0 w) (hn₀ : n₀ ≤ w.heap.size) (hps : ps.size = 1)
    (I : List Sl → World → Prop) (hI : ∀ s A B, I s A → Calm w.heap.size A B → I s B) (h0 : I [] w)
    (hassign : ∀ (l : Nat) (x : Sl) (W : World) (K : Act → World → Prop), K { tmps := ((ps.zip #[x.val]).foldl (fun t (p, v) => t.setIfInBounds p v) a.tmps).setIfInBounds d x.val, defers := [] } W →
      assign.wpIn (Fence.wide.inRound l) 0 Tryz.prog (Exit.then K (fun _ _ _ => False)) { tmps := (ps.zip #[x.val]).foldl (fun t (p, v) => t.setIfInBounds p v) a.tmps, defers := [] } W)
    (hbody : ∀ (l : Nat) (pre : List Sl) (x : Sl) (W : World), w.heap.size ≤ l → I pre W → pre.map Sl.l ++ [x.l] <+: L → SlOk X W x → body.wpIn (Fence.wide.inRound l) 0 Tryz.prog (postR w.heap.size X n₀ I (fun _ _ _ => False) (pre ++ [x]) W) { tmps := ((ps.zip #[x.val]).foldl (fun t (p, v) => t.setIfInBounds p v) a.tmps).setIfInBounds d x.val, defers := [] } W)
    (hdone : ∀ (D : Nat) (xs : List Sl) (W : World), w.heap.size ≤ D → xs.map Sl.l = L → I xs W → W.heap[D]? = some (.deferred (some [])) → Q .normal { a with defers := { target := .collected D, args := #[] } :: a.defers } W) :
    (Code.rangeFunc g ps assign body).wpIn Fence.wide n Tryz.prog Q a w :=
  wpIn_seq hg eg hseq hb0 hn₀ hps I (fun _ _ _ => False) hI (fun _ _ _ _ h _ => h) h0 (fun x => { tmps := ((ps.zip #[x.val]).foldl (fun t (p, v) => t.setIfInBounds p v) a.tmps).setIfInBounds d x.val, defers := [] })
    hassign hbody hdone (fun D c pre W _ _ h _ => h.elim)
/-- Between two rounds: what was told, and fits, was handed on. -/
structure TellM (X : Nat → Prop) (w2 : World) (l : Nat) (q : List V → Bool) (J : Option Nat → List Sl → World → Prop) (o : Option Nat) (pre pre' : List Sl) (W : World) : Prop where
  same : pre'.map Sl.l = (pre.map Sl.l).filter q
  j : J o pre' W
  own : ∀ k, o = some k → w2.heap.size ≤ k
  fr : Fr (fun k => X k ∨ k = l) w2.heap.size w2 W
theorem rdV_step {X : Nat → Prop} {w0 w2 W : World} {A : Option Addr} {l : List V} (h : RdV w0 A l) (hb : Below w0.heap.size w0 w2) (hF : Fr X w2.heap.size w2 W) (hx : ∀ b o, A = some ⟨b, o, none⟩ → b < w0.heap.size → ¬ X b) : RdV W A l := fun i v hv => by
  obtain ⟨b, o, e, hl, c0, c1, c2⟩ := h i v hv
  have k : ∀ j, W.cell? ⟨b, j, none⟩ = w0.cell? ⟨b, j, none⟩ := fun j => (hF.cell (Nat.lt_of_lt_of_le hl hb.size) (hx b o e hl)).trans (keep hb _ _ hl)
  exact ⟨b, o, e, Nat.lt_of_lt_of_le hl (Nat.le_trans hb.size hF.size), (k _).trans c0, (k _).trans c1, (k _).trans c2⟩
theorem rdI_step {X : Nat → Prop} {w0 w2 W : World} {A : Option Addr} {l : List Int} (h : RdI w0 A l) (hb : Below w0.heap.size w0 w2) (hF : Fr X w2.heap.size w2 W) (hx : l ≠ [] → ∀ b o, A = some ⟨b, o, none⟩ → b < w0.heap.size → ¬ X b) : RdI W A l := fun i v hv => by
  obtain ⟨b, o, e, hl, c0⟩ := h i v hv
  exact ⟨b, o, e, Nat.lt_of_lt_of_le hl (Nat.le_trans hb.size hF.size), ((hF.cell (Nat.lt_of_lt_of_le hl hb.size) (hx (fun e2 => by subst e2; simp at hv) b o e hl)).trans (keep hb _ _ hl)).trans c0⟩
theorem SlOk.sub {X Y : Nat → Prop} {w : World} {x : Sl} (h : SlOk Y w x) (hXY : ∀ k, X k → Y k) : SlOk X w x := ⟨h.rd, fun a ha hx => h.off a ha (hXY _ hx), h.cap, h.ty⟩
set_option maxRecDepth 20000 in
set_option maxHeartbeats 8000000 in
theorem match_seq {X : Nat → Prop} {g B1 B2 B3 B4 cp cw cc : Nat} {P Wn C : Option Addr} {p cols : List Int} {M : List (List V)} {want : List V} (w0 w : World) (ht : TreeS X w0 g p M) (hC : MatchC w0 w B1 B2 B3 B4 g P cp p Wn cw want C cc cols) (hX : ∀ k, X k → k < w0.heap.size)
    (hw : RdV w0 Wn want) (ow : ∀ b o, Wn = some ⟨b, o, none⟩ → ¬ X b) (hc : RdI w0 C cols) (oc : cols ≠ [] → ∀ b o, C = some ⟨b, o, none⟩ → ¬ X b) (lw : want.length ≤ 1000) (lc : cols.length ≤ 1000) :
    SeqM 72 #[.pointer (some ⟨B1, 0, none⟩), .pointer (some ⟨B2, 0, none⟩), .pointer (some ⟨B3, 0, none⟩), .pointer (some ⟨B4, 0, none⟩)] X ((beg p (pickL want (p.take (leadL cols p))) M).filter (matB cols want)) w := by
  intro l J W hW hwl hl hJ hR h0
  obtain ⟨HA, hch, b2, rh, oh⟩ := hC.h2
  obtain ⟨hd, hhd⟩ : ∃ hd, pickL want (p.take (leadL cols p)) = hd := ⟨_, rfl⟩
  rw [hhd] at hR b2 rh ⊢
  have hdl : hd.length ≤ p.length := by
    rw [← hhd]
    have := pick_len want (p.take (leadL cols p))
    rw [List.length_take] at this; omega
  obtain ⟨W1, hW1⟩ : ∃ W1, W.alloc (.cells #[.func (.yield l) #[] #[]] 44) = W1 := ⟨_, rfl⟩
  have hb1 : Below W.heap.size W W1 := by rw [← hW1]; exact (Below.refl _ _).alloc (Nat.le_refl _) _
  have hwW : Below w.heap.size w W1 := hW.trans (hb1.mono hW.size)
  have hs1 : W1.heap.size = W.heap.size + 1 := by rw [← hW1]; simp
  have hybox : W1.heap[W.heap.size]? = some (.cells #[.func (.yield l) #[] #[]] 44 (0, 0)) := by rw [← hW1]; exact heap_alloc_new _ _
  have hbl : Below w0.heap.size w0 W1 := hC.b.trans (hwW.mono hC.b.size)
  have hws := hC.b.size
  have hWs := hW.size
  have lt : ∀ {B : Nat} {o : Obj}, w.heap[B]? = some o → B < w.heap.size := fun h => (Array.getElem?_eq_some_iff.1 h).1
  have l1 := lt hC.h1; have l3 := lt hC.h3; have l4 := lt hC.h4; have l2 := hC.l2
  have m1 := (keep hwW _ 0 l1).trans (cell2 hC.h1).1
  have m2 := (keep hwW _ 0 l2).trans b2
  have hFM := fromS_any (X := fun k => X k ∨ k = l) HA hch hd W1 ((ht.more (Y := fun k => X k ∨ k = l) (fun k h => .inl h) (fun k h => h.imp_right fun e => by omega)).on hbl) (rh.on hwW) hdl (fun k hk => by rcases hk with hk | rfl; (have := hX k hk; omega); omega)
  have hfl := ht.fit.lens
  have hfew := ht.few
  have HFM := Lib.hid hFM; have HC := Lib.hid hC; have HJ := Lib.hid hJ; have HR := Lib.hid hR; have H0 := Lib.hid h0; have HX := Lib.hid hX; have HYB := Lib.hid hybox; have HFL := Lib.hid hfl
  have HWN := Lib.hid hw; have HCC := Lib.hid hc
  clear hFM hC hJ hR h0 hX hybox ht hfl hw hc rh b2
  refine callsIn_deep (n := l) ?_
  refine callsIn_of_wp_marks Tryz.func72 rfl trivial ?_ rfl
  simp only [Tryz.ntmps72, List.size_toArray, List.length_cons, List.length_nil, Nat.reduceAdd, Nat.reduceSub, Array.replicate_succ, Array.replicate_zero, List.push_toArray, List.append_toArray, List.nil_append, List.cons_append]
  refine wpIn_wide.2 ?_
  go_wp2_with (go_at_call 70; (try rw [hW1]); refine HFM.out.mono ?_; rintro e w2 ⟨gf, lb, rfl, hen, hq, hb⟩; have HQ := Lib.hid hq; have HEN := Lib.hid hen; have HB := Lib.hid hb; clear hb hq hen)
  have hs2 := HB.out.size
  have hW2 : Below w.heap.size w w2 := hwW.trans (HB.out.mono hwW.size)
  have hX2 : ∀ B, w0.heap.size ≤ B → B < W.heap.size + 1 → B ≠ l → ¬ (X B ∨ B = l) := fun B h1 h2 h3 h => h.elim (fun hx => by have := HX.out B hx; omega) h3
  refine (wpIn_wide (n := l)).1 ?_
  refine wpIn_seqA 6 (n := l) rfl HEN.out HQ.out (Below.refl _ _) (Nat.le_refl _) rfl (fun pre W' => ∃ o pre', TellM X w2 l (matB cols want) J o pre pre' W')
    (fun s A B h hc => by
      obtain ⟨o, pre', h1⟩ := h
      exact ⟨o, pre', h1.same, HJ.out _ _ _ _ h1.j (hc.mono (by omega)), h1.own, h1.fr.trans (Fr.of (hc.below h1.fr.size))⟩)
    ⟨none, [], rfl, HJ.out _ _ _ _ H0.out (Calm.of_below (hb1.trans (HB.out.mono hb1.size))), (fun k hk => by cases hk), Fr.refl _ _ _⟩ ?assign ?body ?done
  case assign =>
    intro l2 x W' K hK
    gi_wp2
    simpa using hK
  case body =>
    rintro l2 pre y Wb hl2 ⟨o, pre', hI⟩ hpre hok
    have hsb := hI.fr.size
    have b3 := (hI.fr.cell (o := 0) (show B3 < w2.heap.size by omega) (hX2 _ HC.out.g3 (by omega) (by omega))).trans ((keep hW2 _ 0 l3).trans (cell_box' HC.out.h3))
    have b4 := (hI.fr.cell (o := 0) (show B4 < w2.heap.size by omega) (hX2 _ HC.out.g4 (by omega) (by omega))).trans ((keep hW2 _ 0 l4).trans (cell_box' HC.out.h4))
    have by0 := (hI.fr.cell (o := 0) (show W.heap.size < w2.heap.size by omega) (hX2 _ (by omega) (by omega) (by omega))).trans ((keep HB.out _ 0 (by omega)).trans (cell_box' HYB.out))
    have hym : y.l ∈ beg p hd M := hpre.subset (by simp)
    have hyl : y.l.length ≤ 1000 := by rw [HFL.out _ (List.mem_filter.1 hym).1]; omega
    have hb02 : Below w0.heap.size w0 w2 := hbl.trans (HB.out.mono (by omega))
    have hrw : RdV Wb Wn want := rdV_step HWN.out hb02 hI.fr (fun b oo e hlt hx => hx.elim (ow b oo e) (fun hx => by omega))
    have hrc : RdI Wb C cols := rdI_step HCC.out hb02 hI.fr (fun hne b oo e hlt hx => hx.elim (oc hne b oo e) (fun hx => by omega))
    · have HCMP := Lib.hid (compareT_any y.A Wn C y.c cw cc y.l want cols Wb hok.rd hrw hrc (by unfold maxLen; omega) (by unfold maxLen; omega) (by unfold maxLen; omega))
      have HIH := Lib.hid hI; have HOK := Lib.hid hok; have HPR := Lib.hid hpre; clear hI hok hpre hrw hrc hym
      by_cases hz : cmpC cols y.l want = 0
      · have hmb : matB cols want y.l = true := by unfold matB; rw [hz]; rfl
        have hpx : pre'.map Sl.l ++ [y.l] <+: (beg p hd M).filter (matB cols want) := by
          have h1 := List.IsPrefix.filter (matB cols want) HPR.out
          rw [List.filter_append, ← HIH.out.same] at h1
          simpa [hmb] using h1
        have HLAY : Hid (∀ w4, Below Wb.heap.size Wb w4 → YieldAt Fence.wide 0 Tryz.prog l #[y.val] w4 (RoundPostM X l J o (pre' ++ [y]) w4)) := Lib.hid (fun w4 h4 => HR.out o pre' y w4 (HJ.out _ _ _ _ HIH.out.j (Calm.of_below h4)) hpx ((HOK.out.on h4).sub fun k hk => .inl hk))
        have HZ := Lib.hid hz; have HMB := Lib.hid hmb
        have hz' : ordV (pickL y.l cols) (pickL want cols) = 0 := hz
        rw [hz'] at HCMP
        clear hz hpx hmb hz'
        gi_wp2_with (first
          | ((first | refine ⟨trivial, rfl, ?_⟩ | refine ⟨rfl, ?_⟩ | skip); gi_at_call 51; refine (CallsIn.inRound l2 (callsIn_wide.2 HCMP.out)).mono ?_; rintro e w3 ⟨rfl, h3⟩; have by3 := (keep h3 _ 0 (show W.heap.size < Wb.heap.size by omega)).trans by0; obtain ⟨fn, tmps, assign, body, hy, hRd⟩ := HLAY.out w3 h3)
          | ((first | refine ⟨trivial, rfl, ?_⟩ | refine ⟨rfl, ?_⟩ | skip); refine hRd.mono ?_; clear hRd; rintro e w5 ⟨rfl, ⟨o2, hJ5, ho5⟩, hF5, hK5, hN5⟩))
        have hf : Fr (fun k => X k ∨ k = l) w2.heap.size Wb w5 := (Fr.of (h3.mono hsb)).trans ⟨hF5.os, hF5.tape, hF5.output, hF5.size, fun k hk hx => hF5.block k (by have := h3.size; omega) (fun h => by
          rcases h with h | h | h
          · exact hx (.inl h)
          · have := HIH.out.own k h; omega
          · exact hx (.inr h))⟩
        exact ⟨((KN.of_below h3).trans hN5).from (by omega), hf, (KF.of_below h3).trans hK5, o2, pre' ++ [y], by rw [List.map_append, List.map_append, List.filter_append, HIH.out.same]; simp [HMB.out], hJ5, fun k hk => by
          rcases ho5 with e | ⟨k2, e, h2⟩
          · exact HIH.out.own k (e ▸ hk)
          · rw [e] at hk; cases hk
            have := h3.size; omega, HIH.out.fr.trans hf⟩
      · obtain ⟨r, hr⟩ : ∃ r, cmpC cols y.l want = r := ⟨_, rfl⟩
        have hmb : matB cols want y.l = false := by unfold matB; simpa using hz
        have hr0 : (r == 0) = false := by rw [← hr]; simpa using hz
        have hr' : ordV (pickL y.l cols) (pickL want cols) = r := hr
        rw [hr'] at HCMP
        have HMB := Lib.hid hmb
        clear hz hr hmb hr'
        gi_wp2_with (first
          | ((first | refine ⟨trivial, rfl, ?_⟩ | refine ⟨rfl, ?_⟩ | skip); gi_at_call 51; refine (CallsIn.inRound l2 (callsIn_wide.2 HCMP.out)).mono ?_; rintro e w3 ⟨rfl, h3⟩))
        refine ⟨fun _ h => (by cases h), ?_⟩
        gi_wp2
        exact ⟨(KN.of_below h3 (l := 0)).from (by omega), Fr.of (h3.mono hsb), KF.of_below h3, o, pre', by rw [List.map_append, List.filter_append, HIH.out.same]; simp [HMB.out], HJ.out _ _ _ _ HIH.out.j (Calm.of_below h3), HIH.out.own, HIH.out.fr.trans (Fr.of (h3.mono hsb))⟩
  case done =>
    rintro D xs W' hD hxs ⟨o, pre', hI⟩ hK
    go_wp2
    refine ⟨by simp, .inl ⟨_, _, rfl, run_takeDeferred hK, ?_⟩⟩
    have hcp := Calm.put (n := W.heap.size) (o' := .deferred none) hK rfl (by omega)
    refine ⟨_, results_none rfl _ _ _, ⟨_, rfl⟩, o, pre', ?_, HJ.out _ _ _ _ hI.j hcp⟩
    rw [hI.same, hxs]
end Go.Proofs.YtpmkhpbhimmeiaaGreat
/-
  Package rel: what is found by columns: plain mathematics.
-/
namespace Go.Proofs.YtpmkhpbhimmeiaaGreat
open Go.RowKit FloM ValM Go.Shelf
set_option linter.unusedVariables false
set_option linter.unusedSimpArgs false
/-- The tuples that have the values vals in the columns cols. -/
def foundL (cols : List Int) (vals : List V) (M : List (List V)) : List (List V) := M.filter fun t => ordV (pickL t cols) vals == 0
theorem found_mem {cols : List Int} {vals : List V} {M : List (List V)} {t : List V} : t ∈ foundL cols vals M ↔ t ∈ M ∧ pickL t cols = vals := by
  unfold foundL
  rw [List.mem_filter, beq_iff_eq, ord_zero]
theorem pick_cols {xl vals : List V} {cols : List Int} {n : Nat} (hin : ∀ x ∈ cols, inR n x = true) (hl : xl.length = n) (hv : vals.length = cols.length) (h : ∀ (j : Nat) (c : Int), cols[j]? = some c → xl[c.toNat]? = vals[j]?) : pickL xl cols = vals := by
  have hin' : ∀ x ∈ cols, inR xl.length x = true := by rw [hl]; exact hin
  apply List.ext_getElem?
  intro i
  rw [pick_at hin']
  cases hc : cols[i]? with
  | none =>
    have := List.getElem?_eq_none_iff.1 hc
    rw [List.getElem?_eq_none (by omega)]; rfl
  | some c => exact h i c hc
theorem pick_sub {s t : List V} {n : Nat} {cols q : List Int} (hs : s.length = n) (ht : t.length = n) (hin : ∀ x ∈ cols, inR n x = true) (h : pickL s cols = pickL t cols) (hq : ∀ x ∈ q, x ∈ cols) : pickL s q = pickL t q := by
  have hcol : ∀ c ∈ cols, s[c.toNat]? = t[c.toNat]? := fun c hc => by
    obtain ⟨i, hi⟩ := List.getElem?_of_mem hc
    have h1 := pick_at (t := s) (p := cols) (by rw [hs]; exact hin) i
    have h2 := pick_at (t := t) (p := cols) (by rw [ht]; exact hin) i
    rw [hi] at h1 h2
    rw [h] at h1
    exact h1.symm.trans h2
  apply List.ext_getElem?
  intro i
  rw [pick_at (t := s) (by rw [hs]; exact fun x hx => hin x (hq x hx)), pick_at (t := t) (by rw [ht]; exact fun x hx => hin x (hq x hx))]
  cases hc : q[i]? with
  | none => rfl
  | some c => exact hcol c (hq c (List.mem_of_getElem? hc))
theorem sortS_nodup {p : List Int} {M : List (List V)} (h : SortS p M) : M.Nodup := by
  refine List.Pairwise.imp (fun {a b} hab e => ?_) h
  subst e
  rw [cmpC_self] at hab; cases hab
section
variable {n : Nat} {p cols : List Int} {xl vals : List V} {H : List (List V)}
theorem look_mem (hp : permB p = true) (hpn : p.length = n) (hd : distB n cols = true) (hxl : xl.length = n) (hpk : pickL xl cols = vals) {t : List V} :
    t ∈ (beg p (pickL xl (p.take (leadL cols p))) (puts p H)).filter (matB cols xl) ↔ t ∈ foundL cols vals (puts (upto n) H) := by
  have hin := (distB_iff.1 hd).1
  have hlk := lead_le cols p
  have htk : ∀ x ∈ p.take (leadL cols p), x ∈ cols := lead_all cols p _ (Nat.le_refl _)
  have hhl : (pickL xl (p.take (leadL cols p))).length = leadL cols p := by
    rw [pick_perm_len (fun x hx => by rw [hxl]; exact hin x (htk x hx)), List.length_take]; omega
  rw [List.mem_filter, found_mem, puts_mem (upto_perm n), upto_len]
  unfold beg matB cmpC
  rw [List.mem_filter, beq_iff_eq, beq_iff_eq, ord_zero, ord_zero, puts_mem hp, hpn, hhl, hpk]
  constructor
  · rintro ⟨⟨⟨h1, h2⟩, _⟩, h3⟩; exact ⟨⟨h1, h2⟩, h3⟩
  · rintro ⟨⟨h1, h2⟩, h3⟩
    exact ⟨⟨⟨h1, h2⟩, pick_sub h2 hxl hin (h3.trans hpk.symm) htk⟩, h3⟩
theorem look_nodup : ((beg p (pickL xl (p.take (leadL cols p))) (puts p H)).filter (matB cols xl)).Nodup := by
  have h := (puts_fit p H).sort
  exact ((sortS_nodup h).filter _).filter _
theorem found_sort {vals : List V} : SortS (upto n) (foundL cols vals (puts (upto n) H)) := by
  have h := (puts_fit (upto n) H).sort
  unfold SortS foundL at *
  exact h.filter _
/-- Whatever index was gone through: sorted, it is what was to be found. -/
theorem look_found (hp : permB p = true) (hpn : p.length = n) (hd : distB n cols = true) (hxl : xl.length = n) (hpk : pickL xl cols = vals) {L : List (List V)} (hL : L.Perm ((beg p (pickL xl (p.take (leadL cols p))) (puts p H)).filter (matB cols xl))) (hs : SortS (upto n) L) :
    L = foundL cols vals (puts (upto n) H) :=
  sort_ext hs found_sort fun t => by rw [hL.mem_iff]; exact look_mem hp hpn hd hxl hpk
theorem look_len {t : List V} (hpn : p.length = n) (ht : t ∈ (beg p (pickL xl (p.take (leadL cols p))) (puts p H)).filter (matB cols xl)) : t.length = n := by
  have h1 := (List.mem_filter.1 ht).1
  unfold beg at h1
  rw [← hpn]
  exact (puts_fit p H).lens t (List.mem_filter.1 h1).1
theorem look_many : ((beg p (pickL xl (p.take (leadL cols p))) (puts p H)).filter (matB cols xl)).length ≤ H.length := by
  refine Nat.le_trans (List.length_filter_le _ _) (Nat.le_trans ?_ (puts_len p H))
  unfold beg
  exact List.length_filter_le _ _
end
end Go.Proofs.YtpmkhpbhimmeiaaGreat

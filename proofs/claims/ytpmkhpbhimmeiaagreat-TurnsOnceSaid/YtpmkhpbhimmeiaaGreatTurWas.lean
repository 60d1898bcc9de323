/-
  Package turns, for the law of searches: tuples that were told stay readable while a Turns goes on; the law's own function 'in'.
-/
import Derived.Test.YtpmkhpbhimmeiaaGreatTurOne
import Derived.Test.YtpmkhpbhimmeiaaGreatBtRefL
import Derived.Test.YtpmkhpbhimmeiaaGreatBtMerge
namespace Go.Proofs.YtpmkhpbhimmeiaaGreat
open Go.RowKit FloM ValM Go.Shelf
set_option linter.unusedVariables false
set_option linter.unusedSimpArgs false
/-! ### Same, decided -/
def SameDec (w : World) (xs ys : List Sl) (i : Value) (wr : World) : Prop := ∃ k : Nat, i = .int .i64 (k : Nat) ∧ k ≤ xs.length ∧ lsOf (xs.take k) = lsOf (ys.take k) ∧ Below w.heap.size w wr
theorem lsOf_snoc {xs : List Sl} {k : Nat} {x : Sl} (h : xs[k]? = some x) : lsOf (xs.take (k + 1)) = lsOf (xs.take k) ++ [x.l] := by rw [lsOf, take_snoc' h, List.map_append]; rfl
set_option maxRecDepth 20000 in
set_option maxHeartbeats 4000000 in
theorem same_dec (A B : Option Addr) (ca cb : Nat) (xs ys : List Sl) (w : World) (hx : RdL w A xs) (hy : RdL w B ys) (hl : xs.length ≤ maxLen) (hlen : xs.length = ys.length) :
    Calls Tryz.prog 16 #[.slice A xs.length ca, .slice B ys.length cb] w fun e w' => ∃ b : Bool, e = .returned (.bool b) ∧ (b = true ↔ lsOf xs = lsOf ys) ∧ Below w.heap.size w w' := by
  unfold maxLen at hl
  rw [← hlen]
  have HLE := Lib.hid hlen; have HX := Lib.hid hx; have HY := Lib.hid hy
  clear hlen hx hy
  go_enter Tryz.func16, Tryz.ntmps16
  go_wp2
  go_loopw [13] (fun i wr => SameDec w xs ys i wr) (fun i _ => xs.length - (intOf i).toNat)
  case atStart => exact ⟨0, rfl, Nat.zero_le _, by simp, Below.refl _ _⟩
  case round =>
    obtain ⟨k, rfl, hk, hsm, hB⟩ := hrel
    have HSM := Lib.hid hsm; clear hsm
    by_cases hlt : k < xs.length
    · have h1 := List.getElem?_eq_getElem hlt
      have h2 := List.getElem?_eq_getElem (show k < ys.length by have := HLE.out; omega)
      generalize xs[k] = x at h1
      generalize ys[k] = y at h2
      have HK1 := Lib.hid h1; have HK2 := Lib.hid h2
      obtain ⟨xb, xo, rfl, hxb, a0⟩ := (HX.out.on hB).at_ h1
      obtain ⟨yb, yo, rfl, hyb, b0⟩ := (HY.out.on hB).at_ h2
      have hx1 := (HX.out.on hB).each x (List.mem_of_getElem? h1)
      have hy1 := (HY.out.on hB).each y (List.mem_of_getElem? h2)
      obtain ⟨z, hz⟩ : ∃ z, ordV x.l y.l = z := ⟨_, rfl⟩
      have HZ := Lib.hid hz
      have HX1 := Lib.hid hx1; have HY1 := Lib.hid hy1
      clear hx1 hy1 h1 h2 hz
      by_cases hz0 : z = 0
      · subst hz0
        go_wp2_with fail
        go_region_held3 (fun u => Below wr.heap.size wr u ∧ u.cell? ⟨xb, xo + k, none⟩ = some (.slice x.A x.l.length x.c) ∧ u.cell? ⟨yb, yo + k, none⟩ = some (.slice y.A y.l.length y.c))
          (first | exact ⟨Below.refl _ _, a0, b0⟩ | exact ⟨(Below.refl _ _).drew, a0, b0⟩ | exact ⟨h4, (k4 _ _ hxb).trans a0, (k4 _ _ hyb).trans b0⟩)
          ((go_at_call 42; refine (refOrder_any x.A y.A x.c y.c x.l y.l _ (HX1.out.1.on (Below.refl _ _).drew) (HY1.out.1.on (Below.refl _ _).drew) HX1.out.2 HY1.out.2).mono ?_; rintro e w4 ⟨rfl, h4⟩; rw [HZ.out]; replace h4 : Below wr.heap.size wr w4 := (Below.refl wr.heap.size wr).drew.trans h4; have k4 := keep h4))
        all_goals
          go_wp2
          go_roundw
          case rel => exact ⟨k + 1, by go_num, by omega, by rw [lsOf_snoc HK1.out, lsOf_snoc HK2.out, HSM.out, (ord_zero _ _).1 HZ.out], on hB h4⟩
          case measure => simp [intOf]; omega
      · have hzn : (z != 0) = true := by rw [bne_iff_ne]; exact hz0
        go_wp2_with fail
        go_region_held3 (fun u => Below wr.heap.size wr u ∧ u.cell? ⟨xb, xo + k, none⟩ = some (.slice x.A x.l.length x.c) ∧ u.cell? ⟨yb, yo + k, none⟩ = some (.slice y.A y.l.length y.c))
          (first | exact ⟨Below.refl _ _, a0, b0⟩ | exact ⟨(Below.refl _ _).drew, a0, b0⟩ | exact ⟨h4, (k4 _ _ hxb).trans a0, (k4 _ _ hyb).trans b0⟩)
          ((go_at_call 42; refine (refOrder_any x.A y.A x.c y.c x.l y.l _ (HX1.out.1.on (Below.refl _ _).drew) (HY1.out.1.on (Below.refl _ _).drew) HX1.out.2 HY1.out.2).mono ?_; rintro e w4 ⟨rfl, h4⟩; rw [HZ.out]; replace h4 : Below wr.heap.size wr w4 := (Below.refl wr.heap.size wr).drew.trans h4; have k4 := keep h4))
        all_goals
          go_wp2
          go_ret
          refine ⟨_, rfl, ⟨fun h => (by cases h), fun h => ?_⟩, on hB h4⟩
          exfalso
          have e1 := congrArg (fun l : List (List V) => l[k]?) h
          simp only [lsOf, List.getElem?_map, HK1.out, HK2.out, Option.map_some, Option.some.injEq] at e1
          have e2 := HZ.out
          rw [e1, ord_self] at e2
          exact hz0 e2.symm
    · obtain rfl : k = xs.length := by omega
      go_wp2
      go_ret
      refine ⟨true, rfl, ⟨fun _ => ?_, fun _ => rfl⟩, hB⟩
      have := HSM.out
      rwa [List.take_of_length_le (Nat.le_refl _), List.take_of_length_le (by rw [HLE.out]; exact Nat.le_refl _)] at this
theorem RdT.moreT {X Y : Nat → Prop} {w : World} {A : Option Addr} {xs : List Sl} (hY : ∀ k, Y k → X k ∨ w.heap.size ≤ k) (hne : xs ≠ []) (h : RdT X w A xs) : RdT Y w A xs :=
  ⟨h.rd, off_more hY h.off (h.rd.inHeap (by simpa using hne)), fun x hx => (h.each x hx).more hY⟩
structure TWas (w : World) (t p n : Nat) (left : Int) (HA HL HP : List (List V)) (A : Option Addr) (xs : List Sl) (W : World) : Prop where
  ex : ∃ (X : Nat → Prop) (a l q b : RI), TurG X W t p n a l q b HA HL HP ∧ (∀ k, X k → k < W.heap.size) ∧ (∀ k, X k → w.heap.size ≤ k) ∧ (xs ≠ [] → RdT X W A xs)
  pu : PurseAt W p left
  bw : Below w.heap.size w W
section
variable {w W W' : World} {t p n : Nat} {left : Int} {HA HL HP : List (List V)} {A : Option Addr} {xs : List Sl}
theorem TWas.one (h : TWas w t p n left HA HL HP A xs W) : TOne w t p n left HA HL HP W := by
  obtain ⟨X, a, l, q, b, hT, h1, h0, _⟩ := h.ex
  exact ⟨⟨X, a, l, q, b, hT, h1, h0⟩, h.pu, h.bw⟩
theorem TWas.rdl (h : TWas w t p n left HA HL HP A xs W) (hl : ∀ x ∈ xs, x.l.length ≤ maxLen) : RdL W A xs := by
  obtain ⟨X, a, l, q, b, hT, h1, h0, hr⟩ := h.ex
  cases xs with
  | nil => exact RdL.nil
  | cons x xs => exact (hr (by simp)).rdL hl
theorem TWas.on (h : TWas w t p n left HA HL HP A xs W) (hb : Below W.heap.size W W') : TWas w t p n left HA HL HP A xs W' := by
  obtain ⟨X, a, l, q, b, hT, h1, h0, hr⟩ := h.ex
  exact ⟨⟨X, a, l, q, b, hT.on hb, fun k hk => Nat.lt_of_lt_of_le (h1 k hk) hb.size, h0, fun hne => (hr hne).on hb⟩, h.pu.on hb, h.bw.trans (hb.mono h.bw.size)⟩
theorem TOne.was (h : TOne w t p n left HA HL HP W) (hH : HA.length ≤ 100000) :
    Calls Tryz.prog 33 #[.pointer (some ⟨t, 0, none⟩)] W fun e w' => ∃ A c xs, e = .returned (.slice A (puts (upto n) HA).length c) ∧ lsOf xs = puts (upto n) HA ∧ (puts (upto n) HA).length ≤ c ∧ TWas w t p n left HA HL HP A xs w' ∧ Below W.heap.size W w' := by
  obtain ⟨X, a, l, q, b, hT, hX, hX0⟩ := h.ex
  refine (turAllT_any W hT hX hH).mono ?_
  rintro e w' ⟨A, c, xs, hs⟩
  exact ⟨A, c, xs, hs.val, hs.vals, hs.cap, ⟨⟨X, a, l, q, b, hT.on hs.b, fun k hk => Nat.lt_of_lt_of_le (hX k hk) hs.b.size, hX0, fun _ => hs.rd⟩, h.pu.on hs.b, h.bw.trans (hs.b.mono h.bw.size)⟩, hs.b⟩
theorem TWas.add {B : Option Addr} {ca : Nat} {x : List V} (h : TWas w t p n left HA HL HP A xs W) (hr : RdV w B x) (h0 : -1000000 ≤ left) (h1 : left ≤ 9223372036854775807) (hH : HP.length < 100000) (hx : x.length ≤ 1000) :
    Calls Tryz.prog 28 #[.pointer (some ⟨t, 0, none⟩), .slice B x.length ca] W fun e w' => e = .returned (.tuple #[.bool (addB n x HA HP left), .int .i64 (addE n x HA HP left)]) ∧ TWas w t p n (addL n x HA HP left) HA HL (addH n x HA HP left) A xs w' := by
  obtain ⟨X, a, l, q, b, hT, hX, hX0, hR⟩ := h.ex
  refine (turAdd_any B ca x W hT h.pu h0 h1 (hr.on h.bw) (off_old hr hX0) hX hH hx).mono ?_
  rintro e w' ⟨rfl, hT', hp', hF⟩
  have hz : ∀ k, (q.x k ∨ k = p) → X k := fun k hz => by
    rcases hz with hz | rfl
    · exact RelG.x_sub hT.rq k hz
    · exact hT.pX
  exact ⟨rfl, ⟨X, a, l, q, b, hT', fun k hk => Nat.lt_of_lt_of_le (hX k hk) hF.size, hX0, fun hne => (hR hne).onF (hF.sub fun k _ hk => hz k hk)⟩, hp', h.bw.trans (hF.below h.bw.size fun k hk hx => by have := hX0 k (hz k hx); omega)⟩
theorem TWas.turn (h : TWas w t p n left HA HL HP A xs W) (hH : HA.length + HP.length < 100000) :
    Calls Tryz.prog 26 #[.pointer (some ⟨t, 0, none⟩)] W fun e w' => e = .returned (.bool (decide (0 < (puts (upto n) HP).length))) ∧ TWas w t p n left (HA ++ puts (upto n) HP) HP [] A xs w' := by
  obtain ⟨X, a, l, q, b, hT, hX, hX0, hR⟩ := h.ex
  refine (turTurn_any W hT hX hH).mono ?_
  rintro e w' ⟨c, rfl, hT', hF, hc⟩
  have hz : ∀ k, (a.x k ∨ k = t) → X k := fun k hz => by
    rcases hz with hz | rfl
    · exact RelG.x_sub hT.ra k hz
    · exact hT.tX
  refine ⟨rfl, ⟨_, a, q, c, b, hT', fun k hk => ?_, fun k hk => ?_, fun hne => ?_⟩, h.pu.onF hF (fun hz' => ?_), h.bw.trans (hF.below h.bw.size fun k hk hx => by have := hX0 k (hz k hx); omega)⟩
  · rcases hk with hk | hk
    · exact Nat.lt_of_lt_of_le (hX k hk) hF.size
    · exact RI.at_.lt hT'.rq k hk
  · rcases hk with hk | hk
    · exact hX0 k hk
    · exact Nat.le_trans h.bw.size (hc k hk)
  · exact ((hR hne).moreT (Y := fun k => X k ∨ c.x k) (fun k hk => hk.imp_right fun hk => hc k hk) hne).onF (hF.sub fun k _ hk => .inl (hz k hk))
  · rcases hz' with hz' | rfl
    · exact hT.np p (.inl hz') rfl
    · exact hT.tp rfl
end
/-! ### in -/
def InRel (w : World) (xs : List Sl) (x : List V) (i : Value) (wr : World) : Prop := ∃ k : Nat, i = .int .i64 (k : Nat) ∧ k ≤ xs.length ∧ x ∉ lsOf (xs.take k) ∧ Below w.heap.size w wr
section
variable {w W W' : World} {t p n : Nat} {left : Int} {HA HL HP : List (List V)}
theorem TOne.findC {C A : Option Addr} {cc ca : Nat} {cols : List Int} {vals : List V} (h : TOne w t p n left HA HL HP W) (hH : HA.length ≤ 100000) (hc : RdI w C cols) (hv : RdV W A vals) (lc : cols.length ≤ 1000) :
    Calls Tryz.prog 34 #[.pointer (some ⟨t, 0, none⟩), .slice C cols.length cc, .slice A vals.length ca] W (FindQC (findL n cols vals HA) W) := by
  obtain ⟨X, a, l, q, b, hT, hX, hX0⟩ := h.ex
  exact turFindC_any C A cc ca cols vals W hT hX hH (hc.on h.bw) (offI_old hc hX0) hv lc
theorem TOne.latestC {C A : Option Addr} {cc ca : Nat} {cols : List Int} {vals : List V} (h : TOne w t p n left HA HL HP W) (hH : HL.length ≤ 100000) (hc : RdI w C cols) (hv : RdV W A vals) (lc : cols.length ≤ 1000) :
    Calls Tryz.prog 32 #[.pointer (some ⟨t, 0, none⟩), .slice C cols.length cc, .slice A vals.length ca] W (FindQC (findL n cols vals HL) W) := by
  obtain ⟨X, a, l, q, b, hT, hX, hX0⟩ := h.ex
  exact turLatestC_any C A cc ca cols vals W hT hX hH (hc.on h.bw) (offI_old hc hX0) hv lc
theorem TOne.latestC0 (h : TOne w t p n left HA HL HP W) (hH : HL.length ≤ 100000) :
    Calls Tryz.prog 32 #[.pointer (some ⟨t, 0, none⟩), .slice none 0 0, .slice none 0 0] W (FindQC (puts (upto n) HL) W) := by
  have := h.latestC (C := none) (A := none) (cc := 0) (ca := 0) (cols := []) (vals := []) hH (fun i x hx => by simp at hx) RdV.nil (by simp)
  rwa [find_none] at this
end
/-- New, of too many columns. -/
theorem turNew_far {n p : Nat} (hn : 8 < n) (w : World) : Calls Tryz.prog 24 #[.int .i64 (n : Int), .slice none 0 0, .pointer (some ⟨p, 0, none⟩)] w fun e w' => e = .returned (.tuple #[.pointer none, .int .i64 1]) ∧ w = w' := by
  have HN := Lib.hid (relNew_out (n : Int) (.slice none 0 0) w (.inr (by omega)))
  go_enter Tryz.func24, Tryz.ntmps24
  go_wp2_with (go_at_call 8; refine HN.out.mono ?_; rintro e w1 ⟨rfl, rfl⟩)
  go_ret2
  exact ⟨rfl, rfl⟩
/-! ### Lists -/
section
variable {n : Nat} {cols : List Int} {vals : List V} {H K : List (List V)}
theorem findL_in {x : List V} (hx : x ∈ findL n cols vals H) : x ∈ puts (upto n) H := by
  unfold findL foundL at hx
  split at hx
  · exact (List.mem_filter.1 hx).1
  · cases hx
theorem findL_up {x : List V} (hs : ∀ x ∈ puts (upto n) H, x ∈ puts (upto n) K) (hx : x ∈ findL n cols vals H) : x ∈ findL n cols vals K := by
  unfold findL foundL at hx ⊢
  split at hx
  · rename_i hc
    rw [if_pos hc]
    exact List.mem_filter.2 ⟨hs x (List.mem_filter.1 hx).1, (List.mem_filter.1 hx).2⟩
  · cases hx
theorem puts_up {x : List V} (hx : x ∈ puts (upto n) H) : x ∈ puts (upto n) (H ++ K) := by
  rw [puts_mem (upto_perm n)] at hx ⊢
  exact ⟨List.mem_append_left _ hx.1, hx.2⟩
theorem puts_new {x : List V} (hx : x ∈ puts (upto n) K) : x ∈ puts (upto n) (H ++ puts (upto n) K) := by
  rw [puts_mem (upto_perm n) (H ++ puts (upto n) K)]
  exact ⟨List.mem_append_right _ hx, ((puts_mem (upto_perm n) K).1 hx).2⟩
theorem puts_lenN {x : List V} (hx : x ∈ puts (upto n) H) : x.length = n := by
  have := ((puts_mem (upto_perm n) H).1 hx).2
  rwa [upto_len] at this
theorem puts_has {x : List V} (hx : x ∈ puts (upto n) H) : hasB (upto n) x (puts (upto n) H) = true := (hasB_iff (upto_perm n) (puts_fit _ H)).2 hx
end
end Go.Proofs.YtpmkhpbhimmeiaaGreat

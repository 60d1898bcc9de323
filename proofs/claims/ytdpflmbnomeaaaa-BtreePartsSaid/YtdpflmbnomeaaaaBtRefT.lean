/-
  Contracts of the document's own tree (package antecedentref04): New, Has, From.
-/
import Derived.Test.YtdpflmbnomeaaaaBtTwo
import Derived.Test.YtdpflmbnomeaaaaTupRefB
namespace Go.Proofs.Ytdpflmbnomeaaaa
open Go.RowKit FloM ValM Go.Shelf
set_option linter.unusedVariables false
set_option linter.unusedSimpArgs false

def blkR (b : Nat) (P : Option Addr) (m cp : Nat) (A : Option Addr) (n c : Nat) (w : World) : Prop := w.heap[b]? = some (.cells #[.slice P m cp, .slice A n c] 39 (0, 0))
/-- The document's own tree at b, by p, with the tuples M in order. -/
structure RefS (X : Nat → Prop) (W : World) (b : Nat) (p : List Int) (M : List (List V)) : Prop where
  ex : ∃ P cp A c xs, blkR b P p.length cp A xs.length c W ∧ RdI W P p ∧ Off X P ∧ RdT X W A xs ∧ lsOf xs = M ∧ p.length ≤ cp ∧ cp ≤ maxLen ∧ xs.length ≤ c ∧ c ≤ maxLen ∧ (xs = [] → A = none ∧ c = 0)
  mem : X b
  fit : FitS p M
  perm : permB p = true
  few : p.length ≤ 8
section
variable {X : Nat → Prop} {w w' : World} {b : Nat} {p : List Int} {M : List (List V)}
theorem RefS.lt (h : RefS X w b p M) : b < w.heap.size := by
  obtain ⟨P, cp, A, c, xs, hb, _⟩ := h.ex; exact (Array.getElem?_eq_some_iff.1 (show w.heap[b]? = _ from hb)).1
theorem RefS.on (h : RefS X w b p M) (hb : Below w.heap.size w w') : RefS X w' b p M := by
  obtain ⟨P, cp, A, c, xs, h1, h2, h3, h4, h5, h6, h7, h8, h9, h10⟩ := h.ex
  exact ⟨⟨P, cp, A, c, xs, (hb.block _ h.lt).trans h1, h2.on hb, h3, h4.on hb, h5, h6, h7, h8, h9, h10⟩, h.mem, h.fit, h.perm, h.few⟩
theorem RefS.onF (h : RefS X w b p M) (hb : Fr X w.heap.size w w') (hg : w'.heap[b]? = w.heap[b]?) : RefS X w' b p M := by
  obtain ⟨P, cp, A, c, xs, h1, h2, h3, h4, h5, h6, h7, h8, h9, h10⟩ := h.ex
  exact ⟨⟨P, cp, A, c, xs, hg.trans h1, h2.onF h3 hb, h3, h4.onF hb, h5, h6, h7, h8, h9, h10⟩, h.mem, h.fit, h.perm, h.few⟩
theorem RefS.other {g' : Nat} (h : RefS X w b p M) (hg' : X g') (hne : b ≠ g') (hb : Fr (· = g') w.heap.size w w') : RefS X w' b p M :=
  h.onF (hb.sub fun k _ hk => by subst hk; exact hg') (hb.block b h.lt hne)
theorem RefS.short (h : RefS X w b p M) {P : Option Addr} {A : Option Addr} {xs : List Sl} (hr : RdT X w A xs) (e : lsOf xs = M) : RdL w A xs := hr.rdL fun x hx => by
  have := h.fit.lens x.l (by rw [← e]; exact List.mem_map_of_mem hx)
  have := h.few
  unfold maxLen; omega
end
structure NewR (p : List Int) (w w' : World) (b : Nat) (P : Option Addr) (cp : Nat) : Prop where
  fresh : w.heap.size ≤ b
  row : ∀ a, P = some a → w.heap.size ≤ a.block ∧ a.block < b
  blk : blkR b P p.length cp none 0 0 w'
  rp : RdI w' P p
  cap : p.length ≤ cp
  capm : cp ≤ maxLen
  b : Below w.heap.size w w'
theorem NewR.lt {p : List Int} {w w' : World} {b : Nat} {P : Option Addr} {cp : Nat} (N : NewR p w w' b P cp) : b < w'.heap.size := (Array.getElem?_eq_some_iff.1 (show w'.heap[b]? = _ from N.blk)).1
theorem RefS.start {X : Nat → Prop} {p : List Int} {w0 w1 w : World} {b : Nat} {P : Option Addr} {cp : Nat} (N : NewR p w0 w1 b P cp) (h : Below w1.heap.size w1 w) (hb : X b) (hP : ∀ a, P = some a → ¬ X a.block) (hp : permB p = true) (hl : p.length ≤ 8) : RefS X w b p [] :=
  ⟨⟨P, cp, none, 0, [], (h.block _ N.lt).trans N.blk, N.rp.on h, hP, RdT.nil (Off.none _), rfl, N.cap, N.capm, Nat.le_refl _, Nat.zero_le _, fun _ => ⟨rfl, rfl⟩⟩, hb, FitS.nil p, hp, hl⟩

/-! ### New -/
set_option maxHeartbeats 1000000 in
theorem refNew_bad (A : Option Addr) (c : Nat) (p : List Int) (w : World) (hp : RdI w A p) (hl : p.length ≤ 1000) (hb : permB p = false ∨ 8 < p.length) :
    Calls Try.prog 18 #[.slice A p.length c] w fun e w' => e = .returned (.pointer none) ∧ w = w' := by
  have HP := Lib.hid (refPerm_any A c p w hp hl)
  clear hp
  obtain ⟨b, hpb⟩ : ∃ b, permB p = b := ⟨_, rfl⟩
  rw [hpb] at HP hb
  clear hpb
  cases b
  · clear hb
    go_enter Try.func18, Try.ntmps18
    go_wp2_with (go_at_call 32; refine HP.out.mono ?_; rintro e w1 ⟨rfl, rfl⟩)
    go_ret
    exact ⟨rfl, rfl⟩
  · have h8 : (8 : Int) < (p.length : Int) := by simp at hb; omega
    clear hb
    go_enter Try.func18, Try.ntmps18
    go_wp2_with (go_at_call 32; refine HP.out.mono ?_; rintro e w1 ⟨rfl, rfl⟩)
    go_ret
    exact ⟨rfl, rfl⟩
set_option maxRecDepth 20000 in
set_option maxHeartbeats 2000000 in
theorem refNew_any (A : Option Addr) (c : Nat) (p : List Int) (w : World) (hp : RdI w A p) (hl : p.length ≤ 8) (hb : permB p = true) :
    Calls Try.prog 18 #[.slice A p.length c] w fun e w' => ∃ b P cp, e = .returned (.pointer (some ⟨b, 0, none⟩)) ∧ NewR p w w' b P cp := by
  have HP := Lib.hid (refPerm_any A c p w hp (by omega))
  rw [hb] at HP
  have h8 : ¬ (8 : Int) < (p.length : Int) := by omega
  have HH := Lib.hid (rdI_rdC hp); clear hp hb
  have HL := Lib.hid (show (icells p).length = p.length by simp [icells])
  obtain ⟨i0, hi0, hz0, hz1, hz2⟩ := info_parts info_int
  have HI0 := Lib.hid hi0; have HZ0 := Lib.hid hz0; have HZ1 := Lib.hid hz1; have HZ2 := Lib.hid hz2
  clear hi0 hz0 hz1 hz2
  have hB : Below w.heap.size w (w.alloc (.cells #[] 3)) := (Below.refl _ _).alloc (Nat.le_refl _) _
  go_enter Try.func18, Try.ntmps18
  go_wp2_with (first
    | (go_at_call 32; refine HP.out.mono ?_; rintro e w1 ⟨rfl, rfl⟩)
    | (at_builtin; refine wpList_appC rfl (.tmp 11) (.tmp 12) 22 rfl w.heap.size 3 i0 _ 8 Try.underlying22 HI0.out HZ0.out HZ1.out HZ2.out rfl (by omega) _ 0 0 [] rfl (own_made1 w _) A c _ (icells p) HL.out rfl (HH.out.on hB) (fun u hu => by simp only [icells, List.mem_map] at hu; obtain ⟨_, _, rfl⟩ := hu; rfl) (by omega) hB.size ?_; intro A3 c3 w3 ho3 hg3))
  go_ret
  simp only [List.nil_append, Nat.zero_add] at ho3 ⊢
  have h4 := (Below.refl w3.heap.size w3).alloc (Nat.le_refl _) (.cells #[.slice A3 p.length c3, .slice none 0 0] 39)
  have h3 := hB.grown hg3 hB.size (own_base (own_made1 w 3))
  exact ⟨w3.heap.size, A3, c3, rfl, h3.size, fun a ha => by subst ha; exact ⟨own_base ho3 a.block rfl, own_lt ho3 _ rfl⟩, heap_alloc_new _ _, (rdC_rdI (own_rdC ho3)).on h4, (own_cap ho3).1, (own_cap ho3).2, h3.trans (h4.mono h3.size)⟩

/-! ### Has -/
def RHasRel (w : World) (M : List (List V)) (a : List V) (i : Value) (wr : World) : Prop := ∃ k : Nat, i = .int .i64 (k : Nat) ∧ k ≤ M.length ∧ Below w.heap.size w wr ∧ ∀ z ∈ M.take k, z ≠ a
set_option maxRecDepth 20000 in
set_option maxHeartbeats 4000000 in
theorem refHas_any {X : Nat → Prop} {b : Nat} {p : List Int} {M : List (List V)} (B : Option Addr) (cb : Nat) (a : List V) (w : World) (h : RefS X w b p M) (ha : RdV w B a) (la : a.length ≤ maxLen) (hM : M.length ≤ 100000) :
    Calls Try.prog 23 #[.pointer (some ⟨b, 0, none⟩), .slice B a.length cb] w fun e w' => e = .returned (.bool (hasB p a M)) ∧ Below w.heap.size w w' := by
  have hlt := h.lt
  obtain ⟨P, cp, A, c, xs, h1, h2, h3, h4, h5, h6, h7, h8, h9, h10⟩ := h.ex
  have hxl : xs.length = M.length := by rw [← h5]; simp [lsOf]
  have c1 : w.cell? ⟨b, 1, none⟩ = some (.slice A xs.length c) := by simp [World.cell?, show w.heap[b]? = _ from h1]
  have HL := Lib.hid (h.short (P := P) h4 h5)
  have HA := Lib.hid ha; have HS := Lib.hid h; have H5 := Lib.hid h5
  clear h1 h2 h3 h4 h5 ha h
  unfold maxLen at h9
  rw [hxl] at c1
  go_enter Try.func23, Try.ntmps23
  go_wp2
  go_loopw [11] (fun i wr => RHasRel w M a i wr) (fun i _ => M.length - (intOf i).toNat)
  case atStart => exact ⟨0, rfl, Nat.zero_le _, Below.refl _ _, fun z hz => by simp at hz⟩
  case round =>
    obtain ⟨k, rfl, hk, hB, hn⟩ := hrel
    have HN := Lib.hid hn; clear hn
    have c1' := (keep hB _ _ hlt).trans c1
    by_cases hlk : k < M.length
    · have hx := List.getElem?_eq_getElem (show k < xs.length by omega)
      generalize xs[k] = x at hx
      obtain ⟨ab, ao, rfl, hab, hc⟩ := (HL.out.on hB).at_ hx
      have hm := lsOf_at hx
      rw [H5.out] at hm
      have hx1 := (HL.out.on hB).each x (List.mem_of_getElem? hx)
      have HX1 := Lib.hid hx1; have HM := Lib.hid hm
      clear hx hm hx1
      have hnn : ¬ ((M.length : Int) ≤ (k : Int)) := by omega
      obtain ⟨r, hr⟩ : ∃ r, ordV x.l a = r := ⟨_, rfl⟩
      have HR := Lib.hid hr
      by_cases h0 : r = 0
      · subst h0
        have HE := Lib.hid ((ord_zero _ _).1 hr)
        clear hr
        go_wp2_with (go_at_call 34; refine (refOrder_any x.A B x.c cb x.l a _ HX1.out.1 (HA.out.on hB) HX1.out.2 la).mono ?_; rw [HR.out]; rintro e w4 ⟨rfl, h4⟩)
        go_ret
        exact ⟨ret_bool (by symm; rw [hasB_iff HS.out.perm HS.out.fit, ← HE.out]; exact List.mem_of_getElem? HM.out), on hB h4⟩
      · have h0' : (r == 0) = false := by simpa using h0
        have HE := Lib.hid (fun e : x.l = a => h0 (by rw [← hr, e]; exact ord_self _))
        clear hr
        go_wp2_with (go_at_call 34; refine (refOrder_any x.A B x.c cb x.l a _ HX1.out.1 (HA.out.on hB) HX1.out.2 la).mono ?_; rw [HR.out]; rintro e w4 ⟨rfl, h4⟩)
        go_roundw
        case rel => exact ⟨k + 1, by go_num, by omega, on hB h4, fun z hz => by
          rw [take_snoc' HM.out, List.mem_append, List.mem_singleton] at hz
          rcases hz with hz | rfl
          · exact HN.out z hz
          · exact HE.out⟩
        case measure => simp [intOf]; omega
    · have HF := Lib.hid (show hasB p a M = false by
        rw [Bool.eq_false_iff]; intro h
        rw [hasB_iff HS.out.perm HS.out.fit] at h
        exact HN.out a (by rw [List.take_of_length_le (by omega)]; exact h) rfl)
      go_wp2
      go_ret
      exact ⟨ret_bool HF.out.symm, hB⟩

/-! ### From -/
theorem RdI.take {w : World} {A : Option Addr} {l : List Int} (h : RdI w A l) (n : Nat) : RdI w A (l.take n) := fun i x hx => h i x (by
  rw [List.getElem?_take] at hx; split at hx
  · exact hx
  · cases hx)
theorem beg_snoc {p : List Int} {hd a : List V} {M : List (List V)} {k : Nat} (h : M[k]? = some a) : beg p hd (M.take (k + 1)) = beg p hd (M.take k) ++ (if ordV (pickL a (p.take hd.length)) hd = 0 then [a] else []) := by
  rw [take_snoc' h]; unfold beg; rw [List.filter_append]
  congr 1
  by_cases h0 : ordV (pickL a (p.take hd.length)) hd = 0 <;> simp [h0]
structure RFromR (w : World) (p : List Int) (hd : List V) (M : List (List V)) (xs : List Sl) (out i : Value) (wr : World) : Prop where
  ex : ∃ (k : Nat) (ys : List Sl) (A1 : Option Addr) (c1 : Nat), i = .int .i64 (k : Nat) ∧ k ≤ M.length ∧ Below w.heap.size w wr ∧ out = .slice A1 ys.length c1 ∧ wr.ownsRow w.heap.size 24 1 (.slice A1 ys.length c1) ys.length (ys.map Sl.val) ∧ (∀ y ∈ ys, y ∈ xs) ∧ lsOf ys = beg p hd (M.take k)
set_option maxHeartbeats 1000000 in
theorem refFrom_far {X : Nat → Prop} {b : Nat} {p : List Int} {M : List (List V)} (n : Nat) (B : Option Addr) (cb : Nat) (w : World) (h : RefS X w b p M) (hn : p.length < n) :
    Calls Try.prog 28 #[.pointer (some ⟨b, 0, none⟩), .slice B n cb] w fun e w' => e = .returned (.slice none 0 0) ∧ w = w' := by
  obtain ⟨P, cp, A, c, xs, h1, h2, h3, h4, h5, h6, h7, h8, h9, h10⟩ := h.ex
  have c0 : w.cell? ⟨b, 0, none⟩ = some (.slice P p.length cp) := by simp [World.cell?, show w.heap[b]? = _ from h1]
  have hn' : (p.length : Int) < (n : Int) := by omega
  clear h1 h2 h3 h4 h5 h
  go_enter Try.func28, Try.ntmps28
  go_wp2
  go_ret
  exact ⟨rfl, rfl⟩
set_option maxRecDepth 20000 in
set_option maxHeartbeats 8000000 in
theorem refFrom_any {X : Nat → Prop} {b : Nat} {p : List Int} {M : List (List V)} (B : Option Addr) (cb : Nat) (hd : List V) (w : World) (h : RefS X w b p M) (hr : RdV w B hd) (hle : hd.length ≤ p.length) (hM : M.length ≤ 100000) :
    Calls Try.prog 28 #[.pointer (some ⟨b, 0, none⟩), .slice B hd.length cb] w fun e w' => ∃ A c ys, e = .returned (.slice A (beg p hd M).length c) ∧ ToldR w' A c ys (beg p hd M) ∧ Below w.heap.size w w' := by
  have hlt := h.lt
  have hfew := h.few
  obtain ⟨P, cp, A, c, xs, h1, h2, h3, h4, h5, h6, h7, h8, h9, h10⟩ := h.ex
  have hxl : xs.length = M.length := by rw [← h5]; simp [lsOf]
  have c0 : w.cell? ⟨b, 0, none⟩ = some (.slice P p.length cp) := by simp [World.cell?, show w.heap[b]? = _ from h1]
  have c1 : w.cell? ⟨b, 1, none⟩ = some (.slice A xs.length c) := by simp [World.cell?, show w.heap[b]? = _ from h1]
  have HL := Lib.hid (h.short (P := P) h4 h5)
  have HA := Lib.hid hr; have HS := Lib.hid h; have H5 := Lib.hid h5; have HP := Lib.hid (h2.take hd.length)
  have etk : (p.take hd.length).length = hd.length := by rw [List.length_take]; omega
  have HK := Lib.hid (fun (x : Sl) (W : World) (hx : RdV W x.A x.l) (hq : RdI W P (p.take hd.length)) (hl : x.l.length ≤ 1000) => by
    have := refPick_any x.A P x.c cp x.l (p.take hd.length) W hx hq hl (by omega)
    rw [etk] at this; exact this)
  obtain ⟨i0, hi0, hz0, hz1, hz2⟩ := info_parts info_tup
  have HI := Lib.hid (And.intro hi0 (And.intro hz0 (And.intro hz1 hz2)))
  have hn' : ¬ ((p.length : Int) < (hd.length : Int)) := by omega
  have hi1 : (0 : Int) ≤ (hd.length : Int) := by omega
  have hi2 : (hd.length : Int) ≤ (cp : Int) := by omega
  have hi3 : hd.length ≤ cp := by omega
  clear h1 h2 h3 h4 h5 hr h hi0 hz0 hz1 hz2 etk
  unfold maxLen at h9 h7
  rw [hxl] at c1
  go_enter Try.func28, Try.ntmps28
  go_wp2
  go_loopw [5, 20] (fun out i wr => RFromR w p hd M xs out i wr) (fun _ i _ => M.length - (intOf i).toNat)
  case atStart => exact ⟨0, [], none, 0, rfl, Nat.zero_le _, Below.refl _ _, rfl, own_nil _ _ _ _, (fun _ h => by cases h), by simp [lsOf, beg]⟩
  case round =>
    obtain ⟨k, ys, A1, k1, rfl, hk, hB, rfl, hown, hsub, hbeg⟩ := hrel.ex
    clear hrel
    have HO := Lib.hid hown; have HSB := Lib.hid hsub; have HBG := Lib.hid hbeg
    have hyl : ys.length ≤ k := by
      have h1 := congrArg List.length hbeg
      have h2 := beg_len p hd (M.take k)
      rw [List.length_take] at h2
      simp [lsOf] at h1; omega
    clear hown hsub hbeg
    have c0' := (keep hB _ _ hlt).trans c0
    have c1' := (keep hB _ _ hlt).trans c1
    have hbl : b < wr.heap.size := Nat.lt_of_lt_of_le hlt hB.size
    by_cases hlk : k < M.length
    · have hx := List.getElem?_eq_getElem (show k < xs.length by omega)
      generalize xs[k] = x at hx
      obtain ⟨ab, ao, rfl, hab, hc⟩ := (HL.out.on hB).at_ hx
      have hm := lsOf_at hx
      rw [H5.out] at hm
      have hx1 := (HL.out.on hB).each x (List.mem_of_getElem? hx)
      have hxw : x.l.length ≤ 1000 := by rw [HS.out.fit.lens x.l (List.mem_of_getElem? hm)]; omega
      have HX1 := Lib.hid hx1; have HM := Lib.hid hm; have HXM := Lib.hid (List.mem_of_getElem? hx)
      clear hx hm hx1
      have hnn : ¬ ((M.length : Int) ≤ (k : Int)) := by omega
      have hj1 : (0 : Int) ≤ (k : Int) := by omega
      have hj2 : (k : Int) < (M.length : Int) := by omega
      obtain ⟨r, hr⟩ : ∃ r, ordV (pickL x.l (p.take hd.length)) hd = r := ⟨_, rfl⟩
      have hpl : (pickL x.l (p.take hd.length)).length ≤ maxLen := by have := pick_len x.l (p.take hd.length); rw [List.length_take] at this; unfold maxLen; omega
      have hhl : hd.length ≤ maxLen := by unfold maxLen; omega
      have HR := Lib.hid hr; have HPL := Lib.hid hpl; have HHL := Lib.hid hhl
      clear hr hpl hhl
      by_cases h0 : r = 0
      · subst h0
        go_wp2_with fail
        go_region_held3 (fun u => Below wr.heap.size wr u ∧ u.cell? ⟨b, 0, none⟩ = some (.slice P p.length cp) ∧ u.cell? ⟨b, 1, none⟩ = some (.slice (some ⟨ab, ao, none⟩) M.length c) ∧ u.cell? ⟨ab, ao + k, none⟩ = some (.slice x.A x.l.length x.c))
          (first | exact ⟨Below.refl _ _, c0', c1', hc⟩ | exact ⟨(Below.refl _ _).drew, c0', c1', hc⟩ | exact ⟨h5, (k5 _ _ hbl).trans c0', (k5 _ _ hbl).trans c1', (k5 _ _ hab).trans hc⟩ | exact ⟨h4, (k4 _ _ hbl).trans c0', (k4 _ _ hbl).trans c1', (k4 _ _ hab).trans hc⟩)
          ((first
            | (go_at_call 33; refine (HK.out x _ (HX1.out.1.on (Below.refl _ _).drew) ((HP.out.on hB).on (Below.refl _ _).drew) hxw).mono ?_; rintro e w4 ⟨A4, c4, rfl, r4, _, h4⟩; replace h4 : Below wr.heap.size wr w4 := (Below.refl wr.heap.size wr).drew.trans h4; have k4 := keep h4; have R4 := Lib.hid r4; clear r4)
            | (go_at_call 34; refine (refOrder_any A4 B c4 cb _ hd _ R4.out (HA.out.on (on hB h4)) HPL.out HHL.out).mono ?_; rw [HR.out]; rintro e w5 ⟨rfl, h5⟩; replace h5 : Below wr.heap.size wr w5 := h4.trans (h5.mono h4.size); have k5 := keep h5)))
        all_goals
          have d1 := (k5 _ 1 hbl).trans c1'
          have d2 := (k5 _ (ao + k) hab).trans hc
          have s5 := (on hB h5).size
          obtain ⟨hi0, hz0, hz1, hz2⟩ := HI.out
          go_wp2_with (at_builtin; refine wpList_append_own _ rfl (.tmp 41) (.tmp 49) _ rfl w.heap.size 24 i0 (.slice none 0 0) 1 24 Try.underlying23 hi0 hz0 hz1 hz2 rfl (by decide) (.slice A1 ys.length k1) ys.length (ys.map Sl.val) rfl (own_on (own_on HO.out h5) ((Below.refl _ _).alloc (Nat.le_refl _) _)) ⟨w5.heap.size, 0, none⟩ 1 1 [.slice x.A x.l.length x.c] rfl rfl (cell_one_new _ _ _) (by simp [Value.oneCell']) (by unfold maxLen; omega) (by omega) (by simp; omega) ?_; intro v' w6 ho' hg' _; obtain ⟨A6, c6, rfl⟩ := own_form ho')
          go_roundw
          case rel =>
            have hb6 : Below w.heap.size w (w5.alloc (.cells #[.slice x.A x.l.length x.c] 24)) := (on hB h5).alloc s5 _
            refine ⟨k + 1, ys ++ [x], A6, c6, by go_num, by omega, hb6.grown hg' hb6.size (own_base HO.out), by simp, by simpa [Sl.val] using ho', fun y hy => ?_, ?_⟩
            · rcases List.mem_append.1 hy with hy | hy
              · exact HSB.out y hy
              · rw [List.mem_singleton] at hy; subst hy; exact HXM.out
            · rw [beg_snoc HM.out, if_pos HR.out, ← HBG.out]; simp [lsOf]
          case measure => simp [intOf]; omega
      · have h0' : (r == 0) = false := by simpa using h0
        go_wp2_with fail
        go_region_held3 (fun u => Below wr.heap.size wr u ∧ u.cell? ⟨b, 0, none⟩ = some (.slice P p.length cp) ∧ u.cell? ⟨b, 1, none⟩ = some (.slice (some ⟨ab, ao, none⟩) M.length c) ∧ u.cell? ⟨ab, ao + k, none⟩ = some (.slice x.A x.l.length x.c))
          (first | exact ⟨Below.refl _ _, c0', c1', hc⟩ | exact ⟨(Below.refl _ _).drew, c0', c1', hc⟩ | exact ⟨h5, (k5 _ _ hbl).trans c0', (k5 _ _ hbl).trans c1', (k5 _ _ hab).trans hc⟩ | exact ⟨h4, (k4 _ _ hbl).trans c0', (k4 _ _ hbl).trans c1', (k4 _ _ hab).trans hc⟩)
          ((first
            | (go_at_call 33; refine (HK.out x _ (HX1.out.1.on (Below.refl _ _).drew) ((HP.out.on hB).on (Below.refl _ _).drew) hxw).mono ?_; rintro e w4 ⟨A4, c4, rfl, r4, _, h4⟩; replace h4 : Below wr.heap.size wr w4 := (Below.refl wr.heap.size wr).drew.trans h4; have k4 := keep h4; have R4 := Lib.hid r4; clear r4)
            | (go_at_call 34; refine (refOrder_any A4 B c4 cb _ hd _ R4.out (HA.out.on (on hB h4)) HPL.out HHL.out).mono ?_; rw [HR.out]; rintro e w5 ⟨rfl, h5⟩; replace h5 : Below wr.heap.size wr w5 := h4.trans (h5.mono h4.size); have k5 := keep h5)))
        all_goals
          go_wp2
          go_roundw
          case rel =>
            refine ⟨k + 1, ys, A1, k1, by go_num, by omega, on hB h5, rfl, own_on HO.out h5, HSB.out, ?_⟩
            rw [beg_snoc HM.out, if_neg (by rw [HR.out]; exact h0), List.append_nil]; exact HBG.out
          case measure => simp [intOf]; omega
    · have hke : k = M.length := by omega
      subst hke
      have HBG2 := Lib.hid (show lsOf ys = beg p hd M by have := HBG.out; rwa [List.take_of_length_le (Nat.le_refl _)] at this)
      have HYL := Lib.hid (show ys.length = (beg p hd M).length by rw [← HBG2.out]; simp [lsOf])
      go_wp2
      go_ret
      refine ⟨A1, k1, ys, by rw [HYL.out]; rfl, ⟨⟨own_rdC HO.out, fun y hy => (HL.out.on hB).each y (HSB.out y hy)⟩, HBG2.out, by rw [← HYL.out]; exact (own_cap HO.out).1, (own_cap HO.out).2, fun _ _ => Nat.zero_le _⟩, hB⟩
end Go.Proofs.Ytdpflmbnomeaaaa

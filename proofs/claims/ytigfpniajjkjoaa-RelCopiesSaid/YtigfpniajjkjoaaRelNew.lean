/-
  Package rel, for the law of copies: rows of the caller's own that are put, and overwritten; what All tells may be written; two relations side by side.
-/
import Derived.Test.YtigfpniajjkjoaaRelMany
import Derived.Test.YtigfpniajjkjoaaBtNewT
import Derived.Test.YtigfpniajjkjoaaTupApp
import Derived.Test.YtigfpniajjkjoaaTupUpto
namespace Go.Proofs.Ytigfpniajjkjoaa
open Go.RowKit FloM ValM Go.Shelf
set_option linter.unusedVariables false
set_option linter.unusedSimpArgs false
section
variable {p : List Int} {a : List V} {H K M : List (List V)}
theorem insS_le (p : List Int) (a : List V) : ∀ M : List (List V), M.length ≤ (insS p a M).length
  | [] => by simp [insS]
  | x :: M => by
    have ih := insS_le p a M
    unfold insS
    repeat' split
    all_goals simp <;> omega
theorem putM_ge : M.length ≤ (putM p a M).length := by
  unfold putM; split
  · exact insS_le _ _ _
  · exact Nat.le_refl _
theorem puts_ge : ∀ (K H : List (List V)), (puts p H).length ≤ (puts p (H ++ K)).length
  | [], H => by simp
  | a :: K, H => by
    have ih := puts_ge K (H ++ [a])
    rw [List.append_assoc, List.singleton_append, puts_snoc] at ih
    exact Nat.le_trans putM_ge ih
end
/-- A row of a caller's own: n values from its start on, none frozen; its block lies from lo on, ahead of hi. -/
def GivenAt (wr : World) (A : Option Addr) (n lo hi : Nat) : Prop := n = 0 ∨ ∃ g, A = some ⟨g, 0, none⟩ ∧ lo ≤ g ∧ g < hi ∧ ∃ m f, n * 3 ≤ m ∧ wr.rowIs g 25 m f
theorem GivenAt.own {w : World} {A : Option Addr} {c lo hi : Nat} {l : List V} {B : Nat} (h : w.ownsRow B 25 3 (.slice A l.length c) l.length (vcells l)) (hlo : lo ≤ B) (hhi : w.heap.size ≤ hi) : GivenAt w A l.length lo hi := by
  rcases FreshV.own h with e | ⟨g, cs, e, hg, hc, hl⟩
  · exact .inl e
  · have hlt := (Array.getElem?_eq_some_iff.1 hc).1
    exact .inr ⟨g, e, by omega, by omega, cs.size, fun i => cs.getD i .nilIface, hl, cs, hc, rfl, fun i hi => by simp [Array.getD, hi]⟩
theorem GivenAt.same {w w' : World} {A : Option Addr} {n lo hi : Nat} (h : GivenAt w A n lo hi) (hb : ∀ g, lo ≤ g → g < hi → w'.heap[g]? = w.heap[g]?) : GivenAt w' A n lo hi := by
  rcases h with e | ⟨g, e, h1, h2, m, f, h3, h4⟩
  · exact .inl e
  · exact .inr ⟨g, e, h1, h2, m, f, h3, h4.of_block (hb g h1 h2)⟩
/-- While a row between lo and hi is written. -/
structure RelO (w : World) (r n g0 : Nat) (gs : List Nat) (ps : List (List Int)) (H : List (List V)) (A : Option Addr) (m lo hi : Nat) (W : World) : Prop where
  s : RelS (fun k => (k = g0 ∨ k ∈ gs) ∨ lo ≤ k ∧ k < hi) W r n g0 gs ps H
  b : Below w.heap.size w W
  r0 : w.heap.size ≤ r
  x0 : ∀ k, (k = g0 ∨ k ∈ gs) → w.heap.size ≤ k
  xl : ∀ k, (k = g0 ∨ k ∈ gs) → k < lo
  lw : w.heap.size ≤ lo
  hs : hi ≤ W.heap.size
  giv : GivenAt W A m lo hi
section
variable {w W W' : World} {r n g0 m lo hi : Nat} {gs : List Nat} {ps : List (List Int)} {H H' : List (List V)} {A : Option Addr}
theorem OneR.given (h : OneR w r n g0 gs ps H W) (hb : Below W.heap.size W W') (hg : GivenAt W' A m W.heap.size W'.heap.size) : RelO w r n g0 gs ps H A m W.heap.size W'.heap.size W' :=
  ⟨RelG.on (RelG.more (Y := fun k => (k = g0 ∨ k ∈ gs) ∨ W.heap.size ≤ k ∧ k < W'.heap.size) (fun k hk => .inl hk) (fun k hk => hk.imp_right fun hk => hk.1) h.s) hb, h.b.trans (hb.mono h.b.size), h.r0, h.x0, h.x1, h.b.size, Nat.le_refl _, hg⟩
theorem RelO.x (h : RelO w r n g0 gs ps H A m lo hi W) : ∀ k, ((k = g0 ∨ k ∈ gs) ∨ lo ≤ k ∧ k < hi) → k < W.heap.size := fun k hk => by
  rcases hk with hk | hk
  · exact RelG.x_lt h.s k hk
  · have := h.hs; omega
theorem RelO.put (h : RelO w r n g0 gs ps H A m lo hi W) (hs : RelS (fun k => (k = g0 ∨ k ∈ gs) ∨ lo ≤ k ∧ k < hi) W' r n g0 gs ps H') (hF : Fr (fun k => k = g0 ∨ k ∈ gs) W.heap.size W W') : RelO w r n g0 gs ps H' A m lo hi W' :=
  ⟨hs, h.b.trans (hF.below h.b.size fun k hk hx => by have := h.x0 k hx; omega), h.r0, h.x0, h.xl, h.lw, Nat.le_trans h.hs hF.size, h.giv.same fun k h1 h2 => hF.block k (by have := h.hs; omega) (fun hx => by have := h.xl k hx; omega)⟩
theorem RelO.set {b : Nat} (h : RelO w r n g0 gs ps H (some ⟨b, 0, none⟩) m lo hi W) (h1 : lo ≤ b) (h2 : b < hi) (o : Nat) (v : Value) (hg : GivenAt (W.setCell ⟨b, o, none⟩ v) (some ⟨b, 0, none⟩) m lo hi) : RelO w r n g0 gs ps H (some ⟨b, 0, none⟩) m lo hi (W.setCell ⟨b, o, none⟩ v) := by
  have hF : Fr (· = b) W.heap.size W (W.setCell ⟨b, o, none⟩ v) := fr_set W b o _ _
  exact ⟨RelG.onF h.s hF (fun k hk => by subst hk; exact .inr ⟨h1, h2⟩) (fun k hk hx => by have := h.xl k hx; omega), h.b.trans (hF.below h.b.size fun k hk e => by have := h.lw; omega), h.r0, h.x0, h.xl, h.lw, Nat.le_trans h.hs hF.size, hg⟩
theorem RelO.back (h : RelO w r n g0 gs ps H A m lo hi W) : OneR w r n g0 gs ps H W :=
  ⟨RelG.sub (fun k hk => .inl hk) (fun k hk => hk) h.s, h.b, h.r0, h.x0, RelG.x_lt h.s⟩
end
/-! ### Two relations -/
structure TwoR (w : World) (n : Nat) (a c : RI) (Ha Hc : List (List V)) (W : World) : Prop where
  sa : a.at_ (fun k => a.x k ∨ c.x k) W n Ha
  sc : c.at_ (fun k => a.x k ∨ c.x k) W n Hc
  dac : ∀ k, a.x k → ¬ c.x k
  bw : Below w.heap.size w W
  x0 : ∀ k, (a.x k ∨ c.x k) → w.heap.size ≤ k
section
variable {w W W' : World} {n : Nat} {a c : RI} {Ha Hc H' : List (List V)}
theorem TwoR.x1 (h : TwoR w n a c Ha Hc W) : ∀ k, (a.x k ∨ c.x k) → k < W.heap.size := fun k hk => hk.elim (h.sa.lt k) (h.sc.lt k)
theorem TwoR.on (h : TwoR w n a c Ha Hc W) (hb : Below W.heap.size W W') : TwoR w n a c Ha Hc W' :=
  ⟨RelG.on h.sa hb, RelG.on h.sc hb, h.dac, h.bw.trans (hb.mono h.bw.size), h.x0⟩
theorem TwoR.start {r g0 r' g0' : Nat} {gs gs' : List Nat} {ps : List (List Int)} {H : List (List V)} (h : OneR w r n g0 gs ps H W) (N : NewZ (fun k => k = g0 ∨ k ∈ gs) W n ps H r' g0' gs' W') : TwoR w n ⟨r, g0, gs, ps⟩ ⟨r', g0', gs', ps⟩ H H W' :=
  ⟨RelG.on (RelG.more (X := fun k => k = g0 ∨ k ∈ gs) (fun k hk => .inl hk) (fun k hk => hk.imp_right fun hk => N.x0 k hk) h.s) N.b, N.s, fun k hk hc => by have := h.x1 k hk; have := N.x0 k hc; omega, h.b.trans (N.b.mono h.b.size), fun k hk => by
    rcases hk with hk | hk
    · exact h.x0 k hk
    · exact Nat.le_trans h.b.size (N.x0 k hk)⟩
theorem TwoR.putc (h : TwoR w n a c Ha Hc W) (hs : c.at_ (fun k => a.x k ∨ c.x k) W' n H') (hF : Fr c.x W.heap.size W W') : TwoR w n a c Ha H' W' :=
  ⟨RelG.onF h.sa hF (fun k hk => .inr hk) (fun k hk ha => h.dac k ha hk), hs, h.dac, fr_below h.bw hF fun k hk => h.x0 k (.inr hk), h.x0⟩
theorem TwoR.put {A : Option Addr} {ca : Nat} {x : List V} (h : TwoR w n a c Ha Hc W) (hr : RdV w A x) (hl : Hc.length < 100000) : Calls Try.prog 9 #[.pointer (some ⟨c.r, 0, none⟩), .slice A x.length ca] W fun e w' => e = .returned (.tuple #[.bool (putB (upto n) x (puts (upto n) Hc)), .int .i64 (putE (upto n) x)]) ∧ TwoR w n a c Ha (Hc ++ [x]) w' ∧ Fr c.x W.heap.size W w' :=
  (relPutS_any A ca x W h.sc (hr.on h.bw) (off_old hr fun k hk => h.x0 k (.inr hk)) h.x1 hl).mono (by rintro e w' ⟨rfl, hs, hF⟩; exact ⟨rfl, h.putc hs hF, hF⟩)
theorem TwoR.has {A : Option Addr} {ca : Nat} {x : List V} (h : TwoR w n a c Ha Hc W) (hr : RdV w A x) : Calls Try.prog 15 #[.pointer (some ⟨a.r, 0, none⟩), .slice A x.length ca] W fun e w' => e = .returned (.bool (hasB (upto n) x (puts (upto n) Ha))) ∧ Below W.heap.size W w' := relHas_any A ca x W h.sa (hr.on h.bw)
theorem TwoR.hasc {A : Option Addr} {ca : Nat} {x : List V} (h : TwoR w n a c Ha Hc W) (hr : RdV w A x) : Calls Try.prog 15 #[.pointer (some ⟨c.r, 0, none⟩), .slice A x.length ca] W fun e w' => e = .returned (.bool (hasB (upto n) x (puts (upto n) Hc))) ∧ Below W.heap.size W w' := relHas_any A ca x W h.sc (hr.on h.bw)
end
/-! ### All, whose rows may be written -/
section
variable {X : Nat → Prop} {r n g0 : Nat} {gs : List Nat} {ps : List (List Int)} {M0 : List (List V)} {Ms : Nat → List (List V)}
/-- What All hands back: rows of new blocks. -/
structure SaysN (L : List (List V)) (w : World) (w' : World) (A : Option Addr) (c : Nat) (xs : List Sl) : Prop where
  vals : lsOf xs = L
  rd : RdC w' A (xs.map Sl.val)
  own : ∀ a, A = some a → w.heap.size ≤ a.block
  ty : ∀ a, A = some a → ∃ cs z, w'.heap[a.block]? = some (.cells cs 32 z)
  fresh : ∀ x ∈ xs, FreshV w.heap.size w' x
  rdl : RdL w' A xs
  b : Below w.heap.size w w'
theorem relAllN_any (w : World) (h : RelG X w r n g0 gs ps M0 Ms) (hX : ∀ k, X k → k < w.heap.size) (hM : M0.length ≤ 100000) (hl : ∀ x ∈ M0, x.length ≤ 1000) : Calls Try.prog 10 #[.pointer (some ⟨r, 0, none⟩)] w fun e w' => ∃ A c xs, e = .returned (.slice A M0.length c) ∧ SaysN M0 w w' A c xs := by
  obtain ⟨P0, c0, I, ci, h1, h2, h3⟩ := h.cells
  obtain ⟨a0, a1, a2⟩ := cell3 h1
  have HT := Lib.hid h2.t; have HX := Lib.hid hX; have HL := Lib.hid hl; clear h h1 h2 h3 hX hl
  go_enter Try.func10, Try.ntmps10
  go_wp2_with (first
    | (go_at_call 32; refine (allN_any _ HT.out HX.out).mono ?_; rintro e w5 ⟨gf, lb, rfl, hen, hq, hb⟩; have HQ := Lib.hid hq; have HEN := Lib.hid hen; have HB := Lib.hid hb; clear hb hq hen)
    | (go_at_call 31; refine (collectN_any w5 w5 HEN.out HQ.out (Below.refl _ _) (Nat.le_refl _) (by omega) (fun k hk => Nat.lt_of_lt_of_le (HX.out k hk) HB.out.size)).mono ?_; rintro e w6 ⟨A, c, xs, hs, hfs, hty⟩; have he := hs.val; subst he; have HS := Lib.hid hs; have HFS := Lib.hid hfs; have HTY := Lib.hid hty; clear hs hfs hty))
  go_ret
  exact ⟨A, c, xs, rfl, HS.out.vals, HS.out.rd.rd, fun a ha => Nat.le_trans HB.out.size (HS.out.own a ha), HTY.out, fun x hx => (HFS.out x hx).mono HB.out.size, HS.out.rd.rdL fun x hx => by
    have := HL.out x.l (by rw [← HS.out.vals]; exact List.mem_map_of_mem hx)
    unfold maxLen; omega, HB.out.trans (HS.out.b.mono HB.out.size)⟩
end
/-- While rows that were told are written: what lay there stays. -/
structure WrN (w0 : World) (A : Option Addr) (xs : List Sl) (W : World) : Prop where
  b : Below w0.heap.size w0 W
  rd : RdC W A (xs.map Sl.val)
  ty : ∀ a, A = some a → ∃ cs z, W.heap[a.block]? = some (.cells cs 32 z)
  fresh : ∀ x ∈ xs, FreshV w0.heap.size W x
section
variable {w0 W : World} {A : Option Addr} {xs : List Sl}
theorem SaysN.wr {L : List (List V)} {w w' : World} {c : Nat} (h : SaysN L w w' A c xs) : WrN w A xs w' := ⟨h.b, h.rd, h.ty, h.fresh⟩
theorem WrN.on {W' : World} (h : WrN w0 A xs W) (hb : Below W.heap.size W W') : WrN w0 A xs W' :=
  ⟨h.b.trans (hb.mono h.b.size), h.rd.on hb, fun a ha => by
    obtain ⟨cs, z, hc⟩ := h.ty a ha
    exact ⟨cs, z, (hb.block _ (Array.getElem?_eq_some_iff.1 hc).1).trans hc⟩, fun x hx => (h.fresh x hx).on hb⟩
theorem FreshV.set {N b o : Nat} {W : World} {x : Sl} {v : Value} (h : FreshV N W x) : FreshV N (W.setCell ⟨b, o, none⟩ v) x := by
  rcases h with h | ⟨g, cs, e, hn, hg, hl⟩
  · exact .inl h
  · by_cases hb : g = b
    · subst hb
      exact .inr ⟨g, (cs.toList.set o v).toArray, e, hn, by have := heap_set' (o := o) (cs := cs.toList) v (by simpa using hg); simpa using this, by simpa using hl⟩
    · exact .inr ⟨g, cs, e, hn, (Below.heap_setCell _ _ _ _ (by simpa using hb)).trans hg, hl⟩
theorem WrN.set {b o : Nat} {v : Value} {x : Sl} (h : WrN w0 A xs W) (hx : x ∈ xs) (hA : x.A = some ⟨b, 0, none⟩) (hp : 0 < x.l.length) : WrN w0 A xs (W.setCell ⟨b, o, none⟩ v) := by
  obtain ⟨hb, ds, h2⟩ : w0.heap.size ≤ b ∧ ∃ cs, W.heap[b]? = some (.cells cs 25 (0, 0)) := by
    rcases h.fresh x hx with e | ⟨g, cs, e, hn, hg, hl⟩
    · omega
    · rw [hA] at e; injection e with e; injection e with e; subst e
      exact ⟨hn, cs, hg⟩
  have hne : ∀ a, A = some a → a.block ≠ b := fun a ha e => by
    obtain ⟨cs, z, h1⟩ := h.ty a ha
    rw [e, h2] at h1; cases h1
  refine ⟨h.b.setCell hb _, fun j u hu => ?_, fun a ha => ?_, fun x hx => (h.fresh x hx).set⟩
  · obtain ⟨g, k, e, hl, hc⟩ := h.rd j u hu
    have := hne _ e
    exact ⟨g, k, e, by simpa [World.setCell] using hl, (World.cell?_of_block (Below.heap_setCell W _ v g (by simpa using this))).trans hc⟩
  · obtain ⟨cs, z, h1⟩ := h.ty a ha
    exact ⟨cs, z, (Below.heap_setCell W _ v _ (by simpa using hne a ha)).trans h1⟩
/-- Where a told tuple's value k lies, and that it may be written. -/
theorem WrN.at_ {i k : Nat} {x : Sl} (h : WrN w0 A xs W) (hx : xs[i]? = some x) (hk : k < x.l.length) : ∃ g, x.A = some ⟨g, 0, none⟩ ∧ w0.heap.size ≤ g ∧ g < W.heap.size ∧ ∃ m f, x.l.length * 3 ≤ m ∧ W.rowIs g 25 m f := by
  rcases h.fresh x (List.mem_of_getElem? hx) with e | ⟨g, cs, e, hn, hg, hl⟩
  · omega
  · exact ⟨g, e, hn, (Array.getElem?_eq_some_iff.1 hg).1, cs.size, fun i => cs.getD i .nilIface, hl, cs, hg, rfl, fun i hi => by simp [Array.getD, hi]⟩
end
set_option maxHeartbeats 1000000 in
theorem relFind_nil (u v : Value) (w : World) : Calls Try.prog 17 #[.pointer none, u, v] w fun e w' => e = .returned (.slice none 0 0) ∧ Below w.heap.size w w' := by
  go_enter Try.func17, Try.ntmps17
  go_wp2
  go_ret
  exact ⟨rfl, (Below.refl _ _).alloc (Nat.le_refl _) _⟩
end Go.Proofs.Ytigfpniajjkjoaa

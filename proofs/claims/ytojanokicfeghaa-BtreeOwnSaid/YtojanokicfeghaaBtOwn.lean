/-
  A tree while rows of the caller's are written, and while it grows in a range over all its tuples.
-/
import Derived.Test.YtojanokicfeghaaBtTwo
import Derived.Test.YtojanokicfeghaaBtMergeN
import Derived.Test.YtojanokicfeghaaBtMerL
import Derived.Test.YtojanokicfeghaaTupApp
import Derived.Test.YtojanokicfeghaaTupUpto
namespace Go.Proofs.Ytojanokicfeghaa
open Go.RowKit FloM ValM Go.Shelf
set_option linter.unusedVariables false
set_option linter.unusedSimpArgs false

theorem upto_perm (n : Nat) : permB (upto n) = true := perm_iff.2 ⟨fun x hx => by rw [upto_len]; exact upto_mem.1 hx, upto_nodup n⟩
theorem upto_snoc (k : Nat) : upto (k + 1) = upto k ++ [(k : Int)] := by simp [upto, List.range_succ]
theorem results_cellB {fn : Func} {p : Tmp} (h : fn.results = #[.cell p 4]) (tmps : Array Value) (w : World) (a : Addr) (v : Value) (hp : tmps.getD p undef = .pointer (some a)) (hc : w.cell? a = some v) : (results fn tmps).run Try.prog w = .ok v w := by
  have hp' : tmps[p]?.getD undef = .pointer (some a) := by simpa using hp
  simp [results, h, hp', asAddr, loadVar, Try.underlying4, hc]
theorem cell_set_block (W : World) (b o : Nat) (p : Addr) {v : Value} (h : b ≠ p.block) : (W.setCell p v).cell? ⟨b, o, none⟩ = W.cell? ⟨b, o, none⟩ := World.cell?_of_block (Below.heap_setCell W p v b h)
theorem frozen_of_block {W w1 : World} {b o : Nat} (h : w1.heap[b]? = W.heap[b]?) : w1.frozen? ⟨b, o, none⟩ = W.frozen? ⟨b, o, none⟩ := by simp [World.frozen?, h]
/-- A row of a caller's own: n values from its start on, none frozen; its block lies from lo on, ahead of hi. -/
def GivenAt (wr : World) (A : Option Addr) (n lo hi : Nat) : Prop := n = 0 ∨ ∃ g, A = some ⟨g, 0, none⟩ ∧ lo ≤ g ∧ g < hi ∧ ∃ m f, n * 3 ≤ m ∧ wr.rowIs g 25 m f
theorem GivenAt.own {w : World} {A : Option Addr} {c lo hi : Nat} {l : List V} {B : Nat} (h : w.ownsRow B 25 3 (.slice A l.length c) l.length (vcells l)) (hlo : lo ≤ B) (hhi : w.heap.size ≤ hi) : GivenAt w A l.length lo hi := by
  rcases Nat.eq_zero_or_pos l.length with e | e
  · exact .inl e
  · refine .inr ?_
    obtain ⟨g', cap', hv', hb', hlt'⟩ := h.form e
    rcases h.2 with ⟨_, h0⟩ | ⟨g, cap, cur, hv, hbg, hg, hnc, _, hcs, _⟩
    · omega
    · injection hv with hA _ hc
      subst hA
      injection hv' with hA' _ _
      injection hA' with hA'
      injection hA' with e1 _ _
      subst e1
      exact ⟨g, rfl, by omega, by omega, cap * 3, fun i => cur.getD i .nilIface, by omega, cur, hg, hcs, fun i hi => by
        have hi' : i < cur.size := by omega
        simp [Array.getD, hi']⟩
theorem GivenAt.same {w w' : World} {A : Option Addr} {n lo hi : Nat} (h : GivenAt w A n lo hi) (hb : ∀ g, lo ≤ g → g < hi → w'.heap[g]? = w.heap[g]?) : GivenAt w' A n lo hi := by
  rcases h with e | ⟨g, e, h1, h2, m, f, h3, h4⟩
  · exact .inl e
  · exact .inr ⟨g, e, h1, h2, m, f, h3, h4.of_block (hb g h1 h2)⟩
/-- One tree, and the box of its pointer. -/
structure OwnT (w : World) (g bt : Nat) (p : List Int) (M : List (List V)) (W : World) : Prop where
  t : OneT w g p M W
  box : W.heap[bt]? = some (.cells #[.pointer (some ⟨g, 0, none⟩)] 29 (0, 0))
section
variable {w w' W W' : World} {g bt lo hi : Nat} {p : List Int} {M M' : List (List V)}
theorem OwnT.lt (h : OwnT w g bt p M W) : bt < W.heap.size := (Array.getElem?_eq_some_iff.1 h.box).1
theorem OwnT.ne (h : OwnT w g bt p M W) : bt ≠ g := fun e => by
  obtain ⟨cs, hc⟩ := h.t.t.obj
  have := h.box
  rw [e, hc] at this
  cases this
theorem OwnT.on (h : OwnT w g bt p M W) (hb : Below W.heap.size W W') : OwnT w g bt p M W' := ⟨h.t.on hb, (hb.block _ h.lt).trans h.box⟩
theorem OwnT.put (h : OwnT w g bt p M W) (ht : TreeS (· = g) W' g p M') (hF : Fr (· = g) W.heap.size W W') : OwnT w g bt p M' W' := ⟨h.t.put ht hF, (hF.block _ h.lt h.ne).trans h.box⟩
theorem OwnT.cell (h : OwnT w g bt p M W) : W.cell? ⟨bt, 0, none⟩ = some (.pointer (some ⟨g, 0, none⟩)) := cell_box' h.box
/-- While a row between lo and hi is written. -/
structure OwnG (w : World) (g bt lo hi : Nat) (p : List Int) (M : List (List V)) (A : Option Addr) (n : Nat) (W : World) : Prop where
  t : TreeS (fun k => k = g ∨ lo ≤ k ∧ k < hi) W g p M
  b : Below w.heap.size w W
  g0 : w.heap.size ≤ g
  gl : g < lo
  bl : bt < lo
  lw : w.heap.size ≤ lo
  hs : hi ≤ W.heap.size
  box : W.heap[bt]? = some (.cells #[.pointer (some ⟨g, 0, none⟩)] 29 (0, 0))
  giv : GivenAt W A n lo hi
theorem OwnT.given (h : OwnT w g bt p M W) (hb : Below W.heap.size W W') {A : Option Addr} {n : Nat} (hg : GivenAt W' A n W.heap.size W'.heap.size) : OwnG w g bt W.heap.size W'.heap.size p M A n W' :=
  ⟨(h.t.t.more (Y := fun k => k = g ∨ W.heap.size ≤ k ∧ k < W'.heap.size) (fun k h => .inl h) (fun k h => h.imp_right fun e => e.1)).on hb, h.t.b.trans (hb.mono h.t.b.size), h.t.g0, h.t.t.lt, h.lt, h.t.b.size, Nat.le_refl _, (hb.block _ h.lt).trans h.box, hg⟩
variable {A : Option Addr} {n : Nat}
theorem OwnG.x (h : OwnG w g bt lo hi p M A n W) : ∀ i, (i = g ∨ lo ≤ i ∧ i < hi) → i < W.heap.size := fun i hi => by
  rcases hi with rfl | hi
  · exact h.t.lt
  · have := h.hs; omega
theorem OwnG.put (h : OwnG w g bt lo hi p M A n W) (ht : TreeS (fun k => k = g ∨ lo ≤ k ∧ k < hi) W' g p M') (hF : Fr (· = g) W.heap.size W W') : OwnG w g bt lo hi p M' A n W' :=
  ⟨ht, h.b.trans (hF.below h.b.size fun k hk e => by have := h.g0; omega), h.g0, h.gl, h.bl, h.lw, Nat.le_trans h.hs hF.size, (hF.block _ (Array.getElem?_eq_some_iff.1 h.box).1 (by have := h.bl; have := h.gl; intro e; subst e; obtain ⟨cs, hc⟩ := h.t.obj; have h2 := h.box; rw [hc] at h2; cases h2)).trans h.box,
    h.giv.same fun k h1 h2 => hF.block k (by have := h.hs; omega) (by have := h.gl; omega)⟩
theorem OwnG.set {b : Nat} (h : OwnG w g bt lo hi p M (some ⟨b, 0, none⟩) n W) (h1 : lo ≤ b) (h2 : b < hi) (o : Nat) (v : Value) (hg : GivenAt (W.setCell ⟨b, o, none⟩ v) (some ⟨b, 0, none⟩) n lo hi) : OwnG w g bt lo hi p M (some ⟨b, 0, none⟩) n (W.setCell ⟨b, o, none⟩ v) := by
  have hF : Fr (· = b) W.heap.size W (W.setCell ⟨b, o, none⟩ v) := fr_set W b o _ _
  have hbx := (Array.getElem?_eq_some_iff.1 h.box).1
  exact ⟨h.t.onF (hF.sub fun k _ hk => by subst hk; exact .inr ⟨h1, h2⟩) (hF.block _ h.t.lt (by have := h.gl; omega)), h.b.trans (hF.below h.b.size fun k hk e => by have := h.lw; omega), h.g0, h.gl, h.bl, h.lw, Nat.le_trans h.hs hF.size, (hF.block _ hbx (by have := h.bl; omega)).trans h.box, hg⟩
theorem OwnG.back (h : OwnG w g bt lo hi p M A n W) : OwnT w g bt p M W :=
  ⟨⟨h.t.sub (fun b hb => .inl hb) rfl, h.b, h.g0⟩, h.box⟩
end
/-- A range whose variable is laid in slot d. -/
theorem wpIn_seq1 (d : Tmp) {n : Nat} {g : Operand} {ps : Array Tmp} {assign body : Code} {Q : Exit → Act → World → Prop} {a : Act} {w w0 : World}
    {gf : Nat} {lb : Array Value} (hg : a.eval g = .func (.func gf) #[] lb) (eg : ∀ args w, (callFunc gf args).run Try.prog w = .ok (.enter gf args) w)
    {X : Nat → Prop} {n₀ : Nat} {L : List (List V)} (hseq : SeqR gf lb X n₀ L w0) (hb0 : Below w0.heap.size w0 w) (hn₀ : n₀ ≤ w.heap.size) (hps : ps.size = 1)
    (I : List Sl → World → Prop) (hI : ∀ s A B, I s A → Calm w.heap.size A B → I s B) (h0 : I [] w)
    (hassign : ∀ (l : Nat) (x : Sl) (W : World) (K : Act → World → Prop), K { tmps := ((ps.zip #[x.val]).foldl (fun t (p, v) => t.setIfInBounds p v) a.tmps).setIfInBounds d x.val, defers := [] } W →
      assign.wpIn (Fence.wide.inRound l) 0 Try.prog (Exit.then K (fun _ _ _ => False)) { tmps := (ps.zip #[x.val]).foldl (fun t (p, v) => t.setIfInBounds p v) a.tmps, defers := [] } W)
    (hbody : ∀ (l : Nat) (pre : List Sl) (x : Sl) (W : World), w.heap.size ≤ l → I pre W → pre.map Sl.l ++ [x.l] <+: L → SlOk X W x → body.wpIn (Fence.wide.inRound l) 0 Try.prog (postR w.heap.size X n₀ I (fun _ _ _ => False) (pre ++ [x]) W) { tmps := ((ps.zip #[x.val]).foldl (fun t (p, v) => t.setIfInBounds p v) a.tmps).setIfInBounds d x.val, defers := [] } W)
    (hdone : ∀ (D : Nat) (xs : List Sl) (W : World), w.heap.size ≤ D → xs.map Sl.l = L → I xs W → W.heap[D]? = some (.deferred (some [])) → Q .normal { a with defers := { target := .collected D, args := #[] } :: a.defers } W) :
    (Code.rangeFunc g ps assign body).wpIn Fence.wide n Try.prog Q a w :=
  wpIn_seq hg eg hseq hb0 hn₀ hps I (fun _ _ _ => False) hI (fun _ _ _ _ h _ => h) h0 (fun x => { tmps := ((ps.zip #[x.val]).foldl (fun t (p, v) => t.setIfInBounds p v) a.tmps).setIfInBounds d x.val, defers := [] })
    hassign hbody hdone (fun D c pre W _ _ h _ => h.elim)
/-! ### Put in a range over all -/
theorem RdT.more {X Y : Nat → Prop} {w : World} {A : Option Addr} {xs : List Sl} (hY : ∀ k, Y k → X k ∨ w.heap.size ≤ k) (hne : xs ≠ []) (h : RdT X w A xs) : RdT Y w A xs :=
  ⟨h.rd, off_more hY h.off (h.rd.inHeap (by simpa using hne)), fun x hx => (h.each x hx).more hY⟩
/-- Between two rounds: nb counts them, and the tree has M, or x besides. -/
structure GrowI (w : World) (g nb : Nat) (p : List Int) (M : List (List V)) (x : List V) (k : Nat) (W : World) : Prop where
  t : TreeS (fun k => k = g ∨ k = nb) W g p (if k = 0 then M else putM p x M)
  fr : Fr (fun k => k = g ∨ k = nb) w.heap.size w W
  cnt : W.heap[nb]? = some (.cells #[.int .i64 (k : Nat)] 3 (0, 0))
section
variable {w W W' : World} {g nb k : Nat} {p : List Int} {M : List (List V)} {x : List V}
theorem GrowI.calm (h : GrowI w g nb p M x k W) (hc : Calm w.heap.size W W') : GrowI w g nb p M x k W' :=
  ⟨h.t.calm hc, h.fr.trans (Fr.of (hc.below h.fr.size)), hc.same _ _ h.cnt (.inr rfl)⟩
theorem putM_twice {a : List V} (hp : permB p = true) (h : FitS p M) : putM p a (putM p a M) = putM p a M := by
  have := mergeM_again (l := [a]) hp h
  simpa [mergeM] using this
theorem GrowI.next (h : GrowI w g nb p M x k W) (hp : permB p = true) (hM : FitS p M) (hne : g ≠ nb) (hgw : g < w.heap.size) (hnw : nb < w.heap.size)
    (ht : TreeS (fun k => k = g ∨ k = nb) W' g p (putM p x (if k = 0 then M else putM p x M))) (hF : Fr (· = g) W.heap.size W W') :
    GrowI w g nb p M x (k + 1) (W'.setCell ⟨nb, 0, none⟩ (.int .i64 ((k : Int) + 1))) ∧ Fr (fun k => k = g ∨ k = nb) W.heap.size W (W'.setCell ⟨nb, 0, none⟩ (.int .i64 ((k : Int) + 1))) := by
  have hl := (Array.getElem?_eq_some_iff.1 h.cnt).1
  have hs := hF.size
  have hfs : Fr (· = nb) W'.heap.size W' (W'.setCell ⟨nb, 0, none⟩ (.int .i64 ((k : Int) + 1))) := fr_set W' _ 0 _ _
  have hc' := (hF.block _ hl (fun e => hne e.symm)).trans h.cnt
  have e : (if k + 1 = 0 then M else putM p x M) = putM p x (if k = 0 then M else putM p x M) := by
    rw [if_neg (by omega)]; split
    · rfl
    · exact (putM_twice hp hM).symm
  have hff : Fr (fun k => k = g ∨ k = nb) W.heap.size W (W'.setCell ⟨nb, 0, none⟩ (.int .i64 ((k : Int) + 1))) :=
    (hF.sub fun i _ hi => .inl hi).trans ((hfs.sub fun i _ hi => .inr hi).mono hs)
  refine ⟨⟨by rw [e]; exact ht.other (.inr rfl) hne hfs, h.fr.trans (hff.mono h.fr.size), ?_⟩, hff⟩
  have := heap_set' (w := W') (D := nb) (o := 0) (cs := [.int .i64 (k : Nat)]) (t := 3) (z := (0, 0)) (.int .i64 ((k : Int) + 1)) hc'
  simp only [List.set_cons_zero] at this
  rw [show ((k : Int) + 1) = ((k + 1 : Nat) : Int) by omega] at this ⊢
  exact this
end
end Go.Proofs.Ytojanokicfeghaa

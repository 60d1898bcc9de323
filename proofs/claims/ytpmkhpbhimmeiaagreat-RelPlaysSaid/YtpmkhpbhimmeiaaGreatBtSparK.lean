/-
  Contract of sparse: a tree out of as many tuples as it must have.
-/
import Derived.Test.YtpmkhpbhimmeiaaGreatBtNode
import Derived.Deep.CutRange
import Derived.Deep.RegionLaw
import Derived.Deep.AppendLies
import Derived.Maps.AppendAt
namespace Go.Proofs.YtpmkhpbhimmeiaaGreat
open Go.RowKit FloM ValM
set_option linter.unusedVariables false
set_option linter.unusedSimpArgs false

/-- A tree of k levels whose root has m tuples, with those of xs in order. -/
def SparseP (X : Nat → Prop) (k m : Nat) (xs : List Sl) (w : World) (e : Ending) (w' : World) : Prop := ∃ t : Nd, e = .returned t.val ∧ IsN X w' k t ∧ flat k t = xs ∧ t.ts.length = m ∧ Below w.heap.size w w'
set_option maxHeartbeats 4000000 in
theorem sparse_leaf {X : Nat → Prop} (A : Option Addr) (c : Nat) (xs : List Sl) (m : Nat) (w : World) (h : RdT X w A xs) (hl : xs.length < m) (hm : m ≤ 1000) (hX : ∀ k, X k → k < w.heap.size) :
    Calls Tryz.prog 84 #[.slice A xs.length c, .int .i64 (m : Int)] w (SparseP X 0 xs.length xs w) := by
  have H := Lib.hid h; have HX := Lib.hid hX; clear h hX
  have HL := Lib.hid (show (xs.map Sl.val).length = xs.length by simp)
  have hcl := Lib.hid (cloneT_any A c (xs.map Sl.val) w H.out.rd (tup_cells xs) (by rw [HL.out]; omega))
  go_enter Tryz.func84, Tryz.ntmps84
  go_wp2_with (go_at_call 109; refine (HL.out ▸ hcl.out).mono ?_; rintro e w1 ⟨A1, k1, he, hr1, ho1, hk1, hk1', _, hb1⟩; rw [HL.out] at he hk1; subst he; replace hr1 := Lib.hid hr1; replace ho1 := Lib.hid ho1; replace hk1' := Lib.hid hk1'; replace hk1 := Lib.hid hk1)
  go_ret
  have hb2 := hb1.alloc hb1.size (.cells #[.slice A1 xs.length k1, .slice none 0 0] 125)
  have hs := hb1.size
  have h12 : Below w1.heap.size w1 (w1.alloc (.cells #[.slice A1 xs.length k1, .slice none 0 0] 125)) := (Below.refl _ _).alloc (Nat.le_refl _) _
  refine ⟨.mk w1.heap.size xs [], rfl, IsN.leafOf (node_new (heap_alloc_new _ _) (fun hx => by have := HX.out _ hx; omega) rfl rfl ⟨hr1.out.on h12, fun a ha hx => by have := ho1.out a ha; have := HX.out _ hx; omega, fun z hz => (H.out.each z hz).on hb2⟩ RdC.nil (Off.none _) hk1.out (Nat.le_refl _) hk1'.out (by unfold maxLen; omega)), rfl, rfl, hb2⟩
end Go.Proofs.YtpmkhpbhimmeiaaGreat
/-
  Contract of sparse, where there are kids.
-/
namespace Go.Proofs.YtpmkhpbhimmeiaaGreat
open Go.RowKit FloM ValM
set_option linter.unusedVariables false
set_option linter.unusedSimpArgs false

theorem NodeAt.sub {X Y : Nat → Prop} {w : World} {b : Nat} {ts : List Sl} {ps : List Value} {At : Option Addr} {ct : Nat} {Ak : Option Addr} {ck : Nat} (hXY : ∀ b, X b → Y b) (h : NodeAt Y w b ts ps At ct Ak ck) : NodeAt X w b ts ps At ct Ak ck :=
  ⟨h.lt, fun hx => h.off (hXY _ hx), h.c0, h.c1, ⟨h.rt.rd, fun a ha hx => h.rt.off a ha (hXY _ hx), fun x hx => ⟨(h.rt.each x hx).rd, fun a ha hx' => (h.rt.each x hx).off a ha (hXY _ hx'), (h.rt.each x hx).cap, (h.rt.each x hx).ty⟩⟩, h.rk, fun hn a ha hx => h.offk hn a ha (hXY _ hx), h.capt, h.capk, h.capt', h.capk'⟩
theorem IsN.sub {X Y : Nat → Prop} {w : World} (hXY : ∀ b, X b → Y b) : ∀ {k : Nat} {t : Nd}, IsN Y w k t → IsN X w k t
  | 0, .mk b ts ks, ⟨⟨At, ct, Ak, ck, h⟩, e⟩ => ⟨⟨At, ct, Ak, ck, h.sub hXY⟩, e⟩
  | k + 1, .mk b ts ks, ⟨⟨At, ct, Ak, ck, h⟩, e, hk⟩ => ⟨⟨At, ct, Ak, ck, h.sub hXY⟩, e, fun t ht => ⟨IsN.sub hXY (hk t ht).1, (hk t ht).2⟩⟩

/-- X, and what was made between w0 and W. -/
def Xup (X : Nat → Prop) (w0 W : World) : Nat → Prop := fun b => X b ∨ (w0.heap.size ≤ b ∧ b < W.heap.size)
/-- A kid that was made between W and W', and stands still; of the blocks that are still written (G) none was made meanwhile. -/
def KidOk (X : Nat → Prop) (w0 : World) (k : Nat) (t : Nd) (G : Nat → Prop) (wr : World) : Prop := ∃ W W', w0.heap.size ≤ W.heap.size ∧ IsN (Xup X w0 W) W' k t ∧ Fr (Xup X w0 W) W'.heap.size W' wr ∧ W.heap.size ≤ W'.heap.size ∧ ∀ g, G g → g < W.heap.size ∨ W'.heap.size ≤ g
theorem KidOk.isN {X : Nat → Prop} {w0 : World} {k : Nat} {t : Nd} {G : Nat → Prop} {wr : World} (h : KidOk X w0 k t G wr) : IsN X wr k t := by
  obtain ⟨W, W', _, h1, h2, _⟩ := h
  exact (h1.onF h2).sub fun b hb => .inl hb
theorem KidOk.step {X : Nat → Prop} {w0 : World} {k : Nat} {t : Nd} {G G' : Nat → Prop} {w w' : World} (h : KidOk X w0 k t G w) (hw : Fr G w.heap.size w w') (h0 : ∀ g, G g → w0.heap.size ≤ g) (hG : ∀ g, G' g → G g ∨ w.heap.size ≤ g) : KidOk X w0 k t G' w' := by
  obtain ⟨W, W', h1, h2, h3, h4, h5⟩ := h
  refine ⟨W, W', h1, h2, ⟨hw.os.trans h3.os, hw.tape.trans h3.tape, hw.output.trans h3.output, Nat.le_trans h3.size hw.size, fun b hb hx => ?_⟩, h4, fun g hg => ?_⟩
  · have hbs := h3.size
    refine (hw.block b (by omega) fun hg => hx (.inr ⟨h0 b hg, ?_⟩)).trans (h3.block b hb hx)
    have := h5 b hg; omega
  · rcases hG g hg with hg | hg
    · exact h5 g hg
    · have := h3.size; exact .inr (by omega)
/-- The blocks that are still written. -/
def ownG (B : Nat) (v1 v2 : Value) : Nat → Prop := fun g => g = B ∨ v1.ownBlock = some g ∨ v2.ownBlock = some g
/-- The node at B under way: its rows of tuples and of kids, the call's own. -/
structure SpAt (X : Nat → Prop) (w0 : World) (B : Nat) (k : Nat) (ts : List Sl) (ks : List Nd) (A1 : Option Addr) (c1 : Nat) (A2 : Option Addr) (c2 : Nat) (wr : World) : Prop where
  b : Below w0.heap.size w0 wr
  ge : w0.heap.size ≤ B
  blk : wr.heap[B]? = some (.cells #[.slice A1 ts.length c1, .slice A2 ks.length c2] 125 (0, 0))
  o1 : wr.ownsRow (B + 1) 25 1 (.slice A1 ts.length c1) ts.length (ts.map Sl.val)
  o2 : wr.ownsRow (B + 1) 105 1 (.slice A2 ks.length c2) ks.length (ks.map Nd.val)
  kids : ∀ t ∈ ks, KidOk X w0 k t (ownG B (.slice A1 ts.length c1) (.slice A2 ks.length c2)) wr ∧ t.ts.length = 3
theorem own_typed {w : World} {base size : Nat} {e : TypeId} {v : Value} {n : Nat} {xs : List Value} (h : w.ownsRow base e size v n xs) : ∀ k, v.ownBlock = some k → base ≤ k ∧ ∃ cs, w.heap[k]? = some (.cells cs e (0, 0)) := fun k hk => by
  rcases h.2 with ⟨e, _⟩ | ⟨g, cap, cur, e, hbg, hg, _⟩
  · rw [e] at hk; simp [Value.ownBlock] at hk
  · rw [e] at hk
    have : g = k := by simpa [Value.ownBlock] using hk
    subst this
    exact ⟨hbg, cur, hg⟩
/-- A row of one's own stands where another block was written. -/
theorem own_grown {w w' : World} {base size : Nat} {e : TypeId} {v : Value} {n : Nat} {xs : List Value} {row : Option Nat} (h : w.ownsRow base e size v n xs) (hg : w.grownBy w' row) (hr : ∀ k, v.ownBlock = some k → some k ≠ row) : w'.ownsRow base e size v n xs := by
  refine ⟨h.1, ?_⟩
  rcases h.2 with h0 | ⟨g, cap, cur, hv, hbg, hgg, r⟩
  · exact .inl h0
  · exact .inr ⟨g, cap, cur, hv, hbg, (hg.block g (Array.getElem?_eq_some_iff.1 hgg).1 (hr g (by rw [hv]; rfl))).trans hgg, r⟩
theorem SpAt.ownGe {X : Nat → Prop} {w0 : World} {B k : Nat} {ts : List Sl} {ks : List Nd} {A1 A2 : Option Addr} {c1 c2 : Nat} {wr : World} (h : SpAt X w0 B k ts ks A1 c1 A2 c2 wr) : ∀ g, ownG B (.slice A1 ts.length c1) (.slice A2 ks.length c2) g → w0.heap.size ≤ g := fun g hg => by
  have := h.ge
  rcases hg with rfl | hg | hg
  · exact this
  · have := (own_typed h.o1 g hg).1; omega
  · have := (own_typed h.o2 g hg).1; omega
/-- Behind what made memory alone. -/
theorem SpAt.on {X : Nat → Prop} {w0 : World} {B k : Nat} {ts : List Sl} {ks : List Nd} {A1 A2 : Option Addr} {c1 c2 : Nat} {wr w' : World} (h : SpAt X w0 B k ts ks A1 c1 A2 c2 wr) (hb : Below wr.heap.size wr w') : SpAt X w0 B k ts ks A1 c1 A2 c2 w' :=
  ⟨Go.Proofs.YtpmkhpbhimmeiaaGreat.on h.b hb, h.ge, (hb.block _ (Array.getElem?_eq_some_iff.1 h.blk).1).trans h.blk, own_on h.o1 hb, own_on h.o2 hb, fun t ht => ⟨(h.kids t ht).1.step (Fr.of hb) h.ownGe (fun g hg => .inl hg), (h.kids t ht).2⟩⟩
/-- Behind the append of a kid, and the store into the node. -/
theorem SpAt.kid {X : Nat → Prop} {w0 : World} {B k : Nat} {ts : List Sl} {ks : List Nd} {A1 A2 A2' : Option Addr} {c1 c2 c2' : Nat} {W w2 w3 : World} {t : Nd} (h : SpAt X w0 B k ts ks A1 c1 A2 c2 W) (hb2 : Below W.heap.size W w2) (hk : IsN (Xup X w0 W) w2 k t) (h3 : t.ts.length = 3)
    (ho : w3.ownsRow (B + 1) 105 1 (.slice A2' (ks.length + 1) c2') (ks.length + 1) (ks.map Nd.val ++ [t.val])) (hg : (w2.alloc (.cells #[t.val] 105)).grownBy w3 (Value.slice A2 ks.length c2).ownBlock)
    (hf : (Value.slice A2' (ks.length + 1) c2').ownBlock = (Value.slice A2 ks.length c2).ownBlock ∨ (Value.slice A2' (ks.length + 1) c2').ownBlock = some (w2.alloc (.cells #[t.val] 105)).heap.size) :
    SpAt X w0 B k ts (ks ++ [t]) A1 c1 A2' c2' (w3.setCell ⟨B, 1, none⟩ (.slice A2' (ks.length + 1) c2')) := by
  have h2 := h.on hb2
  have hal : Below w2.heap.size w2 (w2.alloc (.cells #[t.val] 105)) := (Below.refl _ _).alloc (Nat.le_refl _) _
  have h2' := h2.on hal
  have hlt : B < (w2.alloc (.cells #[t.val] 105)).heap.size := (Array.getElem?_eq_some_iff.1 h2'.blk).1
  have hnB : (Value.slice A2 ks.length c2).ownBlock ≠ some B := fun e => by have := (own_typed h2'.o2 B e).1; omega
  have hgB : w3.heap[B]? = some (.cells #[.slice A1 ts.length c1, .slice A2 ks.length c2] 125 (0, 0)) := (hg.block B hlt (fun e => hnB e.symm)).trans h2'.blk
  have hfr : Fr (ownG B (.slice A1 ts.length c1) (.slice A2 ks.length c2)) (w2.alloc (.cells #[t.val] 105)).heap.size (w2.alloc (.cells #[t.val] 105)) (w3.setCell ⟨B, 1, none⟩ (.slice A2' (ks.length + 1) c2')) :=
    ⟨hg.os, hg.tape, hg.output, by simpa [World.setCell] using hg.size, fun b hb hx => by
      rw [Below.heap_setCell _ _ _ _ (fun e => hx (.inl e))]
      exact hg.block b hb (fun e => hx (.inr (.inr e.symm)))⟩
  have hsub : ∀ g, ownG B (.slice A1 ts.length c1) (.slice A2' (ks ++ [t]).length c2') g → ownG B (.slice A1 ts.length c1) (.slice A2 ks.length c2) g ∨ (w2.alloc (.cells #[t.val] 105)).heap.size ≤ g := fun g hg' => by
    rcases hg' with e | e | e
    · exact .inl (.inl e)
    · exact .inl (.inr (.inl e))
    · have e' : (Value.slice A2' (ks.length + 1) c2').ownBlock = some g := by simpa [Value.ownBlock] using e
      rcases hf with hf | hf
      · exact .inl (.inr (.inr (hf ▸ e')))
      · rw [hf] at e'; cases e'; exact .inr (Nat.le_refl _)
  have hlen : (ks ++ [t]).length = ks.length + 1 := by simp
  have hs2 : W.heap.size ≤ w2.heap.size := hb2.size
  have hkid : KidOk X w0 k t (ownG B (.slice A1 ts.length c1) (.slice A2 ks.length c2)) (w2.alloc (.cells #[t.val] 105)) := ⟨W, w2, h.b.size, hk, Fr.of hal, hs2, fun g hg' => by
    rcases hg' with rfl | hg' | hg'
    · exact .inl (Array.getElem?_eq_some_iff.1 h.blk).1
    · obtain ⟨_, cs, hc⟩ := own_typed h.o1 g hg'; exact .inl (Array.getElem?_eq_some_iff.1 hc).1
    · obtain ⟨_, cs, hc⟩ := own_typed h.o2 g hg'; exact .inl (Array.getElem?_eq_some_iff.1 hc).1⟩
  refine ⟨?_, h.ge, ?_, ?_, ?_, fun u hu => ?_⟩
  · exact ((h2'.b.grown hg h2'.b.size (fun k hk => by have := (own_typed h2'.o2 k hk).1; have := h.ge; omega)).setCell h.ge _)
  · rw [hlen]; simp [World.setCell, Array.getElem?_modify, hgB]
  · refine ownsRow_setCell_below (own_grown h2'.o1 hg (fun g hg1 e => ?_)) (by simp) _
    obtain ⟨_, cs, hc⟩ := own_typed h2'.o1 g hg1
    obtain ⟨_, ds, hd⟩ := own_typed h2'.o2 g e.symm
    rw [hc] at hd; cases hd
  · rw [hlen, List.map_append]; exact ownsRow_setCell_below ho (by simp) _
  · rcases List.mem_append.1 hu with hu | hu
    · exact ⟨(h2'.kids u hu).1.step hfr h2'.ownGe hsub, (h2'.kids u hu).2⟩
    · have : u = t := by simpa using hu
      subst this
      exact ⟨hkid.step hfr h2'.ownGe hsub, h3⟩
/-- Behind the append of a tuple, and the store into the node. -/
theorem SpAt.tup {X : Nat → Prop} {w0 : World} {B k : Nat} {ts : List Sl} {ks : List Nd} {A1 A2 A1' : Option Addr} {c1 c2 c1' : Nat} {w2 w3 : World} {x : Sl} (h2 : SpAt X w0 B k ts ks A1 c1 A2 c2 w2)
    (ho : w3.ownsRow (B + 1) 25 1 (.slice A1' (ts.length + 1) c1') (ts.length + 1) (ts.map Sl.val ++ [x.val])) (hg : (w2.alloc (.cells #[x.val] 25)).grownBy w3 (Value.slice A1 ts.length c1).ownBlock)
    (hf : (Value.slice A1' (ts.length + 1) c1').ownBlock = (Value.slice A1 ts.length c1).ownBlock ∨ (Value.slice A1' (ts.length + 1) c1').ownBlock = some (w2.alloc (.cells #[x.val] 25)).heap.size) :
    SpAt X w0 B k (ts ++ [x]) ks A1' c1' A2 c2 (w3.setCell ⟨B, 0, none⟩ (.slice A1' (ts.length + 1) c1')) := by
  have hal : Below w2.heap.size w2 (w2.alloc (.cells #[x.val] 25)) := (Below.refl _ _).alloc (Nat.le_refl _) _
  have h2' := h2.on hal
  have hlt : B < (w2.alloc (.cells #[x.val] 25)).heap.size := (Array.getElem?_eq_some_iff.1 h2'.blk).1
  have hnB : (Value.slice A1 ts.length c1).ownBlock ≠ some B := fun e => by have := (own_typed h2'.o1 B e).1; omega
  have hgB : w3.heap[B]? = some (.cells #[.slice A1 ts.length c1, .slice A2 ks.length c2] 125 (0, 0)) := (hg.block B hlt (fun e => hnB e.symm)).trans h2'.blk
  have hfr : Fr (ownG B (.slice A1 ts.length c1) (.slice A2 ks.length c2)) (w2.alloc (.cells #[x.val] 25)).heap.size (w2.alloc (.cells #[x.val] 25)) (w3.setCell ⟨B, 0, none⟩ (.slice A1' (ts.length + 1) c1')) :=
    ⟨hg.os, hg.tape, hg.output, by simpa [World.setCell] using hg.size, fun b hb hx => by
      rw [Below.heap_setCell _ _ _ _ (fun e => hx (.inl e))]
      exact hg.block b hb (fun e => hx (.inr (.inl e.symm)))⟩
  have hlen : (ts ++ [x]).length = ts.length + 1 := by simp
  have hsub : ∀ g, ownG B (.slice A1' (ts ++ [x]).length c1') (.slice A2 ks.length c2) g → ownG B (.slice A1 ts.length c1) (.slice A2 ks.length c2) g ∨ (w2.alloc (.cells #[x.val] 25)).heap.size ≤ g := fun g hg' => by
    rcases hg' with e | e | e
    · exact .inl (.inl e)
    · have e' : (Value.slice A1' (ts.length + 1) c1').ownBlock = some g := by simpa [Value.ownBlock] using e
      rcases hf with hf | hf
      · exact .inl (.inr (.inl (hf ▸ e')))
      · rw [hf] at e'; cases e'; exact .inr (Nat.le_refl _)
    · exact .inl (.inr (.inr e))
  refine ⟨?_, h2.ge, ?_, ?_, ?_, fun u hu => ⟨(h2'.kids u hu).1.step hfr h2'.ownGe hsub, (h2'.kids u hu).2⟩⟩
  · exact ((h2'.b.grown hg h2'.b.size (fun k hk => by have := (own_typed h2'.o1 k hk).1; have := h2.ge; omega)).setCell h2.ge _)
  · rw [hlen]; simp [World.setCell, Array.getElem?_modify, hgB]
  · rw [hlen, List.map_append]; exact ownsRow_setCell_below ho (by simp) _
  · refine ownsRow_setCell_below (own_grown h2'.o2 hg (fun g hg1 e => ?_)) (by simp) _
    obtain ⟨_, cs, hc⟩ := own_typed h2'.o2 g hg1
    obtain ⟨_, ds, hd⟩ := own_typed h2'.o1 g e.symm
    rw [hc] at hd; cases hd

theorem weaveH_snoc {α : Type} {f : List α} {t : α} : ∀ {fs : List (List α)} {ts : List α}, fs.length = ts.length → weaveH (fs ++ [f]) (ts ++ [t]) = weaveH fs ts ++ f ++ [t]
  | [], [], _ => by simp [weaveH]
  | [], _ :: _, h => by simp at h
  | _ :: _, [], h => by simp at h
  | g :: fs, u :: ts, h => by
    simp only [List.length_cons] at h
    simp only [List.cons_append, weaveH]
    rw [weaveH_snoc (by omega)]; simp
theorem weave_snoc {α : Type} {f : List α} : ∀ {fs : List (List α)} {ts : List α}, fs.length = ts.length → weave (fs ++ [f]) ts = weaveH fs ts ++ f
  | [], [], _ => by simp [weave, weaveH]
  | [], _ :: _, h => by simp at h
  | _ :: _, [], h => by simp at h
  | g :: fs, u :: ts, h => by
    simp only [List.length_cons] at h
    simp only [List.cons_append, weave, weaveH]
    rw [weave_snoc (by omega)]; simp
theorem rdT_up {X : Nat → Prop} {w wr W : World} {A : Option Addr} {xs : List Sl} (h : RdT X W A xs) (hA : ∀ a, A = some a → a.block < w.heap.size) (hx : ∀ x ∈ xs, ∀ a, x.A = some a → a.block < w.heap.size) : RdT (Xup X w wr) W A xs :=
  ⟨h.rd, fun a ha hb => by
    rcases hb with hb | hb
    · exact h.off a ha hb
    · have := hA a ha; omega, fun x hxm => ⟨(h.each x hxm).rd, fun a ha hb => by
    rcases hb with hb | hb
    · exact (h.each x hxm).off a ha hb
    · have := hx x hxm a ha; omega, (h.each x hxm).cap, (h.each x hxm).ty⟩⟩
theorem SpAt.kidCells {X : Nat → Prop} {w0 : World} {B k : Nat} {ts : List Sl} {ks : List Nd} {A1 A2 : Option Addr} {c1 c2 : Nat} {w2 w3 : World} {o : Obj} (h : SpAt X w0 B k ts ks A1 c1 A2 c2 w2) (hg : (w2.alloc o).grownBy w3 (Value.slice A2 ks.length c2).ownBlock) : w3.cell? ⟨B, 1, none⟩ = some (.slice A2 ks.length c2) ∧ w3.frozen? ⟨B, 1, none⟩ = false := by
  have h2' := h.on ((Below.refl w2.heap.size w2).alloc (Nat.le_refl _) o)
  have hgB := (hg.block B (Array.getElem?_eq_some_iff.1 h2'.blk).1 (fun e => by have := (own_typed h2'.o2 B e.symm).1; omega)).trans h2'.blk
  constructor <;> simp [World.cell?, World.frozen?, hgB]
theorem SpAt.tupCells {X : Nat → Prop} {w0 : World} {B k : Nat} {ts : List Sl} {ks : List Nd} {A1 A2 : Option Addr} {c1 c2 : Nat} {w2 w3 : World} {o : Obj} (h : SpAt X w0 B k ts ks A1 c1 A2 c2 w2) (hg : (w2.alloc o).grownBy w3 (Value.slice A1 ts.length c1).ownBlock) : w3.cell? ⟨B, 0, none⟩ = some (.slice A1 ts.length c1) ∧ w3.frozen? ⟨B, 0, none⟩ = false := by
  have h2' := h.on ((Below.refl w2.heap.size w2).alloc (Nat.le_refl _) o)
  have hgB := (hg.block B (Array.getElem?_eq_some_iff.1 h2'.blk).1 (fun e => by have := (own_typed h2'.o1 B e.symm).1; omega)).trans h2'.blk
  constructor <;> simp [World.cell?, World.frozen?, hgB]
theorem SpAt.start {X : Nat → Prop} {k : Nat} (w : World) : SpAt X w w.heap.size k [] [] none 0 none 0 (w.alloc (.cells #[.slice none 0 0, .slice none 0 0] 125)).drew :=
  ⟨((Below.refl _ w).alloc (Nat.le_refl _) _).drew, Nat.le_refl _, heap_alloc_new _ _, own_nil _ _ _ _, own_nil _ _ _ _, fun t ht => by cases ht⟩
def SpRel (X : Nat → Prop) (w0 : World) (B k m s : Nat) (xs : List Sl) (v : Value) (wr : World) : Prop := ∃ (j e : Nat) (ts : List Sl) (ks : List Nd) (A1 : Option Addr) (c1 : Nat) (A2 : Option Addr) (c2 : Nat),
  v = .int .i64 ((e + s : Nat) : Int) ∧ e = j * s ∧ j ≤ m ∧ SpAt X w0 B k ts ks A1 c1 A2 c2 wr ∧ ks.length = j ∧ ((j < m ∧ ts.length = j ∧ weaveH (ks.map (flat k)) ts = xs.take e) ∨ (j = m ∧ ts.length + 1 = m ∧ weave (ks.map (flat k)) ts = xs))
set_option maxRecDepth 20000 in
set_option maxHeartbeats 8000000 in
theorem sparse_node {k : Nat} (ih : ∀ (Y : Nat → Prop) (A : Option Addr) (c : Nat) (xs : List Sl) (w : World), RdT Y w A xs → xs.length + 1 = 4 * 4 ^ k → xs.length ≤ 1000000 → xs.length ≤ c → c ≤ maxLen → (∀ k, Y k → k < w.heap.size) →
      Calls Tryz.prog 84 #[.slice A xs.length c, .int .i64 4] w (SparseP Y k 3 xs w))
    {X : Nat → Prop} (A : Option Addr) (c : Nat) (xs : List Sl) (m : Nat) (w : World) (h : RdT X w A xs) (hl : xs.length + 1 = m * 4 ^ (k + 1)) (hm : 2 ≤ m) (hm4 : m ≤ 4) (hb : xs.length ≤ 1000000) (hc : xs.length ≤ c) (hc' : c ≤ maxLen) (hX : ∀ k, X k → k < w.heap.size) :
    Calls Tryz.prog 84 #[.slice A xs.length c, .int .i64 (m : Int)] w (SparseP X (k + 1) (m - 1) xs w) := by
  obtain ⟨s, hs⟩ : ∃ s, 4 ^ (k + 1) = s := ⟨_, rfl⟩
  rw [hs] at hl
  have hs4 : 4 ≤ s := by rw [← hs, Nat.pow_succ]; have : 0 < 4 ^ k := Nat.pow_pos (by omega); omega
  have hsl : s ≤ xs.length := by
    have : 2 * s ≤ m * s := Nat.mul_le_mul_right s hm
    omega
  obtain ⟨ab, ao, rfl, hab, hz⟩ := h.at_ (List.getElem?_eq_getElem (show 0 < xs.length by omega))
  clear hz
  unfold maxLen at hc'
  have hlt : ¬ ((xs.length : Int) < (m : Int)) := by
    have : m ≤ m * s := Nat.le_mul_of_pos_right m (by omega)
    have : m * 4 ≤ m * s := Nat.mul_le_mul_left m hs4
    omega
  have hq : ((xs.length : Int) + 1).tdiv (m : Int) = (s : Int) := by
    have : ((xs.length : Int) + 1) = ((m * s : Nat) : Int) := by omega
    rw [this, ← Int.ofNat_tdiv, Nat.mul_div_cancel_left _ (by omega)]
  have hm0 : ¬ ((m : Int) = 0) := by omega
  have H := Lib.hid h; have HX := Lib.hid hX; have HS := Lib.hid hs; have HL := Lib.hid hl; have HI := Lib.hid ih; clear h hX hs hl ih
  go_enter Tryz.func84, Tryz.ntmps84
  go_wp2
  go_region
  go_wp2
  have H0 := Lib.hid (SpAt.start (X := X) (k := k) w)
  go_loopw [7] (fun v wr => SpRel X w w.heap.size k m s xs v wr) (fun v _ => xs.length + 2 - (intOf v).toNat)
  case atStart => exact ⟨0, 0, [], [], none, 0, none, 0, by simp, by simp, by omega, H0.out, rfl, .inl ⟨by omega, rfl, by simp [weaveH]⟩⟩
  case round =>
    obtain ⟨j, e, ts, ks, A1, c1, A2, c2, rfl, he, hj, hsp, hkl, hor⟩ := hrel
    have HSP := Lib.hid hsp; clear hsp
    by_cases hjm : j < m
    · obtain ⟨htl, hwv⟩ : ts.length = j ∧ weaveH (ks.map (flat k)) ts = xs.take e := by
        rcases hor with h | h
        · exact h.2
        · omega
      have hes : e + s ≤ xs.length + 1 := by
        have : (j + 1) * s ≤ m * s := Nat.mul_le_mul_right s hjm
        rw [Nat.add_mul, Nat.one_mul] at this
        have := HL.out; omega
      have hel : e < xs.length := by omega
      have c0 : wr.cell? ⟨w.heap.size, 0, none⟩ = some (.slice A1 ts.length c1) := by simp [World.cell?, HSP.out.blk]
      have c1' : wr.cell? ⟨w.heap.size, 1, none⟩ = some (.slice A2 ks.length c2) := by simp [World.cell?, HSP.out.blk]
      have f0 : ∀ i, wr.frozen? ⟨w.heap.size, i, none⟩ = false := fun i => by simp [World.frozen?, HSP.out.blk]
      have HWV := Lib.hid hwv; have HE := Lib.hid he; have HKL := Lib.hid hkl; have HTL := Lib.hid htl; clear hor hwv he hkl htl
      obtain ⟨f, hf⟩ : ∃ f, e + s = f := ⟨_, rfl⟩
      rw [hf]
      have hi1 : (0 : Int) ≤ (e : Int) := by omega
      have hi2 : (e : Int) ≤ ((f - 1 : Nat) : Int) := by omega
      have hi3 : ((f - 1 : Nat) : Int) ≤ (c : Int) := by omega
      have hi4 : (0 : Int) ≤ ((f - 1 : Nat) : Int) := by omega
      have hi5 : (f : Int) ≤ (xs.length : Int) + 1 := by omega
      have hw1 : IntKind.i64.wrap ((f : Int) - (s : Int)) = (e : Int) := by rw [IntKind.wrap_i64]; omega
      have hw2 : IntKind.i64.wrap ((f : Int) - 1) = ((f - 1 : Nat) : Int) := by rw [IntKind.wrap_i64]; omega
      have hw3 : wrap64 ((f : Int) - (s : Int)) = (e : Int) := by unfold wrap64; omega
      have hw4 : wrap64 ((f : Int) - 1) = ((f - 1 : Nat) : Int) := by unfold wrap64; omega
      have HF := Lib.hid hf; clear hf
      have hce : ¬ (c = e) := by omega
      have hfl : f - 1 - e = s - 1 := by have := HF.out; omega
      have hsubl : ((xs.drop e).take (s - 1)).length = s - 1 := by rw [List.length_take, List.length_drop]; have := HF.out; omega
      have HK : Hid (∀ (W : World), Below wr.heap.size wr W → Calls Tryz.prog 84 #[.slice (some ⟨ab, ao + e, none⟩) (s - 1) (c - e), .int .i64 4] W (SparseP (Xup X w wr) k 3 ((xs.drop e).take (s - 1)) W)) := Lib.hid (fun W hW => by
        have hwW : Below w.heap.size w W := on HSP.out.b hW
        have := HI.out (Xup X w wr) (some ⟨ab, ao + e, none⟩) (c - e) ((xs.drop e).take (s - 1)) W (rdT_up ((H.out.on hwW).drop e |>.take (s - 1)) (by intro a ha; cases ha; exact hab) (fun x hx a ha => by
          obtain ⟨cs, z, hc⟩ := (H.out.each x (List.mem_of_mem_drop (List.mem_of_mem_take hx))).ty a ha
          exact (Array.getElem?_eq_some_iff.1 hc).1)) (by rw [hsubl]; have := HS.out; rw [Nat.pow_succ] at this; omega) (by rw [hsubl]; omega) (by rw [hsubl]; have := HF.out; omega) (by unfold maxLen; omega) (fun b hb => by
          have hs1 := HSP.out.b.size; have hs2 := hW.size
          rcases hb with hb | hb
          · have := HX.out b hb; omega
          · omega)
        rw [hsubl] at this
        exact this)
      obtain ⟨i0, hi0, hz0, hz1, hz2⟩ := info_parts info_ptr
      go_wp2
      go_region_law (first
        | (refine step_append_lies _ rfl (.tmp 36) (.tmp 45) 123 rfl (w.heap.size + 1) 105 i0 _ 1 8 Tryz.underlying123 hi0 hz0 hz1 hz2 rfl (by decide) (.slice A2 ks.length c2) ks.length (ks.map Nd.val) (by simp [Act.eval, Act.put]) ?_ ⟨w2.heap.size, 0, none⟩ 1 1 [.pointer (some ⟨t.b, 0, none⟩)] (by simp [Act.eval, Act.put]) rfl (cell_one_new _ _ _) ?_ (by decide) ?_ ?_ ?_ (w2.heap.size + 1) (by simp) ?_; (exact own_on (HSP2.out).o2 ((Below.refl _ _).alloc (Nat.le_refl _) _)); (intro u hu; rw [List.mem_singleton] at hu; subst hu; rfl); (have := HKL.out; unfold maxLen; omega); (have := HKL.out; omega); (have := HSP2.out.b.size; have := (Array.getElem?_eq_some_iff.1 HSP2.out.blk).1; simp; omega); intro g3 c3 w3 ho3 hg3 hor3 hlt3; have hq := HSP2.out.kidCells hg3; have c13 := hq.1; have f13 := hq.2; clear hq; replace ho3 := Lib.hid ho3; replace hg3 := Lib.hid hg3; replace hor3 := Lib.hid hor3)
        | (go_simp; go_at_call 84; refine (HK.out _ ?_).mono ?_; (exact (Below.refl _ _).drew); rintro e' w2 ⟨t, rfl, hN2, hfl2, ht3, hb2⟩; have hb2 : Below wr.heap.size wr w2 := (Below.refl _ _).drew.trans hb2; have HSP2 := Lib.hid (HSP.out.on hb2); have c02 : w2.cell? ⟨w.heap.size, 0, none⟩ = some (.slice A1 ts.length c1) := (by simp [World.cell?, HSP2.out.blk]); have c12 : w2.cell? ⟨w.heap.size, 1, none⟩ = some (.slice A2 ks.length c2) := (by simp [World.cell?, HSP2.out.blk]); have c12a : ∀ o : Obj, (w2.alloc o).cell? ⟨w.heap.size, 1, none⟩ = some (.slice A2 ks.length c2) := (fun o => (keep ((Below.refl _ w2).alloc (Nat.le_refl _) o) _ _ (Array.getElem?_eq_some_iff.1 HSP2.out.blk).1).trans c12); replace hN2 := Lib.hid hN2; replace hfl2 := Lib.hid hfl2; replace ht3 := Lib.hid ht3; unfold Nd.val Nd.ptr; dsimp only))
      all_goals
        have SP4 := Lib.hid (HSP.out.kid (t := t) hb2 hN2.out ht3.out ho3.out hg3.out (by
          rcases hor3.out with h | h
          · exact .inl (by rw [h]; rfl)
          · exact .inr (by rw [h]; simp [Value.ownBlock])))
        obtain ⟨W4, hW4⟩ : ∃ W4, w3.setCell ⟨w.heap.size, 1, none⟩ (.slice (some ⟨g3, 0, none⟩) (ks.length + 1) c3) = W4 := ⟨_, rfl⟩
        rw [hW4] at SP4
        try rw [hW4]
        have HW4 := Lib.hid hW4; clear hW4
        have hfk : flat k t = (xs.drop e).take (s - 1) := hfl2.out
        have HFK := Lib.hid hfk; clear hfk
        have hts4 : xs.take (f - 1) = xs.take e ++ (xs.drop e).take (s - 1) := by
          rw [show f - 1 = e + (s - 1) by have := HF.out; omega, List.take_add]
        have HTS4 := Lib.hid hts4; clear hts4
        by_cases hlast : j + 1 < m
        · have hfx : f ≤ xs.length := by
            have h1 : (j + 1 + 1) * s ≤ m * s := Nat.mul_le_mul_right s hlast
            have h2 : (j + 1 + 1) * s = j * s + s + s := by rw [Nat.add_mul, Nat.add_mul, Nat.one_mul]
            have := HE.out; have := HL.out; have := HF.out; omega
          have hfi : (f : Int) ≤ (xs.length : Int) := by omega
          have hx := List.getElem?_eq_getElem (show f - 1 < xs.length by have := HF.out; omega)
          generalize xs[f - 1] = x at hx
          have hwW4 : Below w.heap.size w W4 := SP4.out.b
          obtain ⟨b', o', e', _, hcx⟩ := (H.out.on hwW4).at_ hx
          injection e' with e'; injection e' with e1 e2 _; subst e1 e2
          have HX4 := Lib.hid hx; clear hx
          have c04 : W4.cell? ⟨w.heap.size, 0, none⟩ = some (.slice A1 ts.length c1) := by simp [World.cell?, SP4.out.blk]
          have hi6 : (0 : Int) ≤ ((f - 1 : Nat) : Int) := by omega
          have hi7 : ((f - 1 : Nat) : Int) < (xs.length : Int) := by have := HF.out; omega
          obtain ⟨i1, yi0, yz0, yz1, yz2⟩ := info_parts info_tup
          have SP4D := Lib.hid (SP4.out.on (Below.refl W4.heap.size W4).drew)
          have c04a : ∀ o : Obj, (W4.alloc o).cell? ⟨w.heap.size, 0, none⟩ = some (.slice A1 ts.length c1) := fun o => (keep ((Below.refl _ W4).alloc (Nat.le_refl _) o) _ _ (Array.getElem?_eq_some_iff.1 SP4.out.blk).1).trans c04
          have hcxa : ∀ o : Obj, (W4.alloc o).cell? ⟨ab, ao + (f - 1), none⟩ = some (.slice x.A x.l.length x.c) := fun o => (keep ((Below.refl _ W4).alloc (Nat.le_refl _) o) _ _ (Nat.lt_of_lt_of_le hab hwW4.size)).trans hcx
          go_wp2
          go_region_law (refine step_append_lies _ rfl (.tmp 57) (.tmp 63) 23 rfl (w.heap.size + 1) 25 i1 _ 1 24 Tryz.underlying23 yi0 yz0 yz1 yz2 rfl (by decide) (.slice A1 ts.length c1) ts.length (ts.map Sl.val) (by simp [Act.eval, Act.put]) ?_ ⟨W4.heap.size, 0, none⟩ 1 1 [.slice x.A x.l.length x.c] (by simp [Act.eval, Act.put]) rfl (cell_one_new _ _ _) ?_ (by decide) ?_ ?_ ?_ (W4.heap.size + 1) (by simp) ?_; (exact own_on SP4D.out.o1 ((Below.refl _ _).alloc (Nat.le_refl _) _)); (intro u hu; rw [List.mem_singleton] at hu; subst hu; rfl); (have := HTL.out; unfold maxLen; omega); (have := HTL.out; omega); (have := SP4.out.b.size; have := (Array.getElem?_eq_some_iff.1 SP4.out.blk).1; simp; omega); intro g5 c5 w5 ho5 hg5 hor5 hlt5; have hq := SP4D.out.tupCells hg5; have c05 := hq.1; have f05 := hq.2; clear hq; replace ho5 := Lib.hid ho5; replace hg5 := Lib.hid hg5; replace hor5 := Lib.hid hor5)
          all_goals
            go_wp2
            go_roundw
            case rel =>
              have SP5 := SP4D.out.tup (x := x) ho5.out hg5.out (by
                rcases hor5.out with h | h
                · exact .inl (by rw [h]; rfl)
                · exact .inr (by rw [h]; simp [Value.ownBlock, heap_dr]))
              refine ⟨j + 1, f, ts ++ [x], ks ++ [t], _, _, _, _, by go_num, by rw [Nat.add_mul, Nat.one_mul, ← HE.out, HF.out], hjm, SP5, by simp [HKL.out], .inl ⟨hlast, by simp [HTL.out], ?_⟩⟩
              rw [List.map_append, List.map_singleton, weaveH_snoc (by simp [HKL.out, HTL.out]), HWV.out, HFK.out]
              rw [show xs.take f = xs.take (f - 1 + 1) by rw [show f - 1 + 1 = f by have := HF.out; omega], take_snoc' HX4.out, HTS4.out]
            case measure => simp [intOf]; omega
        · have hfx : ¬ (f : Int) ≤ (xs.length : Int) := by
            have hjm1 : j + 1 = m := by omega
            have h2 : m * s = j * s + s := by rw [← hjm1, Nat.add_mul, Nat.one_mul]
            have := HE.out; have := HL.out; have := HF.out; omega
          go_wp2
          go_roundw
          case rel =>
            refine ⟨j + 1, f, ts, ks ++ [t], _, _, _, _, by go_num, by rw [Nat.add_mul, Nat.one_mul, ← HE.out, HF.out], hjm, SP4.out, by simp [HKL.out], .inr ⟨by omega, by rw [HTL.out]; omega, ?_⟩⟩
            rw [List.map_append, List.map_singleton, weave_snoc (by simp [HKL.out, HTL.out]), HWV.out, HFK.out, ← HTS4.out]
            rw [List.take_of_length_le (by omega)]
          case measure => simp [intOf]; omega
    · have hjm' : j = m := by omega
      obtain ⟨htl, hwv⟩ : ts.length + 1 = m ∧ weave (ks.map (flat k)) ts = xs := by
        rcases hor with h | h
        · omega
        · exact h.2
      have hend : ¬ ((e + s : Nat) : Int) ≤ (xs.length : Int) + 1 := by rw [he, hjm']; have := HL.out; omega
      have HWV := Lib.hid hwv; have HKL := Lib.hid hkl; have HTL := Lib.hid htl; clear hor hwv hkl htl he
      go_wp2
      go_ret
      have hsp := HSP.out
      have hkl := HKL.out; have htl := HTL.out
      have hn1 := own_cap hsp.o1; have hn2 := own_cap hsp.o2
      have offOf : ∀ (A : Option Addr) (c n : Nat) (ty : TypeId) (ys : List Value), wr.ownsRow (w.heap.size + 1) ty 1 (.slice A n c) n ys → Off X A := fun A c n ty ys ho a ha hx => by
        subst ha
        have := own_base ho a.block rfl
        have := HX.out _ hx
        omega
      refine ⟨.mk w.heap.size ts ks, rfl, IsN.nodeOf (node_new hsp.blk (fun hx => by have := HX.out _ hx; omega) rfl (by simp) ⟨own_rdC hsp.o1, offOf _ _ _ _ _ hsp.o1, fun x hx => (H.out.each x ?_).on hsp.b⟩ (own_rdC hsp.o2) (offOf _ _ _ _ _ hsp.o2) hn1.1 hn2.1 hn1.2 hn2.2) (by omega) (fun t ht => ⟨(hsp.kids t ht).1.isN, by rw [(hsp.kids t ht).2]; omega, by rw [(hsp.kids t ht).2]; omega⟩), ?_, by simp only [Nd.ts]; omega, hsp.b⟩
      · obtain ⟨i, hi⟩ := List.getElem?_of_mem hx
        rw [← HWV.out, weave_cut i _ _ x (by simp; omega) hi]; simp
      · rw [flat_succ]; exact HWV.out
theorem sparse_any : ∀ (k : Nat) (X : Nat → Prop) (A : Option Addr) (c : Nat) (xs : List Sl) (m : Nat) (v : Int) (w : World), v = (m : Int) → RdT X w A xs → xs.length + 1 = m * 4 ^ k → 2 ≤ m → m ≤ 4 → xs.length ≤ 1000000 → xs.length ≤ c → c ≤ maxLen → (∀ k, X k → k < w.heap.size) →
    Calls Tryz.prog 84 #[.slice A xs.length c, .int .i64 v] w (SparseP X k (m - 1) xs w)
  | 0, X, A, c, xs, m, v, w, hv, h, hl, hm, hm4, hb, hc, hc', hX => by
    subst hv
    rw [Nat.pow_zero, Nat.mul_one] at hl
    have := sparse_leaf A c xs m w h (by omega) (by omega) hX
    have e : SparseP X 0 xs.length xs w = SparseP X 0 (m - 1) xs w := congrArg (fun n => SparseP X 0 n xs w) (show xs.length = m - 1 by omega)
    exact e ▸ this
  | k + 1, X, A, c, xs, m, v, w, hv, h, hl, hm, hm4, hb, hc, hc', hX => by
    subst hv
    exact sparse_node (fun Y A c xs w h hl hb hc hc' hY => sparse_any k Y A c xs 4 4 w rfl h hl (by omega) (by omega) hb hc hc' hY) A c xs m w h hl hm hm4 hb hc hc' hX
end Go.Proofs.YtpmkhpbhimmeiaaGreat

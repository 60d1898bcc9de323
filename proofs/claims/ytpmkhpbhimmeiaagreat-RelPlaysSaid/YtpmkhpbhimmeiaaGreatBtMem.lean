/-
  Rows of cells, tuples and nodes in memory; how they are kept. X: the blocks that may be written (trees).
-/
import Derived.Test.YtpmkhpbhimmeiaaGreatTupOwn
import Derived.Lib.AppendZeros
import Derived.Maps.AppendAt
namespace Go.Proofs.YtpmkhpbhimmeiaaGreat
open Go.RowKit FloM ValM
set_option linter.unusedVariables false

/-! ### Worlds that differ in the blocks of X alone, below B -/
structure Fr (X : Nat → Prop) (B : Nat) (w w' : World) : Prop where
  os : w'.os = w.os
  tape : w'.tape = w.tape
  output : w'.output = w.output
  size : w.heap.size ≤ w'.heap.size
  block : ∀ k, k < B → ¬ X k → w'.heap[k]? = w.heap[k]?
section
variable {X Y : Nat → Prop} {B : Nat} {w w' w'' : World}
theorem Fr.of (h : Below B w w') : Fr X B w w' := ⟨h.os, h.tape, h.output, h.size, fun k hk _ => h.block k hk⟩
theorem Fr.refl (X : Nat → Prop) (B : Nat) (w : World) : Fr X B w w := Fr.of (Below.refl _ _)
theorem Fr.trans (h : Fr X B w w') (k : Fr X B w' w'') : Fr X B w w'' := ⟨k.os.trans h.os, k.tape.trans h.tape, k.output.trans h.output, Nat.le_trans h.size k.size, fun i hi hx => (k.block i hi hx).trans (h.block i hi hx)⟩
theorem Fr.mono {B' : Nat} (h : Fr X B w w') (hB : B' ≤ B) : Fr X B' w w' := ⟨h.os, h.tape, h.output, h.size, fun k hk hx => h.block k (Nat.lt_of_lt_of_le hk hB) hx⟩
theorem Fr.sub (h : Fr X B w w') (hX : ∀ k, k < B → X k → Y k) : Fr Y B w w' := ⟨h.os, h.tape, h.output, h.size, fun k hk hy => h.block k hk (fun hx => hy (hX k hk hx))⟩
theorem Fr.below (h : Fr X B w w') {B' : Nat} (hB : B' ≤ B) (hX : ∀ k, k < B' → ¬ X k) : Below B' w w' := ⟨h.os, h.tape, h.output, h.size, fun k hk => h.block k (Nat.lt_of_lt_of_le hk hB) (hX k hk)⟩
theorem Fr.next (h : Fr X w.heap.size w w') (k : Fr X w'.heap.size w' w'') : Fr X w.heap.size w w'' := h.trans (k.mono h.size)
theorem Fr.cell (h : Fr X B w w') {b o : Nat} (hb : b < B) (hx : ¬ X b) : w'.cell? ⟨b, o, none⟩ = w.cell? ⟨b, o, none⟩ := World.cell?_of_block (h.block b hb hx)
end

def Off (X : Nat → Prop) (A : Option Addr) : Prop := ∀ a, A = some a → ¬ X a.block
theorem Off.none (X : Nat → Prop) : Off X none := fun _ h => by cases h
theorem off_some {X : Nat → Prop} {b o : Nat} (h : Off X (some ⟨b, o, Option.none⟩)) : ¬ X b := h _ rfl

/-! ### Rows of cells -/
def RdC (w : World) (A : Option Addr) (cs : List Value) : Prop := ∀ j u, cs[j]? = some u → ∃ b o, A = some ⟨b, o, none⟩ ∧ b < w.heap.size ∧ w.cell? ⟨b, o + j, none⟩ = some u
section
variable {X : Nat → Prop} {w w' : World} {A : Option Addr} {cs : List Value}
theorem RdC.on (h : RdC w A cs) (hb : Below w.heap.size w w') : RdC w' A cs := fun j u hu => by
  obtain ⟨b, o, e, hl, c⟩ := h j u hu
  exact ⟨b, o, e, Nat.lt_of_lt_of_le hl hb.size, (keep hb _ _ hl).trans c⟩
theorem RdC.onF (h : RdC w A cs) (hx : Off X A) (hb : Fr X w.heap.size w w') : RdC w' A cs := fun j u hu => by
  obtain ⟨b, o, e, hl, c⟩ := h j u hu
  exact ⟨b, o, e, Nat.lt_of_lt_of_le hl hb.size, (hb.cell hl (hx _ e)).trans c⟩
theorem RdC.onF' (h : RdC w A cs) (hx : cs ≠ [] → Off X A) (hb : Fr X w.heap.size w w') : RdC w' A cs := fun j u hu => h.onF (hx fun e => by rw [e] at hu; simp at hu) hb j u hu
theorem RdV.onF {l : List V} (h : RdV w A l) (hx : Off X A) (hb : Fr X w.heap.size w w') : RdV w' A l := fun i v hv => by
  obtain ⟨b, o, e, hl, c0, c1, c2⟩ := h i v hv
  have hn : ¬ X b := hx _ e
  exact ⟨b, o, e, Nat.lt_of_lt_of_le hl hb.size, (hb.cell hl hn).trans c0, (hb.cell hl hn).trans c1, (hb.cell hl hn).trans c2⟩
theorem RdI.onF {l : List Int} (h : RdI w A l) (hx : Off X A) (hb : Fr X w.heap.size w w') : RdI w' A l := fun i v hv => by
  obtain ⟨b, o, e, hl, c0⟩ := h i v hv
  exact ⟨b, o, e, Nat.lt_of_lt_of_le hl hb.size, (hb.cell hl (hx _ e)).trans c0⟩
theorem RdC.nil : RdC w A [] := fun j u hu => by simp at hu
theorem RdC.take (h : RdC w A cs) (n : Nat) : RdC w A (cs.take n) := fun j u hu => h j u (by
  rw [List.getElem?_take] at hu; split at hu
  · exact hu
  · cases hu)
theorem RdC.drop {b o : Nat} (h : RdC w (some ⟨b, o, none⟩) cs) (n : Nat) : RdC w (some ⟨b, o + n, none⟩) (cs.drop n) := fun j u hu => by
  rw [List.getElem?_drop] at hu
  obtain ⟨b', o', e, hl, c⟩ := h _ _ hu
  injection e with e; injection e with e1 e2 _; subst e1 e2
  exact ⟨b, o + n, rfl, hl, by rw [Nat.add_assoc]; exact c⟩
theorem RdC.at_ (h : RdC w A cs) {j : Nat} {u : Value} (hu : cs[j]? = some u) : ∃ b o, A = some ⟨b, o, none⟩ ∧ b < w.heap.size ∧ w.cell? ⟨b, o + j, none⟩ = some u := h j u hu
theorem RdC.news {b o : Nat} (h : RdC w (some ⟨b, o, none⟩) cs) : ∀ j u, cs[j]? = some u → w.cell? ((⟨b, o, none⟩ : Addr).add j) = some u := fun j u hu => by
  obtain ⟨b', o', e, _, c⟩ := h j u hu
  injection e with e; injection e with e1 e2 _; subst e1 e2
  have hadd : (⟨b, o, none⟩ : Addr).add j = ⟨b, o + j, none⟩ := by unfold Addr.add; split <;> simp_all
  rw [hadd]; exact c
end
theorem own_rdC {w : World} {base : Nat} {e : TypeId} {A : Option Addr} {c n : Nat} {xs : List Value} (h : w.ownsRow base e 1 (.slice A n c) n xs) : RdC w A xs := fun j u hu => by
  obtain ⟨g, cap, e0, _, hlt, c0⟩ := own_cell h hu
  injection e0 with e0 _ _; subst e0
  exact ⟨g, 0, rfl, hlt, by rw [Nat.zero_add]; exact c0⟩
theorem own_off {X : Nat → Prop} {w : World} {base size : Nat} {e : TypeId} {A : Option Addr} {c n : Nat} {xs : List Value} (h : w.ownsRow base e size (.slice A n c) n xs) (hX : ∀ k, X k → k < base) : Off X A := fun a ha hx => by
  subst ha
  have := own_base h a.block rfl
  have := hX _ hx
  omega
theorem own_cap {w : World} {base size : Nat} {e : TypeId} {A : Option Addr} {c n : Nat} {xs : List Value} (h : w.ownsRow base e size (.slice A n c) n xs) : n ≤ c ∧ c ≤ maxLen := by
  rcases h.2 with ⟨e, rfl⟩ | ⟨g, cap, cur, e, _, _, h1, h2, _⟩
  · injection e with _ _ e; subst e; exact ⟨Nat.le_refl _, by unfold maxLen; omega⟩
  · injection e with _ _ e; subst e; exact ⟨h1, h2⟩

/-! ### Tuples -/
structure Sl where
  A : Option Addr
  c : Nat
  l : List V
def Sl.val (x : Sl) : Value := .slice x.A x.l.length x.c
structure SlOk (X : Nat → Prop) (w : World) (x : Sl) : Prop where
  rd : RdV w x.A x.l
  off : Off X x.A
  cap : x.l.length ≤ x.c
  ty : ∀ a, x.A = some a → ∃ c z, w.heap[a.block]? = some (.cells c 69 z)
structure RdT (X : Nat → Prop) (w : World) (A : Option Addr) (xs : List Sl) : Prop where
  rd : RdC w A (xs.map Sl.val)
  off : Off X A
  each : ∀ x ∈ xs, SlOk X w x
section
variable {X : Nat → Prop} {w w' : World} {A : Option Addr} {xs : List Sl} {x : Sl}
theorem SlOk.on (h : SlOk X w x) (hb : Below w.heap.size w w') : SlOk X w' x := ⟨h.rd.on hb, h.off, h.cap, fun a ha => by
  obtain ⟨c, z, hc⟩ := h.ty a ha
  exact ⟨c, z, (hb.block _ (Array.getElem?_eq_some_iff.1 hc).1).trans hc⟩⟩
theorem SlOk.onF (h : SlOk X w x) (hb : Fr X w.heap.size w w') : SlOk X w' x := ⟨h.rd.onF h.off hb, h.off, h.cap, fun a ha => by
  obtain ⟨c, z, hc⟩ := h.ty a ha
  exact ⟨c, z, (hb.block _ (Array.getElem?_eq_some_iff.1 hc).1 (h.off _ ha)).trans hc⟩⟩
theorem RdT.on (h : RdT X w A xs) (hb : Below w.heap.size w w') : RdT X w' A xs := ⟨h.rd.on hb, h.off, fun x hx => (h.each x hx).on hb⟩
theorem RdT.onF (h : RdT X w A xs) (hb : Fr X w.heap.size w w') : RdT X w' A xs := ⟨h.rd.onF h.off hb, h.off, fun x hx => (h.each x hx).onF hb⟩
theorem RdT.at_ (h : RdT X w A xs) {j : Nat} (hx : xs[j]? = some x) : ∃ b o, A = some ⟨b, o, none⟩ ∧ b < w.heap.size ∧ w.cell? ⟨b, o + j, none⟩ = some (.slice x.A x.l.length x.c) := h.rd j _ (by simp [hx, Sl.val])
theorem RdT.take (h : RdT X w A xs) (n : Nat) : RdT X w A (xs.take n) := ⟨by rw [List.map_take]; exact h.rd.take n, h.off, fun x hx => h.each x (List.mem_of_mem_take hx)⟩
theorem RdT.drop {b o : Nat} (h : RdT X w (some ⟨b, o, none⟩) xs) (n : Nat) : RdT X w (some ⟨b, o + n, none⟩) (xs.drop n) := ⟨by rw [List.map_drop]; exact h.rd.drop n, fun a ha => by cases ha; exact off_some h.off, fun x hx => h.each x (List.mem_of_mem_drop hx)⟩
theorem RdT.nil (hx : Off X A) : RdT X w A [] := ⟨RdC.nil, hx, fun _ h => by cases h⟩
end

/-! ### Nodes -/
inductive Nd where
  | mk (b : Nat) (ts : List Sl) (ks : List Nd)
def Nd.b : Nd → Nat | .mk b _ _ => b
def Nd.ts : Nd → List Sl | .mk _ ts _ => ts
def Nd.ks : Nd → List Nd | .mk _ _ ks => ks
def Nd.ptr (t : Nd) : Option Addr := some ⟨t.b, 0, none⟩
def Nd.val (t : Nd) : Value := .pointer t.ptr
structure NodeAt (X : Nat → Prop) (w : World) (b : Nat) (ts : List Sl) (ps : List Value) (At : Option Addr) (ct : Nat) (Ak : Option Addr) (ck : Nat) : Prop where
  lt : b < w.heap.size
  off : ¬ X b
  c0 : w.cell? ⟨b, 0, none⟩ = some (.slice At ts.length ct)
  c1 : w.cell? ⟨b, 1, none⟩ = some (.slice Ak ps.length ck)
  rt : RdT X w At ts
  rk : RdC w Ak ps
  offk : ps ≠ [] → Off X Ak
  capt : ts.length ≤ ct
  capk : ps.length ≤ ck
  capt' : ct ≤ maxLen
  capk' : ck ≤ maxLen
theorem NodeAt.on {X : Nat → Prop} {w w' : World} {b : Nat} {ts : List Sl} {ps : List Value} {At : Option Addr} {ct : Nat} {Ak : Option Addr} {ck : Nat} (h : NodeAt X w b ts ps At ct Ak ck) (hb : Below w.heap.size w w') : NodeAt X w' b ts ps At ct Ak ck :=
  ⟨Nat.lt_of_lt_of_le h.lt hb.size, h.off, (keep hb _ _ h.lt).trans h.c0, (keep hb _ _ h.lt).trans h.c1, h.rt.on hb, h.rk.on hb, h.offk, h.capt, h.capk, h.capt', h.capk'⟩
theorem NodeAt.onF {X : Nat → Prop} {w w' : World} {b : Nat} {ts : List Sl} {ps : List Value} {At : Option Addr} {ct : Nat} {Ak : Option Addr} {ck : Nat} (h : NodeAt X w b ts ps At ct Ak ck) (hb : Fr X w.heap.size w w') : NodeAt X w' b ts ps At ct Ak ck :=
  ⟨Nat.lt_of_lt_of_le h.lt hb.size, h.off, (hb.cell h.lt h.off).trans h.c0, (hb.cell h.lt h.off).trans h.c1, h.rt.onF hb, h.rk.onF' h.offk hb, h.offk, h.capt, h.capk, h.capt', h.capk'⟩
/-- The node t with k levels below it; each of those below has three to six tuples. -/
def IsN (X : Nat → Prop) (w : World) : Nat → Nd → Prop
  | 0, .mk b ts ks => (∃ At ct Ak ck, NodeAt X w b ts (ks.map Nd.val) At ct Ak ck) ∧ ks = []
  | k + 1, .mk b ts ks => (∃ At ct Ak ck, NodeAt X w b ts (ks.map Nd.val) At ct Ak ck) ∧ ks.length = ts.length + 1 ∧ ∀ t ∈ ks, IsN X w k t ∧ 3 ≤ t.ts.length ∧ t.ts.length ≤ 6
section
variable {X : Nat → Prop} {w w' : World}
theorem IsN.on (hb : Below w.heap.size w w') : ∀ {k : Nat} {t : Nd}, IsN X w k t → IsN X w' k t
  | 0, .mk b ts ks, ⟨⟨At, ct, Ak, ck, h⟩, e⟩ => ⟨⟨At, ct, Ak, ck, h.on hb⟩, e⟩
  | k + 1, .mk b ts ks, ⟨⟨At, ct, Ak, ck, h⟩, e, hk⟩ => ⟨⟨At, ct, Ak, ck, h.on hb⟩, e, fun t ht => ⟨IsN.on hb (hk t ht).1, (hk t ht).2⟩⟩
theorem IsN.onF (hb : Fr X w.heap.size w w') : ∀ {k : Nat} {t : Nd}, IsN X w k t → IsN X w' k t
  | 0, .mk b ts ks, ⟨⟨At, ct, Ak, ck, h⟩, e⟩ => ⟨⟨At, ct, Ak, ck, h.onF hb⟩, e⟩
  | k + 1, .mk b ts ks, ⟨⟨At, ct, Ak, ck, h⟩, e, hk⟩ => ⟨⟨At, ct, Ak, ck, h.onF hb⟩, e, fun t ht => ⟨IsN.onF hb (hk t ht).1, (hk t ht).2⟩⟩
theorem IsN.node : ∀ {k : Nat} {t : Nd}, IsN X w k t → ∃ At ct Ak ck, NodeAt X w t.b t.ts (t.ks.map Nd.val) At ct Ak ck
  | 0, .mk b ts ks, h => h.1
  | k + 1, .mk b ts ks, h => h.1
end
end Go.Proofs.YtpmkhpbhimmeiaaGreat
/-
  Contracts of slices.Clone, Grow and Concat, at each type that is used.
-/
namespace Go.Proofs.YtpmkhpbhimmeiaaGreat
open Go.RowKit FloM ValM
set_option linter.unusedVariables false

/-! ### append of cells that lie somewhere -/
section
variable {P : Program} {w : World}
/-- append(v, a..): v a row of the call's own, a cells that lie somewhere, nil too. -/
theorem run_appC (w : World) (base : Nat) (t ty E : TypeId) (i0 : TypeInfo) (z : Value) (bytes : Nat) (ht : P.underlying t = some (.slice E)) (hi : P.info? E = some i0) (hz : i0.zero = some z) (hs : i0.size = 1) (hb : i0.bytes = bytes) (hzs : z.cells.size = 1) (hby : bytes ≤ 32)
    (v : Value) (n : Nat) (xs : List Value) (hown : w.ownsRow base E 1 v n xs) (A : Option Addr) (c : Nat) (l : List Value) (hr : RdC w A l) (h1 : ∀ u ∈ l, u.oneCell' = true) (hn : n + l.length ≤ 1000000) (hbase : base ≤ w.heap.size) :
    ∃ v' w', (Builtin.append_ #[t, t] ty #[v, .slice A l.length c]).run P w = .ok v' w' ∧ w'.ownsRow base E 1 v' (n + l.length) (xs ++ l) ∧ w.grownBy w' v.ownBlock ∧ (v'.ownBlock = v.ownBlock ∨ v'.ownBlock = some w.heap.size) := by
  have main : ∀ (ad : Addr), (∀ j u, l[j]? = some u → w.cell? (ad.add j) = some u) → ∃ v' w', (Builtin.append_ #[t, t] ty #[v, .slice (some ad) l.length c]).run P w = .ok v' w' ∧ w'.ownsRow base E 1 v' (n + l.length) (xs ++ l) ∧ w.grownBy w' v.ownBlock ∧ (v'.ownBlock = v.ownBlock ∨ v'.ownBlock = some w.heap.size) := by
    intro ad hnews
    obtain ⟨v', w', g1, g2, g3, _, g5⟩ := run_append_own_at (P := P) w base t ty E i0 z 1 bytes ht hi hz hs hb hzs (by omega) v n xs hown ad l.length c l (by omega) hnews h1 (by unfold maxLen; omega) (Nat.le_trans (Nat.mul_le_mul hn hby) (by omega)) hbase
    exact ⟨v', w', g1, g2, g3, g5⟩
  cases l with
  | nil =>
    cases A with
    | some ad => exact main ad (fun j u hu => by simp at hu)
    | none =>
      refine ⟨v, w, ?_, by simpa using hown, ⟨rfl, rfl, rfl, Nat.le_refl _, fun _ _ _ => rfl⟩, .inl rfl⟩
      rcases hown.2 with ⟨rfl, rfl⟩ | ⟨g, cap, cur, rfl, _, _, hnc, _⟩
      · simp [Builtin.append_, run_underlying ht, sizeOf, typeInfo, hi, Builtin.lenOf, Builtin.firstCells]
      · simp [Builtin.append_, run_underlying ht, sizeOf, typeInfo, hi, Builtin.lenOf, Builtin.firstCells, hnc, storeCells]
  | cons x r =>
    obtain ⟨b, o, rfl, _⟩ := hr 0 x rfl
    exact main ⟨b, o, none⟩ hr.news
theorem wpList_appC {w : World} {ops : Array Oper} {rest : List Oper} {o : Oper} {a : Act} {Q : Exit → Act → World → Prop} (hgd : o.guard = none) (s x : Operand) (t : TypeId)
    (ho : o.op = .call { callee := .builtin .append, args := #[s, x], argTypes := #[t, t] })
    (base : Nat) (E : TypeId) (i0 : TypeInfo) (z : Value) (bytes : Nat) (ht : P.underlying t = some (.slice E)) (hi : P.info? E = some i0) (hz : i0.zero = some z) (hs : i0.size = 1) (hb : i0.bytes = bytes) (hzs : z.cells.size = 1) (hby : bytes ≤ 32)
    (A' : Option Addr) (n c' : Nat) (xs : List Value) (hsv : a.eval s = .slice A' n c') (hown : w.ownsRow base E 1 (.slice A' n c') n xs) (A : Option Addr) (c m : Nat) (l : List Value) (hm : l.length = m) (hx : a.eval x = .slice A m c) (hr : RdC w A l) (h1 : ∀ u ∈ l, u.oneCell' = true) (hn : n + m ≤ 1000000) (hbase : base ≤ w.heap.size)
    (h : ∀ A2 c2 w', w'.ownsRow base E 1 (.slice A2 (n + m) c2) (n + m) (xs ++ l) → w.grownBy w' (Value.slice A' n c').ownBlock → wpList P ops Q rest (a.put o.dst (.slice A2 (n + m) c2)) w') : wpList P ops Q (o :: rest) a w := by
  refine wpList_plain hgd fun K hK => ?_
  subst hm
  obtain ⟨v', w', hrun, h2, h3, h4⟩ := run_appC (P := P) w base t o.type E i0 z bytes ht hi hz hs hb hzs hby _ n xs hown A c l hr h1 hn hbase
  obtain ⟨A2, c2, rfl⟩ := own_form h2
  unfold Oper.wp execOp
  simp only [ho, resolve, invoke, builtin, Sem.run_bind, Sem.run_pure, Result.andThen_ok, List.map_toArray, List.map_cons, List.map_nil, hsv, hx, hrun]
  exact hK _ _ (h A2 c2 w' h2 h3)
end
theorem own_made1 (w : World) (E : TypeId) : (w.alloc (.cells #[] E)).ownsRow w.heap.size E 1 (.slice (some ⟨w.heap.size, 0, none⟩) 0 0) 0 [] := World.ownsRow_made w #[] 0 (Nat.le_refl _) (Nat.zero_le _) rfl
theorem info_tup : (Tryz.prog.info? 25).map (fun i => (i.zero, i.size, i.bytes)) = some (some (.slice none 0 0), 1, 24) := by kernel_rfl
theorem info_ptr : (Tryz.prog.info? 105).map (fun i => (i.zero, i.size, i.bytes)) = some (some (.pointer none), 1, 8) := by kernel_rfl
theorem own_froz {w : World} {base size : Nat} {e : TypeId} {A : Option Addr} {c n : Nat} {xs : List Value} (h : w.ownsRow base e size (.slice A n c) n xs) : ∀ a, A = some a → ∀ j, w.frozen? ⟨a.block, j, none⟩ = false := fun a ha j => by
  rcases h.2 with ⟨e, _⟩ | ⟨g, cap, cur, e, _, hg, _⟩
  · injection e with e _ _; rw [e] at ha; cases ha
  · injection e with e _ _; rw [e] at ha; cases ha
    simp [World.frozen?, hg]
/-- Cells in memory of the call's own. -/
def SaysC (cs : List Value) (w : World) (e : Ending) (w' : World) : Prop := ∃ (A : Option Addr) (c : Nat), e = .returned (.slice A cs.length c) ∧ RdC w' A cs ∧ (∀ a, A = some a → w.heap.size ≤ a.block) ∧ cs.length ≤ c ∧ c ≤ maxLen ∧ (∀ a, A = some a → ∀ j, w'.frozen? ⟨a.block, j, none⟩ = false) ∧ Below w.heap.size w w'
end Go.Proofs.YtpmkhpbhimmeiaaGreat

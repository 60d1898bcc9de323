/-
  Package parse: lists of terms. (This text is printed by tools/mklist.py.)
-/
import Derived.Test.YtdolhlbkhhnpmaaDoorPrsU
namespace Go.Proofs.YtdolhlbkhhnpmaaDoor
open Go.RowKit FloM ValM Go.Shelf
set_option linter.unusedVariables false
set_option linter.unusedSimpArgs false
section
variable {α β : Type} {most z n : Nat} {item : Ps α} {acc : List α} {t : Tk} {r r2 : List Tk} {x : α}
theorem list_step (h : t.t = [44]) (hf : ¬ (acc.length = most ∧ termT (hdT z r) = true)) (hi : item z r = .ok x r2) : listL most item z (n + 1) acc (t :: r) = listL most item z n (acc ++ [x]) r2 := by
  conv => lhs; unfold listL
  rw [if_pos (show (hdT z (t :: r)).t = [44] from h)]
  refine (if_neg (show ¬ (acc.length = most ∧ termT (hdT z (t :: r).tail) = true) from hf)).trans ?_
  rw [List.tail_cons, hi]; rfl
theorem list_bad {a k : Nat} (h : t.t = [44]) (hf : ¬ (acc.length = most ∧ termT (hdT z r) = true)) (hi : item z r = .no a k) : listL most item z (n + 1) acc (t :: r) = .no a k := by
  conv => lhs; unfold listL
  rw [if_pos (show (hdT z (t :: r)).t = [44] from h)]
  refine (if_neg (show ¬ (acc.length = most ∧ termT (hdT z (t :: r).tail) = true) from hf)).trans ?_
  rw [List.tail_cons, hi]; rfl
theorem list_full (h : t.t = [44]) (hf : acc.length = most ∧ termT (hdT z r) = true) : listL most item z (n + 1) acc (t :: r) = .no (hdT z r).a 4 := by
  conv => lhs; unfold listL
  rw [if_pos (show (hdT z (t :: r)).t = [44] from h)]
  exact if_pos (show acc.length = most ∧ termT (hdT z (t :: r).tail) = true from hf)
theorem list_end (h : (hdT z r).t ≠ [44]) : listL most item z n acc r = .ok acc r := by
  cases n with
  | zero => rfl
  | succ n => unfold listL; rw [if_neg h]
end
/-- What comes of an item of a list. -/
def ItemQ {α β : Type} (ab : β → α) (vl : β → Value) (S : List β → World → Prop) (X : Nat → Prop) (R : Ans α) (rb tb z o : Nat) (l : List β) (W : World) (e : Ending) (w' : World) : Prop := match R with
  | .ok x r => ∃ b, ab b = x ∧ e = .returned (vl b) ∧ RdrAt w' rb tb z r o ∧ S (l ++ [b]) w' ∧ Fr X W.heap.size W w'
  | .no a k => e = .panicked [{ v := faultP a k, recovered := false }] ∧ Fr X W.heap.size W w'
def StrictP {α : Type} (f : Ps α) : Prop := ∀ z ts x r, GoodT ts → f z ts = .ok x r → r <:+ ts ∧ r.length < ts.length
def cellsOf {β : Type} (cl : β → List Value) (l : List β) : List Value := l.flatMap cl
theorem cellsOf_app {β : Type} (cl : β → List Value) (a b : List β) : cellsOf cl (a ++ b) = cellsOf cl a ++ cellsOf cl b := by simp [cellsOf]
theorem cellsOf_len {β : Type} {cl : β → List Value} {k : Nat} (h : ∀ b, (cl b).length = k) (l : List β) : (cellsOf cl l).length = l.length * k := by
  induction l with
  | nil => simp [cellsOf]
  | cons v l ih => simp only [cellsOf, List.flatMap_cons, List.length_append, List.length_cons] at ih ⊢; rw [ih, h, Nat.succ_mul, Nat.add_comm]
/-- A row of elements of the call's own. -/
def OwnX (E : TypeId) (sz : Nat) {β : Type} (cl : β → List Value) (W : World) (base : Nat) (A : Option Addr) (c : Nat) (l : List β) : Prop := W.ownsRow base E sz (.slice A l.length c) l.length (cellsOf cl l)
theorem OwnX.one {E : TypeId} {sz : Nat} {β : Type} {cl : β → List Value} {base : Nat} (w : World) (b : β) (hb : base ≤ w.heap.size) (hl : (cl b).length = sz) : OwnX E sz cl (w.alloc (.cells (cl b).toArray E)) base (some ⟨w.heap.size, 0, none⟩) 1 [b] := by
  refine ⟨by simp [cellsOf, hl], .inr ⟨w.heap.size, 1, (cl b).toArray, rfl, hb, heap_alloc_new _ _, Nat.le_refl _, by unfold maxLen; omega, by simp [hl], ?_⟩⟩
  simp [cellsOf, ← hl]
theorem OwnX.app {E : TypeId} {sz : Nat} {β : Type} {cl : β → List Value} {w : World} {base c2 : Nat} {A2 : Option Addr} {l : List β} {b : β} (h : w.ownsRow base E sz (.slice A2 (l.length + 1) c2) (l.length + 1) (cellsOf cl l ++ cl b)) : OwnX E sz cl w base A2 c2 (l ++ [b]) := by
  unfold OwnX
  rw [cellsOf_app, List.length_append]
  simpa [cellsOf] using h
def ListRel {α β : Type} (E : TypeId) (sz : Nat) (cl : β → List Value) (ab : β → α) (S : List β → World → Prop) (X : Nat → Prop) (most : Nat) (item : Ps α) (W : World) (rb tb z o : Nat) (ts : List Tk) (x0 : List α) (r0 : List Tk) (v : Value) (wr : World) : Prop :=
  ∃ (n : Nat) (l : List β) (r : List Tk) (A : Option Addr) (c : Nat), v = .slice A l.length c ∧ listL most item z many x0 r0 = listL most item z n (l.map ab) r ∧ r.length ≤ n ∧ r <:+ ts ∧ l.length + r.length ≤ ts.length ∧ OwnX E sz cl wr W.heap.size A c l ∧ RdrAt wr rb tb z r o ∧ S l wr ∧ Fr X W.heap.size W wr
/-- What comes of a list. -/
def ListQ {α β : Type} (E : TypeId) (sz : Nat) (cl : β → List Value) (ab : β → α) (S : List β → World → Prop) (X : Nat → Prop) (R : Ans (List α)) (rb tb z o : Nat) (W : World) (e : Ending) (w' : World) : Prop := match R with
  | .ok xs r => ∃ (l : List β) (A : Option Addr) (c : Nat), l.map ab = xs ∧ e = .returned (.slice A l.length c) ∧ OwnX E sz cl w' W.heap.size A c l ∧ RdrAt w' rb tb z r o ∧ S l w' ∧ Fr X W.heap.size W w'
  | .no a k => e = .panicked [{ v := faultP a k, recovered := false }] ∧ Fr X W.heap.size W w'
theorem Fr.toX {X : Nat → Prop} {rb B : Nat} {w w' : World} (h : Fr (· = rb) B w w') (hx : X rb) : Fr X B w w' := ⟨h.os, h.tape, h.output, h.size, fun k hk hn => h.block k hk fun e => hn (e ▸ hx)⟩
theorem own_frx {w w' : World} {base size n c : Nat} {e : TypeId} {A : Option Addr} {xs : List Value} {X : Nat → Prop} (h : w.ownsRow base e size (.slice A n c) n xs) (hX : ∀ k, X k → k < base) (hF : Fr X w.heap.size w w') : w'.ownsRow base e size (.slice A n c) n xs :=
  own_fr h fun ad ha => by
    have := own_in h ad ha
    exact hF.block _ this.2 fun hx => by have := hX _ hx; omega
theorem own_typ {w : World} {base size n : Nat} {e : TypeId} {v : Value} {xs : List Value} (h : w.ownsRow base e size v n xs) : ∀ k, v.ownBlock = some k → base ≤ k ∧ ∃ cs z, w.heap[k]? = some (.cells cs e z) := fun k hk => by
  rcases h.2 with ⟨h0, _⟩ | ⟨g, cap, cur, hv, hbg, hg, r⟩
  · rw [h0] at hk; simp [Value.ownBlock] at hk
  · rw [hv] at hk; simp [Value.ownBlock] at hk; subst hk; exact ⟨hbg, _, _, hg⟩
theorem ListRel.next {α β : Type} {E : TypeId} {sz : Nat} {cl : β → List Value} {ab : β → α} {S : List β → World → Prop} {X : Nat → Prop} {most : Nat} {item : Ps α} {W : World} {rb tb z o : Nat} {ts : List Tk} {x0 : List α} {r0 : List Tk}
    {n c c2 : Nat} {l : List β} {b : β} {x : α} {t : Tk} {r r2 : List Tk} {A A2 : Option Addr} {w4 w5 : World} {o1 : Obj} (hX : ∀ k, X k → k < W.heap.size)
    (hS1 : ∀ l V V', S l V → Fr (· = rb) V.heap.size V V' → S l V')
    (hS2 : ∀ l V V' q, S l V → V.grownBy V' q → (∀ k, q = some k → W.heap.size ≤ k ∧ ∃ cs z, V.heap[k]? = some (.cells cs E z)) → S l V')
    (hl : listL most item z many x0 r0 = listL most item z (n + 1) (l.map ab) (t :: r)) (hs : listL most item z (n + 1) (l.map ab) (t :: r) = listL most item z n (l.map ab ++ [x]) r2) (hab : ab b = x) (hn : r2.length ≤ n) (hsf : r2 <:+ ts) (hlen : l.length + 1 + r2.length ≤ ts.length)
    (hr : rb < W.heap.size) (htb : tb < W.heap.size) (hF4 : Fr X W.heap.size W w4) (hR4 : RdrAt w4 rb tb z r2 o) (s4 : S (l ++ [b]) w4) (O4 : OwnX E sz cl w4 W.heap.size A c l)
    (ho : w5.ownsRow W.heap.size E sz (.slice A2 (l.length + 1) c2) (l.length + 1) (cellsOf cl l ++ cl b)) (hg : (w4.alloc o1).grownBy w5 (Value.slice A l.length c).ownBlock) :
    ListRel E sz cl ab S X most item W rb tb z o ts x0 r0 (.slice A2 (l.length + 1) c2) w5 ∧ RdrAt w5 rb tb z r2 o := by
  have hbl : Below w4.heap.size w4 (w4.alloc o1) := (Below.refl _ _).alloc (Nat.le_refl _) _
  have O4' := own_on O4 hbl
  have hty := own_typ O4'
  have hR5 := (hR4.on hbl).grown hg hr htb fun k hk => (hty k hk).1
  refine ⟨⟨n, l ++ [b], r2, A2, c2, by simp, by rw [hl, hs, List.map_append, List.map_singleton, hab], hn, hsf, by simp; omega, OwnX.app ho, hR5, hS2 _ _ _ _ (hS1 _ _ _ s4 (Fr.of hbl)) hg hty, ?_⟩, hR5⟩
  exact fr_grown (hF4.trans (Fr.of (hbl.mono hF4.size))) (by have := hF4.size; simp; omega) hg fun k hk => (hty k hk).1
theorem info_term : (Tryd.prog.info? 39).map (fun i => (i.zero, i.size, i.bytes)) = some (some (.agg #[.string ByteArray.empty, .int .i64 0, .int .i64 0, .string ByteArray.empty]), 4, 48) := by kernel_rfl
section
variable {W W' : World} {rb tb z o xb : Nat} {ts : List Tk}
end
end Go.Proofs.YtdolhlbkhhnpmaaDoor

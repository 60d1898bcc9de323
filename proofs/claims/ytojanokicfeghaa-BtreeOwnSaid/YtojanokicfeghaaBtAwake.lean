/-
  Contract of the statements' own awake (layer 4).
-/
import Derived.Test.YtojanokicfeghaaBtRef
namespace Go.Proofs.Ytojanokicfeghaa
open Go.RowKit FloM ValM Go.Shelf
set_option linter.unusedVariables false
set_option linter.unusedSimpArgs false

theorem rdC_made (w : World) (cs : Array Value) (t : TypeId) : RdC (w.alloc (.cells cs t)) (some ⟨w.heap.size, 0, none⟩) cs.toList := fun j u hu => by
  have h := news_one w cs t j u hu
  have hadd : (⟨w.heap.size, 0, none⟩ : Addr).add j = ⟨w.heap.size, 0 + j, none⟩ := by unfold Addr.add; split <;> simp_all
  rw [hadd] at h
  exact ⟨_, _, rfl, by simp, h⟩
theorem rdI_new (w : World) (l : List Int) (t : TypeId) : RdI (w.alloc (.cells (icells l).toArray t)) (some ⟨w.heap.size, 0, none⟩) l := fun i x hx => by
  obtain ⟨b, o, e, hb, hc⟩ := rdC_made w (icells l).toArray t i (.int .i64 x) (by simp [icells, hx])
  exact ⟨b, o, e, hb, hc⟩
theorem rdV_new (w : World) (l : List V) (t : TypeId) : RdV (w.alloc (.cells (vcells l).toArray t)) (some ⟨w.heap.size, 0, none⟩) l := fun i v hv => by
  obtain ⟨h0, h1, h2⟩ := vcells_at hv
  have f := fun (k : Nat) (u : Value) (hu : (vcells l)[k]? = some u) => news_one w (vcells l).toArray t k u hu
  have hadd : ∀ k, (⟨w.heap.size, 0, none⟩ : Addr).add k = ⟨w.heap.size, k, none⟩ := fun k => by unfold Addr.add; split <;> simp_all
  simp only [hadd] at f
  exact ⟨_, 0, rfl, by simp, by rw [Nat.zero_add]; exact ⟨f _ _ h0, f _ _ h1, f _ _ h2⟩⟩
def awA : List V := [⟨1, 1, ByteArray.empty⟩, ⟨1, 9, ByteArray.empty⟩]
def awB : List V := [⟨1, 2, ByteArray.empty⟩, ⟨1, 3, ByteArray.empty⟩]
theorem aw_cmp : cmpC [1, 0] awA awB = 1 := by decide
theorem aw_cmp2 : cmpC [1, 0] awB awA = -1 := by decide
theorem aw_m1 : putM [1, 0] awA [] = [awA] := rfl
theorem aw_m2 : putM [1, 0] awB [awA] = [awB, awA] := by
  rw [putM, if_pos (show awB.length = ([1, 0] : List Int).length from rfl), insS, aw_cmp]; rfl
theorem aw_m3 : putM [1, 0] awA [awB, awA] = [awB, awA] := by
  rw [putM, if_pos (show awA.length = ([1, 0] : List Int).length from rfl), insS, aw_cmp2, insS, cmpC_self]; rfl
theorem aw_b1 : putB [1, 0] awA [] = true := rfl
theorem aw_b2 : putB [1, 0] awB [awA] = true := by
  have : inS [1, 0] awB [awA] = false := by simp [inS, aw_cmp]
  rw [putB, this]; rfl
theorem aw_b3 : putB [1, 0] awA [awB, awA] = false := by
  have : inS [1, 0] awA [awB, awA] = true := by simp [inS, cmpC_self]
  rw [putB, this]; rfl
theorem aw_e1 : putE [1, 0] awA = 0 := rfl
theorem aw_e2 : putE [1, 0] awB = 0 := rfl
theorem aw_h : hasB [1, 0] awB [awB, awA] = true := by
  have : inS [1, 0] awB [awB, awA] = true := by simp [inS, cmpC_self]
  rw [hasB, this]; rfl
theorem aw_d : deepestN [awB, awA].length = 1 := by decide +kernel
structure AwF (w w1 W : World) (g : Nat) (M : List (List V)) : Prop where
  t : TreeS (· = g) W g [1, 0] M
  a : RdV W (some ⟨w1.heap.size, 0, none⟩) awA
  b : RdV W (some ⟨w1.heap.size + 1, 0, none⟩) awB
  gl : g < w1.heap.size
  g0 : w.heap.size ≤ g
  s : w1.heap.size ≤ W.heap.size
  b0 : Below w.heap.size w W
theorem AwF.start {w w1 : World} {g : Nat} {P : Option Addr} {cp : Nat} {c : Obj} (N : NewC [1, 0] (w.alloc c) w1 g P cp) :
    AwF w w1 ((w1.alloc (.cells #[.int .i64 1, .int .i64 1, .string ByteArray.empty, .int .i64 1, .int .i64 9, .string ByteArray.empty] 25)).alloc (.cells #[.int .i64 1, .int .i64 2, .string ByteArray.empty, .int .i64 1, .int .i64 3, .string ByteArray.empty] 25)) g [] := by
  have h1 : Below w.heap.size w w1 := ((Below.refl _ _).alloc (Nat.le_refl _) c).trans (N.b.mono (by simp))
  have h2 := (Below.refl w1.heap.size w1).alloc (Nat.le_refl _) (.cells #[.int .i64 1, .int .i64 1, .string ByteArray.empty, .int .i64 1, .int .i64 9, .string ByteArray.empty] 25)
  have h3 := (Below.refl _ (w1.alloc (.cells #[.int .i64 1, .int .i64 1, .string ByteArray.empty, .int .i64 1, .int .i64 9, .string ByteArray.empty] 25))).alloc (Nat.le_refl _) (.cells #[.int .i64 1, .int .i64 2, .string ByteArray.empty, .int .i64 1, .int .i64 3, .string ByteArray.empty] 25)
  have h4 := h2.trans (h3.mono h2.size)
  refine ⟨(TreeS.one N (by decide) (by decide)).on h4, (rdV_new w1 awA _).on h3, ?_, N.lt, by have := N.fresh; simp at this; omega, h4.size, h1.trans (h4.mono h1.size)⟩
  have := rdV_new (w1.alloc (.cells #[.int .i64 1, .int .i64 1, .string ByteArray.empty, .int .i64 1, .int .i64 9, .string ByteArray.empty] 25)) awB 25
  rwa [show (w1.alloc (.cells #[.int .i64 1, .int .i64 1, .string ByteArray.empty, .int .i64 1, .int .i64 9, .string ByteArray.empty] 25)).heap.size = w1.heap.size + 1 by simp] at this
theorem AwF.put {w w1 W W' : World} {g : Nat} {M M' : List (List V)} (h : AwF w w1 W g M) (ht : TreeS (· = g) W' g [1, 0] M') (hF : Fr (· = g) W.heap.size W W') : AwF w w1 W' g M' :=
  ⟨ht, h.a.onF (fun a ha e => by cases ha; have := h.gl; simp only at e; omega) hF, h.b.onF (fun a ha e => by cases ha; have := h.gl; simp only at e; omega) hF, h.gl, h.g0, Nat.le_trans h.s hF.size,
    h.b0.trans (hF.below h.b0.size fun k hk e => by have := h.g0; omega)⟩
theorem AwF.on {w w1 W W' : World} {g : Nat} {M : List (List V)} (h : AwF w w1 W g M) (hb : Below W.heap.size W W') : AwF w w1 W' g M :=
  ⟨h.t.on hb, h.a.on hb, h.b.on hb, h.gl, h.g0, Nat.le_trans h.s hb.size, h.b0.trans (hb.mono h.b0.size)⟩
theorem AwF.x {w w1 W : World} {g : Nat} {M : List (List V)} (h : AwF w w1 W g M) : ∀ i, i = g → i < W.heap.size := fun i hi => by have := h.gl; have := h.s; omega
/-- What told hands back: two tuples, the first one reads awB. -/
structure AwT (W : World) (A : Option Addr) (b o : Nat) (x : Sl) : Prop where
  e : A = some ⟨b, o, none⟩
  lt : b < W.heap.size
  c : W.cell? ⟨b, o, none⟩ = some (.slice x.A x.l.length x.c)
  l : x.l = awB
  r : RdV W x.A awB
theorem awT_of {X : Nat → Prop} {w W : World} {e : Ending} {A : Option Addr} {c : Nat} {xs : List Sl} (h : SaysT X [awB, awA] w e W A c xs) : ∃ b o x, AwT W A b o x := by
  have hv := h.vals
  rcases xs with _ | ⟨x, xs⟩
  · cases hv
  have hx : x.l = awB := by simp only [List.map_cons, List.cons.injEq] at hv; exact hv.1
  obtain ⟨b, o, e, hl, hc⟩ := h.rd.at_ (j := 0) (x := x) rfl
  exact ⟨b, o, x, e, hl, hc, hx, hx ▸ (h.rd.each x (List.mem_cons_self ..)).rd⟩
theorem AwT.on {W W' : World} {A : Option Addr} {b o : Nat} {x : Sl} (h : AwT W A b o x) (hb : Below W.heap.size W W') : AwT W' A b o x :=
  ⟨h.e, Nat.lt_of_lt_of_le h.lt hb.size, (keep hb _ _ h.lt).trans h.c, h.l, h.r.on hb⟩
theorem aw_ord : ordV awB awB = 0 := ord_self _
set_option maxRecDepth 20000 in
set_option maxHeartbeats 4000000 in
theorem awake_any (w : World) : Calls Try.prog 11 #[] w fun e w' => e = .returned (.bool true) ∧ Below w.heap.size w w' := by
  have hN := Lib.hid (new_any (some ⟨w.heap.size, 0, none⟩) 2 [1, 0] (w.alloc (.cells #[.int .i64 1, .int .i64 0] 3)) (by decide) (rdI_new w [1, 0] _) (by decide))
  go_enter Try.func11, Try.ntmps11
  go_wp2_with (first
    | (go_at_call 13; refine hN.out.mono ?_; rintro e w1 ⟨g, P, cp, rfl, N⟩; have h0 := Lib.hid (AwF.start N); clear hN N)
    | (go_at_call 14; first
      | (refine (putS_any (some ⟨w1.heap.size, 0, none⟩) 2 awA _ h0.out.t h0.out.a (by decide) h0.out.x).mono ?_; rw [aw_b1, aw_e1, aw_m1]; rintro e w2 ⟨rfl, ht, hF⟩; have h1 := Lib.hid (h0.out.put ht hF); clear h0 ht hF)
      | (refine (putS_any (some ⟨w1.heap.size + 1, 0, none⟩) 2 awB _ h1.out.t h1.out.b (by decide) h1.out.x).mono ?_; rw [aw_b2, aw_e2, aw_m2]; rintro e w3 ⟨rfl, ht, hF⟩; have h2 := Lib.hid (h1.out.put ht hF); clear h1 ht hF)
      | (refine (putS_any (some ⟨w1.heap.size, 0, none⟩) 2 awA _ h2.out.t h2.out.a (by decide) h2.out.x).mono ?_; rw [aw_b3, aw_e1, aw_m3]; rintro e w4 ⟨rfl, ht, hF⟩; have h3 := Lib.hid (h2.out.put ht hF); clear h2 ht hF))
    | (go_at_call 16; refine (allS_any _ h3.out.t h3.out.x).mono ?_; rintro e w5 ⟨gf, lb, rfl, hen, hq, hb⟩; have h4 := Lib.hid (h3.out.on hb); replace hq := Lib.hid hq; replace hen := Lib.hid hen; clear h3 hb)
    | (go_at_call 15; refine (told_any _ _ hen.out hq.out (Below.refl _ _) (Nat.le_refl _) (by decide) h4.out.x).mono ?_; rintro e w6 ⟨A, c, xs, hs⟩; have he := hs.val; subst he; have h5 := Lib.hid (h4.out.on hs.b); obtain ⟨b, o, x, ht⟩ := awT_of hs; obtain rfl := ht.e; clear h4 hq hen hs; have ht2 := Lib.hid ht; clear ht)
    | (go_at_call 19; refine (lenS_any _ h5.out.t).mono ?_; rintro e w7 ⟨rfl, rfl⟩; rw [show (([awB, awA] : List (List V)).length : Int) = 2 from rfl])
    | (go_at_call 18; refine (hasS_any (some ⟨w1.heap.size + 1, 0, none⟩) 2 awB _ h5.out.t h5.out.b).mono ?_; rw [aw_h]; rintro e w8 ⟨rfl, hb⟩; have h6 := Lib.hid (h5.out.on hb); replace ht2 := Lib.hid (ht2.out.on hb); have hc := ht2.out.c; have hl := ht2.out.l; rw [hl] at hc; clear h5 hb hl)
    | (go_at_call 17; refine (refOrder_any x.A (some ⟨w1.heap.size + 1, 0, none⟩) x.c 2 awB awB _ ht2.out.r h6.out.b (by decide) (by decide)).mono ?_; rw [aw_ord]; rintro e w9 ⟨rfl, hb⟩; have h7 := Lib.hid (h6.out.on hb); clear h6 hb)
    | (go_at_call 20; refine (deepS_any _ h7.out.t).mono ?_; rintro e w10 ⟨rfl, rfl⟩; rw [aw_d]))
  go_ret
  exact ⟨rfl, h7.out.b0⟩
end Go.Proofs.Ytojanokicfeghaa

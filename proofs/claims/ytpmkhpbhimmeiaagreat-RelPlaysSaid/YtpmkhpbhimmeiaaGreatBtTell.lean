/-
  What the iterator of a tree's From tells.
-/
import Derived.Test.YtpmkhpbhimmeiaaGreatBtFrom
import Derived.Shelf.RegionOpen
namespace Go.Proofs.YtpmkhpbhimmeiaaGreat
open Go.RowKit FloM ValM Go.Shelf
set_option linter.unusedVariables false
set_option linter.unusedSimpArgs false
attribute [local go_sem] Oper.semAt_some

/-- The first ones that begin as x does. -/
def tw (c : List Int) (a : List V) (L : List (List V)) : List (List V) := L.takeWhile fun l => cmpC c l a == 0
theorem tw_more {c : List Int} {a : List V} : ∀ {pre L : List (List V)} {x : List V}, pre ++ [x] <+: L → (∀ y ∈ pre, cmpC c y a = 0) → cmpC c x a = 0 → pre ++ [x] <+: tw c a L
  | [], L, x, ⟨r, h⟩, _, hx => by
    subst h
    exact ⟨tw c a r, by simp [tw, List.takeWhile_cons, hx]⟩
  | y :: pre, L, x, ⟨r, h⟩, hp, hx => by
    subst h
    obtain ⟨r', hr'⟩ := tw_more (pre := pre) ⟨r, rfl⟩ (fun z hz => hp z (List.mem_cons_of_mem _ hz)) hx
    have hy := hp y (List.mem_cons_self ..)
    refine ⟨r', ?_⟩
    simp only [List.cons_append, tw, List.takeWhile_cons, hy, BEq.rfl, if_true]
    unfold tw at hr'
    rw [← hr']
theorem tw_stop {c : List Int} {a : List V} : ∀ {pre L : List (List V)} {x : List V}, pre ++ [x] <+: L → (∀ y ∈ pre, cmpC c y a = 0) → cmpC c x a ≠ 0 → tw c a L = pre
  | [], L, x, ⟨r, h⟩, _, hx => by
    subst h
    simp [tw, List.takeWhile_cons, hx]
  | y :: pre, L, x, ⟨r, h⟩, hp, hx => by
    subst h
    have ih := tw_stop (pre := pre) ⟨r, rfl⟩ (fun z hz => hp z (List.mem_cons_of_mem _ hz)) hx
    have hy := hp y (List.mem_cons_self ..)
    simp only [List.cons_append, tw, List.takeWhile_cons, hy, BEq.rfl, if_true]
    unfold tw at ih
    rw [ih]
theorem tw_all {c : List Int} {a : List V} : ∀ {L : List (List V)}, (∀ y ∈ L, cmpC c y a = 0) → tw c a L = L
  | [], _ => rfl
  | y :: L, hp => by
    have ih := tw_all (L := L) (fun z hz => hp z (List.mem_cons_of_mem _ hz))
    unfold tw at *
    simp [List.takeWhile_cons, hp y (List.mem_cons_self ..), ih]
/-- Between two rounds of the inner loop: what was told was handed on. -/
structure TellI (X : Nat → Prop) (w : World) (l : Nat) (BY : Nat) (c : List Int) (a : List V) (J : List Sl → World → Prop) (pre : List Sl) (W : World) (pre' : List Sl) : Prop where
  same : pre'.map Sl.l = pre.map Sl.l
  j : J pre' W
  zero : ∀ y ∈ pre.map Sl.l, cmpC c y a = 0
  fr : Fr X w.heap.size w W
  box : W.heap[BY]? = some (.cells #[.func (.yield l) #[] #[]] 44 (0, 0))
theorem TellI.calm {X : Nat → Prop} {w : World} {l BY n : Nat} {c : List Int} {a : List V} {J : List Sl → World → Prop} {pre pre' : List Sl} {A B : World} (h : TellI X w l BY c a J pre A pre') (hJ : ∀ s A B, J s A → Calm n A B → J s B) (hc : Calm n A B) (hn : w.heap.size ≤ n) : TellI X w l BY c a J pre B pre' :=
  ⟨h.same, hJ _ _ _ h.j hc, h.zero, h.fr.trans (Fr.of ((hc.mono hn).below h.fr.size)), hc.same _ _ h.box (.inr rfl)⟩
theorem cell_box {W : World} {B : Nat} {v : Value} {t : TypeId} (h : W.heap[B]? = some (.cells #[v] t (0, 0))) : W.cell? ⟨B, 0, none⟩ = some v := by simp [World.cell?, h]
theorem roundB {X : Nat → Prop} {n₀ l : Nat} {J Jx : List Sl → World → Prop} {xs : List Sl} {W1 W' : World} {e : Ending} (h : RoundPost X n₀ l J Jx xs W1 e W') : ∃ bb : Bool, e = .returned (.bool bb) ∧ KN l W1 W' ∧ (bb = true → J xs W' ∧ Fr X n₀ W1 W' ∧ KF W1 W') ∧ (bb = false → Jx xs W') := by
  rcases h with ⟨rfl, h1, h2, h3, h4⟩ | ⟨rfl, h1, h2⟩
  · exact ⟨true, rfl, h4, fun _ => ⟨h1, h2, h3⟩, (fun h => by cases h)⟩
  · exact ⟨false, rfl, h2, (fun h => by cases h), fun _ => h1⟩
/-- There alone. -/
def OnlyAt (A0 : Act) (W0 : World) : Exit → Act → World → Prop
  | .normal, a, w => a = A0 ∧ w = W0
  | _, _, _ => False
theorem onlyAt_imp {A0 : Act} {W0 : World} {Q : Exit → Act → World → Prop} (h : Q .normal A0 W0) : ∀ e a w, OnlyAt A0 W0 e a w → Q e a w := fun e a w hh => by
  cases e <;> first | (obtain ⟨rfl, rfl⟩ := hh; exact h) | exact (hh : False).elim
set_option maxRecDepth 20000 in
set_option maxHeartbeats 8000000 in
theorem from_seq {X : Nat → Prop} {g : Nat} {p : List Int} {L : List Sl} {o : Option (Nat × Nd)} {P : Option Addr} {cp : Nat} {q : Option Addr} {hd xl : List V} {B1 B2 B3 D : Nat} (w0 w : World) (h : TreeAt X w0 g p L o P cp q) (hc : FromC g P cp p hd w0 w B1 B2 B3 D xl) (hws : WS (p.take hd.length) L) (hX : ∀ k, X k → k < w0.heap.size) :
    SeqR 87 #[.pointer (some ⟨B1, 0, none⟩), .pointer (some ⟨B2, 0, none⟩), .pointer (some ⟨B3, 0, none⟩)] X w.heap.size (tw (p.take hd.length) xl ((dW (p.take hd.length) xl L).map Sl.l)) w := by
  intro l J Jx W hW hl hJ hJx hR h0
  have hT := h.on hc.b
  have hdd : ∀ k : Nat, (Fence.wide.depth.isSome = true → 1 ≤ k) := fun k h => by cases h
  have hmix : Tryz.prog.follows .mixedOrders = true := by kernel_rfl
  obtain ⟨W1, hW1⟩ : ∃ W1, W.alloc (.cells #[.func (.yield l) #[] #[]] 44) = W1 := ⟨_, rfl⟩
  have hb1 : Below W.heap.size W W1 := by rw [← hW1]; exact (Below.refl _ _).alloc (Nat.le_refl _) _
  have hwW : Below w.heap.size w W1 := hW.trans (hb1.mono hW.size)
  have lt : ∀ {B : Nat} {o : Obj}, w.heap[B]? = some o → B < w.heap.size := fun h => (Array.getElem?_eq_some_iff.1 h).1
  have cellOf : ∀ {B : Nat} {v : Value} {t : TypeId}, w.heap[B]? = some (.cells #[v] t (0, 0)) → W1.cell? ⟨B, 0, none⟩ = some v := fun hh => (keep hwW _ 0 (lt hh)).trans (by simp [World.cell?, hh])
  have m1 := cellOf hc.h1; have m2 := cellOf hc.h2; have m3 := cellOf hc.h3
  have mg := (keep hwW _ 1 hT.cells.2.2.2).trans hT.cells.2.1
  have H := Lib.hid h; have HC := Lib.hid hc; have HT := Lib.hid hT; have HWS := Lib.hid hws; have HJ := Lib.hid hJ; have HJX := Lib.hid hJx; have HR := Lib.hid hR; have H0 := Lib.hid h0; have HX := Lib.hid hX
  clear h hc hT hws hJ hJx hR h0 hX cellOf
  refine callsIn_deep (n := l) ?_
  refine callsIn_of_wp_marks Tryz.func87 rfl trivial ?_ rfl
  simp only [Tryz.ntmps87, List.size_toArray, List.length_cons, List.length_nil, Nat.reduceAdd, Nat.reduceSub, Array.replicate_succ, Array.replicate_zero, List.push_toArray, List.append_toArray, List.nil_append, List.cons_append]
  gi_wp2
  try rw [hW1]
  have HW1 := Lib.hid hW1; clear hW1
  refine wpIn_mono (Q := OnlyAt { tmps := #[.func (.yield l) #[] #[], .pointer (some ⟨B1, 0, none⟩), .pointer (some ⟨B2, 0, none⟩), .pointer (some ⟨B3, 0, none⟩), .pointer (some ⟨W.heap.size, 0, none⟩), undef, .pointer (some ⟨g, 0, none⟩), .pointer (some ⟨g, 0, none⟩), .pointer (some ⟨g, 1, none⟩), .pointer q,
      .slice (some ⟨D, 0, none⟩) p.length p.length, .slice P hd.length cp, .func (.func 110) #[] #[.pointer (some ⟨W1.heap.size, 0, none⟩), .pointer (some ⟨W1.heap.size + 1, 0, none⟩), .pointer (some ⟨W1.heap.size + 1 + 1, 0, none⟩)], undef, undef, undef, undef, undef, undef, undef, undef, undef, undef, undef, undef, undef], defers := [] }
    ((((W1.alloc (.cells #[.pointer q] 105)).alloc (.cells #[.slice (some ⟨D, 0, none⟩) p.length p.length] 25)).alloc (.cells #[.slice P hd.length cp] 24)).drew)) ?region (onlyAt_imp ?_)
  case region =>
    gi_region_with_o ((first | refine ⟨trivial, hdd _, ?_⟩ | refine ⟨hdd _, ?_⟩ | skip); gi_at_call 85; refine (callsIn_wide.2 (since_any _ _ _ _ ⟨_, rfl⟩ ⟨_, _, _, rfl⟩ ⟨_, _, _, rfl⟩)).mono ?_; rintro e w2 ⟨rfl, rfl⟩)
    all_goals exact ⟨rfl, rfl⟩
  gi_wp2
  obtain ⟨W2, hW2⟩ : ∃ W2, ((((W1.alloc (.cells #[.pointer q] 105)).alloc (.cells #[.slice (some ⟨D, 0, none⟩) p.length p.length] 25)).alloc (.cells #[.slice P hd.length cp] 24)).drew) = W2 := ⟨_, rfl⟩
  have hb2 : Below W1.heap.size W1 W2 := by rw [← hW2]; exact ((((Below.refl _ W1).alloc (Nat.le_refl _) _).alloc (by simp) _).alloc (by simp; omega) _).drew
  have hs2 : W2.heap.size = W1.heap.size + 3 := by rw [← hW2]; simp [heap_dr]
  have k1 : W2.cell? ⟨W1.heap.size, 0, none⟩ = some (.pointer q) := by rw [← hW2]; exact cell_box (by simp only [heap_al, heap_dr, Array.getElem?_push, Array.size_push]; repeat (first | rw [if_pos trivial] | rw [if_pos (by omega)] | rw [if_neg (by omega)]))
  have k2 : W2.cell? ⟨W1.heap.size + 1, 0, none⟩ = some (.slice (some ⟨D, 0, none⟩) p.length p.length) := by rw [← hW2]; exact cell_box (by simp only [heap_al, heap_dr, Array.getElem?_push, Array.size_push]; repeat (first | rw [if_pos trivial] | rw [if_pos (by omega)] | rw [if_neg (by omega)]))
  have k3 : W2.cell? ⟨W1.heap.size + 1 + 1, 0, none⟩ = some (.slice P hd.length cp) := by rw [← hW2]; exact cell_box (by simp only [heap_al, heap_dr, Array.getElem?_push, Array.size_push]; repeat (first | rw [if_pos trivial] | rw [if_pos (by omega)] | rw [if_neg (by omega)]))
  try rw [hW2]
  have HW2 := Lib.hid hW2; clear hW2
  have hlen : (p.take hd.length).length = hd.length := by
    have := congrArg List.length HC.out.pick
    have h2 : (pickL xl (p.take hd.length)).length ≤ (p.take hd.length).length := List.length_filterMap_le _ _
    rw [List.length_take] at *; omega
  have hwd : Below w.heap.size w W2 := hwW.trans (hb2.mono hwW.size)
  have hWs : W.heap.size ≤ W2.heap.size := Nat.le_trans hb1.size hb2.size
  have hrp : RdI w P (p.take hd.length) := fun i x hx => HT.out.rp i x (by rw [List.getElem?_take] at hx; split at hx <;> first | exact hx | cases hx)
  have hrx : RdV w (some ⟨D, 0, none⟩) xl := fun i v hv => by
    have y := vcells_at hv
    exact ⟨D, 0, rfl, (Array.getElem?_eq_some_iff.1 HC.out.hx).1, by simp [World.cell?, HC.out.hx, y.1], by simp [World.cell?, HC.out.hx, y.2.1], by simp [World.cell?, HC.out.hx, y.2.2]⟩
  have hoD : Off X (some ⟨D, 0, none⟩) := fun a ha hx => by cases ha; have := HX.out _ hx; have := HC.out.gD; simp only at *; omega
  have hseq := since_seq (X := X) (B1 := W1.heap.size) (B2 := W1.heap.size + 1) (B3 := W1.heap.size + 1 + 1) (some ⟨D, 0, none⟩) P p.length cp xl (p.take hd.length) w W2 o q (by have := HC.out.len; have := H.out.few; omega) (by have := H.out.few; rw [List.length_take]; omega) hrx hrp hoD H.out.offP HT.out.root (by rw [H.out.all]; intro x hx; rw [H.out.lens x hx]; have := H.out.few; omega) (by rw [H.out.all]; exact HWS.out) hwd (by omega) (by omega) (by omega) k1 (by rw [HC.out.len]; exact k2) (by rw [hlen]; exact k3)
  rw [H.out.all] at hseq
  have HSQ := Lib.hid hseq; have HRX := Lib.hid hrx; have HRP := Lib.hid hrp; clear hseq hrx hrp k1 k2 k3
  have hby : W2.heap[W.heap.size]? = some (.cells #[.func (.yield l) #[] #[]] 44 (0, 0)) := by
    rw [hb2.block _ (by rw [← HW1.out]; simp), ← HW1.out]; exact heap_alloc_new _ _
  have HBY := Lib.hid hby; clear hby
  refine wpIn_seq (gf := 110) (lb := #[.pointer (some ⟨W1.heap.size, 0, none⟩), .pointer (some ⟨W1.heap.size + 1, 0, none⟩), .pointer (some ⟨W1.heap.size + 1 + 1, 0, none⟩)]) rfl (enters_of Tryz.func110 (by kernel_rfl) rfl) HSQ.out (Below.refl _ _) hwd.size rfl
    (fun pre W' => ∃ pre', TellI X w l W.heap.size (p.take hd.length) xl J pre W' pre')
    (fun c pre W' => c = .ret ∧ ((∃ pre', pre'.map Sl.l = tw (p.take hd.length) xl ((dW (p.take hd.length) xl L).map Sl.l) ∧ J pre' W') ∨ (∃ pre', pre'.map Sl.l <+: tw (p.take hd.length) xl ((dW (p.take hd.length) xl L).map Sl.l) ∧ Jx pre' W')))
    (fun s A B h hc => by obtain ⟨pre', h1⟩ := h; exact ⟨pre', h1.calm HJ.out (hc.mono hWs) hW.size⟩)
    (fun c s A B h hc => by
      obtain ⟨e, h1 | h1⟩ := h
      · obtain ⟨pre', h2, h3⟩ := h1; exact ⟨e, .inl ⟨pre', h2, HJ.out _ _ _ h3 (hc.mono hWs)⟩⟩
      · obtain ⟨pre', h2, h3⟩ := h1; exact ⟨e, .inr ⟨pre', h2, HJX.out _ _ _ h3 (hc.mono hWs)⟩⟩)
    ⟨[], rfl, HJ.out _ _ _ H0.out (Calm.of_below (hb1.trans (hb2.mono hb1.size))), (fun y hy => by cases hy), Fr.of hwd, HBY.out⟩
    (fun x => { tmps := #[.func (.yield l) #[] #[], .pointer (some ⟨B1, 0, none⟩), .pointer (some ⟨B2, 0, none⟩), .pointer (some ⟨B3, 0, none⟩), .pointer (some ⟨W.heap.size, 0, none⟩), .slice x.A x.l.length x.c, .pointer (some ⟨g, 0, none⟩), .pointer (some ⟨g, 0, none⟩), .pointer (some ⟨g, 1, none⟩), .pointer q,
      .slice (some ⟨D, 0, none⟩) p.length p.length, .slice P hd.length cp, .func (.func 110) #[] #[.pointer (some ⟨W1.heap.size, 0, none⟩), .pointer (some ⟨W1.heap.size + 1, 0, none⟩), .pointer (some ⟨W1.heap.size + 1 + 1, 0, none⟩)], .slice x.A x.l.length x.c, undef, undef, undef, undef, undef, undef, undef, undef, undef, undef, undef, undef], defers := [] }) ?assign ?body ?done ?stop
  case assign =>
    intro l2 x W' K hK
    gi_wp2
    exact hK
  case body =>
    rintro l2 pre x Wb hl2 ⟨pre', hI⟩ hpre hok
    have hXB : ∀ B, w0.heap.size ≤ B → ¬ X B := fun B hB hx => by have := HX.out _ hx; omega
    have hxin : x.l.length ≤ 1000 := by
      have : x.l ∈ (dW (p.take hd.length) xl L).map Sl.l := hpre.subset (by simp)
      rw [List.mem_map] at this
      obtain ⟨y, hy, he⟩ := this
      have := H.out.lens y (List.dropWhile_sublist _ |>.subset hy)
      have := H.out.few
      rw [← he]; omega
    have b2 := (hI.fr.cell (o := 0) (lt HC.out.h2) (hXB _ HC.out.g2)).trans (cell_box HC.out.h2)
    have b3 := (hI.fr.cell (o := 0) (lt HC.out.h3) (hXB _ HC.out.g3)).trans (cell_box HC.out.h3)
    have by0 := cell_box hI.box
    have hbyl : W.heap.size < Wb.heap.size := (Array.getElem?_eq_some_iff.1 hI.box).1
    have HCMP : Hid (∀ W3, Below Wb.heap.size Wb W3 → Calls Tryz.prog 51 #[.slice x.A x.l.length x.c, .slice (some ⟨D, 0, none⟩) p.length p.length, .slice P hd.length cp] W3 (SaysI (cmpC (p.take hd.length) x.l xl) W3)) := Lib.hid (fun W3 h3 => by
      have := compareT_any x.A (some ⟨D, 0, none⟩) P x.c p.length cp x.l xl (p.take hd.length) W3 (hok.rd.on h3) ((HRX.out.onF hoD hI.fr).on h3) ((HRP.out.onF H.out.offP hI.fr).on h3) (by unfold maxLen; omega) (by have := HC.out.len; have := H.out.few; unfold maxLen; omega) (by have := H.out.few; rw [List.length_take]; unfold maxLen; omega)
      rw [HC.out.len, hlen] at this
      exact this)
    have HIH := Lib.hid hI; have HOK := Lib.hid hok; have HPR := Lib.hid hpre; clear hI hok hpre
    by_cases hz : cmpC (p.take hd.length) x.l xl = 0
    · have HZ := Lib.hid hz; clear hz
      have hs0 : w0.heap.size ≤ Wb.heap.size := Nat.le_trans HC.out.b.size HIH.out.fr.size
      have hpx : pre'.map Sl.l ++ [x.l] <+: tw (p.take hd.length) xl ((dW (p.take hd.length) xl L).map Sl.l) := by
        rw [HIH.out.same]; exact tw_more HPR.out HIH.out.zero HZ.out
      have HLAY : Hid (∀ (A4 : Option Addr) (c4 : Nat) (w4 : World), Below Wb.heap.size Wb w4 → SlOk X w4 ⟨A4, c4, x.l⟩ → YieldAt Fence.wide 0 Tryz.prog l #[.slice A4 x.l.length c4] w4 (RoundPost X w.heap.size l J Jx (pre' ++ [⟨A4, c4, x.l⟩]) w4)) := Lib.hid (fun A4 c4 w4 h4 hk => HR.out pre' ⟨A4, c4, x.l⟩ w4 (HJ.out _ _ _ HIH.out.j (Calm.of_below h4)) hpx hk)
      gi_wp2
      refine wpIn_mono (Q := NoPanic _) ?_ NoPanic.imp
      gi_region_with_o (first
        | ((first | refine ⟨trivial, rfl, ?_⟩ | refine ⟨rfl, ?_⟩ | skip); gi_at_call 51; refine (CallsIn.inRound l2 (callsIn_wide.2 (HCMP.out _ ?_))).mono ?_; (exact (Below.refl _ _).drew); rintro e w3 ⟨rfl, h3⟩; rw [HZ.out]; have h3 : Below Wb.heap.size Wb w3 := (Below.refl _ _).drew.trans h3; have by3 := (keep h3 _ 0 hbyl).trans by0)
        | ((first | refine ⟨trivial, rfl, ?_⟩ | refine ⟨rfl, ?_⟩ | skip); gi_at_call 79; refine (CallsIn.inRound l2 (callsIn_wide.2 (cloneV_any x.A x.c x.l _ (HOK.out.rd.on h3) hxin))).mono ?_; rintro e w4 ⟨A4, c4, hW4⟩; have hE := hW4.val; subst hE; have h4 : Below Wb.heap.size Wb w4 := on h3 hW4.b; have by4 := (keep h4 _ 0 hbyl).trans by0; obtain ⟨fn, tmps, assign, body, hy, hRd⟩ := HLAY.out A4 c4 w4 h4 (hW4.ok (fun z hz => Nat.lt_of_lt_of_le (HX.out z hz) (Nat.le_trans hs0 h3.size))); replace hW4 := Lib.hid hW4)
        | ((first | refine ⟨trivial, rfl, ?_⟩ | refine ⟨rfl, ?_⟩ | skip); refine (hRd.mono (fun e w h => roundB h)).mono ?_; clear hRd; rintro e w5 ⟨bb, rfl, h5⟩))
      all_goals
        refine NoPanic.normal ?_
        have h45 : KeepsFrom (W1.heap.size + 3) Wb w5 := ((KN.of_below h4).trans h5.1).from (by have := hb1.size; omega)
        cases bb with
        | true =>
          obtain ⟨hJ5, hF5, hK5⟩ := h5.2.1 rfl
          have hf := (Fr.of (X := X) (h4.mono HIH.out.fr.size)).trans hF5
          have hk := (KF.of_below h4).trans hK5
          gi_wp2
          exact ⟨h45, hf, hk, pre' ++ [⟨A4, c4, x.l⟩], by simp [HIH.out.same], hJ5, fun y hy => by
            rw [List.map_append, List.mem_append] at hy
            rcases hy with hy | hy
            · exact HIH.out.zero y hy
            · have : y = x.l := by simpa using hy
              rw [this]; exact HZ.out, HIH.out.fr.trans hf, hk _ _ _ HIH.out.box⟩
        | false =>
          have hx5 := h5.2.2 rfl
          gi_wp2
          exact ⟨h45, rfl, .inr ⟨pre' ++ [⟨A4, c4, x.l⟩], by rw [List.map_append]; exact hpx, hx5⟩⟩
    · have hrng := cmpC_rng (p.take hd.length) x.l xl
      obtain ⟨r, hr⟩ : ∃ r, cmpC (p.take hd.length) x.l xl = r := ⟨_, rfl⟩
      have hst := tw_stop HPR.out HIH.out.zero hz
      have hr0 : (r != 0) = true := by rw [← hr]; simpa using hz
      have HRR := Lib.hid hr; have HST := Lib.hid hst; clear hz hrng hr hst
      gi_wp2
      refine wpIn_mono (Q := NoPanic _) ?_ NoPanic.imp
      gi_region_with_o (first
        | ((first | refine ⟨trivial, rfl, ?_⟩ | refine ⟨rfl, ?_⟩ | skip); gi_at_call 51; refine (CallsIn.inRound l2 (callsIn_wide.2 (HCMP.out _ ?_))).mono ?_; (exact (Below.refl _ _).drew); rintro e w3 ⟨rfl, h3⟩; rw [HRR.out]; have h3 : Below Wb.heap.size Wb w3 := (Below.refl _ _).drew.trans h3; have by3 := (keep h3 _ 0 hbyl).trans by0)
        | (refine ⟨fun _ h => (by cases h), ?_⟩)
        | (refine ⟨trivial, ?_⟩))
      all_goals
        refine NoPanic.normal ?_
        gi_wp2
        have hka : KeepsFrom (W1.heap.size + 3) Wb w3 := (KN.of_below h3 (l := 0)).from (by omega)
        have hkb : KeepsFrom W2.heap.size Wb w3 := by rw [hs2]; exact hka
        refine ⟨by first | exact hka | exact hkb, rfl, .inl ⟨pre', by rw [HIH.out.same, HST.out], HJ.out _ _ _ HIH.out.j (Calm.of_below h3)⟩⟩
  case done =>
    rintro Dd xs W' hD hxs ⟨pre', hI⟩ hK
    gi_wp2
    refine ⟨by simp, .inl ⟨_, _, rfl, run_takeDeferred hK, ?_⟩⟩
    have hcp := Calm.put (n := W.heap.size) (o' := .deferred none) hK rfl (Nat.le_trans hWs hD)
    refine ⟨_, results_none rfl _ _ _, ⟨_, rfl⟩, .inl ⟨pre', ?_, HJ.out _ _ _ hI.j hcp⟩⟩
    rw [hI.same, hxs, tw_all]
    rw [← hxs]; exact hI.zero
  case stop =>
    rintro Dd c pre W' hD hpx ⟨rfl, hI⟩ hK
    gi_wp2
    refine ⟨by simp, .inl ⟨_, _, rfl, run_takeDeferred hK, ?_⟩⟩
    have hcp := Calm.put (n := W.heap.size) (o' := .deferred none) hK rfl (Nat.le_trans hWs hD)
    refine ⟨_, results_none rfl _ _ _, ⟨_, rfl⟩, ?_⟩
    rcases hI with ⟨pre', h2, h3⟩ | ⟨pre', h2, h3⟩
    · exact .inl ⟨pre', h2, HJ.out _ _ _ h3 hcp⟩
    · exact .inr ⟨pre', h2, HJX.out _ _ _ h3 hcp⟩
end Go.Proofs.YtpmkhpbhimmeiaaGreat

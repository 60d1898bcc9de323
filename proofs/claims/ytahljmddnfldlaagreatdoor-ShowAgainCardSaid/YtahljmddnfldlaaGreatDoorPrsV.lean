/-
  Package parse: lists of terms. (This text is printed by tools/mklist.py.)
-/
import Derived.Test.YtahljmddnfldlaaGreatDoorPrsU
namespace Go.Proofs.YtahljmddnfldlaaGreatDoor
open Go.RowKit FloM ValM Go.Shelf
set_option linter.unusedVariables false
set_option linter.unusedSimpArgs false
section
variable {α β : Type} {most z n : Nat} {item : Ps α} {acc : List α} {t : Tk} {r r2 : List Tk} {x : α}
theorem list_step (h : t.t = [44]) (hf : ¬ (acc.length = most ∧ termT (hdT z r) = true)) (hi : item z r = .ok x r2) : listL most item z (n + 1) acc (t :: r) = listL most item z n (acc ++ [x]) r2 := by
  conv => lhs; unfold listL
  rw [if_pos (show (hdT z (t :: r)).t = [44] from h)]
  refine (if_neg (show ¬ (acc.length = most ∧ termT (hdT z (t :: r).tail) = true) from hf)).trans ?_
  rw [List.tail_cons, hi]; rfl
theorem list_bad {a k : Nat} (h : t.t = [44]) (hf : ¬ (acc.length = most ∧ termT (hdT z r) = true)) (hi : item z r = .no a k) : listL most item z (n + 1) acc (t :: r) = .no a k := by
  conv => lhs; unfold listL
  rw [if_pos (show (hdT z (t :: r)).t = [44] from h)]
  refine (if_neg (show ¬ (acc.length = most ∧ termT (hdT z (t :: r).tail) = true) from hf)).trans ?_
  rw [List.tail_cons, hi]; rfl
theorem list_full (h : t.t = [44]) (hf : acc.length = most ∧ termT (hdT z r) = true) : listL most item z (n + 1) acc (t :: r) = .no (hdT z r).a 4 := by
  conv => lhs; unfold listL
  rw [if_pos (show (hdT z (t :: r)).t = [44] from h)]
  exact if_pos (show acc.length = most ∧ termT (hdT z (t :: r).tail) = true from hf)
theorem list_end (h : (hdT z r).t ≠ [44]) : listL most item z n acc r = .ok acc r := by
  cases n with
  | zero => rfl
  | succ n => unfold listL; rw [if_neg h]
end
/-- What comes of an item of a list. -/
def ItemQ {α β : Type} (ab : β → α) (vl : β → Value) (S : List β → World → Prop) (X : Nat → Prop) (R : Ans α) (rb tb z o : Nat) (l : List β) (W : World) (e : Ending) (w' : World) : Prop := match R with
  | .ok x r => ∃ b, ab b = x ∧ e = .returned (vl b) ∧ RdrAt w' rb tb z r o ∧ S (l ++ [b]) w' ∧ Fr X W.heap.size W w'
  | .no a k => e = .panicked [{ v := faultP a k, recovered := false }] ∧ Fr X W.heap.size W w'
def StrictP {α : Type} (f : Ps α) : Prop := ∀ z ts x r, GoodT ts → f z ts = .ok x r → r <:+ ts ∧ r.length < ts.length
def cellsOf {β : Type} (cl : β → List Value) (l : List β) : List Value := l.flatMap cl
theorem cellsOf_app {β : Type} (cl : β → List Value) (a b : List β) : cellsOf cl (a ++ b) = cellsOf cl a ++ cellsOf cl b := by simp [cellsOf]
/-- A row of elements of the call's own. -/
def OwnX (E : TypeId) (sz : Nat) {β : Type} (cl : β → List Value) (W : World) (base : Nat) (A : Option Addr) (c : Nat) (l : List β) : Prop := W.ownsRow base E sz (.slice A l.length c) l.length (cellsOf cl l)
theorem OwnX.one {E : TypeId} {sz : Nat} {β : Type} {cl : β → List Value} {base : Nat} (w : World) (b : β) (hb : base ≤ w.heap.size) (hl : (cl b).length = sz) : OwnX E sz cl (w.alloc (.cells (cl b).toArray E)) base (some ⟨w.heap.size, 0, none⟩) 1 [b] := by
  refine ⟨by simp [cellsOf, hl], .inr ⟨w.heap.size, 1, (cl b).toArray, rfl, hb, heap_alloc_new _ _, Nat.le_refl _, by unfold maxLen; omega, by simp [hl], ?_⟩⟩
  simp [cellsOf, ← hl]
theorem OwnX.app {E : TypeId} {sz : Nat} {β : Type} {cl : β → List Value} {w : World} {base c2 : Nat} {A2 : Option Addr} {l : List β} {b : β} (h : w.ownsRow base E sz (.slice A2 (l.length + 1) c2) (l.length + 1) (cellsOf cl l ++ cl b)) : OwnX E sz cl w base A2 c2 (l ++ [b]) := by
  unfold OwnX
  rw [cellsOf_app, List.length_append]
  simpa [cellsOf] using h
def ListRel {α β : Type} (E : TypeId) (sz : Nat) (cl : β → List Value) (ab : β → α) (S : List β → World → Prop) (X : Nat → Prop) (most : Nat) (item : Ps α) (W : World) (rb tb z o : Nat) (ts : List Tk) (x0 : List α) (r0 : List Tk) (v : Value) (wr : World) : Prop :=
  ∃ (n : Nat) (l : List β) (r : List Tk) (A : Option Addr) (c : Nat), v = .slice A l.length c ∧ listL most item z many x0 r0 = listL most item z n (l.map ab) r ∧ r.length ≤ n ∧ r <:+ ts ∧ l.length + r.length ≤ ts.length ∧ OwnX E sz cl wr W.heap.size A c l ∧ RdrAt wr rb tb z r o ∧ S l wr ∧ Fr X W.heap.size W wr
/-- What comes of a list. -/
def ListQ {α β : Type} (E : TypeId) (sz : Nat) (cl : β → List Value) (ab : β → α) (S : List β → World → Prop) (X : Nat → Prop) (R : Ans (List α)) (rb tb z o : Nat) (W : World) (e : Ending) (w' : World) : Prop := match R with
  | .ok xs r => ∃ (l : List β) (A : Option Addr) (c : Nat), l.map ab = xs ∧ e = .returned (.slice A l.length c) ∧ OwnX E sz cl w' W.heap.size A c l ∧ RdrAt w' rb tb z r o ∧ S l w' ∧ Fr X W.heap.size W w'
  | .no a k => e = .panicked [{ v := faultP a k, recovered := false }] ∧ Fr X W.heap.size W w'
theorem Fr.toX {X : Nat → Prop} {rb B : Nat} {w w' : World} (h : Fr (· = rb) B w w') (hx : X rb) : Fr X B w w' := ⟨h.os, h.tape, h.output, h.size, fun k hk hn => h.block k hk fun e => hn (e ▸ hx)⟩
theorem own_frx {w w' : World} {base size n c : Nat} {e : TypeId} {A : Option Addr} {xs : List Value} {X : Nat → Prop} (h : w.ownsRow base e size (.slice A n c) n xs) (hX : ∀ k, X k → k < base) (hF : Fr X w.heap.size w w') : w'.ownsRow base e size (.slice A n c) n xs :=
  own_fr h fun ad ha => by
    have := own_in h ad ha
    exact hF.block _ this.2 fun hx => by have := hX _ hx; omega
theorem own_typ {w : World} {base size n : Nat} {e : TypeId} {v : Value} {xs : List Value} (h : w.ownsRow base e size v n xs) : ∀ k, v.ownBlock = some k → base ≤ k ∧ ∃ cs z, w.heap[k]? = some (.cells cs e z) := fun k hk => by
  rcases h.2 with ⟨h0, _⟩ | ⟨g, cap, cur, hv, hbg, hg, r⟩
  · rw [h0] at hk; simp [Value.ownBlock] at hk
  · rw [hv] at hk; simp [Value.ownBlock] at hk; subst hk; exact ⟨hbg, _, _, hg⟩
theorem ListRel.next {α β : Type} {E : TypeId} {sz : Nat} {cl : β → List Value} {ab : β → α} {S : List β → World → Prop} {X : Nat → Prop} {most : Nat} {item : Ps α} {W : World} {rb tb z o : Nat} {ts : List Tk} {x0 : List α} {r0 : List Tk}
    {n c c2 : Nat} {l : List β} {b : β} {x : α} {t : Tk} {r r2 : List Tk} {A A2 : Option Addr} {w4 w5 : World} {o1 : Obj} (hX : ∀ k, X k → k < W.heap.size)
    (hS1 : ∀ l V V', S l V → Fr (· = rb) V.heap.size V V' → S l V')
    (hS2 : ∀ l V V' q, S l V → V.grownBy V' q → (∀ k, q = some k → W.heap.size ≤ k ∧ ∃ cs z, V.heap[k]? = some (.cells cs E z)) → S l V')
    (hl : listL most item z many x0 r0 = listL most item z (n + 1) (l.map ab) (t :: r)) (hs : listL most item z (n + 1) (l.map ab) (t :: r) = listL most item z n (l.map ab ++ [x]) r2) (hab : ab b = x) (hn : r2.length ≤ n) (hsf : r2 <:+ ts) (hlen : l.length + 1 + r2.length ≤ ts.length)
    (hr : rb < W.heap.size) (htb : tb < W.heap.size) (hF4 : Fr X W.heap.size W w4) (hR4 : RdrAt w4 rb tb z r2 o) (s4 : S (l ++ [b]) w4) (O4 : OwnX E sz cl w4 W.heap.size A c l)
    (ho : w5.ownsRow W.heap.size E sz (.slice A2 (l.length + 1) c2) (l.length + 1) (cellsOf cl l ++ cl b)) (hg : (w4.alloc o1).grownBy w5 (Value.slice A l.length c).ownBlock) :
    ListRel E sz cl ab S X most item W rb tb z o ts x0 r0 (.slice A2 (l.length + 1) c2) w5 ∧ RdrAt w5 rb tb z r2 o := by
  have hbl : Below w4.heap.size w4 (w4.alloc o1) := (Below.refl _ _).alloc (Nat.le_refl _) _
  have O4' := own_on O4 hbl
  have hty := own_typ O4'
  have hR5 := (hR4.on hbl).grown hg hr htb fun k hk => (hty k hk).1
  refine ⟨⟨n, l ++ [b], r2, A2, c2, by simp, by rw [hl, hs, List.map_append, List.map_singleton, hab], hn, hsf, by simp; omega, OwnX.app ho, hR5, hS2 _ _ _ _ (hS1 _ _ _ s4 (Fr.of hbl)) hg hty, ?_⟩, hR5⟩
  exact fr_grown (hF4.trans (Fr.of (hbl.mono hF4.size))) (by have := hF4.size; simp; omega) hg fun k hk => (hty k hk).1
theorem info_term : (Tryz.prog.info? 48).map (fun i => (i.zero, i.size, i.bytes)) = some (some (.agg #[.string ByteArray.empty, .int .i64 0, .int .i64 0, .string ByteArray.empty]), 4, 48) := by kernel_rfl
section
variable {W W' : World} {rb tb z o xb : Nat} {ts : List Tk}
set_option maxRecDepth 20000 in
set_option maxHeartbeats 16000000 in
theorem list_term {α β : Type} (ab : β → α) (tm : β → Tm) (S : List β → World → Prop) (X : Nat → Prop) (item : Ps α) (hst : StrictP item) (W : World) (hX : ∀ k, X k → k < W.heap.size) (hXr : X rb)
    (hS1 : ∀ l V V', S l V → Fr (· = rb) V.heap.size V V' → S l V')
    (hS2 : ∀ l V V' q, S l V → V.grownBy V' q → (∀ k, q = some k → W.heap.size ≤ k ∧ ∃ cs z, V.heap[k]? = some (.cells cs 48 z)) → S l V')
    (hit : ∀ V r l, r <:+ ts → RdrAt V rb tb z r o → W.heap.size ≤ V.heap.size → S l V → Calls Tryz.prog 60 #[.pointer (some ⟨rb, 0, none⟩)] V (ItemQ ab (fun b => .agg #[.string (bs (tm b).v), .int .i64 (tm b).x.k, .int .i64 (tm b).x.n, .string (tm b).x.s]) S X (item z r) rb tb z o l V))
    (h : RdrAt W rb tb z ts o) (hg : GoodT ts) (hts : ts.length ≤ 20009) (hs0 : S [] W) :
    Calls Tryz.prog 87 #[.pointer (some ⟨rb, 0, none⟩), .int .i64 8, .func (.func 60) #[] #[]] W (ListQ 48 4 (fun b => [.string (bs (tm b).v), .int .i64 (tm b).x.k, .int .i64 (tm b).x.n, .string (tm b).x.s]) ab S X (listP 8 item z ts) rb tb z o W) := by
  obtain ⟨i0, hi0, hz0, hz1, hz2⟩ := info_parts info_term
  have HI := Lib.hid (And.intro hi0 (And.intro hz0 (And.intro hz1 hz2)))
  have hr := h.lt; have ht := h.tlt
  have HIT := Lib.hid hit
  have HI0 := Lib.hid (hit W ts [] (List.suffix_refl _) h (Nat.le_refl _) hs0)
  have HST := Lib.hid hst; have HG := Lib.hid hg; have HS1 := Lib.hid hS1; have HS2 := Lib.hid hS2; have HX := Lib.hid hX
  have HMY := Lib.hid (show many = 20010 from rfl)
  unfold listP
  clear hi0 hz0 hz1 hz2 h hit hst hS1 hS2 hs0 hX
  cases hR : item z ts with
  | no a e =>
    rw [hR] at HI0
    simp only [Ans.bind]
    clear hR
    go_enter Tryz.func87, Tryz.ntmps87
    go_wp2_with (go_at_call 60; refine HI0.out.mono ?_; rintro e w1 ⟨rfl, f1⟩)
    exact ⟨rfl, rfl, f1⟩
  | ok x0 r0 =>
    rw [hR] at HI0
    have hs0 := HST.out z ts x0 r0 hg hR
    have HSF := Lib.hid hs0.1
    have hl0 := hs0.2
    simp only [Ans.bind]
    clear hR hs0 hg
    go_enter Tryz.func87, Tryz.ntmps87
    go_wp2_with (go_at_call 60; refine HI0.out.mono ?_; rintro e w1 ⟨b, hab, rfl, h1, s1, f1⟩; have HP : Hid (ListRel 48 4 (fun b => [.string (bs (tm b).v), .int .i64 (tm b).x.k, .int .i64 (tm b).x.n, .string (tm b).x.s]) ab S X 8 item W rb tb z o ts [x0] r0 (.slice (some ⟨w1.heap.size, 0, none⟩) 1 1) (w1.alloc (.cells #[.string (bs (tm b).v), .int .i64 (tm b).x.k, .int .i64 (tm b).x.n, .string (tm b).x.s] 48))) := Lib.hid ⟨many, [b], r0, _, _, rfl, by rw [← hab]; rfl, by rw [HMY.out]; omega, HSF.out, by simp; omega, OwnX.one (cl := (fun b => [.string (bs (tm b).v), .int .i64 (tm b).x.k, .int .i64 (tm b).x.n, .string (tm b).x.s])) w1 b f1.size rfl, h1.on ((Below.refl _ _).alloc (Nat.le_refl _) _), HS1.out _ _ _ s1 (Fr.of ((Below.refl _ _).alloc (Nat.le_refl _) _)), f1.trans (Fr.of ((Below.refl _ _).alloc f1.size _))⟩; clear h1 s1 f1)
    go_loopw [7] (ListRel 48 4 (fun b => [.string (bs (tm b).v), .int .i64 (tm b).x.k, .int .i64 (tm b).x.n, .string (tm b).x.s]) ab S X 8 item W rb tb z o ts [x0] r0) (fun _ wr => leftAt rb wr)
    case atStart => exact HP.out
    case round =>
      clear HP HI0
      obtain ⟨n, l, r, A, c, rfl, hl, hn, hsf, hlm, hown, hR, hS, hF⟩ := hrel
      have HL := Lib.hid hl; have HO := Lib.hid hown; have HR := Lib.hid hR; have HSS := Lib.hid hS; have HF := Lib.hid hF; have HSR := Lib.hid hsf
      have hz := hF.size
      have HLF := Lib.hid (left_of hR)
      clear hl hown hR hS hF hsf
      by_cases g1 : (hdT z r).t = [44]
      · have S1 := Lib.hid (skip_yes ⟨#[44]⟩ wr HR.out g1 (by decide))
        obtain ⟨t, r', rfl⟩ : ∃ t r2, r = t :: r2 := ⟨_, _, hd_tail g1 (by simp)⟩
        obtain ⟨n', rfl⟩ : ∃ n', n = n' + 1 := ⟨n - 1, by simp only [List.length_cons] at hn; omega⟩
        have G1 := Lib.hid (show t.t = [44] from g1)
        have HSR' : Hid (r' <:+ ts) := Lib.hid (List.IsSuffix.trans (List.suffix_cons _ _) HSR.out)
        simp only [List.tail_cons] at S1
        simp only [List.length_cons] at hlm hn HLF
        have HC : Hid (∀ V, RdrAt V rb tb z r' o → W.heap.size ≤ V.heap.size → S l V → Calls Tryz.prog 60 #[.pointer (some ⟨rb, 0, none⟩)] V (ItemQ ab (fun b => .agg #[.string (bs (tm b).v), .int .i64 (tm b).x.k, .int .i64 (tm b).x.n, .string (tm b).x.s]) S X (item z r') rb tb z o l V)) := Lib.hid fun V a1 a2 a3 => HIT.out V r' l HSR'.out a1 a2 a3
        have HIT2 : Hid (∀ V, Calls Tryz.prog 88 #[.agg #[.int .i64 ((hdT z r').k : Int), .string (bs (hdT z r').t), .int .i64 ((hdT z r').a : Int)]] V fun e w' => e = .returned (.bool (termT (hdT z r'))) ∧ Below V.heap.size V w') := Lib.hid fun V => isTerm_any (hdT z r') V
        have h02 : (0 : Int) < ((r'.length + 2 : Nat) : Int) := by omega
        clear g1
        by_cases hm : l.length = 8
        · have hmb : ((l.length : Int) == 8) = true := by rw [hm]; rfl
          cases htm : termT (hdT z r') with
          | true =>
            rw [htm] at HIT2
            have HFA : Hid (∀ V, RdrAt V rb tb z r' o → Calls Tryz.prog 56 #[.pointer (some ⟨rb, 0, none⟩), .int .i64 4] V fun e w' => e = .panicked [{ v := faultP (hdT z r').a 4, recovered := false }] ∧ V = w') := Lib.hid fun V hV => fail_any 4 V hV
            have HE := Lib.hid (HL.out.trans (list_full (item := item) (most := 8) (acc := l.map ab) (n := n') G1.out ⟨by rw [List.length_map]; exact hm, htm⟩))
            clear htm hm
            go_wp2_with (first
              | (go_at_call 83; refine S1.out.mono ?_; rintro e w2 ⟨rfl, h2, f2⟩; obtain ⟨off2, cc2, K2⟩ := h2.hd; have q0 := K2.r0; have k0 := K2.c0; have k1 := K2.c1; have k2 := K2.c2; have hl2 := K2.lt; have hb2 := K2.bl; have H2 := Lib.hid h2; have F2 := Lib.hid f2; have O2 := Lib.hid (own_frx HO.out (fun k (hk : k = rb) => by omega) f2); have SS2 := Lib.hid (HS1.out _ _ _ HSS.out f2); have hs2 := f2.size; clear h2 f2 K2)
              | (go_at_call 88; refine (HIT2.out _).mono ?_; rintro e w3 ⟨rfl, hb3⟩; have H3 := Lib.hid (H2.out.on hb3); have O3 := Lib.hid (own_on O2.out hb3); have SS3 := Lib.hid (HS1.out _ _ _ SS2.out (Fr.of hb3)); have F3 := Lib.hid (F2.out.trans (Fr.of (hb3.mono hs2))); have hs3 := hb3.size; clear hb3)
              | (go_at_call 56; refine (HFA.out _ H3.out).mono ?_; rintro e w4 ⟨rfl, rfl⟩))
            rw [HE.out]
            exact ⟨rfl, rfl, HF.out.trans ((F3.out.toX hXr).mono hz)⟩
          | false =>
            rw [htm] at HIT2
            have HNF : Hid (¬ ((l.map ab).length = 8 ∧ termT (hdT z r') = true)) := Lib.hid fun e => by rw [htm] at e; exact absurd e.2 (by simp)
            clear htm hm
            cases hi : item z r' with
            | no a e0 =>
              rw [hi] at HC
              have HE := Lib.hid (HL.out.trans (list_bad (acc := l.map ab) (n := n') G1.out HNF.out hi))
              clear hi
              go_wp2_with (first
                | (go_at_call 83; refine S1.out.mono ?_; rintro e w2 ⟨rfl, h2, f2⟩; obtain ⟨off2, cc2, K2⟩ := h2.hd; have q0 := K2.r0; have k0 := K2.c0; have k1 := K2.c1; have k2 := K2.c2; have hl2 := K2.lt; have hb2 := K2.bl; have H2 := Lib.hid h2; have F2 := Lib.hid f2; have O2 := Lib.hid (own_frx HO.out (fun k (hk : k = rb) => by omega) f2); have SS2 := Lib.hid (HS1.out _ _ _ HSS.out f2); have hs2 := f2.size; clear h2 f2 K2)
                | (go_at_call 88; refine (HIT2.out _).mono ?_; rintro e w3 ⟨rfl, hb3⟩; have H3 := Lib.hid (H2.out.on hb3); have O3 := Lib.hid (own_on O2.out hb3); have SS3 := Lib.hid (HS1.out _ _ _ SS2.out (Fr.of hb3)); have F3 := Lib.hid (F2.out.trans (Fr.of (hb3.mono hs2))); have hs3 := hb3.size; clear hb3)
                | (go_at_call 60; refine (HC.out _ H3.out (by omega) SS3.out).mono ?_; rintro e w4 ⟨rfl, f4⟩))
              rw [HE.out]
              exact ⟨rfl, rfl, (HF.out.trans ((F3.out.toX hXr).mono hz)).trans (f4.mono (by omega))⟩
            | ok x r2 =>
              rw [hi] at HC
              have hss := HST.out z r' x r2 (HG.out.suf HSR'.out) hi
              have HSR2 := Lib.hid (List.IsSuffix.trans hss.1 HSR'.out)
              have hll := hss.2
              have HSTEP := Lib.hid (list_step (acc := l.map ab) (n := n') G1.out HNF.out hi)
              clear hi hss
              go_wp2_with (first
                | (go_at_call 83; refine S1.out.mono ?_; rintro e w2 ⟨rfl, h2, f2⟩; obtain ⟨off2, cc2, K2⟩ := h2.hd; have q0 := K2.r0; have k0 := K2.c0; have k1 := K2.c1; have k2 := K2.c2; have hl2 := K2.lt; have hb2 := K2.bl; have H2 := Lib.hid h2; have F2 := Lib.hid f2; have O2 := Lib.hid (own_frx HO.out (fun k (hk : k = rb) => by omega) f2); have SS2 := Lib.hid (HS1.out _ _ _ HSS.out f2); have hs2 := f2.size; clear h2 f2 K2)
                | (go_at_call 88; refine (HIT2.out _).mono ?_; rintro e w3 ⟨rfl, hb3⟩; have H3 := Lib.hid (H2.out.on hb3); have O3 := Lib.hid (own_on O2.out hb3); have SS3 := Lib.hid (HS1.out _ _ _ SS2.out (Fr.of hb3)); have F3 := Lib.hid (F2.out.trans (Fr.of (hb3.mono hs2))); have hs3 := hb3.size; clear hb3)
                | (go_at_call 60; refine (HC.out _ H3.out (by omega) SS3.out).mono ?_; rintro e w4 ⟨b, hab, rfl, h4, s4, f4⟩; have HAB := Lib.hid hab; have H4 := Lib.hid h4; have SS4 := Lib.hid s4; have F4 := Lib.hid f4; have O4 := Lib.hid (own_frx O3.out HX.out f4); have hs4 := f4.size; clear hab h4 s4 f4; have FF4 := Lib.hid ((HF.out.trans ((F3.out.toX hXr).mono hz)).trans (F4.out.mono (by omega))))
                | (at_builtin; refine wpList_append_own_at _ rfl (.tmp 29) (.tmp 33) _ rfl W.heap.size 48 i0 (.agg #[.string ByteArray.empty, .int .i64 0, .int .i64 0, .string ByteArray.empty]) 4 48 Tryz.underlying23 HI.out.1 HI.out.2.1 HI.out.2.2.1 HI.out.2.2.2 rfl (by omega) (.slice A l.length c) l.length (cellsOf (fun b => [.string (bs (tm b).v), .int .i64 (tm b).x.k, .int .i64 (tm b).x.n, .string (tm b).x.s]) l) rfl (own_on O4.out ((Below.refl _ _).alloc (Nat.le_refl _) _)) ⟨w4.heap.size, 0, none⟩ 1 1 [.string (bs (tm b).v), .int .i64 (tm b).x.k, .int .i64 (tm b).x.n, .string (tm b).x.s] rfl (by simp) (news_one w4 #[.string (bs (tm b).v), .int .i64 (tm b).x.k, .int .i64 (tm b).x.n, .string (tm b).x.s] _) (by simp [Value.oneCell']) (by unfold maxLen; omega) (by omega) (by simp; omega) ?_; intro v' w5 ho hg _ _; obtain ⟨A2, c2, rfl⟩ := own_form ho; have HNX := Lib.hid (ListRel.next HX.out HS1.out HS2.out HL.out HSTEP.out HAB.out (by omega) HSR2.out (by omega) hr ht FF4.out H4.out SS4.out O4.out ho hg); clear ho hg))
              have HL5 := Lib.hid (left_of HNX.out.2)
              go_roundw
              case rel => exact HNX.out.1
              case measure => rw [HL5.out, HLF.out]; omega
        · have hmb : ((l.length : Int) == 8) = false := by rw [beq_eq_false_iff_ne]; omega
          have HNF : Hid (¬ ((l.map ab).length = 8 ∧ termT (hdT z r') = true)) := Lib.hid fun e => hm (by have := e.1; rwa [List.length_map] at this)
          clear hm HIT2
          cases hi : item z r' with
          | no a e0 =>
            rw [hi] at HC
            have HE := Lib.hid (HL.out.trans (list_bad (acc := l.map ab) (n := n') G1.out HNF.out hi))
            clear hi
            go_wp2_with (first
              | (go_at_call 83; refine S1.out.mono ?_; rintro e w2 ⟨rfl, h2, f2⟩; obtain ⟨off2, cc2, K2⟩ := h2.hd; have q0 := K2.r0; have k0 := K2.c0; have k1 := K2.c1; have k2 := K2.c2; have hl2 := K2.lt; have hb2 := K2.bl; have H2 := Lib.hid h2; have F2 := Lib.hid f2; have O2 := Lib.hid (own_frx HO.out (fun k (hk : k = rb) => by omega) f2); have SS2 := Lib.hid (HS1.out _ _ _ HSS.out f2); have hs2 := f2.size; clear h2 f2 K2)
              | (go_at_call 60; refine (HC.out _ H2.out (by omega) SS2.out).mono ?_; rintro e w4 ⟨rfl, f4⟩))
            rw [HE.out]
            exact ⟨rfl, rfl, (HF.out.trans ((F2.out.toX hXr).mono hz)).trans (f4.mono (by omega))⟩
          | ok x r2 =>
            rw [hi] at HC
            have hss := HST.out z r' x r2 (HG.out.suf HSR'.out) hi
            have HSR2 := Lib.hid (List.IsSuffix.trans hss.1 HSR'.out)
            have hll := hss.2
            have HSTEP := Lib.hid (list_step (acc := l.map ab) (n := n') G1.out HNF.out hi)
            clear hi hss
            go_wp2_with (first
              | (go_at_call 83; refine S1.out.mono ?_; rintro e w2 ⟨rfl, h2, f2⟩; obtain ⟨off2, cc2, K2⟩ := h2.hd; have q0 := K2.r0; have k0 := K2.c0; have k1 := K2.c1; have k2 := K2.c2; have hl2 := K2.lt; have hb2 := K2.bl; have H2 := Lib.hid h2; have F2 := Lib.hid f2; have O2 := Lib.hid (own_frx HO.out (fun k (hk : k = rb) => by omega) f2); have SS2 := Lib.hid (HS1.out _ _ _ HSS.out f2); have hs2 := f2.size; clear h2 f2 K2)
              | (go_at_call 60; refine (HC.out _ H2.out (by omega) SS2.out).mono ?_; rintro e w4 ⟨b, hab, rfl, h4, s4, f4⟩; have HAB := Lib.hid hab; have H4 := Lib.hid h4; have SS4 := Lib.hid s4; have F4 := Lib.hid f4; have O4 := Lib.hid (own_frx O2.out HX.out f4); have hs4 := f4.size; clear hab h4 s4 f4; have FF4 := Lib.hid ((HF.out.trans ((F2.out.toX hXr).mono hz)).trans (F4.out.mono (by omega))))
              | (at_builtin; refine wpList_append_own_at _ rfl (.tmp 29) (.tmp 33) _ rfl W.heap.size 48 i0 (.agg #[.string ByteArray.empty, .int .i64 0, .int .i64 0, .string ByteArray.empty]) 4 48 Tryz.underlying23 HI.out.1 HI.out.2.1 HI.out.2.2.1 HI.out.2.2.2 rfl (by omega) (.slice A l.length c) l.length (cellsOf (fun b => [.string (bs (tm b).v), .int .i64 (tm b).x.k, .int .i64 (tm b).x.n, .string (tm b).x.s]) l) rfl (own_on O4.out ((Below.refl _ _).alloc (Nat.le_refl _) _)) ⟨w4.heap.size, 0, none⟩ 1 1 [.string (bs (tm b).v), .int .i64 (tm b).x.k, .int .i64 (tm b).x.n, .string (tm b).x.s] rfl (by simp) (news_one w4 #[.string (bs (tm b).v), .int .i64 (tm b).x.k, .int .i64 (tm b).x.n, .string (tm b).x.s] _) (by simp [Value.oneCell']) (by unfold maxLen; omega) (by omega) (by simp; omega) ?_; intro v' w5 ho hg _ _; obtain ⟨A2, c2, rfl⟩ := own_form ho; have HNX := Lib.hid (ListRel.next HX.out HS1.out HS2.out HL.out HSTEP.out HAB.out (by omega) HSR2.out (by omega) hr ht FF4.out H4.out SS4.out O4.out ho hg); clear ho hg))
            have HL5 := Lib.hid (left_of HNX.out.2)
            go_roundw
            case rel => exact HNX.out.1
            case measure => rw [HL5.out, HLF.out]; omega
      · have N1 := Lib.hid (skip_no ⟨#[44]⟩ wr HR.out g1)
        have HE := Lib.hid (list_end (most := 8) (n := n) (item := item) (acc := l.map ab) g1)
        clear g1
        go_wp2_with (go_at_call 83; refine N1.out.mono ?_; rintro e w2 ⟨rfl, rfl⟩)
        go_ret
        rw [HL.out, HE.out]
        exact ⟨l, A, c, rfl, rfl, HO.out, HR.out, HSS.out, HF.out⟩
set_option maxRecDepth 20000 in
set_option maxHeartbeats 16000000 in
theorem list_head {α β : Type} (ab : β → α) (tm : β → Tm) (S : List β → World → Prop) (X : Nat → Prop) (item : Ps α) (hst : StrictP item) (W : World) (hX : ∀ k, X k → k < W.heap.size) (hXr : X rb)
    (hS1 : ∀ l V V', S l V → Fr (· = rb) V.heap.size V V' → S l V')
    (hS2 : ∀ l V V' q, S l V → V.grownBy V' q → (∀ k, q = some k → W.heap.size ≤ k ∧ ∃ cs z, V.heap[k]? = some (.cells cs 48 z)) → S l V')
    (hit : ∀ V r l, r <:+ ts → RdrAt V rb tb z r o → W.heap.size ≤ V.heap.size → S l V → Calls Tryz.prog 81 #[.pointer (some ⟨rb, 0, none⟩), .pointer (some ⟨xb, 0, none⟩)] V (ItemQ ab (fun b => .agg #[.string (bs (tm b).v), .int .i64 (tm b).x.k, .int .i64 (tm b).x.n, .string (tm b).x.s]) S X (item z r) rb tb z o l V))
    (h : RdrAt W rb tb z ts o) (hg : GoodT ts) (hts : ts.length ≤ 20009) (hs0 : S [] W) :
    Calls Tryz.prog 87 #[.pointer (some ⟨rb, 0, none⟩), .int .i64 8, .func (.func 81) #[] #[.pointer (some ⟨xb, 0, none⟩)]] W (ListQ 48 4 (fun b => [.string (bs (tm b).v), .int .i64 (tm b).x.k, .int .i64 (tm b).x.n, .string (tm b).x.s]) ab S X (listP 8 item z ts) rb tb z o W) := by
  obtain ⟨i0, hi0, hz0, hz1, hz2⟩ := info_parts info_term
  have HI := Lib.hid (And.intro hi0 (And.intro hz0 (And.intro hz1 hz2)))
  have hr := h.lt; have ht := h.tlt
  have HIT := Lib.hid hit
  have HI0 := Lib.hid (hit W ts [] (List.suffix_refl _) h (Nat.le_refl _) hs0)
  have HST := Lib.hid hst; have HG := Lib.hid hg; have HS1 := Lib.hid hS1; have HS2 := Lib.hid hS2; have HX := Lib.hid hX
  have HMY := Lib.hid (show many = 20010 from rfl)
  unfold listP
  clear hi0 hz0 hz1 hz2 h hit hst hS1 hS2 hs0 hX
  cases hR : item z ts with
  | no a e =>
    rw [hR] at HI0
    simp only [Ans.bind]
    clear hR
    go_enter Tryz.func87, Tryz.ntmps87
    go_wp2_with (go_at_call 81; refine HI0.out.mono ?_; rintro e w1 ⟨rfl, f1⟩)
    exact ⟨rfl, rfl, f1⟩
  | ok x0 r0 =>
    rw [hR] at HI0
    have hs0 := HST.out z ts x0 r0 hg hR
    have HSF := Lib.hid hs0.1
    have hl0 := hs0.2
    simp only [Ans.bind]
    clear hR hs0 hg
    go_enter Tryz.func87, Tryz.ntmps87
    go_wp2_with (go_at_call 81; refine HI0.out.mono ?_; rintro e w1 ⟨b, hab, rfl, h1, s1, f1⟩; have HP : Hid (ListRel 48 4 (fun b => [.string (bs (tm b).v), .int .i64 (tm b).x.k, .int .i64 (tm b).x.n, .string (tm b).x.s]) ab S X 8 item W rb tb z o ts [x0] r0 (.slice (some ⟨w1.heap.size, 0, none⟩) 1 1) (w1.alloc (.cells #[.string (bs (tm b).v), .int .i64 (tm b).x.k, .int .i64 (tm b).x.n, .string (tm b).x.s] 48))) := Lib.hid ⟨many, [b], r0, _, _, rfl, by rw [← hab]; rfl, by rw [HMY.out]; omega, HSF.out, by simp; omega, OwnX.one (cl := (fun b => [.string (bs (tm b).v), .int .i64 (tm b).x.k, .int .i64 (tm b).x.n, .string (tm b).x.s])) w1 b f1.size rfl, h1.on ((Below.refl _ _).alloc (Nat.le_refl _) _), HS1.out _ _ _ s1 (Fr.of ((Below.refl _ _).alloc (Nat.le_refl _) _)), f1.trans (Fr.of ((Below.refl _ _).alloc f1.size _))⟩; clear h1 s1 f1)
    go_loopw [7] (ListRel 48 4 (fun b => [.string (bs (tm b).v), .int .i64 (tm b).x.k, .int .i64 (tm b).x.n, .string (tm b).x.s]) ab S X 8 item W rb tb z o ts [x0] r0) (fun _ wr => leftAt rb wr)
    case atStart => exact HP.out
    case round =>
      clear HP HI0
      obtain ⟨n, l, r, A, c, rfl, hl, hn, hsf, hlm, hown, hR, hS, hF⟩ := hrel
      have HL := Lib.hid hl; have HO := Lib.hid hown; have HR := Lib.hid hR; have HSS := Lib.hid hS; have HF := Lib.hid hF; have HSR := Lib.hid hsf
      have hz := hF.size
      have HLF := Lib.hid (left_of hR)
      clear hl hown hR hS hF hsf
      by_cases g1 : (hdT z r).t = [44]
      · have S1 := Lib.hid (skip_yes ⟨#[44]⟩ wr HR.out g1 (by decide))
        obtain ⟨t, r', rfl⟩ : ∃ t r2, r = t :: r2 := ⟨_, _, hd_tail g1 (by simp)⟩
        obtain ⟨n', rfl⟩ : ∃ n', n = n' + 1 := ⟨n - 1, by simp only [List.length_cons] at hn; omega⟩
        have G1 := Lib.hid (show t.t = [44] from g1)
        have HSR' : Hid (r' <:+ ts) := Lib.hid (List.IsSuffix.trans (List.suffix_cons _ _) HSR.out)
        simp only [List.tail_cons] at S1
        simp only [List.length_cons] at hlm hn HLF
        have HC : Hid (∀ V, RdrAt V rb tb z r' o → W.heap.size ≤ V.heap.size → S l V → Calls Tryz.prog 81 #[.pointer (some ⟨rb, 0, none⟩), .pointer (some ⟨xb, 0, none⟩)] V (ItemQ ab (fun b => .agg #[.string (bs (tm b).v), .int .i64 (tm b).x.k, .int .i64 (tm b).x.n, .string (tm b).x.s]) S X (item z r') rb tb z o l V)) := Lib.hid fun V a1 a2 a3 => HIT.out V r' l HSR'.out a1 a2 a3
        have HIT2 : Hid (∀ V, Calls Tryz.prog 88 #[.agg #[.int .i64 ((hdT z r').k : Int), .string (bs (hdT z r').t), .int .i64 ((hdT z r').a : Int)]] V fun e w' => e = .returned (.bool (termT (hdT z r'))) ∧ Below V.heap.size V w') := Lib.hid fun V => isTerm_any (hdT z r') V
        have h02 : (0 : Int) < ((r'.length + 2 : Nat) : Int) := by omega
        clear g1
        by_cases hm : l.length = 8
        · have hmb : ((l.length : Int) == 8) = true := by rw [hm]; rfl
          cases htm : termT (hdT z r') with
          | true =>
            rw [htm] at HIT2
            have HFA : Hid (∀ V, RdrAt V rb tb z r' o → Calls Tryz.prog 56 #[.pointer (some ⟨rb, 0, none⟩), .int .i64 4] V fun e w' => e = .panicked [{ v := faultP (hdT z r').a 4, recovered := false }] ∧ V = w') := Lib.hid fun V hV => fail_any 4 V hV
            have HE := Lib.hid (HL.out.trans (list_full (item := item) (most := 8) (acc := l.map ab) (n := n') G1.out ⟨by rw [List.length_map]; exact hm, htm⟩))
            clear htm hm
            go_wp2_with (first
              | (go_at_call 83; refine S1.out.mono ?_; rintro e w2 ⟨rfl, h2, f2⟩; obtain ⟨off2, cc2, K2⟩ := h2.hd; have q0 := K2.r0; have k0 := K2.c0; have k1 := K2.c1; have k2 := K2.c2; have hl2 := K2.lt; have hb2 := K2.bl; have H2 := Lib.hid h2; have F2 := Lib.hid f2; have O2 := Lib.hid (own_frx HO.out (fun k (hk : k = rb) => by omega) f2); have SS2 := Lib.hid (HS1.out _ _ _ HSS.out f2); have hs2 := f2.size; clear h2 f2 K2)
              | (go_at_call 88; refine (HIT2.out _).mono ?_; rintro e w3 ⟨rfl, hb3⟩; have H3 := Lib.hid (H2.out.on hb3); have O3 := Lib.hid (own_on O2.out hb3); have SS3 := Lib.hid (HS1.out _ _ _ SS2.out (Fr.of hb3)); have F3 := Lib.hid (F2.out.trans (Fr.of (hb3.mono hs2))); have hs3 := hb3.size; clear hb3)
              | (go_at_call 56; refine (HFA.out _ H3.out).mono ?_; rintro e w4 ⟨rfl, rfl⟩))
            rw [HE.out]
            exact ⟨rfl, rfl, HF.out.trans ((F3.out.toX hXr).mono hz)⟩
          | false =>
            rw [htm] at HIT2
            have HNF : Hid (¬ ((l.map ab).length = 8 ∧ termT (hdT z r') = true)) := Lib.hid fun e => by rw [htm] at e; exact absurd e.2 (by simp)
            clear htm hm
            cases hi : item z r' with
            | no a e0 =>
              rw [hi] at HC
              have HE := Lib.hid (HL.out.trans (list_bad (acc := l.map ab) (n := n') G1.out HNF.out hi))
              clear hi
              go_wp2_with (first
                | (go_at_call 83; refine S1.out.mono ?_; rintro e w2 ⟨rfl, h2, f2⟩; obtain ⟨off2, cc2, K2⟩ := h2.hd; have q0 := K2.r0; have k0 := K2.c0; have k1 := K2.c1; have k2 := K2.c2; have hl2 := K2.lt; have hb2 := K2.bl; have H2 := Lib.hid h2; have F2 := Lib.hid f2; have O2 := Lib.hid (own_frx HO.out (fun k (hk : k = rb) => by omega) f2); have SS2 := Lib.hid (HS1.out _ _ _ HSS.out f2); have hs2 := f2.size; clear h2 f2 K2)
                | (go_at_call 88; refine (HIT2.out _).mono ?_; rintro e w3 ⟨rfl, hb3⟩; have H3 := Lib.hid (H2.out.on hb3); have O3 := Lib.hid (own_on O2.out hb3); have SS3 := Lib.hid (HS1.out _ _ _ SS2.out (Fr.of hb3)); have F3 := Lib.hid (F2.out.trans (Fr.of (hb3.mono hs2))); have hs3 := hb3.size; clear hb3)
                | (go_at_call 81; refine (HC.out _ H3.out (by omega) SS3.out).mono ?_; rintro e w4 ⟨rfl, f4⟩))
              rw [HE.out]
              exact ⟨rfl, rfl, (HF.out.trans ((F3.out.toX hXr).mono hz)).trans (f4.mono (by omega))⟩
            | ok x r2 =>
              rw [hi] at HC
              have hss := HST.out z r' x r2 (HG.out.suf HSR'.out) hi
              have HSR2 := Lib.hid (List.IsSuffix.trans hss.1 HSR'.out)
              have hll := hss.2
              have HSTEP := Lib.hid (list_step (acc := l.map ab) (n := n') G1.out HNF.out hi)
              clear hi hss
              go_wp2_with (first
                | (go_at_call 83; refine S1.out.mono ?_; rintro e w2 ⟨rfl, h2, f2⟩; obtain ⟨off2, cc2, K2⟩ := h2.hd; have q0 := K2.r0; have k0 := K2.c0; have k1 := K2.c1; have k2 := K2.c2; have hl2 := K2.lt; have hb2 := K2.bl; have H2 := Lib.hid h2; have F2 := Lib.hid f2; have O2 := Lib.hid (own_frx HO.out (fun k (hk : k = rb) => by omega) f2); have SS2 := Lib.hid (HS1.out _ _ _ HSS.out f2); have hs2 := f2.size; clear h2 f2 K2)
                | (go_at_call 88; refine (HIT2.out _).mono ?_; rintro e w3 ⟨rfl, hb3⟩; have H3 := Lib.hid (H2.out.on hb3); have O3 := Lib.hid (own_on O2.out hb3); have SS3 := Lib.hid (HS1.out _ _ _ SS2.out (Fr.of hb3)); have F3 := Lib.hid (F2.out.trans (Fr.of (hb3.mono hs2))); have hs3 := hb3.size; clear hb3)
                | (go_at_call 81; refine (HC.out _ H3.out (by omega) SS3.out).mono ?_; rintro e w4 ⟨b, hab, rfl, h4, s4, f4⟩; have HAB := Lib.hid hab; have H4 := Lib.hid h4; have SS4 := Lib.hid s4; have F4 := Lib.hid f4; have O4 := Lib.hid (own_frx O3.out HX.out f4); have hs4 := f4.size; clear hab h4 s4 f4; have FF4 := Lib.hid ((HF.out.trans ((F3.out.toX hXr).mono hz)).trans (F4.out.mono (by omega))))
                | (at_builtin; refine wpList_append_own_at _ rfl (.tmp 29) (.tmp 33) _ rfl W.heap.size 48 i0 (.agg #[.string ByteArray.empty, .int .i64 0, .int .i64 0, .string ByteArray.empty]) 4 48 Tryz.underlying23 HI.out.1 HI.out.2.1 HI.out.2.2.1 HI.out.2.2.2 rfl (by omega) (.slice A l.length c) l.length (cellsOf (fun b => [.string (bs (tm b).v), .int .i64 (tm b).x.k, .int .i64 (tm b).x.n, .string (tm b).x.s]) l) rfl (own_on O4.out ((Below.refl _ _).alloc (Nat.le_refl _) _)) ⟨w4.heap.size, 0, none⟩ 1 1 [.string (bs (tm b).v), .int .i64 (tm b).x.k, .int .i64 (tm b).x.n, .string (tm b).x.s] rfl (by simp) (news_one w4 #[.string (bs (tm b).v), .int .i64 (tm b).x.k, .int .i64 (tm b).x.n, .string (tm b).x.s] _) (by simp [Value.oneCell']) (by unfold maxLen; omega) (by omega) (by simp; omega) ?_; intro v' w5 ho hg _ _; obtain ⟨A2, c2, rfl⟩ := own_form ho; have HNX := Lib.hid (ListRel.next HX.out HS1.out HS2.out HL.out HSTEP.out HAB.out (by omega) HSR2.out (by omega) hr ht FF4.out H4.out SS4.out O4.out ho hg); clear ho hg))
              have HL5 := Lib.hid (left_of HNX.out.2)
              go_roundw
              case rel => exact HNX.out.1
              case measure => rw [HL5.out, HLF.out]; omega
        · have hmb : ((l.length : Int) == 8) = false := by rw [beq_eq_false_iff_ne]; omega
          have HNF : Hid (¬ ((l.map ab).length = 8 ∧ termT (hdT z r') = true)) := Lib.hid fun e => hm (by have := e.1; rwa [List.length_map] at this)
          clear hm HIT2
          cases hi : item z r' with
          | no a e0 =>
            rw [hi] at HC
            have HE := Lib.hid (HL.out.trans (list_bad (acc := l.map ab) (n := n') G1.out HNF.out hi))
            clear hi
            go_wp2_with (first
              | (go_at_call 83; refine S1.out.mono ?_; rintro e w2 ⟨rfl, h2, f2⟩; obtain ⟨off2, cc2, K2⟩ := h2.hd; have q0 := K2.r0; have k0 := K2.c0; have k1 := K2.c1; have k2 := K2.c2; have hl2 := K2.lt; have hb2 := K2.bl; have H2 := Lib.hid h2; have F2 := Lib.hid f2; have O2 := Lib.hid (own_frx HO.out (fun k (hk : k = rb) => by omega) f2); have SS2 := Lib.hid (HS1.out _ _ _ HSS.out f2); have hs2 := f2.size; clear h2 f2 K2)
              | (go_at_call 81; refine (HC.out _ H2.out (by omega) SS2.out).mono ?_; rintro e w4 ⟨rfl, f4⟩))
            rw [HE.out]
            exact ⟨rfl, rfl, (HF.out.trans ((F2.out.toX hXr).mono hz)).trans (f4.mono (by omega))⟩
          | ok x r2 =>
            rw [hi] at HC
            have hss := HST.out z r' x r2 (HG.out.suf HSR'.out) hi
            have HSR2 := Lib.hid (List.IsSuffix.trans hss.1 HSR'.out)
            have hll := hss.2
            have HSTEP := Lib.hid (list_step (acc := l.map ab) (n := n') G1.out HNF.out hi)
            clear hi hss
            go_wp2_with (first
              | (go_at_call 83; refine S1.out.mono ?_; rintro e w2 ⟨rfl, h2, f2⟩; obtain ⟨off2, cc2, K2⟩ := h2.hd; have q0 := K2.r0; have k0 := K2.c0; have k1 := K2.c1; have k2 := K2.c2; have hl2 := K2.lt; have hb2 := K2.bl; have H2 := Lib.hid h2; have F2 := Lib.hid f2; have O2 := Lib.hid (own_frx HO.out (fun k (hk : k = rb) => by omega) f2); have SS2 := Lib.hid (HS1.out _ _ _ HSS.out f2); have hs2 := f2.size; clear h2 f2 K2)
              | (go_at_call 81; refine (HC.out _ H2.out (by omega) SS2.out).mono ?_; rintro e w4 ⟨b, hab, rfl, h4, s4, f4⟩; have HAB := Lib.hid hab; have H4 := Lib.hid h4; have SS4 := Lib.hid s4; have F4 := Lib.hid f4; have O4 := Lib.hid (own_frx O2.out HX.out f4); have hs4 := f4.size; clear hab h4 s4 f4; have FF4 := Lib.hid ((HF.out.trans ((F2.out.toX hXr).mono hz)).trans (F4.out.mono (by omega))))
              | (at_builtin; refine wpList_append_own_at _ rfl (.tmp 29) (.tmp 33) _ rfl W.heap.size 48 i0 (.agg #[.string ByteArray.empty, .int .i64 0, .int .i64 0, .string ByteArray.empty]) 4 48 Tryz.underlying23 HI.out.1 HI.out.2.1 HI.out.2.2.1 HI.out.2.2.2 rfl (by omega) (.slice A l.length c) l.length (cellsOf (fun b => [.string (bs (tm b).v), .int .i64 (tm b).x.k, .int .i64 (tm b).x.n, .string (tm b).x.s]) l) rfl (own_on O4.out ((Below.refl _ _).alloc (Nat.le_refl _) _)) ⟨w4.heap.size, 0, none⟩ 1 1 [.string (bs (tm b).v), .int .i64 (tm b).x.k, .int .i64 (tm b).x.n, .string (tm b).x.s] rfl (by simp) (news_one w4 #[.string (bs (tm b).v), .int .i64 (tm b).x.k, .int .i64 (tm b).x.n, .string (tm b).x.s] _) (by simp [Value.oneCell']) (by unfold maxLen; omega) (by omega) (by simp; omega) ?_; intro v' w5 ho hg _ _; obtain ⟨A2, c2, rfl⟩ := own_form ho; have HNX := Lib.hid (ListRel.next HX.out HS1.out HS2.out HL.out HSTEP.out HAB.out (by omega) HSR2.out (by omega) hr ht FF4.out H4.out SS4.out O4.out ho hg); clear ho hg))
            have HL5 := Lib.hid (left_of HNX.out.2)
            go_roundw
            case rel => exact HNX.out.1
            case measure => rw [HL5.out, HLF.out]; omega
      · have N1 := Lib.hid (skip_no ⟨#[44]⟩ wr HR.out g1)
        have HE := Lib.hid (list_end (most := 8) (n := n) (item := item) (acc := l.map ab) g1)
        clear g1
        go_wp2_with (go_at_call 83; refine N1.out.mono ?_; rintro e w2 ⟨rfl, rfl⟩)
        go_ret
        rw [HL.out, HE.out]
        exact ⟨l, A, c, rfl, rfl, HO.out, HR.out, HSS.out, HF.out⟩
end
end Go.Proofs.YtahljmddnfldlaaGreatDoor

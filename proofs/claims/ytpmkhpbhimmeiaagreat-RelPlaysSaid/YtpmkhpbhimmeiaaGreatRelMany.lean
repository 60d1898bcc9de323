/-
  Package rel, for the laws: several relations side by side.
-/
import Derived.Test.YtpmkhpbhimmeiaaGreatRelB
import Derived.Test.YtpmkhpbhimmeiaaGreatRelC
namespace Go.Proofs.YtpmkhpbhimmeiaaGreat
open Go.RowKit FloM ValM Go.Shelf
set_option linter.unusedVariables false
set_option linter.unusedSimpArgs false
/-! ### Three relations -/
def tx (a b c : RI) (k : Nat) : Prop := a.x k ∨ b.x k ∨ c.x k
structure TriR (w : World) (n : Nat) (a b c : RI) (Ha Hb Hc : List (List V)) (W : World) : Prop where
  sa : a.at_ (tx a b c) W n Ha
  sb : b.at_ (tx a b c) W n Hb
  sc : c.at_ (tx a b c) W n Hc
  dab : ∀ k, a.x k → ¬ b.x k
  dac : ∀ k, a.x k → ¬ c.x k
  dbc : ∀ k, b.x k → ¬ c.x k
  bw : Below w.heap.size w W
  x0 : ∀ k, tx a b c k → w.heap.size ≤ k
section
variable {w W W' : World} {n : Nat} {a b c : RI} {Ha Hb Hc H' : List (List V)}
theorem TriR.x1 (h : TriR w n a b c Ha Hb Hc W) : ∀ k, tx a b c k → k < W.heap.size := fun k hk => hk.elim (h.sa.lt k) fun hk => hk.elim (h.sb.lt k) (h.sc.lt k)
theorem TriR.on (h : TriR w n a b c Ha Hb Hc W) (hb : Below W.heap.size W W') : TriR w n a b c Ha Hb Hc W' :=
  ⟨RelG.on h.sa hb, RelG.on h.sb hb, RelG.on h.sc hb, h.dab, h.dac, h.dbc, h.bw.trans (hb.mono h.bw.size), h.x0⟩
theorem TriR.start {w0 w1 w2 w3 w4 w5 : World} (h0 : Below w.heap.size w w0) (N1 : NewS w0 n a.ps a.r a.g0 a.gs w1) (h1 : Below w1.heap.size w1 w2) (N2 : NewZ a.x w2 n b.ps [] b.r b.g0 b.gs w3) (h3 : Below w3.heap.size w3 w4) (N3 : NewZ (fun k => a.x k ∨ b.x k) w4 n c.ps [] c.r c.g0 c.gs w5) : TriR w n a b c [] [] [] w5 := by
  have l1 := h0.size; have l2 := N1.b.size; have l3 := h1.size; have l4 := N2.b.size; have l5 := h3.size; have l6 := N3.b.size
  have ha1 : ∀ k, a.x k → k < w1.heap.size := RelG.x_lt N1.s
  have hb3 : ∀ k, b.x k → k < w3.heap.size := RelG.x_lt N2.s
  have b13 : Below w1.heap.size w1 w3 := h1.trans (N2.b.mono l3)
  have b35 : Below w3.heap.size w3 w5 := h3.trans (N3.b.mono l5)
  refine ⟨RelG.on (RelG.more (X := fun k => k = a.g0 ∨ k ∈ a.gs) (fun k hk => .inl hk) (fun k hk => ?_) N1.s) (b13.trans (b35.mono b13.size)), RelG.on (RelG.more (X := fun k => a.x k ∨ k = b.g0 ∨ k ∈ b.gs) (fun k hk => hk.imp_right .inl) (fun k hk => ?_) N2.s) b35, RelG.more (X := fun k => (a.x k ∨ b.x k) ∨ k = c.g0 ∨ k ∈ c.gs) (fun k hk => or_assoc.1 hk) (fun k hk => .inl (or_assoc.2 hk)) N3.s, fun k hk hb => ?_, fun k hk hc => ?_, fun k hk hc => ?_, ?_, fun k hk => ?_⟩
  · rcases hk with hk | hk | hk
    · exact .inl hk
    · exact .inr (by have := N2.x0 k hk; omega)
    · exact .inr (by have := N3.x0 k hk; omega)
  · rcases hk with hk | hk | hk
    · exact .inl (.inl hk)
    · exact .inl (.inr hk)
    · exact .inr (by have := N3.x0 k hk; omega)
  · have := ha1 k hk; have := N2.x0 k hb; omega
  · have := ha1 k hk; have := N3.x0 k hc; omega
  · have := hb3 k hk; have := N3.x0 k hc; omega
  · have e1 : Below w.heap.size w w1 := h0.trans (N1.b.mono h0.size)
    have e2 := e1.trans (b13.mono e1.size)
    exact e2.trans (b35.mono e2.size)
  · rcases hk with hk | hk | hk
    · have := N1.x0 k hk; omega
    · have := N2.x0 k hk; omega
    · have := N3.x0 k hk; omega
theorem TriR.put1 (h : TriR w n a b c Ha Hb Hc W) (hs : a.at_ (tx a b c) W' n H') (hF : Fr a.x W.heap.size W W') : TriR w n a b c H' Hb Hc W' :=
  ⟨hs, RelG.onF h.sb hF (fun k hk => .inl hk) (fun k hk => h.dab k hk), RelG.onF h.sc hF (fun k hk => .inl hk) (fun k hk => h.dac k hk), h.dab, h.dac, h.dbc, fr_below h.bw hF fun k hk => h.x0 k (.inl hk), h.x0⟩
theorem TriR.put2 (h : TriR w n a b c Ha Hb Hc W) (hs : b.at_ (tx a b c) W' n H') (hF : Fr b.x W.heap.size W W') : TriR w n a b c Ha H' Hc W' :=
  ⟨RelG.onF h.sa hF (fun k hk => .inr (.inl hk)) (fun k hk ha => h.dab k ha hk), hs, RelG.onF h.sc hF (fun k hk => .inr (.inl hk)) (fun k hk => h.dbc k hk), h.dab, h.dac, h.dbc, fr_below h.bw hF fun k hk => h.x0 k (.inr (.inl hk)), h.x0⟩
theorem TriR.put3 (h : TriR w n a b c Ha Hb Hc W) (hs : c.at_ (tx a b c) W' n H') (hF : Fr c.x W.heap.size W W') : TriR w n a b c Ha Hb H' W' :=
  ⟨RelG.onF h.sa hF (fun k hk => .inr (.inr hk)) (fun k hk ha => h.dac k ha hk), RelG.onF h.sb hF (fun k hk => .inr (.inr hk)) (fun k hk hb => h.dbc k hb hk), hs, h.dab, h.dac, h.dbc, fr_below h.bw hF fun k hk => h.x0 k (.inr (.inr hk)), h.x0⟩
theorem off_old {X : Nat → Prop} {w : World} {A : Option Addr} {x : List V} (hr : RdV w A x) (h0 : ∀ k, X k → w.heap.size ≤ k) : x ≠ [] → Off X A := fun hne ad ha hX => by
  obtain ⟨b, o, e, hb, _⟩ := hr 0 _ (List.getElem?_eq_getElem (List.length_pos_iff.2 hne))
  rw [ha] at e; cases e
  have := h0 _ hX
  simp only at this; omega
theorem offI_old {X : Nat → Prop} {w : World} {C : Option Addr} {l : List Int} (hr : RdI w C l) (h0 : ∀ k, X k → w.heap.size ≤ k) : l ≠ [] → ∀ b o, C = some ⟨b, o, none⟩ → ¬ X b := fun hne b o ha hX => by
  obtain ⟨b', o', e, hb, _⟩ := hr 0 _ (List.getElem?_eq_getElem (List.length_pos_iff.2 hne))
  rw [ha] at e; cases e
  have := h0 _ hX
  omega
/-- What a search hands back. -/
def FindQ (L : List (List V)) (W : World) (e : Ending) (w' : World) : Prop := ∃ B d ys, e = .returned (.slice B L.length d) ∧ RdL w' B ys ∧ lsOf ys = L ∧ Below W.heap.size W w'
section
variable {A C : Option Addr} {ca cc : Nat} {x vals : List V} {cols : List Int}
theorem TriR.p1 (h : TriR w n a b c Ha Hb Hc W) (hr : RdV w A x) (hl : Ha.length < 100000) : Calls Tryz.prog 10 #[.pointer (some ⟨a.r, 0, none⟩), .slice A x.length ca] W fun e w' => e = .returned (.tuple #[.bool (putB (upto n) x (puts (upto n) Ha)), .int .i64 (putE (upto n) x)]) ∧ TriR w n a b c (Ha ++ [x]) Hb Hc w' :=
  (relPutS_any A ca x W h.sa (hr.on h.bw) (off_old hr fun k hk => h.x0 k (.inl hk)) h.x1 hl).mono (by rintro e w' ⟨rfl, hs, hF⟩; exact ⟨rfl, h.put1 hs hF⟩)
theorem TriR.p2 (h : TriR w n a b c Ha Hb Hc W) (hr : RdV w A x) (hl : Hb.length < 100000) : Calls Tryz.prog 10 #[.pointer (some ⟨b.r, 0, none⟩), .slice A x.length ca] W fun e w' => e = .returned (.tuple #[.bool (putB (upto n) x (puts (upto n) Hb)), .int .i64 (putE (upto n) x)]) ∧ TriR w n a b c Ha (Hb ++ [x]) Hc w' :=
  (relPutS_any A ca x W h.sb (hr.on h.bw) (off_old hr fun k hk => h.x0 k (.inr (.inl hk))) h.x1 hl).mono (by rintro e w' ⟨rfl, hs, hF⟩; exact ⟨rfl, h.put2 hs hF⟩)
theorem TriR.p3 (h : TriR w n a b c Ha Hb Hc W) (hr : RdV w A x) (hl : Hc.length < 100000) : Calls Tryz.prog 10 #[.pointer (some ⟨c.r, 0, none⟩), .slice A x.length ca] W fun e w' => e = .returned (.tuple #[.bool (putB (upto n) x (puts (upto n) Hc)), .int .i64 (putE (upto n) x)]) ∧ TriR w n a b c Ha Hb (Hc ++ [x]) w' :=
  (relPutS_any A ca x W h.sc (hr.on h.bw) (off_old hr fun k hk => h.x0 k (.inr (.inr hk))) h.x1 hl).mono (by rintro e w' ⟨rfl, hs, hF⟩; exact ⟨rfl, h.put3 hs hF⟩)
theorem TriR.f1 (h : TriR w n a b c Ha Hb Hc W) (hn : n ≤ 8) (hH : Ha.length ≤ 100000) (hc : RdI w C cols) (hv : RdV W A vals) (lc : cols.length ≤ 1000) : Calls Tryz.prog 18 #[.pointer (some ⟨a.r, 0, none⟩), .slice C cols.length cc, .slice A vals.length ca] W (FindQ (findL n cols vals Ha) W) :=
  xFind C A cc ca cols vals h.sa h.x1 hn hH (hc.on h.bw) (offI_old hc h.x0) hv lc
theorem TriR.f2 (h : TriR w n a b c Ha Hb Hc W) (hn : n ≤ 8) (hH : Hb.length ≤ 100000) (hc : RdI w C cols) (hv : RdV W A vals) (lc : cols.length ≤ 1000) : Calls Tryz.prog 18 #[.pointer (some ⟨b.r, 0, none⟩), .slice C cols.length cc, .slice A vals.length ca] W (FindQ (findL n cols vals Hb) W) :=
  xFind C A cc ca cols vals h.sb h.x1 hn hH (hc.on h.bw) (offI_old hc h.x0) hv lc
theorem TriR.f3 (h : TriR w n a b c Ha Hb Hc W) (hn : n ≤ 8) (hH : Hc.length ≤ 100000) (hc : RdI w C cols) (hv : RdV W A vals) (lc : cols.length ≤ 1000) : Calls Tryz.prog 18 #[.pointer (some ⟨c.r, 0, none⟩), .slice C cols.length cc, .slice A vals.length ca] W (FindQ (findL n cols vals Hc) W) :=
  xFind C A cc ca cols vals h.sc h.x1 hn hH (hc.on h.bw) (offI_old hc h.x0) hv lc
theorem TriR.l1 (h : TriR w n a b c Ha Hb Hc W) (hn : n ≤ 8) (hH : Ha.length ≤ 100000) : Calls Tryz.prog 17 #[.pointer (some ⟨a.r, 0, none⟩)] W (FindQ (puts (upto n) Ha) W) := xAll h.sa h.x1 hn hH
theorem TriR.l3 (h : TriR w n a b c Ha Hb Hc W) (hn : n ≤ 8) (hH : Hc.length ≤ 100000) : Calls Tryz.prog 17 #[.pointer (some ⟨c.r, 0, none⟩)] W (FindQ (puts (upto n) Hc) W) := xAll h.sc h.x1 hn hH
theorem TriR.u1 (h : TriR w n a b c Ha Hb Hc W) (hc : RdI w C cols) (lc : cols.length ≤ 1000) : Calls Tryz.prog 20 #[.pointer (some ⟨a.r, 0, none⟩), .slice C cols.length cc] W fun e w' => (∃ k, e = .returned (.int .i64 k) ∧ k < (a.ps.length : Int)) ∧ Below W.heap.size W w' :=
  (relUses_any C cc cols W h.sa (hc.on h.bw) lc).mono (by
    rintro e w' ⟨⟨k, rfl, hu⟩, hb⟩
    refine ⟨⟨k, rfl, ?_⟩, hb⟩
    rcases hu with ⟨rfl, _⟩ | ⟨k, rfl, hk, _⟩ <;> omega)
theorem TriR.u3 (h : TriR w n a b c Ha Hb Hc W) (he : c.ps = []) (hc : RdI w C cols) (lc : cols.length ≤ 1000) : Calls Tryz.prog 20 #[.pointer (some ⟨c.r, 0, none⟩), .slice C cols.length cc] W fun e w' => e = .returned (.int .i64 (-1)) ∧ Below W.heap.size W w' :=
  (relUses_any C cc cols W h.sc (hc.on h.bw) lc).mono (by
    rintro e w' ⟨⟨k, rfl, hu⟩, hb⟩
    refine ⟨?_, hb⟩
    rcases hu with ⟨rfl, _⟩ | ⟨k, rfl, hk, _⟩
    · rfl
    · rw [he] at hk; simp at hk)
end
end
/-! ### New, whatever comes -/
def relE (n : Int) (ps : List (List Int)) : Int := if (0 ≤ n ∧ n ≤ 8) ∧ (∀ p ∈ ps, goodP n.toNat p = true) then 0 else 1
theorem relNewX_any (A : Option Addr) (c : Nat) (n : Int) (xs : List IS) (w : World) (h : RdP w A xs) (hm : xs.length ≤ 1000) :
    Calls Tryz.prog 8 #[.int .i64 n, .slice A xs.length c] w fun e w' => ∃ r, e = .returned (.tuple #[.pointer r, .int .i64 (relE n (xs.map IS.l))]) ∧ (r = none ↔ relE n (xs.map IS.l) = 1) ∧ Below w.heap.size w w' := by
  by_cases hn : 0 ≤ n ∧ n ≤ 8
  · obtain ⟨k, rfl⟩ := Int.eq_ofNat_of_zero_le hn.1
    refine (relNew_any A c k xs w (by omega) h hm).mono ?_
    rintro e w' (⟨hg, r, g0, gs, rfl, N⟩ | ⟨⟨x, hx, hg⟩, rfl, hb⟩)
    · have he : relE (k : Int) (xs.map IS.l) = 0 := by
        unfold relE
        rw [if_pos ⟨hn, fun p hp => by obtain ⟨x, hx, rfl⟩ := List.mem_map.1 hp; exact hg x hx⟩]
      rw [he]
      exact ⟨_, rfl, by simp, N.b⟩
    · have he : relE (k : Int) (xs.map IS.l) = 1 := by
        unfold relE
        rw [if_neg (fun e => by have := e.2 x.l (List.mem_map.2 ⟨x, hx, rfl⟩); rw [Int.toNat_natCast, hg] at this; cases this)]
      rw [he]
      exact ⟨_, rfl, by simp, hb⟩
  · refine (relNew_out n _ w (by omega)).mono ?_
    rintro e w' ⟨rfl, rfl⟩
    have he : relE n (xs.map IS.l) = 1 := by unfold relE; rw [if_neg (fun e => hn e.1)]
    rw [he]
    exact ⟨_, rfl, by simp, Below.refl _ _⟩
theorem relE_cases (n : Int) (ps : List (List Int)) : relE n ps = 0 ∨ relE n ps = 1 := by unfold relE; split <;> simp
theorem relE_big {n : Nat} (h : 8 < n) (ps : List (List Int)) : relE (n : Int) ps = 1 := by unfold relE; rw [if_neg (fun e => by have := e.1.2; omega)]
theorem relE_good {n : Nat} {xs : List IS} (h : relE (n : Int) (xs.map IS.l) = 0) : n ≤ 8 ∧ ∀ p ∈ xs, goodP n p.l = true := by
  unfold relE at h
  split at h
  · rename_i hc
    exact ⟨by have := hc.1.2; omega, fun p hp => by have := hc.2 p.l (List.mem_map.2 ⟨p, hp, rfl⟩); simpa using this⟩
  · cases h
theorem newX_any (A : Option Addr) (c : Nat) (n : Nat) (xs : List IS) (w : World) (h : RdP w A xs) (hm : xs.length ≤ 1000) :
    Calls Tryz.prog 8 #[.int .i64 (n : Int), .slice A xs.length c] w fun e w' => (∃ r, e = .returned (.tuple #[.pointer r, .int .i64 (relE (n : Int) (xs.map IS.l))])) ∧ Below w.heap.size w w' :=
  (relNewX_any A c n xs w h hm).mono (by rintro e w' ⟨r, rfl, _, hb⟩; exact ⟨⟨r, rfl⟩, hb⟩)
theorem newR1 {n : Nat} (A : Option Addr) (c : Nat) (xs : List IS) (W : World) (hn : n ≤ 8) (h : RdP W A xs) (hm : xs.length ≤ 1000) (hg : ∀ p ∈ xs, goodP n p.l = true) :
    Calls Tryz.prog 8 #[.int .i64 (n : Int), .slice A xs.length c] W fun e w' => ∃ a : RI, e = .returned (.tuple #[.pointer (some ⟨a.r, 0, none⟩), .int .i64 0]) ∧ a.ps = xs.map IS.l ∧ NewS W n a.ps a.r a.g0 a.gs w' :=
  (relNew_any A c n xs W hn h hm).mono (by
    rintro e w' (⟨_, r, g0, gs, rfl, N⟩ | ⟨⟨x, hx, hgx⟩, _⟩)
    · exact ⟨⟨r, g0, gs, xs.map IS.l⟩, rfl, rfl, N⟩
    · rw [hg x hx] at hgx; cases hgx)
theorem newRZ {Z : Nat → Prop} {n : Nat} (A : Option Addr) (c : Nat) (xs : List IS) (W : World) (hZ : ∀ k, Z k → k < W.heap.size) (hn : n ≤ 8) (h : RdP W A xs) (hm : xs.length ≤ 1000) (hg : ∀ p ∈ xs, goodP n p.l = true) :
    Calls Tryz.prog 8 #[.int .i64 (n : Int), .slice A xs.length c] W fun e w' => ∃ a : RI, e = .returned (.tuple #[.pointer (some ⟨a.r, 0, none⟩), .int .i64 0]) ∧ a.ps = xs.map IS.l ∧ NewZ Z W n a.ps [] a.r a.g0 a.gs w' :=
  (relNewZ_any A c n xs W hZ hn h hm).mono (by
    rintro e w' (⟨_, r, g0, gs, rfl, N⟩ | ⟨⟨x, hx, hgx⟩, _⟩)
    · exact ⟨⟨r, g0, gs, xs.map IS.l⟩, rfl, rfl, N⟩
    · rw [hg x hx] at hgx; cases hgx)
theorem RdP.nil {w : World} {A : Option Addr} : RdP w A [] := ⟨fun j u hu => by simp at hu, fun x hx => by cases hx⟩
end Go.Proofs.YtpmkhpbhimmeiaaGreat

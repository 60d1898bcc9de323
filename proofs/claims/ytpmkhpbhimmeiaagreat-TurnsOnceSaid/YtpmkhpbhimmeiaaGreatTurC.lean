/-
  Package turns: contracts of Turn and of the function New.
-/
import Derived.Test.YtpmkhpbhimmeiaaGreatTurB
import Derived.Test.YtpmkhpbhimmeiaaGreatRelMany
namespace Go.Proofs.YtpmkhpbhimmeiaaGreat
open Go.RowKit FloM ValM Go.Shelf
set_option linter.unusedVariables false
set_option linter.unusedSimpArgs false
section
variable {X Y Z : Nat → Prop} {w w' : World} {t p n : Nat} {a l q b c : RI} {HA HL HP H' : List (List V)} {left : Int}
theorem TurG.puta (h : TurG X w t p n a l q b HA HL HP) (hs : a.at_ X w' n H') (hF : Fr a.x w.heap.size w w') : TurG X w' t p n a l q b H' HL HP :=
  have hX : ∀ k, a.x k → X k := RelG.x_sub h.ra
  ⟨(hF.block t (Array.getElem?_eq_some_iff.1 h.rcd).1 (fun hz => h.nt t (.inl hz) rfl)).trans h.rcd, hs, RelG.onF h.rl hF hX (fun k hz hk => h.al k hz hk), RelG.onF h.rq hF hX (fun k hz hk => h.aq k hz hk), RelG.onF h.rb hF hX (fun k hz hk => h.ab k hz hk), h.al, h.aq, h.ab, h.lq, h.lb, h.qb, h.tX, h.pX, h.nt, h.np, h.tp⟩
theorem set5 {w : World} {t : Nat} {v0 v1 v2 v3 v4 u2 u3 : Value} {ty : TypeId} (h : w.heap[t]? = some (.cells #[v0, v1, v2, v3, v4] ty (0, 0))) : ((w.setCell ⟨t, 2, none⟩ u2).setCell ⟨t, 3, none⟩ u3).heap[t]? = some (.cells #[v0, v1, u2, u3, v4] ty (0, 0)) := by
  have h1 := heap_set' (o := 2) (cs := [v0, v1, v2, v3, v4]) u2 h
  have h2 := heap_set' (o := 3) (cs := [v0, v1, u2, v3, v4]) u3 (by simpa using h1)
  simpa using h2
/-- The new round: what waited is new, and a clone of the blank one waits. -/
theorem TurG.turn (h : TurG X w t p n a l q b HA HL HP) (hX : ∀ k, X k → k < w.heap.size) (N : NewZ X w n b.ps [] c.r c.g0 c.gs w') (hc : c.ps = b.ps) :
    TurG (fun k => X k ∨ c.x k) ((w'.setCell ⟨t, 2, none⟩ (partV q.r)).setCell ⟨t, 3, none⟩ (partV c.r)) t p n a q c b HA HP [] ∧ Fr (· = t) w.heap.size w ((w'.setCell ⟨t, 2, none⟩ (partV q.r)).setCell ⟨t, 3, none⟩ (partV c.r)) := by
  have hrc := (N.b.block t (Array.getElem?_eq_some_iff.1 h.rcd).1).trans h.rcd
  have hs := N.b.size
  have hF : Fr (· = t) w'.heap.size w' ((w'.setCell ⟨t, 2, none⟩ (partV q.r)).setCell ⟨t, 3, none⟩ (partV c.r)) := (fr_set w' _ 2 _ _).trans (fr_set _ _ 3 _ _)
  have hm : ∀ {d : RI} {H : List (List V)}, d.at_ X w n H → (∀ k, d.x k → k ≠ t) → d.at_ (fun k => X k ∨ c.x k) ((w'.setCell ⟨t, 2, none⟩ (partV q.r)).setCell ⟨t, 3, none⟩ (partV c.r)) n H := fun hd hne =>
    RelG.onF (RelG.on (RelG.more (X := X) (fun k hk => .inl hk) (fun k hk => hk.imp_right fun hk => N.x0 k hk) hd) N.b) hF (fun k hk => .inl (hk ▸ h.tX)) (fun k hk hx => hne k hx hk)
  have far : ∀ k, c.x k → w.heap.size ≤ k := N.x0
  have old : ∀ {d : RI} {H : List (List V)}, d.at_ X w n H → ∀ k, d.x k → ¬ c.x k := fun hd k hk hc => by have := RI.at_.lt hd k hk; have := far k hc; omega
  have hct : ∀ k, c.x k → k ≠ t ∧ k ≠ p := fun k hk => by have := far k hk; have := hX t h.tX; have := hX p h.pX; constructor <;> omega
  refine ⟨⟨set5 hrc, hm h.ra fun k hk => h.nt k (.inl hk), hm h.rq fun k hk => h.nt k (.inr (.inr (.inl hk))), ?_, hm h.rb fun k hk => h.nt k (.inr (.inr (.inr hk))), h.aq, old h.ra, h.ab, old h.rq, h.qb, fun k hk hb => old h.rb k hb hk, .inl h.tX, .inl h.pX, fun k hk => ?_, fun k hk => ?_, h.tp⟩, (Fr.of N.b).trans (hF.mono hs)⟩
  · have hN : c.at_ (fun k => X k ∨ c.x k) w' n [] := by unfold RI.at_; rw [hc]; exact N.s
    exact RelG.onF hN hF (fun k hk => .inl (hk ▸ h.tX)) (fun k hk hx => (hct k hx).1 hk)
  · rcases hk with hk | hk | hk | hk
    · exact h.nt k (.inl hk)
    · exact h.nt k (.inr (.inr (.inl hk)))
    · exact (hct k hk).1
    · exact h.nt k (.inr (.inr (.inr hk)))
  · rcases hk with hk | hk | hk | hk
    · exact h.np k (.inl hk)
    · exact h.np k (.inr (.inr (.inl hk)))
    · exact (hct k hk).2
    · exact h.np k (.inr (.inr (.inr hk)))
theorem TurG.frz (h : TurG X w t p n a l q b HA HL HP) (k : Nat) : w.frozen? ⟨t, k, none⟩ = false := by simp [World.frozen?, h.rcd]
set_option maxRecDepth 20000 in
set_option maxHeartbeats 8000000 in
theorem turTurn_any (w : World) (h : TurG X w t p n a l q b HA HL HP) (hX : ∀ k, X k → k < w.heap.size) (hH : HA.length + HP.length < 100000) :
    Calls Tryz.prog 26 #[.pointer (some ⟨t, 0, none⟩)] w fun e w' => ∃ c : RI, e = .returned (.bool (decide (0 < (puts (upto n) HP).length))) ∧ TurG (fun k => X k ∨ c.x k) w' t p n a q c b (HA ++ puts (upto n) HP) HP [] ∧ Fr (fun k => a.x k ∨ k = t) w.heap.size w w' ∧ (∀ k, c.x k → w.heap.size ≤ k) := by
  obtain ⟨c0, c1, c2, c3, c4⟩ := cell5 h.rcd
  have hlt := h.lt
  have HM := Lib.hid (made_any w h)
  obtain ⟨M, hM⟩ : ∃ M, puts (upto n) HP = M := ⟨_, rfl⟩
  have HTK : Hid (∀ W, Below w.heap.size w W → Calls Tryz.prog 60 #[.agg #[.iface 28 (.pointer (some ⟨a.r, 0, none⟩))], .agg #[.iface 28 (.pointer (some ⟨q.r, 0, none⟩))]] W fun e w' => e = .returned (.tuple #[]) ∧ a.at_ X w' n (HA ++ M) ∧ Fr a.x W.heap.size W w') := Lib.hid fun W hW => by
    have := take_any W (RelG.on h.ra hW) (RelG.on h.rq hW) h.aq (fun k hk => Nat.lt_of_lt_of_le (hX k hk) hW.size) hH
    rwa [hM] at this
  rw [hM]
  have HH := Lib.hid h; have HX := Lib.hid hX
  have HME := Lib.hid hM
  clear h hX hM
  unfold partV at c1 c3 c4
  go_enter Tryz.func26, Tryz.ntmps26
  go_wp2_with (first
    | (go_at_call 59; refine HM.out.mono ?_; rintro e w1 ⟨rfl, rfl⟩))
  have h4 : Below w.heap.size w w.drew := (Below.refl _ _).drew
  go_region_held3 (fun u => u.cell? ⟨t, 1, none⟩ = some (.iface 28 (.pointer (some ⟨a.r, 0, none⟩))) ∧ u.cell? ⟨t, 3, none⟩ = some (.iface 28 (.pointer (some ⟨q.r, 0, none⟩))))
    (first | exact ⟨c1, c3⟩ | exact ⟨(keep h4 _ _ hlt).trans c1, (keep h4 _ _ hlt).trans c3⟩ | exact ⟨d1, d3⟩)
    ((go_at_call 60; refine (HTK.out _ h4).mono ?_; rintro e w2 ⟨rfl, ha2, hF2⟩; have hT2 := Lib.hid ((HH.out.on h4).puta ha2 hF2); have d1 : w2.cell? ⟨t, 1, none⟩ = some (.iface 28 (.pointer (some ⟨a.r, 0, none⟩))) := (cell5 hT2.out.rcd).2.1; have d3 : w2.cell? ⟨t, 3, none⟩ = some (.iface 28 (.pointer (some ⟨q.r, 0, none⟩))) := (cell5 hT2.out.rcd).2.2.2.1; have HF2 := Lib.hid hF2; clear ha2 hF2))
  all_goals
    have d4 : w2.cell? ⟨t, 4, none⟩ = some (.iface 28 (.pointer (some ⟨b.r, 0, none⟩))) := (cell5 hT2.out.rcd).2.2.2.2
    have hs2 : w.heap.size ≤ w2.heap.size := Nat.le_trans h4.size HF2.out.size
    have HX2 : Hid (∀ k, X k → k < w2.heap.size) := Lib.hid fun k hk => Nat.lt_of_lt_of_le (HX.out k hk) hs2
    have HCL : Hid (∀ W, Below w2.heap.size w2 W → Calls Tryz.prog 58 #[.agg #[.iface 28 (.pointer (some ⟨b.r, 0, none⟩))]] W fun e w' => ∃ c : RI, e = .returned (.agg #[.iface 28 (.pointer (some ⟨c.r, 0, none⟩))]) ∧ c.ps = b.ps ∧ NewZ X w2 n b.ps [] c.r c.g0 c.gs w') := Lib.hid fun W hW => (pclone_any W (RelG.on hT2.out.rb hW) (fun k hk => Nat.lt_of_lt_of_le (HX2.out k hk) hW.size) (by simp)).mono (by
      rintro e w' ⟨r', g0', gs', rfl, N⟩
      exact ⟨⟨r', g0', gs', b.ps⟩, rfl, rfl, N.s, hW.trans (N.b.mono hW.size), Nat.le_trans hW.size N.r0, fun k hk => Nat.le_trans hW.size (N.x0 k hk)⟩)
    have hlt2 : t < w2.heap.size := hT2.out.lt
    have h5 : Below w2.heap.size w2 w2.drew := (Below.refl _ _).drew
    clear c1 c3 c4 c0 c2 d1
    go_wp2_with fail
    go_region_law ((go_simp; go_at_call 58; refine (HCL.out _ ?_).mono ?_; (exact h5); rintro e w3 ⟨c, rfl, hcp, N⟩; have hr3 := (N.b.block t hlt2).trans hT2.out.rcd; have k3 : w3.cell? ⟨t, 3, none⟩ = some (.iface 28 (.pointer (some ⟨q.r, 0, none⟩))) := (cell5 hr3).2.2.2.1; have k4 : w3.cell? ⟨t, 4, none⟩ = some (.iface 28 (.pointer (some ⟨b.r, 0, none⟩))) := (cell5 hr3).2.2.2.2; have k2 := (cell5 hr3).2.2.1; have f2 : w3.frozen? ⟨t, 2, none⟩ = false := (by simp [World.frozen?, hr3]); have f3 : w3.frozen? ⟨t, 3, none⟩ = false := (by simp [World.frozen?, hr3]); have HN := Lib.hid N; have HCP := Lib.hid hcp; clear N hcp hr3; dsimp only))
    all_goals
      obtain ⟨hT4, hF4⟩ := hT2.out.turn HX2.out HN.out HCP.out
      unfold partV at hT4 hF4
      have e2 := (cell5 hT4.rcd).2.2.1
      unfold partV at e2
      have hln := relLen_any _ hT4.rl
      rw [HME.out] at hln
      have HLN := Lib.hid hln; have HT4 := Lib.hid hT4; have HF4 := Lib.hid hF4
      clear hln hT4 hF4 k2 k3 k4 f2 f3
      go_wp2_with (go_at_call 12; refine HLN.out.mono ?_; rintro e w5 ⟨rfl, rfl⟩)
      go_ret
      refine ⟨c, ?_, HT4.out, ?_, fun k hk => ?_⟩
      · simp
      · exact ((Fr.of h4).trans ((HF2.out.sub fun k _ hk => .inl hk).mono h4.size)).trans ((HF4.out.sub fun k _ hk => .inr hk).mono hs2)
      · exact Nat.le_trans hs2 (HN.out.x0 k hk)
end
/-! ### New -/
theorem perm3 {α : Type} (x y z : α) : [z, y, x].Perm [x, y, z] := List.reverse_perm [x, y, z]
theorem ClonesAt.perm {Z : Nat → Prop} {n : Nat} {w0 W : World} {b : RI} {L L' : List RI} (h : ClonesAt Z n w0 b L W) (hp : L.Perm L') : ClonesAt Z n w0 b L' W := by
  have hx : ∀ k, xl Z b L k ↔ xl Z b L' k := fun k => by
    unfold xl
    exact or_congr Iff.rfl ⟨fun ⟨c, hc, hk⟩ => ⟨c, hp.mem_iff.1 hc, hk⟩, fun ⟨c, hc, hk⟩ => ⟨c, hp.mem_iff.2 hc, hk⟩⟩
  have hm : ∀ {c : RI}, c.at_ (xl Z b L) W n [] → c.at_ (xl Z b L') W n [] := fun hc => RelG.more (fun k hk => (hx k).1 hk) (fun k hk => .inl ((hx k).2 hk)) hc
  exact ⟨hm h.src, fun c hc => hm (h.each c (hp.mem_iff.2 hc)), (hp.pairwise_iff (fun {x y} hxy k hy hx => hxy k hx hy)).1 h.dis, fun c hc => h.far c (hp.mem_iff.2 hc), fun c hc => h.ps c (hp.mem_iff.2 hc), h.bel, h.zl, h.bl⟩
structure NewT (Z : Nat → Prop) (w : World) (t p n : Nat) (a l q b : RI) (w' : World) : Prop where
  s : TurG (fun k => Z k ∨ k = t ∨ a.x k ∨ l.x k ∨ q.x k ∨ b.x k) w' t p n a l q b [] [] []
  bw : Below w.heap.size w w'
  far : ∀ k, (k = t ∨ a.x k ∨ l.x k ∨ q.x k ∨ b.x k) → w.heap.size ≤ k
/-- The record behind the three clones. -/
theorem NewT.mk' {Z : Nat → Prop} {w w1 W : World} {p n : Nat} {a l q b : RI} {L : List RI} (hZ : ∀ k, Z k → k < w.heap.size) (hp : Z p) (hb : Below w.heap.size w w1) (hbx : ∀ k, b.x k → w.heap.size ≤ k) (h : ClonesAt Z n w1 b L W) (hL : L.Perm [a, l, q]) :
    NewT Z w W.heap.size p n a l q b (W.alloc (.cells #[.pointer (some ⟨p, 0, none⟩), partV a.r, partV l.r, partV q.r, partV b.r] 99)) := by
  have h := h.perm hL
  have hs := hb.size
  have hsW := h.bel.size
  have ha : Below W.heap.size W (W.alloc (.cells #[.pointer (some ⟨p, 0, none⟩), partV a.r, partV l.r, partV q.r, partV b.r] 99)) := (Below.refl _ _).alloc (Nat.le_refl _) _
  have hd := h.dis
  rw [List.pairwise_cons, List.pairwise_cons] at hd
  obtain ⟨d1, d2, _⟩ := hd
  have hlt := h.lt
  have hm : ∀ {c : RI}, c.at_ (xl Z b [a, l, q]) W n [] → c.at_ (fun k => Z k ∨ k = W.heap.size ∨ a.x k ∨ l.x k ∨ q.x k ∨ b.x k) (W.alloc (.cells #[.pointer (some ⟨p, 0, none⟩), partV a.r, partV l.r, partV q.r, partV b.r] 99)) n [] := fun hc => RelG.on (RelG.more (X := xl Z b [a, l, q]) (fun k hk => by
      rcases hk with (hk | hk) | ⟨c, hc, hk⟩
      · exact .inl hk
      · exact .inr (.inr (.inr (.inr (.inr hk))))
      · simp only [List.mem_cons, List.not_mem_nil, or_false] at hc
        rcases hc with rfl | rfl | rfl
        · exact .inr (.inr (.inl hk))
        · exact .inr (.inr (.inr (.inl hk)))
        · exact .inr (.inr (.inr (.inr (.inl hk))))) (fun k hk => by
      rcases hk with hk | hk | hk | hk | hk | hk
      · exact .inl (.inl (.inl hk))
      · exact .inr (by omega)
      · exact .inl (.inr ⟨a, by simp, hk⟩)
      · exact .inl (.inr ⟨l, by simp, hk⟩)
      · exact .inl (.inr ⟨q, by simp, hk⟩)
      · exact .inl (.inl (.inr hk))) hc) ha
  have fa := h.far a (by simp); have fl := h.far l (by simp); have fq := h.far q (by simp)
  have na : ∀ k, (a.x k ∨ l.x k ∨ q.x k ∨ b.x k) → k < W.heap.size := fun k hk => by
    rcases hk with hk | hk | hk | hk
    · exact hlt k (.inr ⟨a, by simp, hk⟩)
    · exact hlt k (.inr ⟨l, by simp, hk⟩)
    · exact hlt k (.inr ⟨q, by simp, hk⟩)
    · exact hlt k (.inl (.inr hk))
  have far : ∀ k, (a.x k ∨ l.x k ∨ q.x k ∨ b.x k) → w.heap.size ≤ k := fun k hk => by
    rcases hk with hk | hk | hk | hk
    · have := fa k hk; omega
    · have := fl k hk; omega
    · have := fq k hk; omega
    · exact hbx k hk
  have hpl := hZ p hp
  refine ⟨⟨heap_alloc_new _ _, hm (h.each a (by simp)), hm (h.each l (by simp)), hm (h.each q (by simp)), hm h.src, d1 l (by simp), d1 q (by simp), fun k hk hb' => ?_, d2 q (by simp), fun k hk hb' => ?_, fun k hk hb' => ?_, .inr (.inl rfl), .inl hp, fun k hk => ?_, fun k hk => ?_, ?_⟩, ?_, fun k hk => ?_⟩
  · have := fa k hk; have := h.bl k hb'; omega
  · have := fl k hk; have := h.bl k hb'; omega
  · have := fq k hk; have := h.bl k hb'; omega
  · have := na k hk; omega
  · have := far k hk; omega
  · omega
  · exact (hb.trans (h.bel.mono hs)).trans (ha.mono (by omega))
  · rcases hk with hk | hk
    · omega
    · exact far k hk
theorem ClonesAt.nextU {Z : Nat → Prop} {n : Nat} {w0 W : World} {b : RI} {L : List RI} (h : ClonesAt Z n w0 b L W) :
    Calls Tryz.prog 58 #[.agg #[.iface 28 (.pointer (some ⟨b.r, 0, none⟩))]] W fun e w' => ∃ c : RI, e = .returned (.agg #[.iface 28 (.pointer (some ⟨c.r, 0, none⟩))]) ∧ ClonesAt Z n w0 b (c :: L) w' ∧ Below W.heap.size W w' := by
  have := h.next (Below.refl _ _)
  unfold partV at this
  exact this
set_option maxRecDepth 20000 in
set_option maxHeartbeats 8000000 in
theorem turNew_any {Z : Nat → Prop} (A : Option Addr) (c n p : Nat) (xs : List IS) (w : World) (hZ : ∀ k, Z k → k < w.heap.size) (hp : Z p) (hn : n ≤ 8) (h : RdP w A xs) (hm : xs.length ≤ 1000) (hg : ∀ p ∈ xs, goodP n p.l = true) :
    Calls Tryz.prog 24 #[.int .i64 (n : Int), .slice A xs.length c, .pointer (some ⟨p, 0, none⟩)] w fun e w' => ∃ (t : Nat) (a l q b : RI), e = .returned (.tuple #[.pointer (some ⟨t, 0, none⟩), .int .i64 0]) ∧ NewT Z w t p n a l q b w' := by
  have HNW := Lib.hid (newRZ A c xs w hZ hn h hm hg)
  have HZ := Lib.hid hZ; have HP := Lib.hid hp
  clear h hg hZ hp
  go_enter Tryz.func24, Tryz.ntmps24
  go_wp2_with (go_at_call 8; refine HNW.out.mono ?_; rintro e w1 ⟨b, rfl, hbp, N⟩; have HN := Lib.hid N; clear N hbp)
  have hat : b.at_ (fun k => Z k ∨ b.x k) w1 n [] := HN.out.s
  have hb1 := HN.out.b
  have hC0 := ClonesAt.start hat (fun k hk => Nat.lt_of_lt_of_le (HZ.out k hk) hb1.size)
  have h4 : Below w1.heap.size w1 (w1.alloc (.cells #[.iface 28 (.pointer (some ⟨b.r, 0, none⟩))] 96)).drew := ((Below.refl _ _).alloc (Nat.le_refl _) _).drew
  have HC := Lib.hid (hC0.on h4)
  have hcb := cell_box' (heap_alloc_new w1 (.cells #[.iface 28 (.pointer (some ⟨b.r, 0, none⟩))] 96))
  have HB1 := Lib.hid hb1
  clear hat hb1 hC0
  have hlb : w1.heap.size < (w1.alloc (.cells #[.iface 28 (.pointer (some ⟨b.r, 0, none⟩))] 96)).drew.heap.size := by simp [heap_dr]
  generalize w1.alloc (.cells #[.iface 28 (.pointer (some ⟨b.r, 0, none⟩))] 96) = w2 at *
  have h6 := Below.refl w2.drew.heap.size w2.drew
  go_region_held3 (fun u => u.cell? ⟨w1.heap.size, 0, none⟩ = some (.iface 28 (.pointer (some ⟨b.r, 0, none⟩))))
    (first | exact hcb | exact (keep h6 _ _ hlb).trans hcb | exact ((keep ((Below.refl _ _).alloc (Nat.le_refl _) _) _ _ (Nat.lt_of_lt_of_le hlb h6.size)).trans ((keep h6 _ _ hlb).trans hcb)))
    ((go_at_call 58; refine HC.out.nextU.mono ?_; rintro e w4 ⟨c, rfl, hc, hb⟩; replace HC := Lib.hid hc; replace h6 := on h6 hb; clear hb hc))
  all_goals
    go_wp2
    go_returns
    exact ⟨_, _, _, _, _, rfl, NewT.mk' (Z := Z) (p := p) HZ.out HP.out HB1.out HN.out.x0 HC.out (perm3 _ _ _)⟩
end Go.Proofs.YtpmkhpbhimmeiaaGreat

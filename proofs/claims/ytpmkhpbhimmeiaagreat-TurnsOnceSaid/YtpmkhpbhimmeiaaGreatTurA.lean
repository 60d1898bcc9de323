/-
  Package turns: contracts.
-/
import Derived.Test.YtpmkhpbhimmeiaaGreatRelC
import Derived.Handy
namespace Go.Proofs.YtpmkhpbhimmeiaaGreat
open Go.RowKit FloM ValM Go.Shelf
set_option linter.unusedVariables false
set_option linter.unusedSimpArgs false
/-- A part: a relation behind an interface. -/
def partV (r : Nat) : Value := .iface 28 (.pointer (some ⟨r, 0, none⟩))
theorem results_part {fn : Func} {p : Tmp} (h : fn.results = #[.cell p 96]) (tmps : Array Value) (w : World) (g : Nat) (a : Value) (t : TypeId) (z : Nat × Nat) (hp : tmps.getD p undef = .pointer (some ⟨g, 0, none⟩)) (hg : w.heap[g]? = some (.cells #[a] t z)) : (results fn tmps).run Tryz.prog w = .ok (.agg #[a]) w :=
  results_cell_row h tmps w g t #[a] z _ hp hg Tryz.underlying96 rfl (by kernel_rfl)
section
variable {X : Nat → Prop} {r n g0 : Nat} {gs : List Nat} {ps : List (List Int)} {H : List (List V)}
set_option maxRecDepth 20000 in
set_option maxHeartbeats 4000000 in
theorem pclone_any (w : World) (h : RelS X w r n g0 gs ps H) (hX : ∀ k, X k → k < w.heap.size) (hH : H.length < 100000) :
    Calls Tryz.prog 58 #[.agg #[partV r]] w fun e w' => ∃ r' g0' gs', e = .returned (.agg #[partV r']) ∧ NewZ X w n ps H r' g0' gs' w' := by
  unfold partV
  have h0 : Below w.heap.size w ((w.alloc (.cells #[.iface 28 (.pointer (some ⟨r, 0, none⟩))] 96)).alloc (.cells #[.nilIface] 96)) := ((Below.refl _ _).alloc (Nat.le_refl _) _).alloc (by simp) _
  have HC := Lib.hid (relCopy_any _ ((RelG.more (Y := fun k => X k ∨ k = w.heap.size + 1) (fun k hk => .inl hk) (fun k hk => hk.imp_right fun e => by omega) h).on h0) (fun k hk => by simp; rcases hk with hk | rfl; (have := hX k hk; omega); omega) hH)
  have hb2 := heap_alloc_new (w.alloc (.cells #[.iface 28 (.pointer (some ⟨r, 0, none⟩))] 96)) (.cells #[.nilIface] 96)
  rw [World.size_alloc] at hb2
  have HB2 := Lib.hid hb2; have HX := Lib.hid hX; have H0 := Lib.hid h0
  clear h hX h0 hb2
  go_enter Tryz.func58, Tryz.ntmps58
  go_wp2_with (go_at_call 139; refine HC.out.mono ?_; rintro e w2 ⟨r', g0', gs', rfl, N⟩; have hq := (N.b.block _ (by simp)).trans HB2.out; have f0 : w2.frozen? ⟨w.heap.size + 1, 0, none⟩ = false := (by simp [World.frozen?, hq]); have q0 : w2.cell? ⟨w.heap.size + 1, 0, none⟩ = some .nilIface := (by simp [World.cell?, hq]); have HQ := Lib.hid hq; have HN := Lib.hid N; clear hq N)
  have hq2 := heap_set' (o := 0) (cs := [Value.nilIface]) (.iface 28 (.pointer (some ⟨r', 0, none⟩))) HQ.out
  simp only [List.set_cons_zero] at hq2
  refine bodyPost_ret (results_part rfl _ _ (w.heap.size + 1) _ _ _ rfl hq2) rfl ?_
  refine ⟨r', g0', gs', rfl, ?_⟩
  have hF : Fr (· = w.heap.size + 1) w2.heap.size w2 (w2.setCell ⟨w.heap.size + 1, 0, none⟩ (.iface 28 (.pointer (some ⟨r', 0, none⟩)))) := fr_set w2 _ 0 _ _
  have N := HN.out
  have hs1 := N.b.size
  have hx0 := N.x0
  have hr0 := N.r0
  have hb1 : Below w.heap.size w w2 := H0.out.trans (N.b.mono H0.out.size)
  simp at hs1 hr0
  refine ⟨RelG.sub (Y := fun k => (X k ∨ k = w.heap.size + 1) ∨ k = g0' ∨ k ∈ gs') (fun k hk => hk.imp_left .inl) (fun k hk => .inr hk) (RelG.onF N.s hF (fun k hk => .inl (.inr hk)) fun k hk hz => ?_), hb1.trans (hF.below hb1.size fun k hk e => by omega), by omega, fun k hk => ?_⟩
  · have := hx0 k hz; simp at this; omega
  · have := hx0 k hk; simp at this; omega
end
/-! ### Clones of one relation -/
def xl (Z : Nat → Prop) (b : RI) (L : List RI) (k : Nat) : Prop := (Z k ∨ b.x k) ∨ ∃ c ∈ L, c.x k
structure ClonesAt (Z : Nat → Prop) (n : Nat) (w0 : World) (b : RI) (L : List RI) (W : World) : Prop where
  src : b.at_ (xl Z b L) W n []
  each : ∀ c ∈ L, c.at_ (xl Z b L) W n []
  dis : L.Pairwise fun c d => ∀ k, c.x k → ¬ d.x k
  far : ∀ c ∈ L, ∀ k, c.x k → w0.heap.size ≤ k
  ps : ∀ c ∈ L, c.ps = b.ps
  bel : Below w0.heap.size w0 W
  zl : ∀ k, Z k → k < w0.heap.size
  bl : ∀ k, b.x k → k < w0.heap.size
section
variable {Z : Nat → Prop} {n : Nat} {w0 W W' : World} {b : RI} {L : List RI}
theorem ClonesAt.start (h : b.at_ (fun k => Z k ∨ b.x k) W n []) (hZ : ∀ k, Z k → k < W.heap.size) : ClonesAt Z n W b [] W :=
  ⟨RelG.more (fun k hk => .inl hk) (fun k hk => .inl (hk.elim id fun ⟨c, hc, _⟩ => by cases hc)) h, (fun c hc => by cases hc), List.Pairwise.nil, (fun c hc => by cases hc), (fun c hc => by cases hc), Below.refl _ _, hZ, h.lt⟩
theorem ClonesAt.on (h : ClonesAt Z n w0 b L W) (hb : Below W.heap.size W W') : ClonesAt Z n w0 b L W' :=
  ⟨RelG.on h.src hb, fun c hc => RelG.on (h.each c hc) hb, h.dis, h.far, h.ps, h.bel.trans (hb.mono h.bel.size), h.zl, h.bl⟩
theorem ClonesAt.lt (h : ClonesAt Z n w0 b L W) : ∀ k, xl Z b L k → k < W.heap.size := fun k hk => by
  have hs := h.bel.size
  rcases hk with (hk | hk) | ⟨c, hc, hk⟩
  · have := h.zl k hk; omega
  · have := h.bl k hk; omega
  · exact (h.each c hc).lt k hk
theorem ClonesAt.next (h : ClonesAt Z n w0 b L W) (hb : Below W.heap.size W W') :
    Calls Tryz.prog 58 #[.agg #[partV b.r]] W' fun e w' => ∃ c : RI, e = .returned (.agg #[partV c.r]) ∧ ClonesAt Z n w0 b (c :: L) w' ∧ Below W'.heap.size W' w' := by
  have h' := h.on hb
  refine (pclone_any W' h'.src h'.lt (by simp)).mono ?_
  rintro e w' ⟨r', g0', gs', rfl, N⟩
  refine ⟨⟨r', g0', gs', b.ps⟩, rfl, ⟨?_, ?_, ?_, ?_, ?_, ?_, h'.zl, h'.bl⟩, N.b⟩
  · exact RelG.on (RelG.more (X := xl Z b L) (fun k hk => hk.imp_right fun ⟨c, hc, hk⟩ => ⟨c, List.mem_cons_of_mem _ hc, hk⟩) (fun k hk => by
      rcases hk with hk | ⟨c, hc, hk⟩
      · exact .inl (.inl hk)
      · rcases List.mem_cons.1 hc with rfl | hc
        · exact .inr (N.x0 k hk)
        · exact .inl (.inr ⟨c, hc, hk⟩)) h'.src) N.b
  · intro c hc
    rcases List.mem_cons.1 hc with rfl | hc
    · exact RelG.more (X := fun k => xl Z b L k ∨ k = g0' ∨ k ∈ gs') (fun k hk => by
        rcases hk with (hk | ⟨c, hc, hk⟩) | hk
        · exact .inl hk
        · exact .inr ⟨c, List.mem_cons_of_mem _ hc, hk⟩
        · exact .inr ⟨_, List.mem_cons_self, hk⟩) (fun k hk => .inl (by
        rcases hk with hk | ⟨c, hc, hk⟩
        · exact .inl (.inl hk)
        · rcases List.mem_cons.1 hc with rfl | hc
          · exact .inr hk
          · exact .inl (.inr ⟨c, hc, hk⟩))) N.s
    · exact RelG.on (RelG.more (X := xl Z b L) (fun k hk => hk.imp_right fun ⟨c, hc, hk⟩ => ⟨c, List.mem_cons_of_mem _ hc, hk⟩) (fun k hk => by
        rcases hk with hk | ⟨d, hd, hk⟩
        · exact .inl (.inl hk)
        · rcases List.mem_cons.1 hd with rfl | hd
          · exact .inr (N.x0 k hk)
          · exact .inl (.inr ⟨d, hd, hk⟩)) (h'.each c hc)) N.b
  · refine List.Pairwise.cons (fun d hd k hk hk' => ?_) h'.dis
    have := N.x0 k hk; have := (h'.each d hd).lt k hk'; omega
  · intro c hc k hk
    rcases List.mem_cons.1 hc with rfl | hc
    · have := N.x0 k hk; have := h'.bel.size; omega
    · exact h'.far c hc k hk
  · intro c hc
    rcases List.mem_cons.1 hc with rfl | hc
    · rfl
    · exact h'.ps c hc
  · exact h'.bel.trans (N.b.mono h'.bel.size)
end
/-! ### A Turns, and a purse -/
def PurseAt (w : World) (p : Nat) (left : Int) : Prop := w.heap[p]? = some (.cells #[.int .i64 left] 54 (0, 0))
structure TurG (X : Nat → Prop) (w : World) (t p n : Nat) (a l q b : RI) (HA HL HP : List (List V)) : Prop where
  rcd : w.heap[t]? = some (.cells #[.pointer (some ⟨p, 0, none⟩), partV a.r, partV l.r, partV q.r, partV b.r] 99 (0, 0))
  ra : a.at_ X w n HA
  rl : l.at_ X w n HL
  rq : q.at_ X w n HP
  rb : b.at_ X w n []
  al : ∀ k, a.x k → ¬ l.x k
  aq : ∀ k, a.x k → ¬ q.x k
  ab : ∀ k, a.x k → ¬ b.x k
  lq : ∀ k, l.x k → ¬ q.x k
  lb : ∀ k, l.x k → ¬ b.x k
  qb : ∀ k, q.x k → ¬ b.x k
  tX : X t
  pX : X p
  nt : ∀ k, (a.x k ∨ l.x k ∨ q.x k ∨ b.x k) → k ≠ t
  np : ∀ k, (a.x k ∨ l.x k ∨ q.x k ∨ b.x k) → k ≠ p
  tp : t ≠ p
section
variable {X Y Z : Nat → Prop} {w w' : World} {t p n : Nat} {a l q b : RI} {HA HL HP : List (List V)} {left : Int}
theorem PurseAt.on (h : PurseAt w p left) (hb : Below w.heap.size w w') : PurseAt w' p left := (hb.block p (Array.getElem?_eq_some_iff.1 h).1).trans h
theorem PurseAt.onF (h : PurseAt w p left) (hF : Fr Z w.heap.size w w') (hz : ¬ Z p) : PurseAt w' p left := (hF.block p (Array.getElem?_eq_some_iff.1 h).1 hz).trans h
theorem TurG.on (h : TurG X w t p n a l q b HA HL HP) (hb : Below w.heap.size w w') : TurG X w' t p n a l q b HA HL HP :=
  ⟨(hb.block t (Array.getElem?_eq_some_iff.1 h.rcd).1).trans h.rcd, RelG.on h.ra hb, RelG.on h.rl hb, RelG.on h.rq hb, RelG.on h.rb hb, h.al, h.aq, h.ab, h.lq, h.lb, h.qb, h.tX, h.pX, h.nt, h.np, h.tp⟩
/-- Other blocks of X were written. -/
theorem TurG.onF (h : TurG X w t p n a l q b HA HL HP) (hF : Fr Z w.heap.size w w') (hZ : ∀ k, Z k → X k) (hd : ∀ k, Z k → ¬ (a.x k ∨ l.x k ∨ q.x k ∨ b.x k) ∧ k ≠ t) : TurG X w' t p n a l q b HA HL HP :=
  ⟨(hF.block t (Array.getElem?_eq_some_iff.1 h.rcd).1 (fun hz => (hd t hz).2 rfl)).trans h.rcd, RelG.onF h.ra hF hZ (fun k hz hk => (hd k hz).1 (.inl hk)), RelG.onF h.rl hF hZ (fun k hz hk => (hd k hz).1 (.inr (.inl hk))), RelG.onF h.rq hF hZ (fun k hz hk => (hd k hz).1 (.inr (.inr (.inl hk)))), RelG.onF h.rb hF hZ (fun k hz hk => (hd k hz).1 (.inr (.inr (.inr hk)))), h.al, h.aq, h.ab, h.lq, h.lb, h.qb, h.tX, h.pX, h.nt, h.np, h.tp⟩
theorem TurG.more (hX : ∀ k, X k → Y k) (hY : ∀ k, Y k → X k ∨ w.heap.size ≤ k) (h : TurG X w t p n a l q b HA HL HP) : TurG Y w t p n a l q b HA HL HP :=
  ⟨h.rcd, RelG.more hX hY h.ra, RelG.more hX hY h.rl, RelG.more hX hY h.rq, RelG.more hX hY h.rb, h.al, h.aq, h.ab, h.lq, h.lb, h.qb, hX t h.tX, hX p h.pX, h.nt, h.np, h.tp⟩
theorem TurG.lt (h : TurG X w t p n a l q b HA HL HP) : t < w.heap.size := (Array.getElem?_eq_some_iff.1 h.rcd).1
theorem cell5 {w : World} {r : Nat} {a b c d e : Value} {t : TypeId} {z : Nat × Nat} (h : w.heap[r]? = some (.cells #[a, b, c, d, e] t z)) : w.cell? ⟨r, 0, none⟩ = some a ∧ w.cell? ⟨r, 1, none⟩ = some b ∧ w.cell? ⟨r, 2, none⟩ = some c ∧ w.cell? ⟨r, 3, none⟩ = some d ∧ w.cell? ⟨r, 4, none⟩ = some e := by
  refine ⟨?_, ?_, ?_, ?_, ?_⟩ <;> (unfold World.cell?; simp only; rw [h]; rfl)
/-! ### Contracts that only read -/
set_option maxHeartbeats 1000000 in
theorem made_nil (w : World) : Calls Tryz.prog 59 #[.pointer none] w fun e w' => e = .returned (.bool false) ∧ w = w' := by
  go_enter Tryz.func59, Tryz.ntmps59
  go_wp2
  go_ret
  exact ⟨rfl, rfl⟩
set_option maxHeartbeats 1000000 in
theorem made_any (w : World) (h : TurG X w t p n a l q b HA HL HP) : Calls Tryz.prog 59 #[.pointer (some ⟨t, 0, none⟩)] w fun e w' => e = .returned (.bool true) ∧ w = w' := by
  obtain ⟨c0, c1, c2, c3, c4⟩ := cell5 h.rcd
  clear h
  go_enter Tryz.func59, Tryz.ntmps59
  go_wp2
  go_ret
  exact ⟨rfl, rfl⟩
set_option maxHeartbeats 1000000 in
theorem turHas_any (A : Option Addr) (ca : Nat) (x : List V) (w : World) (h : TurG X w t p n a l q b HA HL HP) (hr : RdV w A x) : Calls Tryz.prog 31 #[.pointer (some ⟨t, 0, none⟩), .slice A x.length ca] w fun e w' => e = .returned (.bool (hasB (upto n) x (puts (upto n) HA))) ∧ Below w.heap.size w w' := by
  obtain ⟨c0, c1, c2, c3, c4⟩ := cell5 h.rcd
  unfold partV at c1
  have HM := Lib.hid (made_any w h)
  have HH := Lib.hid (relHas_any A ca x w h.ra hr)
  clear h hr
  go_enter Tryz.func31, Tryz.ntmps31
  go_wp2_with (first
    | (go_at_call 59; refine HM.out.mono ?_; rintro e w1 ⟨rfl, rfl⟩)
    | (go_at_call 13; refine HH.out.mono ?_; rintro e w1 ⟨rfl, hb⟩))
  go_ret
  exact ⟨rfl, hb⟩
set_option maxHeartbeats 1000000 in
theorem turLen_any (w : World) (h : TurG X w t p n a l q b HA HL HP) : Calls Tryz.prog 30 #[.pointer (some ⟨t, 0, none⟩)] w fun e w' => e = .returned (.int .i64 ((puts (upto n) HA).length : Nat)) ∧ w = w' := by
  obtain ⟨c0, c1, c2, c3, c4⟩ := cell5 h.rcd
  unfold partV at c1
  have HM := Lib.hid (made_any w h)
  have HH := Lib.hid (relLen_any w h.ra)
  clear h
  go_enter Tryz.func30, Tryz.ntmps30
  go_wp2_with (first
    | (go_at_call 59; refine HM.out.mono ?_; rintro e w1 ⟨rfl, rfl⟩)
    | (go_at_call 12; refine HH.out.mono ?_; rintro e w1 ⟨rfl, rfl⟩))
  go_ret
  exact ⟨rfl, rfl⟩
end
/-! ### take -/
set_option maxRecDepth 20000 in
set_option maxHeartbeats 4000000 in
theorem take_any {X : Nat → Prop} {n : Nat} {a q : RI} {HA HP : List (List V)} (w : World) (ha : a.at_ X w n HA) (hq : q.at_ X w n HP) (hd : ∀ k, a.x k → ¬ q.x k) (hX : ∀ k, X k → k < w.heap.size) (hH : HA.length + HP.length < 100000) :
    Calls Tryz.prog 60 #[.agg #[partV a.r], .agg #[partV q.r]] w fun e w' => e = .returned (.tuple #[]) ∧ a.at_ X w' n (HA ++ puts (upto n) HP) ∧ Fr a.x w.heap.size w w' := by
  unfold partV
  have h0 : Below w.heap.size w ((w.alloc (.cells #[.iface 28 (.pointer (some ⟨a.r, 0, none⟩))] 96)).alloc (.cells #[.iface 28 (.pointer (some ⟨q.r, 0, none⟩))] 96)) := ((Below.refl _ _).alloc (Nat.le_refl _) _).alloc (by simp) _
  have hpl := puts_len (upto n) HP
  have HAL := Lib.hid (relAll_any _ (RelG.on hq h0) (fun k hk => Nat.lt_of_lt_of_le (hX k hk) h0.size) (by omega))
  have hb0 : ((w.alloc (.cells #[.iface 28 (.pointer (some ⟨a.r, 0, none⟩))] 96)).alloc (.cells #[.iface 28 (.pointer (some ⟨q.r, 0, none⟩))] 96)).cell? ⟨w.heap.size, 0, none⟩ = some (.iface 28 (.pointer (some ⟨a.r, 0, none⟩))) := by simp
  have HA0 := Lib.hid ha; have HX := Lib.hid hX; have H0 := Lib.hid h0; have HB0 := Lib.hid hb0; have HXS := Lib.hid (RelG.x_sub ha); have HXL := Lib.hid ha.lt
  clear ha hq hX h0 hb0
  obtain ⟨M, hM⟩ : ∃ M, puts (upto n) HP = M := ⟨_, rfl⟩
  rw [hM] at hpl HAL ⊢
  clear hM
  go_enter Tryz.func60, Tryz.ntmps60
  go_wp2_with (go_at_call 17; refine HAL.out.mono ?_; rintro e w1 ⟨B, d, ys, hs⟩; obtain rfl := hs.val; have hb1 := (keep hs.b w.heap.size 0 (by simp; omega)).trans HB0.out; have hs1 : w.heap.size + 2 ≤ w1.heap.size := (by have := hs.b.size; simp at this; omega); have HB1 := Lib.hid hb1; have HSY := Lib.hid hs; clear hs)
  clear hb1
  have hyl : ys.length = M.length := by rw [← HSY.out.vals]; simp
  have HYL := Lib.hid hyl; clear hyl
  have HAW1 := Lib.hid (show a.at_ X w1 n HA from RelG.on HA0.out (on H0.out HSY.out.b))
  go_loopw [10] (fun v wr => ∃ k : Nat, v = .int .i64 (k : Nat) ∧ k ≤ M.length ∧ a.at_ X wr n (HA ++ M.take k) ∧ Fr a.x w1.heap.size w1 wr) (fun v _ => M.length - (intOf v).toNat)
  case atStart => exact ⟨0, rfl, Nat.zero_le _, by rw [List.take_zero, List.append_nil]; exact HAW1.out, Fr.refl _ _ _⟩
  case round =>
    clear HAW1
    obtain ⟨k, rfl, hk, hA, hF⟩ := hrel
    have hbx := (hF.cell (b := w.heap.size) (o := 0) (by omega) (fun hx => by have := HXL.out _ hx; omega)).trans HB1.out
    have HAK := Lib.hid hA; have HF := Lib.hid hF; clear hA hF
    by_cases hlt : k < M.length
    · have hky : k < ys.length := by rw [HYL.out]; exact hlt
      have hy := List.getElem?_eq_getElem hky
      generalize ys[k] = y at hy
      have hrt := HSY.out.rd.onF (HF.out.sub fun j _ hj => HXS.out j hj)
      obtain ⟨b, o, rfl, hbl, hcy⟩ := hrt.at_ hy
      have hyk := hrt.each y (List.mem_of_getElem? hy)
      have hMk : M[k]? = some y.l := by rw [← HSY.out.vals, List.getElem?_map, hy]; rfl
      have hsz := HF.out.size
      have HPT := Lib.hid (relPutS_any y.A y.c y.l wr HAK.out hyk.rd (fun _ => off_sub hyk.off HXS.out) (fun j hj => by have := HX.out j hj; omega) (by rw [List.length_append, List.length_take]; omega))
      have HMK := Lib.hid hMk
      clear hrt hyk hy hMk hky
      go_wp2_with (go_at_call 10; refine HPT.out.mono ?_; rintro e w5 ⟨rfl, hs5, hF5⟩; have HS5 := Lib.hid hs5; have HF5 := Lib.hid hF5; clear hs5 hF5)
      go_roundw
      case rel => exact ⟨k + 1, by go_num, by omega, by rw [take_snoc' HMK.out, ← List.append_assoc]; exact HS5.out, HF.out.trans (HF5.out.mono hsz)⟩
      case measure => simp [intOf]; omega
    · obtain rfl : k = M.length := by omega
      go_wp2
      go_returns
      refine ⟨rfl, by have := HAK.out; rwa [List.take_of_length_le (Nat.le_refl _)] at this, ?_⟩
      exact (Fr.of (on H0.out HSY.out.b)).trans (HF.out.mono (by omega))
end Go.Proofs.YtpmkhpbhimmeiaaGreat

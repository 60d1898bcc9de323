/-
  One Turns beside old memory; the calls of a nil one; the awake of layer 6's laws.
-/
import Derived.Test.YtpmkhpbhimmeiaaGreatTurOp
namespace Go.Proofs.YtpmkhpbhimmeiaaGreat
open Go.RowKit FloM ValM Go.Shelf
set_option linter.unusedVariables false
set_option linter.unusedSimpArgs false
/-! ### nil -/
set_option maxHeartbeats 1000000 in
theorem turAdd_nil (v : Value) (w : World) : Calls Tryz.prog 28 #[.pointer none, v] w fun e w' => e = .returned (.tuple #[.bool false, .int .i64 1]) ∧ w = w' := by
  go_enter Tryz.func28, Tryz.ntmps28
  go_wp2_with (go_at_call 59; refine (made_nil _).mono ?_; rintro e w1 ⟨rfl, rfl⟩)
  go_ret2
  exact ⟨rfl, rfl⟩
set_option maxHeartbeats 1000000 in
theorem turTurn_nil (w : World) : Calls Tryz.prog 26 #[.pointer none] w fun e w' => e = .returned (.bool false) ∧ w = w' := by
  go_enter Tryz.func26, Tryz.ntmps26
  go_wp2_with (go_at_call 59; refine (made_nil _).mono ?_; rintro e w1 ⟨rfl, rfl⟩)
  go_ret
  exact ⟨rfl, rfl⟩
set_option maxHeartbeats 1000000 in
theorem turHas_nil (v : Value) (w : World) : Calls Tryz.prog 31 #[.pointer none, v] w fun e w' => e = .returned (.bool false) ∧ w = w' := by
  go_enter Tryz.func31, Tryz.ntmps31
  go_wp2_with (go_at_call 59; refine (made_nil _).mono ?_; rintro e w1 ⟨rfl, rfl⟩)
  go_ret
  exact ⟨rfl, rfl⟩
set_option maxHeartbeats 1000000 in
theorem turLen_nil (w : World) : Calls Tryz.prog 30 #[.pointer none] w fun e w' => e = .returned (.int .i64 0) ∧ w = w' := by
  go_enter Tryz.func30, Tryz.ntmps30
  go_wp2_with (go_at_call 59; refine (made_nil _).mono ?_; rintro e w1 ⟨rfl, rfl⟩)
  go_ret
  exact ⟨rfl, rfl⟩
set_option maxHeartbeats 1000000 in
theorem turAll_nil (w : World) : Calls Tryz.prog 33 #[.pointer none] w fun e w' => e = .returned (.slice none 0 0) ∧ w = w' := by
  go_enter Tryz.func33, Tryz.ntmps33
  go_wp2_with (go_at_call 59; refine (made_nil _).mono ?_; rintro e w1 ⟨rfl, rfl⟩)
  go_ret
  exact ⟨rfl, rfl⟩
set_option maxHeartbeats 1000000 in
theorem turFind_nil (u : Value) (v : Value) (w : World) : Calls Tryz.prog 34 #[.pointer none, u, v] w fun e w' => e = .returned (.slice none 0 0) ∧ w = w' := by
  go_enter Tryz.func34, Tryz.ntmps34
  go_wp2_with (go_at_call 59; refine (made_nil _).mono ?_; rintro e w1 ⟨rfl, rfl⟩)
  go_ret
  exact ⟨rfl, rfl⟩
set_option maxHeartbeats 1000000 in
theorem turLatest_nil (u : Value) (v : Value) (w : World) : Calls Tryz.prog 32 #[.pointer none, u, v] w fun e w' => e = .returned (.slice none 0 0) ∧ w = w' := by
  go_enter Tryz.func32, Tryz.ntmps32
  go_wp2_with (go_at_call 59; refine (made_nil _).mono ?_; rintro e w1 ⟨rfl, rfl⟩)
  go_ret
  exact ⟨rfl, rfl⟩
set_option maxHeartbeats 1000000 in
theorem turNew_nil (n : Int) (v : Value) (w : World) : Calls Tryz.prog 24 #[.int .i64 n, v, .pointer none] w fun e w' => e = .returned (.tuple #[.pointer none, .int .i64 1]) ∧ w = w' := by
  go_enter Tryz.func24, Tryz.ntmps24
  go_wp2
  go_ret2
  exact ⟨rfl, rfl⟩
/-! ### Lists -/
section
variable {p : List Int} {a : List V} {H K M : List (List V)}
theorem insS_le (p : List Int) (a : List V) : ∀ M : List (List V), M.length ≤ (insS p a M).length
  | [] => by simp [insS]
  | x :: M => by
    have ih := insS_le p a M
    unfold insS
    repeat' split
    all_goals simp <;> omega
theorem putM_ge : M.length ≤ (putM p a M).length := by
  unfold putM; split
  · exact insS_le _ _ _
  · exact Nat.le_refl _
theorem puts_ge : ∀ (K H : List (List V)), (puts p H).length ≤ (puts p (H ++ K)).length
  | [], H => by simp
  | a :: K, H => by
    have ih := puts_ge K (H ++ [a])
    rw [List.append_assoc, List.singleton_append, puts_snoc] at ih
    exact Nat.le_trans putM_ge ih
theorem has_mem {n : Nat} : hasB (upto n) a (puts (upto n) H) = true ↔ a ∈ H ∧ a.length = n := by
  rw [hasB_iff (upto_perm n) (puts_fit _ H), puts_mem (upto_perm n), upto_len]
theorem has_app {n : Nat} (h : hasB (upto n) a (puts (upto n) H) = true) : hasB (upto n) a (puts (upto n) (H ++ K)) = true := by
  rw [has_mem] at h ⊢; exact ⟨List.mem_append_left _ h.1, h.2⟩
end
/-! ### One Turns -/
structure TOne (w : World) (t p n : Nat) (left : Int) (HA HL HP : List (List V)) (W : World) : Prop where
  ex : ∃ (X : Nat → Prop) (a l q b : RI), TurG X W t p n a l q b HA HL HP ∧ (∀ k, X k → k < W.heap.size) ∧ (∀ k, X k → w.heap.size ≤ k)
  pu : PurseAt W p left
  bw : Below w.heap.size w W
section
variable {w W W' : World} {t p n : Nat} {left : Int} {HA HL HP : List (List V)}
theorem TOne.on (h : TOne w t p n left HA HL HP W) (hb : Below W.heap.size W W') : TOne w t p n left HA HL HP W' := by
  obtain ⟨X, a, l, q, b, hT, h1, h0⟩ := h.ex
  exact ⟨⟨X, a, l, q, b, hT.on hb, fun k hk => Nat.lt_of_lt_of_le (h1 k hk) hb.size, h0⟩, h.pu.on hb, h.bw.trans (hb.mono h.bw.size)⟩
theorem TOne.start {a l q b : RI} {w1 : World} (N : NewT (· = p) W t p n a l q b W') (hb : Below w.heap.size w W) (hp0 : w.heap.size ≤ p) (hp : PurseAt W p left) : TOne w t p n left [] [] [] W' := by
  refine ⟨⟨_, a, l, q, b, N.s, fun k hk => ?_, fun k hk => ?_⟩, hp.on N.bw, hb.trans (N.bw.mono hb.size)⟩
  · rcases hk with rfl | rfl | hk
    · exact Nat.lt_of_lt_of_le hp.lt N.bw.size
    · exact N.s.lt
    · rcases hk with hk | hk | hk | hk
      · exact RI.at_.lt N.s.ra k hk
      · exact RI.at_.lt N.s.rl k hk
      · exact RI.at_.lt N.s.rq k hk
      · exact RI.at_.lt N.s.rb k hk
  · rcases hk with rfl | hk
    · exact hp0
    · exact Nat.le_trans hb.size (N.far k hk)
theorem TOne.few (h : TOne w t p n left HA HL HP W) : n ≤ 8 := by
  obtain ⟨X, a, l, q, b, hT, h1, h0⟩ := h.ex
  exact RelG.few hT.ra
theorem TOne.add {A : Option Addr} {ca : Nat} {x : List V} (h : TOne w t p n left HA HL HP W) (hr : RdV w A x) (h0 : -1000000 ≤ left) (h1 : left ≤ 9223372036854775807) (hH : HP.length < 100000) (hx : x.length ≤ 1000) :
    Calls Tryz.prog 28 #[.pointer (some ⟨t, 0, none⟩), .slice A x.length ca] W fun e w' => e = .returned (.tuple #[.bool (addB n x HA HP left), .int .i64 (addE n x HA HP left)]) ∧ TOne w t p n (addL n x HA HP left) HA HL (addH n x HA HP left) w' := by
  obtain ⟨X, a, l, q, b, hT, hX, hX0⟩ := h.ex
  refine (turAdd_any A ca x W hT h.pu h0 h1 (hr.on h.bw) (off_old hr hX0) hX hH hx).mono ?_
  rintro e w' ⟨rfl, hT', hp', hF⟩
  exact ⟨rfl, ⟨X, a, l, q, b, hT', fun k hk => Nat.lt_of_lt_of_le (hX k hk) hF.size, hX0⟩, hp', h.bw.trans (hF.below h.bw.size fun k hk hz => by
    have hk' : X k := by
      rcases hz with hz | rfl
      · exact RelG.x_sub hT.rq k hz
      · exact hT.pX
    have := hX0 k hk'; omega)⟩
theorem TOne.turn (h : TOne w t p n left HA HL HP W) (hH : HA.length + HP.length < 100000) :
    Calls Tryz.prog 26 #[.pointer (some ⟨t, 0, none⟩)] W fun e w' => e = .returned (.bool (decide (0 < (puts (upto n) HP).length))) ∧ TOne w t p n left (HA ++ puts (upto n) HP) HP [] w' := by
  obtain ⟨X, a, l, q, b, hT, hX, hX0⟩ := h.ex
  refine (turTurn_any W hT hX hH).mono ?_
  rintro e w' ⟨c, rfl, hT', hF, hc⟩
  refine ⟨rfl, ⟨_, a, q, c, b, hT', fun k hk => ?_, fun k hk => ?_⟩, h.pu.onF hF (fun hz => ?_), h.bw.trans (hF.below h.bw.size fun k hk hz => ?_)⟩
  · rcases hk with hk | hk
    · exact Nat.lt_of_lt_of_le (hX k hk) hF.size
    · exact RI.at_.lt hT'.rq k hk
  · rcases hk with hk | hk
    · exact hX0 k hk
    · exact Nat.le_trans h.bw.size (hc k hk)
  · rcases hz with hz | rfl
    · exact hT.np p (.inl hz) rfl
    · exact hT.tp rfl
  · have hk' : X k := by
      rcases hz with hz | rfl
      · exact RelG.x_sub hT.ra k hz
      · exact hT.tX
    have := hX0 k hk'; omega
theorem TOne.has {A : Option Addr} {ca : Nat} {x : List V} (h : TOne w t p n left HA HL HP W) (hr : RdV W A x) :
    Calls Tryz.prog 31 #[.pointer (some ⟨t, 0, none⟩), .slice A x.length ca] W fun e w' => e = .returned (.bool (hasB (upto n) x (puts (upto n) HA))) ∧ Below W.heap.size W w' := by
  obtain ⟨X, a, l, q, b, hT, hX, hX0⟩ := h.ex
  exact turHas_any A ca x W hT hr
theorem TOne.len (h : TOne w t p n left HA HL HP W) : Calls Tryz.prog 30 #[.pointer (some ⟨t, 0, none⟩)] W fun e w' => e = .returned (.int .i64 ((puts (upto n) HA).length : Nat)) ∧ W = w' := by
  obtain ⟨X, a, l, q, b, hT, hX, hX0⟩ := h.ex
  exact turLen_any W hT
theorem TOne.all (h : TOne w t p n left HA HL HP W) (hH : HA.length ≤ 100000) : Calls Tryz.prog 33 #[.pointer (some ⟨t, 0, none⟩)] W (FindQ (puts (upto n) HA) W) := by
  obtain ⟨X, a, l, q, b, hT, hX, hX0⟩ := h.ex
  exact turAll_any W hT hX hH
theorem TOne.find {C A : Option Addr} {cc ca : Nat} {cols : List Int} {vals : List V} (h : TOne w t p n left HA HL HP W) (hH : HA.length ≤ 100000) (hc : RdI w C cols) (hv : RdV W A vals) (lc : cols.length ≤ 1000) :
    Calls Tryz.prog 34 #[.pointer (some ⟨t, 0, none⟩), .slice C cols.length cc, .slice A vals.length ca] W (FindQ (findL n cols vals HA) W) := by
  obtain ⟨X, a, l, q, b, hT, hX, hX0⟩ := h.ex
  exact turFind_any C A cc ca cols vals W hT hX hH (hc.on h.bw) (offI_old hc hX0) hv lc
theorem TOne.latest {C A : Option Addr} {cc ca : Nat} {cols : List Int} {vals : List V} (h : TOne w t p n left HA HL HP W) (hH : HL.length ≤ 100000) (hc : RdI w C cols) (hv : RdV W A vals) (lc : cols.length ≤ 1000) :
    Calls Tryz.prog 32 #[.pointer (some ⟨t, 0, none⟩), .slice C cols.length cc, .slice A vals.length ca] W (FindQ (findL n cols vals HL) W) := by
  obtain ⟨X, a, l, q, b, hT, hX, hX0⟩ := h.ex
  exact turLatest_any C A cc ca cols vals W hT hX hH (hc.on h.bw) (offI_old hc hX0) hv lc
theorem TOne.latest0 (h : TOne w t p n left HA HL HP W) (hH : HL.length ≤ 100000) :
    Calls Tryz.prog 32 #[.pointer (some ⟨t, 0, none⟩), .slice none 0 0, .slice none 0 0] W (FindQ (puts (upto n) HL) W) := by
  have := h.latest (C := none) (A := none) (cc := 0) (ca := 0) (cols := []) (vals := []) hH (fun i x hx => by simp at hx) RdV.nil (by simp)
  rwa [find_none] at this
end
/-- New, of no more than eight columns and no index. -/
theorem turNew0_any {w W : World} {n p : Nat} {left : Int} (hn : n ≤ 8) (hb : Below w.heap.size w W) (hp0 : w.heap.size ≤ p) (hp : PurseAt W p left) :
    Calls Tryz.prog 24 #[.int .i64 (n : Int), .slice none 0 0, .pointer (some ⟨p, 0, none⟩)] W fun e w' => ∃ t, e = .returned (.tuple #[.pointer (some ⟨t, 0, none⟩), .int .i64 0]) ∧ TOne w t p n left [] [] [] w' := by
  refine (turNew_any (Z := (· = p)) none 0 n p [] W (fun k hk => hk ▸ hp.lt) rfl hn RdP.nil (by simp) (fun x hx => by cases hx)).mono ?_
  rintro e w' ⟨t, a, l, q, b, rfl, N⟩
  exact ⟨t, rfl, TOne.start (w1 := W) N hb hp0 hp⟩
/-- With a row of the caller's own beside it, which came behind it. -/
structure TRow (w : World) (t p n : Nat) (left : Int) (HA HL HP : List (List V)) (A : Option Addr) (x : List V) (W : World) : Prop where
  ex : ∃ (X : Nat → Prop) (a l q b : RI), TurG X W t p n a l q b HA HL HP ∧ (∀ k, X k → k < W.heap.size) ∧ (∀ k, X k → w.heap.size ≤ k) ∧ Off X A
  pu : PurseAt W p left
  bw : Below w.heap.size w W
  rd : RdV W A x
  inb : ∀ ad, A = some ad → ad.block < W.heap.size
section
variable {w W W' : World} {t p n : Nat} {left : Int} {HA HL HP : List (List V)} {A : Option Addr} {x : List V}
theorem TRow.one (h : TRow w t p n left HA HL HP A x W) : TOne w t p n left HA HL HP W := by
  obtain ⟨X, a, l, q, b, hT, h1, h0, _⟩ := h.ex
  exact ⟨⟨X, a, l, q, b, hT, h1, h0⟩, h.pu, h.bw⟩
theorem TRow.start (h : TOne w t p n left HA HL HP W) (hb : Below W.heap.size W W') (hA : ∀ ad, A = some ad → W.heap.size ≤ ad.block ∧ ad.block < W'.heap.size) (hr : RdV W' A x) : TRow w t p n left HA HL HP A x W' := by
  obtain ⟨X, a, l, q, b, hT, h1, h0⟩ := h.ex
  exact ⟨⟨X, a, l, q, b, hT.on hb, fun k hk => Nat.lt_of_lt_of_le (h1 k hk) hb.size, h0, fun ad ha hx => by have := (hA ad ha).1; have := h1 _ hx; omega⟩, h.pu.on hb, h.bw.trans (hb.mono h.bw.size), hr, fun ad ha => (hA ad ha).2⟩
theorem TRow.on (h : TRow w t p n left HA HL HP A x W) (hb : Below W.heap.size W W') : TRow w t p n left HA HL HP A x W' := by
  obtain ⟨X, a, l, q, b, hT, h1, h0, ho⟩ := h.ex
  exact ⟨⟨X, a, l, q, b, hT.on hb, fun k hk => Nat.lt_of_lt_of_le (h1 k hk) hb.size, h0, ho⟩, h.pu.on hb, h.bw.trans (hb.mono h.bw.size), h.rd.on hb, fun ad ha => Nat.lt_of_lt_of_le (h.inb ad ha) hb.size⟩
theorem TRow.add {ca : Nat} (h : TRow w t p n left HA HL HP A x W) (h0 : -1000000 ≤ left) (h1 : left ≤ 9223372036854775807) (hH : HP.length < 100000) (hx : x.length ≤ 1000) :
    Calls Tryz.prog 28 #[.pointer (some ⟨t, 0, none⟩), .slice A x.length ca] W fun e w' => e = .returned (.tuple #[.bool (addB n x HA HP left), .int .i64 (addE n x HA HP left)]) ∧ TRow w t p n (addL n x HA HP left) HA HL (addH n x HA HP left) A x w' := by
  obtain ⟨X, a, l, q, b, hT, hX, hX0, ho⟩ := h.ex
  refine (turAdd_any A ca x W hT h.pu h0 h1 h.rd (fun _ => ho) hX hH hx).mono ?_
  rintro e w' ⟨rfl, hT', hp', hF⟩
  have hk' : ∀ k, (q.x k ∨ k = p) → X k := fun k hz => by
    rcases hz with hz | rfl
    · exact RelG.x_sub hT.rq k hz
    · exact hT.pX
  exact ⟨rfl, ⟨X, a, l, q, b, hT', fun k hk => Nat.lt_of_lt_of_le (hX k hk) hF.size, hX0, ho⟩, hp', h.bw.trans (hF.below h.bw.size fun k hk hz => by have := hX0 k (hk' k hz); omega), h.rd.onF (off_sub ho hk') hF, fun ad ha => Nat.lt_of_lt_of_le (h.inb ad ha) hF.size⟩
theorem TRow.turn (h : TRow w t p n left HA HL HP A x W) (hH : HA.length + HP.length < 100000) :
    Calls Tryz.prog 26 #[.pointer (some ⟨t, 0, none⟩)] W fun e w' => e = .returned (.bool (decide (0 < (puts (upto n) HP).length))) ∧ TRow w t p n left (HA ++ puts (upto n) HP) HP [] A x w' := by
  obtain ⟨X, a, l, q, b, hT, hX, hX0, ho⟩ := h.ex
  refine (turTurn_any W hT hX hH).mono ?_
  rintro e w' ⟨c, rfl, hT', hF, hc⟩
  have hk' : ∀ k, (a.x k ∨ k = t) → X k := fun k hz => by
    rcases hz with hz | rfl
    · exact RelG.x_sub hT.ra k hz
    · exact hT.tX
  refine ⟨rfl, ⟨_, a, q, c, b, hT', fun k hk => ?_, fun k hk => ?_, fun ad ha hk => ?_⟩, h.pu.onF hF (fun hz => ?_), h.bw.trans (hF.below h.bw.size fun k hk hz => ?_), h.rd.onF (off_sub ho hk') hF, fun ad ha => Nat.lt_of_lt_of_le (h.inb ad ha) hF.size⟩
  · rcases hk with hk | hk
    · exact Nat.lt_of_lt_of_le (hX k hk) hF.size
    · exact RI.at_.lt hT'.rq k hk
  · rcases hk with hk | hk
    · exact hX0 k hk
    · exact Nat.le_trans h.bw.size (hc k hk)
  · rcases hk with hk | hk
    · exact ho ad ha hk
    · have := hc _ hk; have := h.inb ad ha; omega
  · rcases hz with hz | rfl
    · exact hT.np p (.inl hz) rfl
    · exact hT.tp rfl
  · have := hX0 k (hk' k hz); omega
end
/-! ### awake -/
def awT : List V := [⟨1, 1, ByteArray.empty⟩]
theorem awT_add : addB 1 awT [] [] 5 = true := by decide +kernel
theorem awT_err : addE 1 awT [] [] 5 = 0 := by decide +kernel
theorem awT_left : addL 1 awT [] [] 5 = 4 := by unfold addL; rw [awT_add]; rfl
theorem awT_wait : addH 1 awT [] [] 5 = [awT] := by unfold addH; rw [awT_add]; rfl
theorem puts_nil (p : List Int) : puts p [] = [] := rfl
theorem awT_puts : puts (upto 1) [awT] = [awT] := rfl
theorem awT_none : hasB (upto 1) awT (puts (upto 1) []) = false := by decide +kernel
theorem awT_has : hasB (upto 1) awT (puts (upto 1) [awT]) = true := by decide +kernel
set_option maxRecDepth 20000 in
set_option maxHeartbeats 4000000 in
theorem awakeT_any (w : World) : Calls Tryz.prog 22 #[] w fun e w' => e = .returned (.bool true) ∧ Below w.heap.size w w' := by
  have hb1 : Below w.heap.size w (w.alloc (.cells #[.int .i64 5] 54)) := (Below.refl _ _).alloc (Nat.le_refl _) _
  have hp1 : PurseAt (w.alloc (.cells #[.int .i64 5] 54)) w.heap.size 5 := heap_alloc_new _ _
  have HNW := Lib.hid (turNew0_any (n := 1) (by omega) hb1 (Nat.le_refl _) hp1)
  clear hb1 hp1
  go_enter Tryz.func22, Tryz.ntmps22
  go_wp2_with (first
    | (go_at_call 24; refine HNW.out.mono ?_; rintro e w2 ⟨t, rfl, h⟩; have H1 : Hid (∀ o : Unit, TRow w t w.heap.size 1 5 [] [] [] (some ⟨w2.heap.size, 0, none⟩) awT (w2.alloc (.cells (vcells awT).toArray 69))) := Lib.hid (fun _ => TRow.start h ((Below.refl _ _).alloc (Nat.le_refl _) _) (fun ad e => by cases e; exact ⟨Nat.le_refl _, by simp⟩) (rdV_row' w2 awT 69)); clear h HNW)
    | (go_at_call 28; refine ((H1.out ()).add (ca := 1) (by omega) (by omega) (by simp) (by simp [awT])).mono ?_; rw [awT_add, awT_err, awT_left, awT_wait]; rintro e w3 ⟨rfl, h⟩; have H2 := Lib.hid h; clear h H1)
    | (go_at_call 31; first
      | (refine (H2.out.one.has (ca := 1) H2.out.rd).mono ?_; rw [awT_none]; rintro e w4 ⟨rfl, hb⟩; have H3 := Lib.hid (H2.out.on hb); clear H2 hb)
      | (refine (H5.out.one.has (ca := 1) H5.out.rd).mono ?_; rw [awT_has]; rintro e w7 ⟨rfl, hb⟩; have H6 := Lib.hid (H5.out.one.on hb); clear hb))
    | (go_at_call 26; first
      | (refine (H3.out.turn (by simp)).mono ?_; rw [awT_puts, List.nil_append]; rintro e w5 ⟨rfl, h⟩; have H4 := Lib.hid h; clear h H3)
      | (refine (H4b.out.turn (by simp)).mono ?_; rw [puts_nil, List.append_nil]; rintro e w6 ⟨rfl, h⟩; have H5 := Lib.hid h; clear h H4b))
    | (go_at_call 32; first
      | (refine (H4.out.one.latest0 (by simp)).mono ?_; rw [awT_puts]; rintro e w5b ⟨B, d, ys, rfl, _, _, hb⟩; have H4b := Lib.hid (H4.out.on hb); clear hb H4)
      | (refine (H6.out.latest0 (by simp)).mono ?_; rw [puts_nil]; rintro e w8 ⟨B, d, ys, rfl, _, _, hb⟩; have H7 := Lib.hid (H6.out.on hb); have cp := H7.out.pu.cell.1; clear hb H6))
    | (go_at_call 30; refine (H7.out.len).mono ?_; rw [awT_puts]; rintro e w9 ⟨rfl, rfl⟩))
  go_ret
  exact ⟨rfl, H7.out.bw⟩
end Go.Proofs.YtpmkhpbhimmeiaaGreat

/-
  One Turns beside a row of the caller's own that grows by what was told.
-/
import Derived.Test.YtpmkhpbhimmeiaaGreatTurWas
namespace Go.Proofs.YtpmkhpbhimmeiaaGreat
open Go.RowKit FloM ValM Go.Shelf
set_option linter.unusedVariables false
set_option linter.unusedSimpArgs false
/-! ### append, and where it lies -/
section
variable {P : Program}
theorem wpList_appD {w : World} {ops : Array Oper} {rest : List Oper} {o : Oper} {a : Act} {Q : Exit → Act → World → Prop} (hgd : o.guard = none) (s x : Operand) (t : TypeId)
    (ho : o.op = .call { callee := .builtin .append, args := #[s, x], argTypes := #[t, t] })
    (base : Nat) (E : TypeId) (i0 : TypeInfo) (z : Value) (bytes : Nat) (ht : P.underlying t = some (.slice E)) (hi : P.info? E = some i0) (hz : i0.zero = some z) (hs : i0.size = 1) (hb : i0.bytes = bytes) (hzs : z.cells.size = 1) (hby : bytes ≤ 32)
    (A' : Option Addr) (n c' : Nat) (xs : List Value) (hsv : a.eval s = .slice A' n c') (hown : w.ownsRow base E 1 (.slice A' n c') n xs) (A : Option Addr) (c m : Nat) (l : List Value) (hm : l.length = m) (hx : a.eval x = .slice A m c) (hr : RdC w A l) (h1 : ∀ u ∈ l, u.oneCell' = true) (hn : n + m ≤ 1000000) (hbase : base ≤ w.heap.size)
    (h : ∀ A2 c2 w', w'.ownsRow base E 1 (.slice A2 (n + m) c2) (n + m) (xs ++ l) → w.grownBy w' (Value.slice A' n c').ownBlock → ((Value.slice A2 (n + m) c2).ownBlock = (Value.slice A' n c').ownBlock ∨ (Value.slice A2 (n + m) c2).ownBlock = some w.heap.size) → wpList P ops Q rest (a.put o.dst (.slice A2 (n + m) c2)) w') : wpList P ops Q (o :: rest) a w := by
  refine wpList_plain hgd fun K hK => ?_
  subst hm
  obtain ⟨v', w', hrun, h2, h3, h4⟩ := run_appC (P := P) w base t o.type E i0 z bytes ht hi hz hs hb hzs hby _ n xs hown A c l hr h1 hn hbase
  obtain ⟨A2, c2, rfl⟩ := own_form h2
  unfold Oper.wp execOp
  simp only [ho, resolve, invoke, builtin, Sem.run_bind, Sem.run_pure, Result.andThen_ok, List.map_toArray, List.map_cons, List.map_nil, hsv, hx, hrun]
  exact hK _ _ (h A2 c2 w' h2 h3 h4)
end
theorem own_fr {w w' : World} {base size n c : Nat} {e : TypeId} {A : Option Addr} {xs : List Value} (h : w.ownsRow base e size (.slice A n c) n xs) (hb : ∀ ad, A = some ad → w'.heap[ad.block]? = w.heap[ad.block]?) : w'.ownsRow base e size (.slice A n c) n xs := by
  refine ⟨h.1, ?_⟩
  rcases h.2 with h0 | ⟨g, cap, cur, hv, hbg, hg, r⟩
  · exact .inl h0
  · injection hv with e1 _ _
    exact .inr ⟨g, cap, cur, by rw [e1]; simp_all, hbg, (hb _ e1).trans hg, r⟩
theorem own_in {w : World} {base size n c : Nat} {e : TypeId} {A : Option Addr} {xs : List Value} (h : w.ownsRow base e size (.slice A n c) n xs) : ∀ ad, A = some ad → base ≤ ad.block ∧ ad.block < w.heap.size := fun ad ha => by
  rcases h.2 with ⟨h0, _⟩ | ⟨g, cap, cur, hv, hbg, hg, r⟩
  · injection h0 with e1 _ _; rw [ha] at e1; cases e1
  · injection hv with e1 _ _
    rw [ha] at e1; injection e1 with e1; subst e1
    exact ⟨hbg, (Array.getElem?_eq_some_iff.1 hg).1⟩
/-! ### What is new, whole -/
section
variable {X : Nat → Prop} {w : World} {t p n : Nat} {a l q b : RI} {HA HL HP : List (List V)}
set_option maxHeartbeats 1000000 in
theorem turLatestP_any (w : World) (h : TurG X w t p n a l q b HA HL HP) (hX : ∀ k, X k → k < w.heap.size) (hH : HL.length ≤ 100000) :
    Calls Tryz.prog 32 #[.pointer (some ⟨t, 0, none⟩), .slice none 0 0, .slice none 0 0] w (FindP X (puts (upto n) HL) w) := by
  obtain ⟨c0, c1, c2, c3, c4⟩ := cell5 h.rcd
  unfold partV at c2
  have HM := Lib.hid (made_any w h)
  have hh := relFind_any none none 0 0 [] [] w h.rl hX hH (fun i x hx => by simp at hx) (fun hne => absurd rfl hne) RdV.nil (by simp)
  rw [find_none] at hh
  have HH := Lib.hid hh
  clear h hX hh
  go_enter Tryz.func32, Tryz.ntmps32
  go_wp2_with (first
    | (go_at_call 59; refine HM.out.mono ?_; rintro e w1 ⟨rfl, rfl⟩)
    | (go_at_call 18; refine HH.out.mono ?_; rintro e w1 ⟨B, d, ys, rfl, hr⟩; have HR := Lib.hid hr; clear hr))
  go_ret
  exact ⟨B, d, ys, rfl, HR.out⟩
end
structure TOw (w : World) (t p n : Nat) (left : Int) (HA HL HP : List (List V)) (A : Option Addr) (c : Nat) (xs gs : List Sl) (W : World) : Prop where
  ex : ∃ (X : Nat → Prop) (a l q b : RI), TurG X W t p n a l q b HA HL HP ∧ (∀ k, X k → k < W.heap.size) ∧ (∀ k, X k → w.heap.size ≤ k) ∧ (∀ x ∈ gs, SlOk X W x) ∧ (∀ ad, A = some ad → X ad.block ∧ ¬ (a.x ad.block ∨ l.x ad.block ∨ q.x ad.block ∨ b.x ad.block) ∧ ad.block ≠ t ∧ ad.block ≠ p)
  own : W.ownsRow w.heap.size 25 1 (.slice A xs.length c) xs.length (xs.map Sl.val)
  sub : ∀ x ∈ xs, x ∈ gs
  pu : PurseAt W p left
  bw : Below w.heap.size w W
section
variable {w W W' : World} {t p n c : Nat} {left : Int} {HA HL HP : List (List V)} {A : Option Addr} {xs gs : List Sl}
theorem TOw.one (h : TOw w t p n left HA HL HP A c xs gs W) : TOne w t p n left HA HL HP W := by
  obtain ⟨X, a, l, q, b, hT, h1, h0, _⟩ := h.ex
  exact ⟨⟨X, a, l, q, b, hT, h1, h0⟩, h.pu, h.bw⟩
theorem TOw.start (h : TOne w t p n left HA HL HP W) : TOw w t p n left HA HL HP none 0 [] [] W := by
  obtain ⟨X, a, l, q, b, hT, h1, h0⟩ := h.ex
  exact ⟨⟨X, a, l, q, b, hT, h1, h0, (fun x hx => by cases hx), (fun ad ha => by cases ha)⟩, ⟨rfl, .inl ⟨rfl, rfl⟩⟩, (fun x hx => by cases hx), h.pu, h.bw⟩
theorem TOw.rdl (h : TOw w t p n left HA HL HP A c xs gs W) (hl : ∀ x ∈ xs, x.l.length ≤ maxLen) : RdL W A xs := by
  obtain ⟨X, a, l, q, b, hT, h1, h0, hg, _⟩ := h.ex
  exact ⟨own_rdC h.own, fun x hx => ⟨(hg x (h.sub x hx)).rd, hl x hx⟩⟩
theorem TOw.on (h : TOw w t p n left HA HL HP A c xs gs W) (hb : Below W.heap.size W W') : TOw w t p n left HA HL HP A c xs gs W' := by
  obtain ⟨X, a, l, q, b, hT, h1, h0, hg, hA⟩ := h.ex
  exact ⟨⟨X, a, l, q, b, hT.on hb, fun k hk => Nat.lt_of_lt_of_le (h1 k hk) hb.size, h0, fun x hx => (hg x hx).on hb, hA⟩, own_on h.own hb, h.sub, h.pu.on hb, h.bw.trans (hb.mono h.bw.size)⟩
theorem TOw.add {B : Option Addr} {ca : Nat} {x : List V} (h : TOw w t p n left HA HL HP A c xs gs W) (hr : RdV w B x) (h0 : -1000000 ≤ left) (h1 : left ≤ 9223372036854775807) (hH : HP.length < 100000) (hx : x.length ≤ 1000) :
    Calls Tryz.prog 28 #[.pointer (some ⟨t, 0, none⟩), .slice B x.length ca] W fun e w' => e = .returned (.tuple #[.bool (addB n x HA HP left), .int .i64 (addE n x HA HP left)]) ∧ TOw w t p n (addL n x HA HP left) HA HL (addH n x HA HP left) A c xs gs w' := by
  obtain ⟨X, a, l, q, b, hT, hX, hX0, hG, hA⟩ := h.ex
  refine (turAdd_any B ca x W hT h.pu h0 h1 (hr.on h.bw) (off_old hr hX0) hX hH hx).mono ?_
  rintro e w' ⟨rfl, hT', hp', hF⟩
  have hz : ∀ k, (q.x k ∨ k = p) → X k := fun k hz => by
    rcases hz with hz | rfl
    · exact RelG.x_sub hT.rq k hz
    · exact hT.pX
  refine ⟨rfl, ⟨X, a, l, q, b, hT', fun k hk => Nat.lt_of_lt_of_le (hX k hk) hF.size, hX0, fun x hx => (hG x hx).onF (hF.sub fun k _ hk => hz k hk), hA⟩, own_fr h.own fun ad ha => hF.block _ (own_in h.own ad ha).2 fun hz' => ?_, h.sub, hp', h.bw.trans (hF.below h.bw.size fun k hk hx => by have := hX0 k (hz k hx); omega)⟩
  obtain ⟨_, h2, _, h4⟩ := hA ad ha
  rcases hz' with hz' | hz'
  · exact h2 (.inr (.inr (.inl hz')))
  · exact h4 hz'
theorem TOw.turn (h : TOw w t p n left HA HL HP A c xs gs W) (hH : HA.length + HP.length < 100000) :
    Calls Tryz.prog 26 #[.pointer (some ⟨t, 0, none⟩)] W fun e w' => e = .returned (.bool (decide (0 < (puts (upto n) HP).length))) ∧ TOw w t p n left (HA ++ puts (upto n) HP) HP [] A c xs gs w' := by
  obtain ⟨X, a, l, q, b, hT, hX, hX0, hG, hA⟩ := h.ex
  refine (turTurn_any W hT hX hH).mono ?_
  rintro e w' ⟨cc, rfl, hT', hF, hc⟩
  have hz : ∀ k, (a.x k ∨ k = t) → X k := fun k hz => by
    rcases hz with hz | rfl
    · exact RelG.x_sub hT.ra k hz
    · exact hT.tX
  refine ⟨rfl, ⟨_, a, q, cc, b, hT', fun k hk => ?_, fun k hk => ?_, fun x hx => ?_, fun ad ha => ?_⟩, own_fr h.own fun ad ha => hF.block _ (own_in h.own ad ha).2 fun hz' => ?_, h.sub, h.pu.onF hF (fun hz' => ?_), h.bw.trans (hF.below h.bw.size fun k hk hx => by have := hX0 k (hz k hx); omega)⟩
  · rcases hk with hk | hk
    · exact Nat.lt_of_lt_of_le (hX k hk) hF.size
    · exact RI.at_.lt hT'.rq k hk
  · rcases hk with hk | hk
    · exact hX0 k hk
    · exact Nat.le_trans h.bw.size (hc k hk)
  · exact (SlOk.more (Y := fun k => X k ∨ cc.x k) (fun k hk => hk.imp_right fun hk => hc k hk) (hG x hx)).onF (hF.sub fun k _ hk => .inl (hz k hk))
  · obtain ⟨g1, g2, g3, g4⟩ := hA ad ha
    have := (own_in h.own ad ha).2
    refine ⟨.inl g1, fun hk => ?_, g3, g4⟩
    rcases hk with hk | hk | hk | hk
    · exact g2 (.inl hk)
    · exact g2 (.inr (.inr (.inl hk)))
    · have := hc _ hk; omega
    · exact g2 (.inr (.inr (.inr hk)))
  · obtain ⟨_, g2, g3, _⟩ := hA ad ha
    rcases hz' with hz' | hz'
    · exact g2 (.inl hz')
    · exact g3 hz'
  · rcases hz' with hz' | rfl
    · exact hT.np p (.inl hz') rfl
    · exact hT.tp rfl
theorem TOw.fresh (h : TOw w t p n left HA HL HP A c xs gs W) (hH : HL.length ≤ 100000) :
    Calls Tryz.prog 32 #[.pointer (some ⟨t, 0, none⟩), .slice none 0 0, .slice none 0 0] W fun e w' => ∃ B d ys, e = .returned (.slice B (puts (upto n) HL).length d) ∧ ys.map Sl.l = puts (upto n) HL ∧ RdC w' B (ys.map Sl.val) ∧ TOw w t p n left HA HL HP A c xs (gs ++ ys) w' ∧ Below W.heap.size W w' := by
  obtain ⟨X, a, l, q, b, hT, hX, hX0, hG, hA⟩ := h.ex
  refine (turLatestP_any W hT hX hH).mono ?_
  rintro e w' ⟨B, d, ys, rfl, hy, hr, _, hb, _, hs⟩
  refine ⟨B, d, ys, rfl, hy, hr, ⟨⟨X, a, l, q, b, hT.on hb, fun k hk => Nat.lt_of_lt_of_le (hX k hk) hb.size, hX0, fun x hx => ?_, hA⟩, own_on h.own hb, fun x hx => List.mem_append_left _ (h.sub x hx), h.pu.on hb, h.bw.trans (hb.mono h.bw.size)⟩, hb⟩
  rcases List.mem_append.1 hx with hx | hx
  · exact (hG x hx).on hb
  · exact hs x hx
/-- The row grew by ys. -/
theorem TOw.app {A2 : Option Addr} {c2 : Nat} {ys : List Sl} (h : TOw w t p n left HA HL HP A c xs gs W) (hy : ∀ y ∈ ys, y ∈ gs) (ho : W'.ownsRow w.heap.size 25 1 (.slice A2 (xs.length + ys.length) c2) (xs.length + ys.length) (xs.map Sl.val ++ ys.map Sl.val)) (hg : W.grownBy W' (Value.slice A xs.length c).ownBlock) (hd : (Value.slice A2 (xs.length + ys.length) c2).ownBlock = (Value.slice A xs.length c).ownBlock ∨ (Value.slice A2 (xs.length + ys.length) c2).ownBlock = some W.heap.size) :
    TOw w t p n left HA HL HP A2 c2 (xs ++ ys) gs W' := by
  obtain ⟨X, a, l, q, b, hT, hX, hX0, hG, hA⟩ := h.ex
  have hbs := h.bw.size
  have hF : Fr (fun k => ∃ ad, A = some ad ∧ ad.block = k) W.heap.size W W' := ⟨hg.os, hg.tape, hg.output, hg.size, fun k hk hne => hg.block k hk fun e => by
    cases A with
    | none => simp [Value.ownBlock] at e
    | some ad => exact hne ⟨ad, rfl, by simpa [Value.ownBlock] using e.symm⟩⟩
  have hzx : ∀ k, (∃ ad, A = some ad ∧ ad.block = k) → X k := fun k ⟨ad, ha, hk⟩ => hk ▸ (hA ad ha).1
  have hYs : ∀ k, (X k ∨ k = W.heap.size) → X k ∨ W.heap.size ≤ k := fun k hk => hk.imp_right fun e => by omega
  have hT1 : TurG (fun k => X k ∨ (∃ ad, A2 = some ad ∧ ad.block = k)) W t p n a l q b HA HL HP := TurG.more (fun k hk => .inl hk) (fun k hk => by
    rcases hk with hk | ⟨ad, ha, rfl⟩
    · exact .inl hk
    · subst ha
      rcases hd with hd | hd
      · cases A with
        | none => simp [Value.ownBlock] at hd
        | some ad' =>
          have e : ad.block = ad'.block := by simpa [Value.ownBlock] using hd
          exact .inl (e ▸ (hA ad' rfl).1)
      · have e : ad.block = W.heap.size := by simpa [Value.ownBlock] using hd
        exact .inr (by omega)) hT
  have hT2 : TurG (fun k => X k ∨ (∃ ad, A2 = some ad ∧ ad.block = k)) W' t p n a l q b HA HL HP := hT1.onF hF (fun k hk => .inl (hzx k hk)) fun k ⟨ad, ha, hk⟩ => by
    obtain ⟨_, g2, g3, _⟩ := hA ad ha
    subst hk
    exact ⟨g2, g3⟩
  have hlt : ∀ ad, A2 = some ad → ad.block < W'.heap.size ∧ w.heap.size ≤ ad.block := fun ad ha => ⟨(own_in ho ad ha).2, (own_in ho ad ha).1⟩
  refine ⟨⟨_, a, l, q, b, hT2, fun k hk => ?_, fun k hk => ?_, fun x hx => ?_, fun ad ha => ?_⟩, by rw [List.length_append, List.map_append]; exact ho, fun x hx => ?_, h.pu.onF hF (fun ⟨ad, ha, e⟩ => (hA ad ha).2.2.2 e), h.bw.trans (hF.below hbs fun k hk hx => by have := hX0 k (hzx k hx); omega)⟩
  · rcases hk with hk | ⟨ad, ha, rfl⟩
    · exact Nat.lt_of_lt_of_le (hX k hk) hg.size
    · exact (hlt ad ha).1
  · rcases hk with hk | ⟨ad, ha, rfl⟩
    · exact hX0 k hk
    · exact (hlt ad ha).2
  · refine SlOk.onF (SlOk.more (X := X) (fun k hk => ?_) (hG x hx)) (hF.sub fun k _ hk => .inl (hzx k hk))
    rcases hk with hk | ⟨ad, ha, rfl⟩
    · exact .inl hk
    · subst ha
      rcases hd with hd | hd
      · cases A with
        | none => simp [Value.ownBlock] at hd
        | some ad' =>
          have e : ad.block = ad'.block := by simpa [Value.ownBlock] using hd
          exact .inl (e ▸ (hA ad' rfl).1)
      · have e : ad.block = W.heap.size := by simpa [Value.ownBlock] using hd
        exact .inr (by omega)
  · refine ⟨.inr ⟨ad, ha, rfl⟩, ?_⟩
    subst ha
    rcases hd with hd | hd
    · cases A with
      | none => simp [Value.ownBlock] at hd
      | some ad' =>
        have e : ad.block = ad'.block := by simpa [Value.ownBlock] using hd
        have := hA ad' rfl
        rw [← e] at this; exact this.2
    · have e : ad.block = W.heap.size := by simpa [Value.ownBlock] using hd
      have hpl := (Array.getElem?_eq_some_iff.1 h.pu).1
      have htl := hT.lt
      refine ⟨fun hk => ?_, by omega, by omega⟩
      rcases hk with hk | hk | hk | hk
      · have := hX _ (RelG.x_sub hT.ra _ hk); omega
      · have := hX _ (RelG.x_sub hT.rl _ hk); omega
      · have := hX _ (RelG.x_sub hT.rq _ hk); omega
      · have := hX _ (RelG.x_sub hT.rb _ hk); omega
  · rcases List.mem_append.1 hx with hx | hx
    · exact h.sub x hx
    · exact hy x hx
end
/-! ### Lists -/
theorem putsN_add {n : Nat} {x : List V} {H : List (List V)} (hl : x.length = n) (hn : x ∉ puts (upto n) H) : (puts (upto n) (H ++ [x])).length = (puts (upto n) H).length + 1 := by
  have hu : x.length = (upto n).length := by rw [upto_len]; exact hl
  have hi : inS (upto n) x (puts (upto n) H) = false := by
    rw [← Bool.not_eq_true]
    intro h
    exact hn ((inS_mem (upto_perm n) hu (puts_fit _ H).lens).1 h)
  rw [puts_snoc]
  unfold putM
  rw [if_pos hu, ins_new_len _ _ _ hi]
theorem putsN_all {n : Nat} : ∀ (K H : List (List V)), K.Nodup → (∀ x ∈ K, x.length = n ∧ x ∉ puts (upto n) H) → (puts (upto n) (H ++ K)).length = (puts (upto n) H).length + K.length
  | [], H, _, _ => by simp
  | x :: K, H, hd, hk => by
    have h1 := hk x (by simp)
    rw [List.nodup_cons] at hd
    rw [show H ++ x :: K = (H ++ [x]) ++ K by simp, putsN_all K (H ++ [x]) hd.2 (fun y hy => ⟨(hk y (List.mem_cons_of_mem _ hy)).1, fun hp => ?_⟩), putsN_add h1.1 h1.2]
    · simp; omega
    · rw [puts_mem (upto_perm n)] at hp
      obtain ⟨hp, hpl⟩ := hp
      rcases List.mem_append.1 hp with hp | hp
      · exact (hk y (List.mem_cons_of_mem _ hy)).2 ((puts_mem (upto_perm n) H).2 ⟨hp, hpl⟩)
      · rw [List.mem_singleton] at hp; subst hp; exact hd.1 hy
theorem puts_nodup (p : List Int) (H : List (List V)) : (puts p H).Nodup := by
  have h := (puts_fit p H).sort
  refine List.Pairwise.imp ?_ h
  intro x y hxy e
  subst e
  rw [cmpC_self] at hxy
  cases hxy
/-- What one turn after the other makes of the counts. -/
structure OnceI (n k : Nat) (L0 left : Int) (HA HL HP M : List (List V)) : Prop where
  ms : ∀ x ∈ M, x ∈ puts (upto n) HA
  ml : M.length = (puts (upto n) HA).length
  hp : (puts (upto n) HP).length = HP.length
  new : ∀ x ∈ HP, x.length = n ∧ x ∉ puts (upto n) HA
  pay : left = L0 - M.length - HP.length
  l0 : 0 ≤ left
  b1 : HA.length + HP.length ≤ k
  b2 : HL.length ≤ k
theorem OnceI.start (n : Nat) (L0 : Int) (h : 0 ≤ L0) : OnceI n 0 L0 L0 [] [] [] [] := ⟨(fun x hx => by cases hx), rfl, rfl, (fun x hx => by cases hx), by simp, h, by simp, by simp⟩
theorem OnceI.add {n k : Nat} {L0 left : Int} {HA HL HP M : List (List V)} (h : OnceI n k L0 left HA HL HP M) (x : List V) : OnceI n (k + 1) L0 (addL n x HA HP left) HA HL (addH n x HA HP left) M := by
  by_cases hb : addB n x HA HP left = true
  · have hb' := hb
    unfold addB at hb
    rw [Bool.and_eq_true, Bool.and_eq_true, decide_eq_true_eq, decide_eq_true_eq, Bool.not_eq_true', Bool.or_eq_false_iff] at hb
    obtain ⟨hl, ⟨hn1, hn2⟩, hp⟩ := hb
    have e1 : addL n x HA HP left = left - 1 := by unfold addL; rw [hb', if_pos rfl]
    have e2 : addH n x HA HP left = HP ++ [x] := by unfold addH; rw [hb', if_pos rfl]
    have n1 : x ∉ puts (upto n) HA := fun hx => by rw [(hasB_iff (upto_perm n) (puts_fit _ HA)).2 hx] at hn1; cases hn1
    have n2 : x ∉ puts (upto n) HP := fun hx => by rw [(hasB_iff (upto_perm n) (puts_fit _ HP)).2 hx] at hn2; cases hn2
    rw [e1, e2]
    refine ⟨h.ms, h.ml, by rw [putsN_add hl n2, h.hp]; simp, fun y hy => ?_, by have := h.pay; rw [List.length_append, List.length_singleton]; push_cast; omega, by omega, by have := h.b1; simp; omega, by have := h.b2; omega⟩
    rcases List.mem_append.1 hy with hy | hy
    · exact h.new y hy
    · rw [List.mem_singleton] at hy; subst hy; exact ⟨hl, n1⟩
  · rw [Bool.not_eq_true] at hb
    have e1 : addL n x HA HP left = left := by unfold addL; rw [hb]; simp
    have e2 : addH n x HA HP left = HP := by unfold addH; rw [hb]; simp
    rw [e1, e2]
    exact ⟨h.ms, h.ml, h.hp, h.new, h.pay, h.l0, by have := h.b1; omega, by have := h.b2; omega⟩
theorem OnceI.turn {n k : Nat} {L0 left : Int} {HA HL HP M : List (List V)} (h : OnceI n k L0 left HA HL HP M) : OnceI n (k + 1) L0 left (HA ++ puts (upto n) HP) HP [] (M ++ puts (upto n) HP) ∧ (∀ x ∈ puts (upto n) HP, x ∉ M) ∧ (puts (upto n) (HA ++ puts (upto n) HP)).length = (M ++ puts (upto n) HP).length := by
  have hin : ∀ x ∈ puts (upto n) HP, x ∈ HP := fun x hx => ((puts_mem (upto_perm n) HP).1 hx).1
  have hl := putsN_all (n := n) (puts (upto n) HP) HA (puts_nodup _ _) (fun x hx => h.new x (hin x hx))
  have e : (puts (upto n) (HA ++ puts (upto n) HP)).length = (M ++ puts (upto n) HP).length := by rw [hl, List.length_append, h.ml]
  refine ⟨⟨fun x hx => ?_, e.symm, rfl, (fun x hx => by cases hx), ?_, h.l0, ?_, ?_⟩, fun x hx hm => (h.new x (hin x hx)).2 (h.ms x hm), e⟩
  · rcases List.mem_append.1 hx with hx | hx
    · exact puts_up (h.ms x hx)
    · exact puts_new hx
  · have := h.pay; rw [List.length_append, h.hp]; simp; omega
  · have := h.b1; rw [List.length_append, h.hp, List.length_nil]; omega
  · have := h.b1; omega
end Go.Proofs.YtpmkhpbhimmeiaaGreat

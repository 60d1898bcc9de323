/-
  Two Turns with one purse beside old memory.
-/
import Derived.Test.YtigfpniajjkjoaaTurOne
namespace Go.Proofs.Ytigfpniajjkjoaa
open Go.RowKit FloM ValM Go.Shelf
set_option linter.unusedVariables false
set_option linter.unusedSimpArgs false
def blk (t : Nat) (a l q b : RI) (k : Nat) : Prop := k = t ∨ a.x k ∨ l.x k ∨ q.x k ∨ b.x k
structure TTwo (w : World) (ta tb p n : Nat) (left : Int) (HA HL HP KA KL KP : List (List V)) (W : World) : Prop where
  ex : ∃ (X : Nat → Prop) (a l q b a' l' q' b' : RI), TurG X W ta p n a l q b HA HL HP ∧ TurG X W tb p n a' l' q' b' KA KL KP ∧ (∀ k, X k → k < W.heap.size) ∧ (∀ k, X k → w.heap.size ≤ k) ∧ (∀ k, blk ta a l q b k → ¬ blk tb a' l' q' b' k)
  pu : PurseAt W p left
  bw : Below w.heap.size w W
section
variable {X : Nat → Prop} {w W W' : World} {t ta tb p n : Nat} {left : Int} {HA HL HP KA KL KP : List (List V)} {a l q b : RI}
theorem TurG.blk_x (h : TurG X W t p n a l q b HA HL HP) : ∀ k, blk t a l q b k → X k := fun k hk => by
  rcases hk with rfl | hk | hk | hk | hk
  · exact h.tX
  · exact RelG.x_sub h.ra k hk
  · exact RelG.x_sub h.rl k hk
  · exact RelG.x_sub h.rq k hk
  · exact RelG.x_sub h.rb k hk
theorem TurG.blk_lt (h : TurG X W t p n a l q b HA HL HP) : ∀ k, blk t a l q b k → k < W.heap.size := fun k hk => by
  rcases hk with rfl | hk | hk | hk | hk
  · exact h.lt
  · exact RI.at_.lt h.ra k hk
  · exact RI.at_.lt h.rl k hk
  · exact RI.at_.lt h.rq k hk
  · exact RI.at_.lt h.rb k hk
theorem TurG.blk_p (h : TurG X W t p n a l q b HA HL HP) : ¬ blk t a l q b p := fun hk => by
  rcases hk with hk | hk
  · exact h.tp hk.symm
  · exact h.np p hk rfl
theorem TTwo.symm (h : TTwo w ta tb p n left HA HL HP KA KL KP W) : TTwo w tb ta p n left KA KL KP HA HL HP W := by
  obtain ⟨X, a, l, q, b, a', l', q', b', h1, h2, hX, h0, hd⟩ := h.ex
  exact ⟨⟨X, a', l', q', b', a, l, q, b, h2, h1, hX, h0, fun k hk hk' => hd k hk' hk⟩, h.pu, h.bw⟩
theorem TTwo.on (h : TTwo w ta tb p n left HA HL HP KA KL KP W) (hb : Below W.heap.size W W') : TTwo w ta tb p n left HA HL HP KA KL KP W' := by
  obtain ⟨X, a, l, q, b, a', l', q', b', h1, h2, hX, h0, hd⟩ := h.ex
  exact ⟨⟨X, a, l, q, b, a', l', q', b', h1.on hb, h2.on hb, fun k hk => Nat.lt_of_lt_of_le (hX k hk) hb.size, h0, hd⟩, h.pu.on hb, h.bw.trans (hb.mono h.bw.size)⟩
theorem TTwo.add {A : Option Addr} {ca : Nat} {x : List V} (h : TTwo w ta tb p n left HA HL HP KA KL KP W) (hr : RdV w A x) (h0 : -1000000 ≤ left) (h1 : left ≤ 9223372036854775807) (hH : HP.length < 100000) (hx : x.length ≤ 1000) :
    Calls Try.prog 21 #[.pointer (some ⟨ta, 0, none⟩), .slice A x.length ca] W fun e w' => e = .returned (.tuple #[.bool (addB n x HA HP left), .int .i64 (addE n x HA HP left)]) ∧ TTwo w ta tb p n (addL n x HA HP left) HA HL (addH n x HA HP left) KA KL KP w' := by
  obtain ⟨X, a, l, q, b, a', l', q', b', hT, hK, hX, hX0, hd⟩ := h.ex
  refine (turAdd_any A ca x W hT h.pu h0 h1 (hr.on h.bw) (off_old hr hX0) hX hH hx).mono ?_
  rintro e w' ⟨rfl, hT', hp', hF⟩
  have hz : ∀ k, (q.x k ∨ k = p) → X k := fun k hz => by
    rcases hz with hz | rfl
    · exact RelG.x_sub hT.rq k hz
    · exact hT.pX
  have hz2 : ∀ k, (q.x k ∨ k = p) → ¬ blk tb a' l' q' b' k := fun k hz hk => by
    rcases hz with hz | rfl
    · exact hd k (.inr (.inr (.inr (.inl hz)))) hk
    · exact hK.blk_p hk
  exact ⟨rfl, ⟨X, a, l, q, b, a', l', q', b', hT', hK.onF hF hz (fun k hk => ⟨fun hx => hz2 k hk (.inr hx), fun e => hz2 k hk (.inl e)⟩), fun k hk => Nat.lt_of_lt_of_le (hX k hk) hF.size, hX0, hd⟩, hp', h.bw.trans (hF.below h.bw.size fun k hk hx => by have := hX0 k (hz k hx); omega)⟩
theorem TTwo.turn (h : TTwo w ta tb p n left HA HL HP KA KL KP W) (hH : HA.length + HP.length < 100000) :
    Calls Try.prog 22 #[.pointer (some ⟨ta, 0, none⟩)] W fun e w' => e = .returned (.bool (decide (0 < (puts (upto n) HP).length))) ∧ TTwo w ta tb p n left (HA ++ puts (upto n) HP) HP [] KA KL KP w' := by
  obtain ⟨X, a, l, q, b, a', l', q', b', hT, hK, hX, hX0, hd⟩ := h.ex
  refine (turTurn_any W hT hX hH).mono ?_
  rintro e w' ⟨c, rfl, hT', hF, hc⟩
  have hz : ∀ k, (a.x k ∨ k = ta) → X k ∧ blk ta a l q b k := fun k hz => by
    rcases hz with hz | rfl
    · exact ⟨RelG.x_sub hT.ra k hz, .inr (.inl hz)⟩
    · exact ⟨hT.tX, .inl rfl⟩
  have hK' := hK.onF hF (fun k hk => (hz k hk).1) (fun k hk => ⟨fun hx => hd k (hz k hk).2 (.inr hx), fun e => hd k (hz k hk).2 (.inl e)⟩)
  refine ⟨rfl, ⟨_, a, q, c, b, a', l', q', b', hT', (hK.more (Y := fun k => X k ∨ c.x k) (fun k hk => .inl hk) (fun k hk => hk.imp_right fun hk => hc k hk)).onF hF (fun k hk => .inl (hz k hk).1) (fun k hk => ⟨fun hx => hd k (hz k hk).2 (.inr hx), fun e => hd k (hz k hk).2 (.inl e)⟩), fun k hk => ?_, fun k hk => ?_, fun k hk hk' => ?_⟩, h.pu.onF hF (fun hz' => hT.blk_p (hz p hz').2), h.bw.trans (hF.below h.bw.size fun k hk hx => by have := hX0 k (hz k hx).1; omega)⟩
  · rcases hk with hk | hk
    · exact Nat.lt_of_lt_of_le (hX k hk) hF.size
    · exact RI.at_.lt hT'.rq k hk
  · rcases hk with hk | hk
    · exact hX0 k hk
    · exact Nat.le_trans h.bw.size (hc k hk)
  · have hlt := hK.blk_lt k hk'
    rcases hk with hk | hk | hk | hk | hk
    · exact hd k (.inl hk) hk'
    · exact hd k (.inr (.inl hk)) hk'
    · exact hd k (.inr (.inr (.inr (.inl hk)))) hk'
    · have := hc k hk; omega
    · exact hd k (.inr (.inr (.inr (.inr hk)))) hk'
theorem TTwo.len (h : TTwo w ta tb p n left HA HL HP KA KL KP W) : Calls Try.prog 23 #[.pointer (some ⟨ta, 0, none⟩)] W fun e w' => e = .returned (.int .i64 ((puts (upto n) HA).length : Nat)) ∧ W = w' := by
  obtain ⟨X, a, l, q, b, a', l', q', b', hT, hK, hX, hX0, hd⟩ := h.ex
  exact turLen_any W hT
end
/-- A second Turns, beside a first one. -/
theorem turNew2_any {w W W1 : World} {ta n p : Nat} {left : Int} {a l q b : RI} (hn : n ≤ 8) (hb : Below w.heap.size w W) (hp0 : w.heap.size ≤ p) (hp : PurseAt W p left) (N : NewT (· = p) W ta p n a l q b W1) :
    Calls Try.prog 20 #[.int .i64 (n : Int), .slice none 0 0, .pointer (some ⟨p, 0, none⟩)] W1 fun e w' => ∃ t, e = .returned (.tuple #[.pointer (some ⟨t, 0, none⟩), .int .i64 0]) ∧ TTwo w ta t p n left [] [] [] [] [] [] w' := by
  have hpl : p < W1.heap.size := Nat.lt_of_lt_of_le hp.lt N.bw.size
  have hbl : ∀ k, blk ta a l q b k → k < W1.heap.size := N.s.blk_lt
  refine (turNew_any (Z := fun k => k = p ∨ blk ta a l q b k) none 0 n p [] W1 (fun k hk => ?_) (.inl rfl) hn RdP.nil (by simp) (fun x hx => by cases hx)).mono ?_
  · rcases hk with rfl | hk
    · exact hpl
    · exact hbl k hk
  rintro e w' ⟨t, a', l', q', b', rfl, N2⟩
  have hs := N2.bw.size
  refine ⟨t, rfl, ⟨_, a, l, q, b, a', l', q', b', (N.s.more (Y := fun k => (k = p ∨ blk ta a l q b k) ∨ k = t ∨ a'.x k ∨ l'.x k ∨ q'.x k ∨ b'.x k) (fun k hk => .inl hk) (fun k hk => hk.imp_right fun hk => N2.far k hk)).on N2.bw, N2.s, fun k hk => ?_, fun k hk => ?_, fun k hk hk' => ?_⟩, (hp.on N.bw).on N2.bw, ?_⟩
  · rcases hk with (rfl | hk) | hk
    · omega
    · have := hbl k hk; omega
    · exact N2.s.blk_lt k hk
  · rcases hk with (rfl | hk) | hk
    · exact hp0
    · exact Nat.le_trans hb.size (N.far k hk)
    · exact Nat.le_trans hb.size (Nat.le_trans N.bw.size (N2.far k hk))
  · have := hbl k hk; have := N2.far k hk'; omega
  · exact (hb.trans (N.bw.mono hb.size)).trans (N2.bw.mono (Nat.le_trans hb.size N.bw.size))
end Go.Proofs.Ytigfpniajjkjoaa

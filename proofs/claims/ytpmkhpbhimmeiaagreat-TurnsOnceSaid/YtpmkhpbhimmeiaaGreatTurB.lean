/-
  Package turns: contract of Add.
-/
import Derived.Test.YtpmkhpbhimmeiaaGreatTurA

namespace Go.Proofs.YtpmkhpbhimmeiaaGreat
open Go.RowKit FloM ValM Go.Shelf
set_option linter.unusedVariables false
set_option linter.unusedSimpArgs false
/-! ### Add -/
/-- Is x added? -/
def addB (n : Nat) (x : List V) (HA HP : List (List V)) (left : Int) : Bool := decide (x.length = n) && (!(hasB (upto n) x (puts (upto n) HA) || hasB (upto n) x (puts (upto n) HP)) && decide (1 ≤ left))
/-- The error's number. -/
def addE (n : Nat) (x : List V) (HA HP : List (List V)) (left : Int) : Int := if x.length = n then (if (hasB (upto n) x (puts (upto n) HA) || hasB (upto n) x (puts (upto n) HP)) = true then 0 else if left < 1 then 11 else 0) else 1
def addH (n : Nat) (x : List V) (HA HP : List (List V)) (left : Int) : List (List V) := if addB n x HA HP left = true then HP ++ [x] else HP
def addL (n : Nat) (x : List V) (HA HP : List (List V)) (left : Int) : Int := if addB n x HA HP left = true then left - 1 else left
section
variable {X Y Z : Nat → Prop} {w w' : World} {t p n : Nat} {a l q b : RI} {HA HL HP H' : List (List V)} {left : Int}
theorem TurG.putq (h : TurG X w t p n a l q b HA HL HP) (hs : q.at_ X w' n H') (hF : Fr q.x w.heap.size w w') : TurG X w' t p n a l q b HA HL H' :=
  have hX : ∀ k, q.x k → X k := RelG.x_sub h.rq
  ⟨(hF.block t (Array.getElem?_eq_some_iff.1 h.rcd).1 (fun hz => h.nt t (.inr (.inr (.inl hz))) rfl)).trans h.rcd, RelG.onF h.ra hF hX (fun k hz hk => h.aq k hk hz), RelG.onF h.rl hF hX (fun k hz hk => h.lq k hk hz), hs, RelG.onF h.rb hF hX (fun k hz hk => h.qb k hz hk), h.al, h.aq, h.ab, h.lq, h.lb, h.qb, h.tX, h.pX, h.nt, h.np, h.tp⟩
theorem PurseAt.cell (h : PurseAt w p left) : w.cell? ⟨p, 0, none⟩ = some (.int .i64 left) ∧ w.frozen? ⟨p, 0, none⟩ = false := by
  unfold PurseAt at h
  constructor <;> simp [World.cell?, World.frozen?, h]
theorem PurseAt.lt (h : PurseAt w p left) : p < w.heap.size := (Array.getElem?_eq_some_iff.1 h).1
theorem PurseAt.set {v : Int} (h : PurseAt w p left) : PurseAt (w.setCell ⟨p, 0, none⟩ (.int .i64 v)) p v := by
  have := heap_set' (o := 0) (cs := [.int .i64 left]) (.int .i64 v) h
  simpa [PurseAt] using this
set_option maxRecDepth 20000 in
set_option maxHeartbeats 4000000 in
theorem turAdd_any (A : Option Addr) (ca : Nat) (x : List V) (w : World) (h : TurG X w t p n a l q b HA HL HP) (hp : PurseAt w p left) (h0 : -1000000 ≤ left) (h1 : left ≤ 9223372036854775807) (hr : RdV w A x) (ho : x ≠ [] → Off X A) (hX : ∀ k, X k → k < w.heap.size) (hH : HP.length < 100000) (hx : x.length ≤ 1000) :
    Calls Tryz.prog 28 #[.pointer (some ⟨t, 0, none⟩), .slice A x.length ca] w fun e w' => e = .returned (.tuple #[.bool (addB n x HA HP left), .int .i64 (addE n x HA HP left)]) ∧ TurG X w' t p n a l q b HA HL (addH n x HA HP left) ∧ PurseAt w' p (addL n x HA HP left) ∧ Fr (fun k => q.x k ∨ k = p) w.heap.size w w' := by
  obtain ⟨c0, c1, c2, c3, c4⟩ := cell5 h.rcd
  unfold partV at c1 c3 c4
  have hpc := hp.cell.1
  have HM := Lib.hid (made_any w h)
  have HAR := Lib.hid (relArity_any w h.rb)
  have hlt := h.lt
  have hplt := hp.lt
  by_cases hn : x.length = n
  · have hnn : ((x.length : Int) != (n : Int)) = false := by rw [hn]; simp
    have HAS := relHas_any A ca x w h.ra hr
    obtain ⟨ba, hba⟩ : ∃ ba, hasB (upto n) x (puts (upto n) HA) = ba := ⟨_, rfl⟩
    obtain ⟨bp, hbp⟩ : ∃ bp, hasB (upto n) x (puts (upto n) HP) = bp := ⟨_, rfl⟩
    rw [hba] at HAS
    have HQS : Hid (∀ W, Below w.heap.size w W → Calls Tryz.prog 13 #[.pointer (some ⟨q.r, 0, none⟩), .slice A x.length ca] W fun e w' => e = .returned (.bool bp) ∧ Below W.heap.size W w') := Lib.hid fun W hW => by
      have := relHas_any A ca x W (RelG.on h.rq hW) (hr.on hW)
      rwa [hbp] at this
    have HAS := Lib.hid HAS
    have HH := Lib.hid h; have HP' := Lib.hid hp; have HR := Lib.hid hr
    have HBA := Lib.hid hba; have HBP := Lib.hid hbp
    clear h hp hr hba hbp
    cases ba with
    | true =>
      have e1 : addB n x HA HP left = false := by unfold addB; rw [HBA.out]; simp
      have e2 : addE n x HA HP left = 0 := by unfold addE; rw [HBA.out]; simp [hn]
      have e3 : addH n x HA HP left = HP := by unfold addH; rw [e1]; simp
      have e4 : addL n x HA HP left = left := by unfold addL; rw [e1]; simp
      rw [e1, e2, e3, e4]
      clear e1 e2 e3 e4
      have HN := Lib.hid hn; clear hn
      go_enter Tryz.func28, Tryz.ntmps28
      go_wp2_with (first
        | (go_at_call 59; refine HM.out.mono ?_; rintro e w1 ⟨rfl, rfl⟩)
        | (go_at_call 15; refine HAR.out.mono ?_; rintro e w1 ⟨rfl, rfl⟩)
        | (go_at_call 13; refine HAS.out.mono ?_; rintro e w1 ⟨rfl, hb⟩))
      go_returns
      exact ⟨rfl, HH.out.on hb, HP'.out.on hb, Fr.of hb⟩
    | false =>
      cases bp with
      | true =>
        have e1 : addB n x HA HP left = false := by unfold addB; rw [HBA.out, HBP.out]; simp
        have e2 : addE n x HA HP left = 0 := by unfold addE; rw [HBA.out, HBP.out]; simp [hn]
        have e3 : addH n x HA HP left = HP := by unfold addH; rw [e1]; simp
        have e4 : addL n x HA HP left = left := by unfold addL; rw [e1]; simp
        rw [e1, e2, e3, e4]
        clear e1 e2 e3 e4
        have HN := Lib.hid hn; clear hn
        go_enter Tryz.func28, Tryz.ntmps28
        go_wp2_with (first
          | (go_at_call 59; refine HM.out.mono ?_; rintro e w1 ⟨rfl, rfl⟩)
          | (go_at_call 15; refine HAR.out.mono ?_; rintro e w1 ⟨rfl, rfl⟩)
          | (go_at_call 13; first | ((with_reducible refine HAS.out.mono ?_); rintro e w1 ⟨rfl, hb⟩; have c3' := (keep hb t 3 hlt).trans c3) | ((with_reducible refine (HQS.out _ hb).mono ?_); rintro e w2 ⟨rfl, hb2⟩)))
        go_returns
        have hb' := on hb hb2
        exact ⟨rfl, HH.out.on hb', HP'.out.on hb', Fr.of hb'⟩
      | false =>
        by_cases hl : left < 1
        · have e1 : addB n x HA HP left = false := by unfold addB; rw [decide_eq_false (show ¬ 1 ≤ left by omega)]; simp
          have e2 : addE n x HA HP left = 11 := by unfold addE; rw [HBA.out, HBP.out]; simp [hn, hl]
          have e3 : addH n x HA HP left = HP := by unfold addH; rw [e1]; simp
          have e4 : addL n x HA HP left = left := by unfold addL; rw [e1]; simp
          rw [e1, e2, e3, e4]
          clear e1 e2 e3 e4
          have HN := Lib.hid hn; clear hn
          go_enter Tryz.func28, Tryz.ntmps28
          go_wp2_with (first
            | (go_at_call 59; refine HM.out.mono ?_; rintro e w1 ⟨rfl, rfl⟩)
            | (go_at_call 15; refine HAR.out.mono ?_; rintro e w1 ⟨rfl, rfl⟩)
            | (go_at_call 13; first | ((with_reducible refine HAS.out.mono ?_); rintro e w1 ⟨rfl, hb⟩; have c3' := (keep hb t 3 hlt).trans c3) | ((with_reducible refine (HQS.out _ hb).mono ?_); rintro e w2 ⟨rfl, hb2⟩; have hb' := on hb hb2; have c0' := (keep hb' t 0 hlt).trans c0; have hpc' := (keep hb' p 0 hplt).trans hpc)))
          go_returns
          exact ⟨rfl, HH.out.on hb', HP'.out.on hb', Fr.of hb'⟩
        · have e0 : (decide (1 ≤ left)) = true := decide_eq_true (by omega)
          have e1 : addB n x HA HP left = true := by unfold addB; rw [HBA.out, HBP.out, e0, decide_eq_true hn]; rfl
          have e2 : addE n x HA HP left = 0 := by unfold addE; rw [HBA.out, HBP.out]; simp [hn, hl]
          have e3 : addH n x HA HP left = HP ++ [x] := by unfold addH; rw [e1]; simp
          have e4 : addL n x HA HP left = left - 1 := by unfold addL; rw [e1]; simp
          rw [e1, e2, e3, e4]
          have hw : IntKind.i64.wrap (left - 1) = left - 1 := by rw [IntKind.wrap_i64]; omega
          have hul : x.length = (upto n).length := by rw [upto_len]; exact hn
          have hpb : putB (upto n) x (puts (upto n) HP) = true := by
            have := HBP.out
            unfold hasB at this; unfold putB
            rw [decide_eq_true hul] at this ⊢
            simpa using this
          have hpe : putE (upto n) x = 0 := by unfold putE; rw [if_pos hul]
          have HPT : Hid (∀ W, q.at_ X W n HP → RdV W A x → w.heap.size ≤ W.heap.size → Calls Tryz.prog 10 #[.pointer (some ⟨q.r, 0, none⟩), .slice A x.length ca] W fun e w' => e = .returned (.tuple #[.bool true, .int .i64 0]) ∧ q.at_ X w' n (HP ++ [x]) ∧ Fr q.x W.heap.size W w') := Lib.hid fun W hW hr' hs => by
            have := relPutS_any A ca x W hW hr' (fun hne => off_sub (ho hne) (RelG.x_sub hW)) (fun k hk => Nat.lt_of_lt_of_le (hX k hk) hs) hH
            rwa [hpb, hpe] at this
          clear e0 e1 e2 e3 e4 hpb hpe hul
          have HN := Lib.hid hn; clear hn
          have HO := Lib.hid ho; clear ho
          go_enter Tryz.func28, Tryz.ntmps28
          go_wp2_with (first
            | (go_at_call 59; refine HM.out.mono ?_; rintro e w1 ⟨rfl, rfl⟩)
            | (go_at_call 15; refine HAR.out.mono ?_; rintro e w1 ⟨rfl, rfl⟩)
            | (go_at_call 13; first | ((with_reducible refine HAS.out.mono ?_); rintro e w1 ⟨rfl, hb⟩; have c3' := (keep hb t 3 hlt).trans c3) | ((with_reducible refine (HQS.out _ hb).mono ?_); rintro e w2 ⟨rfl, hb2⟩; have hb' := on hb hb2; have c0' := (keep hb' t 0 hlt).trans c0; have hpc' := (keep hb' p 0 hplt).trans hpc; have hpf := (HP'.out.on hb').cell.2; have hpp := HP'.out.on hb'; have c3'' := (keep hb' t 3 hlt).trans c3; have hT2 := HH.out.on hb'; have hRR := HR.out.on hb'))
            | (go_at_call 10; refine (HPT.out _ ?q1 ?q2 ?q3).mono ?_; rotate_left 3; rintro e w3 ⟨rfl, hq3, hF3⟩))
          case q1 => exact RelG.onF (Z := (· = p)) hT2.rq (fr_set w2 p 0 _ _) (fun k hk => hk ▸ hT2.pX) (fun k hk hx => hT2.np k (.inr (.inr (.inl hx))) hk)
          case q2 => exact hRR.onF0 (X := (· = p)) (fun hne => off_sub (HO.out hne) (fun k hk => hk ▸ hT2.pX)) (fr_set w2 p 0 _ _)
          case q3 => have := (fr_set w2 p 0 (.int .i64 (left - 1)) w2.heap.size).size; have := hb'.size; omega
          have hT3 : TurG X (w2.setCell ⟨p, 0, none⟩ (.int .i64 (left - 1))) t p n a l q b HA HL HP := hT2.onF (Z := (· = p)) (fr_set w2 p 0 _ _) (fun k hk => hk ▸ hT2.pX) (fun k hk => by
            subst hk
            exact ⟨fun hx => hT2.np _ hx rfl, fun e => hT2.tp e.symm⟩)
          go_returns
          refine ⟨rfl, hT3.putq hq3 hF3, hpp.set.onF hF3 (fun hx => hT2.np _ (.inr (.inr (.inl hx))) rfl), ?_⟩
          have hs2 := hb'.size
          have hs3 := (fr_set w2 p 0 (.int .i64 (left - 1)) w2.heap.size).size
          exact ((Fr.of hb').trans (((fr_set w2 p 0 _ _).sub fun k _ hk => .inr hk).mono hs2)).trans ((hF3.sub fun k _ hk => .inl hk).mono (Nat.le_trans hs2 hs3))
  · have hnn : ((x.length : Int) != (n : Int)) = true := by rw [bne_iff_ne]; omega
    have e1 : addB n x HA HP left = false := by unfold addB; rw [decide_eq_false hn]; simp
    have e2 : addE n x HA HP left = 1 := by unfold addE; rw [if_neg hn]
    have e3 : addH n x HA HP left = HP := by unfold addH; rw [e1]; simp
    have e4 : addL n x HA HP left = left := by unfold addL; rw [e1]; simp
    rw [e1, e2, e3, e4]
    clear e1 e2 e3 e4
    have HH := Lib.hid h; have HP' := Lib.hid hp
    clear h hp hr
    go_enter Tryz.func28, Tryz.ntmps28
    go_wp2_with (first
      | (go_at_call 59; refine HM.out.mono ?_; rintro e w1 ⟨rfl, rfl⟩)
      | (go_at_call 15; refine HAR.out.mono ?_; rintro e w1 ⟨rfl, rfl⟩))
    go_returns
    exact ⟨rfl, HH.out, HP'.out, Fr.refl _ _ _⟩
end
end Go.Proofs.YtpmkhpbhimmeiaaGreat

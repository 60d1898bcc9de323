/-
  Contract of lex.Tokens.
-/
import Derived.Test.YtahljmddnfldlaaGreatDoorLexRun
import Derived.Test.YtahljmddnfldlaaGreatDoorLexG
namespace Go.Proofs.YtahljmddnfldlaaGreatDoor
open Go.RowKit FloM ValM Go.Shelf
set_option linter.unusedVariables false
set_option linter.unusedSimpArgs false
/-! ### Tokens -/
theorem info_tokv : (Tryz.prog.info? 92).map (fun i => (i.zero, i.size, i.bytes)) = some (some (.agg #[.int .i64 0, .string ByteArray.empty, .int .i64 0]), 3, 32) := info_tok
theorem own_lt {w : World} {base : Nat} {e : TypeId} {size : Nat} {v : Value} {n : Nat} {xs : List Value} (h : w.ownsRow base e size v n xs) : ∀ k, v.ownBlock = some k → k < w.heap.size := by
  intro k hk
  rcases h.2 with ⟨rfl, _⟩ | ⟨g, cap, cur, rfl, _, hg, _⟩
  · simp [Value.ownBlock] at hk
  · have : g = k := by simpa [Value.ownBlock] using hk
    subst this
    rcases Nat.lt_or_ge g w.heap.size with h' | h'
    · exact h'
    · rw [Array.getElem?_eq_none h'] at hg; cases hg
theorem own_far {w : World} {base : Nat} {e : TypeId} {size : Nat} {v : Value} {n : Nat} {xs : List Value} (h : w.ownsRow base e size v n xs) {p : Addr} (hp : p.block < base) (x : Value) : (w.setCell p x).ownsRow base e size v n xs := by
  refine ⟨h.1, ?_⟩
  rcases h.2 with h0 | ⟨g, cap, cur, hv, hbg, hg, r⟩
  · exact .inl h0
  · exact .inr ⟨g, cap, cur, hv, hbg, (Below.heap_setCell w p x g (by omega)).trans hg, r⟩
theorem app_keeps {w2 w' : World} {o1 o2 : Obj} {row : Option Nat} (hg : ((w2.alloc o1).alloc o2).grownBy w' row) {p : Nat} {x : Value} (hp : p < w2.heap.size) (hne : some p ≠ row) (c : w2.cell? ⟨p, 0, none⟩ = some x) (f : w2.frozen? ⟨p, 0, none⟩ = false) : w'.cell? ⟨p, 0, none⟩ = some x ∧ w'.frozen? ⟨p, 0, none⟩ = false := by
  have hb : Below w2.heap.size w2 ((w2.alloc o1).alloc o2) := ((Below.refl _ w2).alloc (Nat.le_refl _) _).alloc (by simp) _
  exact ⟨(hg.cell_far ⟨p, 0, none⟩ (by simp; try omega) hne).trans ((keep hb p 0 hp).trans c), (hg.frozen_far ⟨p, 0, none⟩ (by simp; try omega) hne).trans ((hb.frozen (p := ⟨p, 0, none⟩) hp).trans f)⟩
theorem app_new {w2 w' : World} {cs : Array Value} {t : TypeId} {o2 : Obj} {row : Option Nat} (hg : ((w2.alloc (.cells cs t)).alloc o2).grownBy w' row) (hne : some w2.heap.size ≠ row) (i : Nat) : w'.cell? ⟨w2.heap.size, i, none⟩ = cs[i]? := by
  rw [hg.cell_far ⟨w2.heap.size, i, none⟩ (by simp; try omega) hne]; simp
/-- Tokens at the head of its loop: the next token would begin at k. -/
def TokRel (s : ByteArray) (w : World) (k : Nat) (wr : World) : Prop := k ≤ s.size ∧ ∃ (ts : List Tk) (A : Option Addr) (c : Nat), ts.length ≤ k ∧ toksL 0 (ls s) = (toksL k ((ls s).drop k)).lay ts ∧ spanL sepC ((ls s).drop k) = 0 ∧
  wr.cell? ⟨w.heap.size, 0, none⟩ = some (.slice A ts.length c) ∧ wr.cell? ⟨w.heap.size + 1, 0, none⟩ = some (.int .i64 0) ∧ wr.cell? ⟨w.heap.size + 1 + 1, 0, none⟩ = some (.int .i64 0) ∧
  wr.frozen? ⟨w.heap.size, 0, none⟩ = false ∧ wr.frozen? ⟨w.heap.size + 1, 0, none⟩ = false ∧ wr.frozen? ⟨w.heap.size + 1 + 1, 0, none⟩ = false ∧
  wr.ownsRow (w.heap.size + 3) 92 3 (.slice A ts.length c) ts.length (tcells ts) ∧ Below w.heap.size w wr ∧ w.heap.size + 3 ≤ wr.heap.size
set_option maxRecDepth 20000 in
set_option maxHeartbeats 8000000 in
theorem tokens_any (s : ByteArray) (w : World) (hs : ¬ 20000 < (s.size : Int)) :
    Calls Tryz.prog 52 #[.string s] w (SaysK (toksL 0 (ls s)) w) := by
  have hmf : ∀ (fn : Fn) (first cap : Array Value) (w : World), (Instr.makeFunc fn first cap).run Tryz.prog w = .ok (.func fn first cap) w := fun _ _ _ _ => rfl
  have hsm : s.size ≤ maxLen := by unfold maxLen; omega
  have HSP : Hid (∀ (u : ByteArray) (W : World), u.size ≤ maxLen → Calls Tryz.prog 79 #[.string u, .string ⟨List.toArray (32 :: 9 :: 10 :: [])⟩] W fun e w' => e = .returned (.int .i64 (spanL sepC (ls u) : Nat)) ∧ Below W.heap.size W w') := Lib.hid fun u W h => spSep u W h
  have HSM := Lib.hid hsm
  have hle := span_le sepC (ls s)
  rw [ls_len] at hle
  go_enter_defers Tryz.func52, Tryz.ntmps52
  go_wp2_with (go_at_call 79; refine (HSP.out s _ HSM.out).mono ?_; rintro e w1 ⟨rfl, hb⟩; have HB1 := Lib.hid hb; clear hb)
  clear hmf
  go_loopw [5] (fun v wr => ∃ k : Nat, v = .int .i64 (k : Nat) ∧ TokRel s w k wr) (fun v _ => s.size - (intOf v).toNat)
  case atStart =>
    refine ⟨_, rfl, hle, [], none, 0, Nat.zero_le _, ?_, ?_, ?_, ?_, ?_, ?_, ?_, ?_, own_nil _ _ _ _, ?_, ?_⟩
    · rw [lay_nil, toks_skip 0 (ls s), Nat.zero_add]
    · cases h : (ls s).drop (spanL sepC (ls s)) with
      | nil => rfl
      | cons c r => exact span_no (span_next _ _ c r h)
    · exact (keep HB1.out _ 0 (by simp; try omega)).trans (by simp [go_sem])
    · exact (keep HB1.out _ 0 (by simp)).trans (by simp [go_sem])
    · exact (keep HB1.out _ 0 (by simp)).trans (by simp [go_sem])
    · exact (HB1.out.frozen (p := ⟨_, 0, none⟩) (by simp; try omega)).trans (by simp [go_sem])
    · exact (HB1.out.frozen (p := ⟨_, 0, none⟩) (by simp)).trans (by simp [go_sem])
    · exact (HB1.out.frozen (p := ⟨_, 0, none⟩) (by simp)).trans (by simp [go_sem])
    · exact on (w := ((w.alloc (.cells #[.slice none 0 0] 88)).alloc (.cells #[.int .i64 0] 3)).alloc (.cells #[.int .i64 0] 37)) (by repeat (first | exact Below.refl _ _ | refine Below.alloc ?_ (by simp; try omega) _)) HB1.out
    · have := HB1.out.size; simp at this; omega
  case round =>
    obtain ⟨k, rfl, hk, ts, A, cp, htk, hR, h0, c0, c1, c2, f0, f1, f2, hown, hB, hsz⟩ := hrel
    have HR := Lib.hid hR; have H0 := Lib.hid h0; have HO := Lib.hid hown; have HB := Lib.hid hB
    clear hR h0 hown hB
    by_cases hlt : k < s.size
    · obtain ⟨i0, hi0, hz0, hz1, hz2⟩ := info_parts info_tokv
      have HI := Lib.hid (And.intro hi0 (And.intro hz0 (And.intro hz1 hz2)))
      cases hf : firstL ((ls s).drop k) with
      | none =>
        have HF : Hid (∀ W, Calls Tryz.prog 80 #[.string s, .int .i64 (k : Int)] W fun e w' => e = .panicked [{ v := faultV (k : Int) 2, recovered := false }] ∧ Below W.heap.size W w') := Lib.hid fun W => by
          have := first_any s k W HSM.out hlt
          rw [hf] at this; exact this
        have hbad : toksL 0 (ls s) = .bad k := by
          rw [HR.out, toks_bad (by rw [H0.out, List.drop_zero]; intro e; have := congrArg List.length e; rw [List.length_drop, ls_len] at this; simp at this; omega) (by rw [H0.out]; simpa using hf), H0.out]; rfl
        have HBD := Lib.hid hbad
        clear hf hbad hi0 hz0 hz1 hz2
        go_wp2_with (go_at_call 80; refine (HF.out _).mono ?_; rintro e w2 ⟨rfl, hb⟩; have HB2 := Lib.hid hb; clear hb)
        have c0' := (keep HB2.out _ 0 (by omega)).trans c0
        have c1' := (keep HB2.out _ 0 (by omega)).trans c1
        have c2' := (keep HB2.out _ 0 (by omega)).trans c2
        have f0' := (HB2.out.frozen (p := ⟨w.heap.size, 0, none⟩) (by simp; try omega)).trans f0
        have f1' := (HB2.out.frozen (p := ⟨w.heap.size + 1, 0, none⟩) (by simp; try omega)).trans f1
        have f2' := (HB2.out.frozen (p := ⟨w.heap.size + 1 + 1, 0, none⟩) (by simp; try omega)).trans f2
        refine leaves_cons (f := 78) (args := #[.pointer (some ⟨w.heap.size, 0, none⟩), .pointer (some ⟨w.heap.size + 1, 0, none⟩), .pointer (some ⟨w.heap.size + 1 + 1, 0, none⟩)]) (by simp) (by simp [go_sem]) ?_
        refine (catch_fault w.heap.size (w.heap.size + 1) (w.heap.size + 1 + 1) (k : Int) 2 _ _ _ [] w2 (by omega) (by omega) (by omega) c0' c1' c2' f0' f1' f2').mono ?_
        rintro e u' w' ⟨rfl, rfl, d0, d1, d2, hb⟩
        have hB := hb w (on HB.out HB2.out) (by omega) (by omega) (by omega)
        rw [HBD.out]
        simp [Leaves, settle, results, Tryz.results52, go_sem, d0, d1, d2]
        exact ⟨rfl, hB⟩
      | some o =>
        obtain ⟨kd, n⟩ := o
        have hp := first_pos hf
        rw [List.length_drop, ls_len] at hp
        obtain ⟨v, hv⟩ : ∃ v : ByteArray, ls v = ((ls s).drop k).take n := ⟨bs _, ls_bs _⟩
        have hvs : v.size = n := by rw [← ls_len, hv, List.length_take, List.length_drop, ls_len]; omega
        have HF : Hid (∀ W, Calls Tryz.prog 80 #[.string s, .int .i64 (k : Int)] W fun e w' => e = .returned (.agg #[.int .i64 (kd : Int), .string v, .int .i64 (k : Int)]) ∧ Below W.heap.size W w') := Lib.hid fun W => by
          have := first_any s k W HSM.out hlt
          rw [hf] at this
          unfold FirstQ at this
          simp only [← hv, bs_ls] at this
          exact this
        have hmore : toksL 0 (ls s) = (toksL (k + n) ((ls s).drop (k + n))).lay (ts ++ [⟨kd, ls v, k⟩]) := by
          rw [HR.out, toks_more (k := kd) (n := n) (by rw [H0.out]; simpa using hf), H0.out, lay_pre, hv]
          simp [List.drop_drop]
        rw [toks_skip (k + n)] at hmore
        obtain ⟨u, hu⟩ : ∃ u, s.extract (k + n) s.size = u := ⟨_, rfl⟩
        have hlu : (ls s).drop (k + n) = ls u := by rw [← hu, extract_tail]
        have hus : k + n + u.size = s.size := by rw [← ls_len u, ← hlu, List.length_drop, ls_len]; omega
        have hsu := span_le sepC (ls u)
        rw [ls_len] at hsu
        rw [hlu] at hmore
        have HM := Lib.hid hmore; have HV := Lib.hid hv; have HLU := Lib.hid hlu
        have HSU := Lib.hid (HSP.out u · (by unfold maxLen; omega))
        have hsl : ∀ W : World, (Instr.slice 9 (.string s) (some (.int .i64 ((k : Int) + (n : Int)))) none none).run Tryz.prog W = .ok (.string u) W := fun W => by
          have := run_slice_string_l (P := Tryz.prog) W 9 s Tryz.underlying9 .i64 ((k : Int) + (n : Int)) (by omega) (by omega)
          rw [this, show ((k : Int) + (n : Int)).toNat = k + n by omega, hu]
        have HC := Lib.hid (And.intro (And.intro c1 f1) (And.intro c2 f2))
        clear hf hmore hv hlu hi0 hz0 hz1 hz2 c1 c2 f1 f2
        go_wp2_with (first | (go_at_call 80; refine (HF.out _).mono ?_; rintro e w2 ⟨rfl, hb⟩; have HB2 := Lib.hid hb; have hw2 : w.heap.size < w2.heap.size := (by have := hb.size; omega); have hw3 : ¬ w.heap.size = w2.heap.size := (by omega); have c0' := (keep hb _ 0 (by omega)).trans c0; have f0' := (hb.frozen (p := ⟨w.heap.size, 0, none⟩) (by simp; try omega)).trans f0; clear hb) | (at_builtin; refine wpList_append_own _ rfl (.tmp 28) (.tmp 30) _ rfl (w.heap.size + 3) 92 i0 _ 3 32 Tryz.underlying88 HI.out.1 HI.out.2.1 HI.out.2.2.1 HI.out.2.2.2 rfl (by omega) (.slice A ts.length cp) ts.length _ rfl (own_on (own_on HO.out HB2.out) (((Below.refl _ _).alloc (Nat.le_refl _) _).alloc (by simp) _)) ⟨w2.heap.size + 1, 0, none⟩ 1 1 [.int .i64 (kd : Int), .string v, .int .i64 (k : Int)] rfl (by simp) (news_two w2 _ #[.int .i64 (kd : Int), .string v, .int .i64 (k : Int)] _) (by simp [Value.oneCell']) (by unfold maxLen; omega) (by omega) (by have := HB2.out.size; simp; omega) ?_; intro v' w' ho' hg' _; obtain ⟨A2, cp2, rfl⟩ := own_form ho'; have HO2 := Lib.hid ho'; have HG := Lib.hid hg'; obtain ⟨c3, f3⟩ := app_keeps hg' (by omega) (fun e => by have := own_base HO.out _ e.symm; omega) c0' f0'; have e3 := app_new hg' (fun e => by have := own_lt (own_on HO.out HB2.out) _ e.symm; omega) 1; simp only [List.getElem?_toArray, List.getElem?_cons_zero, List.getElem?_cons_succ] at e3; have hn3 : w2.heap.size + 2 ≤ w'.heap.size := (by have := hg'.size; simp at this; omega); clear ho' hg') | (go_at_call 79; refine (HSU.out _).mono ?_; rintro e w3 ⟨rfl, hb⟩; have HB3 := Lib.hid hb; clear hb))
        go_roundw
        case rel =>
          have hb2 := HB2.out.size
          have hrow : ∀ q, q < wr.heap.size → q < w.heap.size + 3 → some q ≠ (Value.slice A ts.length cp).ownBlock := fun q _ h e => by have := own_base HO.out _ e.symm; omega
          have e1 := app_keeps HG.out (p := w.heap.size + 1) (by omega) (hrow _ (by omega) (by omega)) ((keep HB2.out _ 0 (by omega)).trans HC.out.1.1) ((HB2.out.frozen (p := ⟨w.heap.size + 1, 0, none⟩) (by simp; try omega)).trans HC.out.1.2)
          have e2 := app_keeps HG.out (p := w.heap.size + 1 + 1) (by omega) (hrow _ (by omega) (by omega)) ((keep HB2.out _ 0 (by omega)).trans HC.out.2.1) ((HB2.out.frozen (p := ⟨w.heap.size + 1 + 1, 0, none⟩) (by simp; try omega)).trans HC.out.2.2)
          have hbw : Below w.heap.size w w' := by
            have h1 := on (on HB.out HB2.out) (((Below.refl _ w2).alloc (Nat.le_refl _) (.cells #[.int .i64 (kd : Int), .string v, .int .i64 (k : Int)] 92)).alloc (by simp) (.cells #[.int .i64 (kd : Int), .string v, .int .i64 (k : Int)] 92))
            exact h1.grown HG.out h1.size (fun q hq => by have := own_base HO.out q hq; omega)
          have hd : (ls s).drop (k + n + spanL sepC (ls u)) = (ls u).drop (spanL sepC (ls u)) := by rw [← HLU.out, List.drop_drop]
          have hlen : (ts ++ [(⟨kd, ls v, k⟩ : Tk)]).length = ts.length + 1 := by simp
          refine ⟨k + n + spanL sepC (ls u), by go_num, by omega, ts ++ [⟨kd, ls v, k⟩], A2, cp2, by rw [hlen]; omega, ?_, ?_, ?_, ?_, ?_, ?_, ?_, ?_, ?_, ?_, ?_⟩
          · rw [HM.out, hd]
          · rw [hd]
            cases h : (ls u).drop (spanL sepC (ls u)) with
            | nil => rfl
            | cons c r => exact span_no (span_next _ _ c r h)
          · rw [hlen]; exact (keep HB3.out _ 0 (by simp; try omega)).trans (World.cell?_setCell_same' _ _ _ (by rw [c3]; rfl))
          · exact (keep HB3.out _ 0 (by simp; try omega)).trans ((World.cell?_setCell_far _ _ _ _ (by simp)).trans e1.1)
          · exact (keep HB3.out _ 0 (by simp; try omega)).trans ((World.cell?_setCell_far _ _ _ _ (by simp; try omega)).trans e2.1)
          · exact (HB3.out.frozen (p := ⟨w.heap.size, 0, none⟩) (by simp; try omega)).trans (by simp [f3])
          · exact (HB3.out.frozen (p := ⟨w.heap.size + 1, 0, none⟩) (by simp; try omega)).trans (by simp [e1.2])
          · exact (HB3.out.frozen (p := ⟨w.heap.size + 1 + 1, 0, none⟩) (by simp; try omega)).trans (by simp [e2.2])
          · rw [hlen, tcells_app, tcells_one, bs_ls]
            exact own_on (own_far HO2.out (by simp; try omega) _) HB3.out
          · exact on (hbw.setCell (by simp) _) HB3.out
          · have := HB3.out.size; simp at this; omega
        case measure => simp [intOf]; omega
    · obtain rfl : k = s.size := by omega
      have hfin : toksL 0 (ls s) = .good ts := by
        rw [HR.out, List.drop_of_length_le (by rw [ls_len]; exact Nat.le_refl _), toks_end rfl]; simp [Rs.lay]
      have HF := Lib.hid hfin
      have HC := Lib.hid (And.intro c0 (And.intro c1 c2))
      go_wp2
      refine leaves_cons (f := 78) (args := #[.pointer (some ⟨w.heap.size, 0, none⟩), .pointer (some ⟨w.heap.size + 1, 0, none⟩), .pointer (some ⟨w.heap.size + 1 + 1, 0, none⟩)]) (by simp) (by simp [go_sem]) ?_
      refine (catch_idle w.heap.size (w.heap.size + 1) (w.heap.size + 1 + 1) _).mono ?_
      rintro e u' w'' ⟨rfl, rfl, hb⟩
      have d0 := (keep hb w.heap.size 0 (by simp; try omega)).trans ((World.cell?_setCell_far _ _ _ _ (by simp; try omega)).trans ((World.cell?_setCell_far _ _ _ _ (by simp)).trans (World.cell?_setCell_same' _ _ _ (by rw [HC.out.1]; rfl))))
      have d1 := (keep hb (w.heap.size + 1) 0 (by simp; try omega)).trans ((World.cell?_setCell_far _ _ _ _ (by simp)).trans (World.cell?_setCell_same' _ _ _ (by rw [World.cell?_setCell_far _ _ _ _ (by simp), HC.out.2.1]; rfl)))
      have d2 := (keep hb (w.heap.size + 1 + 1) 0 (by simp; try omega)).trans (World.cell?_setCell_same' _ _ _ (by rw [World.cell?_setCell_far _ _ _ _ (by simp), World.cell?_setCell_far _ _ _ _ (by simp; try omega), HC.out.2.2]; rfl))
      have hrd := own_rdK (own_on (own_far (own_far (own_far HO.out (by simp; try omega) _) (by simp; try omega) _) (by simp; try omega) _) hb)
      have hBB := on (((HB.out.setCell (by simp) _).setCell (by simp; try omega) _).setCell (by simp; try omega) _) hb
      rw [HF.out]
      simp [Leaves, settle, results, Tryz.results52, go_sem, d0, d1, d2]
      exact ⟨A, cp, rfl, hrd, hBB⟩
end Go.Proofs.YtahljmddnfldlaaGreatDoor

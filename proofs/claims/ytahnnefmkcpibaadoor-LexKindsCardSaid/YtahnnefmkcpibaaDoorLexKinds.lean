/-
  LexKinds (layer 7, lex): for every text, v and s the call returns true: a token that is a word is a name, one that is a value is read, one that is a variable is one; a word alone, a variable alone, a value's text alone is one token. No condition.
-/
import Derived.Test.YtahnnefmkcpibaaDoorRows
import Derived.Test.YtahnnefmkcpibaaDoorCards
import Derived.Test.YtahnnefmkcpibaaDoorTie
import Derived.Test.YtahnnefmkcpibaaDoorLexAwake
import Derived.Test.YtahnnefmkcpibaaDoorLexAlone
import Derived.Test.YtahnnefmkcpibaaDoorValGet
import Derived.Test.YtahnnefmkcpibaaDoorValOpen
import Derived.WalkKit
import Derived.ProofKit
import Derived.OpenShut
import Derived.LaidMore
import Derived.Lay
import Derived.SevenTiedAt
import Derived.Stop.Joined
import Derived.RegionTactic
import Derived.BigQuiet
import Derived.Lib.QuietBelow
namespace Go.Proofs.YtahnnefmkcpibaaDoor.lexKinds
open Go.ChangeShapes Go.WideShapes Go.ChangeAt Go.RowKit FloM ValM Go.Shelf
set_option linter.unusedVariables false
set_option linter.unusedSimpArgs false
theorem bel_drawsX {B : Nat} {w u : World} (h : Below B w u) (k : Nat) : Below B w (u.drewN k) := ⟨h.os, h.tape, h.output, h.size, h.block⟩
/-- Tokens of a text answers so many, that place, that error. -/
abbrev Tells (s : ByteArray) (l : List Tk) (i : Nat) (q : Int) : Prop := ∀ W : World, Calls Tryd.prog 6 #[.string s] W fun e w' => ∃ (A : Option Addr) (c : Nat), e = .returned (.tuple #[.slice A l.length c, .int .i64 (i : Nat), .int .i64 q]) ∧ RdK w' A l ∧ Below W.heap.size W w'
theorem tells (s : ByteArray) (hs : s.size ≤ 20000) : Tells s (toksL 0 (ls s)).ts (toksL 0 (ls s)).pos (toksL 0 (ls s)).no := fun W => tok_q s W hs
set_option maxHeartbeats 1000000 in
theorem walk_l0 (a0 : ByteArray) (k n : Int) (u s : ByteArray) (w : World) (h : 400 < (a0.size : Int) ∨ ¬ 400 < (a0.size : Int) ∧ 100 < (s.size : Int)) :
    Calls Tryd.prog 4 #[.string a0, .agg #[.int .i64 k, .int .i64 n, .string u], .string s] w fun e w' => e = .returned (.bool true) ∧ Below w.heap.size w w' := by
  have hB : Below w.heap.size w (w.alloc (.cells #[.int .i64 k, .int .i64 n, .string u] 34)) := (Below.refl _ w).alloc (Nat.le_refl _) _
  rcases h with h | ⟨h1, h⟩
  all_goals
    go_enter Tryd.func4, Tryd.ntmps4
    go_wp2_with (go_at_call 5; refine (awakeX_any _).mono ?_; rintro e w1 ⟨rfl, h'⟩; replace hB := on hB h'; clear h')
    go_ret
    exact ⟨rfl, hB⟩
theorem nat_is {a b : Nat} (h : a = b) : ((a : Int) == (b : Int)) = true := by rw [h]; simp
theorem nat_ne {a b : Nat} (h : a ≠ b) : ((a : Int) == (b : Int)) = false := by rw [beq_eq_false_iff_ne]; omega
theorem mem_sum : ∀ (l : List Tk) (t : Tk), t ∈ l → t.t.length < sumT l
  | _ :: l, t, h => by
    simp only [sumT, List.map_cons, List.sum_cons]
    rcases List.mem_cons.1 h with rfl | h
    · omega
    · have := mem_sum l t h; simp only [sumT] at this; omega
/-- What value.Read says of a token. -/
def ReadsT (t : Tk) : Prop := if t.k = 1 then nameL t.t = true else if t.k = 2 then varL t.t = true else if t.k = 3 then ∃ v, readV (bs t.t) = some v ∧ v.k ≠ 3 else True
theorem reads_of {t : Tk} (h : firstL t.t = some (t.k, t.t.length)) : ReadsT t := by
  have ho := first_ok h
  unfold ReadsT
  split
  · rename_i e; rw [e] at ho; exact ho
  split
  · rename_i _ e; rw [e] at ho; exact ho
  split
  · rename_i _ _ e; rw [e] at h; exact value_not_name h
  · trivial
set_option maxRecDepth 20000 in
set_option maxHeartbeats 8000000 in
theorem walk_go (a0 : ByteArray) (k n : Int) (u s : ByteArray) (w : World) (h0 : ¬ 400 < (a0.size : Int)) (h1 : ¬ 100 < (s.size : Int)) (ts us vs : List Tk) (i j p : Nat) (ea eb es : Int) (T U : ByteArray) (hu : u.size ≤ maxLen) (hf : Fits n)
    (TA : Hid (Tells a0 ts i ea)) (TB : Hid (Tells T us j eb)) (TS : Hid (Tells s vs p es)) (hT : bs (textV ⟨k, n, u⟩) = T)
    (HRD : Hid (∀ t ∈ ts, ReadsT t ∧ t.t.length ≤ 800)) (hl : ts.length ≤ 800) (hea : (ea != 0) = true → ts = [])
    (hr : rightV ⟨k, n, u⟩ = true → eb = 0 ∧ ∃ t, us = [t] ∧ (t.k = 1 ↔ k = 3)) (hv : varL (ls s) = true → es = 0 ∧ ∃ t, vs = [t] ∧ t.k = 2) :
    Calls Tryd.prog 4 #[.string a0, .agg #[.int .i64 k, .int .i64 n, .string u], .string s] w fun e w' => e = .returned (.bool true) ∧ Below w.heap.size w w' := by
  have hB : Below w.heap.size w (w.alloc (.cells #[.int .i64 k, .int .i64 n, .string u] 34)) := (Below.refl _ w).alloc (Nat.le_refl _) _
  have hR := Lib.hid (row_new (t := 34) w [.int .i64 k, .int .i64 n, .string u])
  have hA := Below.refl (w.alloc (.cells #[.int .i64 k, .int .i64 n, .string u] 34)).heap.size (w.alloc (.cells #[.int .i64 k, .int .i64 n, .string u] 34))
  have HEA := Lib.hid hea; have HR := Lib.hid hr; have HV := Lib.hid hv; have HT := Lib.hid hT
  clear hea hr hv hT
  go_enter Tryd.func4, Tryd.ntmps4
  go_wp2_with (first | (go_at_call 5; refine (awakeX_any _).mono ?_; rintro e w1 ⟨rfl, h'⟩; replace hB := on hB h'; replace hA := on hA h'; clear h') | (go_at_call 6; first | ((with_reducible refine (TA.out _).mono ?_); rintro e w2 ⟨A2, c2, rfl, hr, hb⟩; replace hB := on hB hb; have HA2 := Lib.hid (on hA hb); have HR2 := Lib.hid hr; clear hr hb hA)))
  go_loopw [40] (fun v wr => ∃ q : Nat, v = .int .i64 (q : Nat) ∧ q ≤ ts.length ∧ Below w2.heap.size w2 wr) (fun v _ => ts.length - (intOf v).toNat)
  case atStart => exact ⟨0, rfl, Nat.zero_le _, Below.refl _ _⟩
  case round =>
    obtain ⟨q, rfl, hq, hBr⟩ := hrel
    have HBR := Lib.hid hBr; clear hBr
    by_cases hlt : q < ts.length
    · have hx := List.getElem?_eq_getElem hlt
      generalize ts[q] = t at hx
      obtain ⟨b, o, rfl, hbl, c0, c1, c2'⟩ := (HR2.out.on HBR.out) q t hx
      have hrd := HRD.out t (List.mem_of_getElem? hx)
      have hz : (bs t.t).size ≤ maxLen := by rw [bs_size]; have := hrd.2; unfold maxLen; omega
      have HRV : Hid (∀ W : World, Calls Tryd.prog 13 #[.string (bs t.t)] W (ReadV (bs t.t) W)) := Lib.hid fun W => read_go _ W hz
      have HNM : Hid (∀ W : World, Calls Tryd.prog 14 #[.string (bs t.t)] W fun e w' => e = .returned (.bool (name (bs t.t))) ∧ W = w') := Lib.hid fun W => name_any _ W hz
      have HVR : Hid (∀ W : World, Calls Tryd.prog 9 #[.string (bs t.t)] W fun e w' => e = .returned (.bool (varL t.t)) ∧ Below W.heap.size W w') := Lib.hid fun W => variable_any (bs t.t) W hz
      have HRT := Lib.hid hrd.1
      generalize htt : bs t.t = tt at HRV HNM HVR c1 hz
      have HTT := Lib.hid htt
      clear hx hrd hz htt c2'
      cases hv : readV tt with
      | none =>
        have HN := Lib.hid hv
        clear hv
        by_cases h1 : t.k = 1
        · have HNE : Hid (name tt = true) := Lib.hid (by have := HRT.out; unfold ReadsT at this; rw [if_pos h1] at this; rw [← HTT.out]; exact this)
          have e1 : ((t.k : Int) == 1) = true := nat_is h1
          go_wp2_with (first | (go_at_call 13; refine (HRV.out _).mono ?_; intro e w5 h'; replace h' := read_no HN.out h'; obtain ⟨rfl, h'⟩ := h'; have HB5 := Lib.hid h'; have hl5 : b < w5.heap.size := Nat.lt_of_lt_of_le hbl h'.size; have g0 := fun ob => (keep ((Below.refl _ w5).alloc (Nat.le_refl _) ob) _ _ hl5).trans ((keep h' _ _ hbl).trans c0); have g1 := fun ob => (keep ((Below.refl _ w5).alloc (Nat.le_refl _) ob) _ _ hl5).trans ((keep h' _ _ hbl).trans c1); clear h') | (go_at_call 14; refine (HNM.out _).mono ?_; rw [HNE.out]; rintro e w6 ⟨rfl, rfl⟩))
          go_roundw
          case rel => exact ⟨q + 1, by go_num, by omega, on HBR.out (on HB5.out ((Below.refl _ _).alloc (Nat.le_refl _) _))⟩
          case measure => simp [intOf]; omega
        · by_cases h2 : t.k = 2
          · have HNE : Hid (varL t.t = true) := Lib.hid (by have := HRT.out; unfold ReadsT at this; rw [if_neg h1, if_pos h2] at this; exact this)
            have e1 : ((t.k : Int) == 1) = false := nat_ne h1
            have e2 : ((t.k : Int) == 2) = true := nat_is h2
            go_wp2_with (first | (go_at_call 13; refine (HRV.out _).mono ?_; intro e w5 h'; replace h' := read_no HN.out h'; obtain ⟨rfl, h'⟩ := h'; have HB5 := Lib.hid h'; have hl5 : b < w5.heap.size := Nat.lt_of_lt_of_le hbl h'.size; have g0 := fun ob => (keep ((Below.refl _ w5).alloc (Nat.le_refl _) ob) _ _ hl5).trans ((keep h' _ _ hbl).trans c0); have g1 := fun ob => (keep ((Below.refl _ w5).alloc (Nat.le_refl _) ob) _ _ hl5).trans ((keep h' _ _ hbl).trans c1); clear h') | (go_at_call 9; refine (HVR.out _).mono ?_; rw [HNE.out]; rintro e w6 ⟨rfl, hb6⟩; have HB6 := Lib.hid hb6; clear hb6))
            go_roundw
            case rel => exact ⟨q + 1, by go_num, by omega, on HBR.out (on HB5.out (on ((Below.refl _ _).alloc (Nat.le_refl _) _) HB6.out))⟩
            case measure => simp [intOf]; omega
          · have e1 : ((t.k : Int) == 1) = false := nat_ne h1
            have e2 : ((t.k : Int) == 2) = false := nat_ne h2
            by_cases h3 : t.k = 3
            · have h3' : ∃ v, readV tt = some v ∧ v.k ≠ 3 := by have := HRT.out; unfold ReadsT at this; rw [if_neg h1, if_neg h2, if_pos h3] at this; rw [← HTT.out]; exact this
              obtain ⟨v, hv, _⟩ := h3'
              rw [HN.out] at hv; cases hv
            · have e3 : ((t.k : Int) == 3) = false := nat_ne h3
              go_wp2_with (first | (go_at_call 13; refine (HRV.out _).mono ?_; intro e w5 h'; replace h' := read_no HN.out h'; obtain ⟨rfl, h'⟩ := h'; have HB5 := Lib.hid h'; have hl5 : b < w5.heap.size := Nat.lt_of_lt_of_le hbl h'.size; have g0 := fun ob => (keep ((Below.refl _ w5).alloc (Nat.le_refl _) ob) _ _ hl5).trans ((keep h' _ _ hbl).trans c0); have g1 := fun ob => (keep ((Below.refl _ w5).alloc (Nat.le_refl _) ob) _ _ hl5).trans ((keep h' _ _ hbl).trans c1); clear h'))
              go_roundw
              case rel => exact ⟨q + 1, by go_num, by omega, on HBR.out (on HB5.out ((Below.refl _ _).alloc (Nat.le_refl _) _))⟩
              case measure => simp [intOf]; omega
      | some v =>
        have HN := Lib.hid hv
        clear hv
        by_cases h1 : t.k = 1
        · have HNE : Hid (name tt = true) := Lib.hid (by have := HRT.out; unfold ReadsT at this; rw [if_pos h1] at this; rw [← HTT.out]; exact this)
          have e1 : ((t.k : Int) == 1) = true := nat_is h1
          go_wp2_with (first | (go_at_call 13; refine (HRV.out _).mono ?_; intro e w5 h'; replace h' := read_some HN.out h'; obtain ⟨rfl, h'⟩ := h'; have HB5 := Lib.hid h'; have hl5 : b < w5.heap.size := Nat.lt_of_lt_of_le hbl h'.size; have g0 := fun ob => (keep ((Below.refl _ w5).alloc (Nat.le_refl _) ob) _ _ hl5).trans ((keep h' _ _ hbl).trans c0); have g1 := fun ob => (keep ((Below.refl _ w5).alloc (Nat.le_refl _) ob) _ _ hl5).trans ((keep h' _ _ hbl).trans c1); clear h') | (go_at_call 14; refine (HNM.out _).mono ?_; rw [HNE.out]; rintro e w6 ⟨rfl, rfl⟩))
          go_roundw
          case rel => exact ⟨q + 1, by go_num, by omega, on HBR.out (on HB5.out ((Below.refl _ _).alloc (Nat.le_refl _) _))⟩
          case measure => simp [intOf]; omega
        · by_cases h2 : t.k = 2
          · have HNE : Hid (varL t.t = true) := Lib.hid (by have := HRT.out; unfold ReadsT at this; rw [if_neg h1, if_pos h2] at this; exact this)
            have e1 : ((t.k : Int) == 1) = false := nat_ne h1
            have e2 : ((t.k : Int) == 2) = true := nat_is h2
            go_wp2_with (first | (go_at_call 13; refine (HRV.out _).mono ?_; intro e w5 h'; replace h' := read_some HN.out h'; obtain ⟨rfl, h'⟩ := h'; have HB5 := Lib.hid h'; have hl5 : b < w5.heap.size := Nat.lt_of_lt_of_le hbl h'.size; have g0 := fun ob => (keep ((Below.refl _ w5).alloc (Nat.le_refl _) ob) _ _ hl5).trans ((keep h' _ _ hbl).trans c0); have g1 := fun ob => (keep ((Below.refl _ w5).alloc (Nat.le_refl _) ob) _ _ hl5).trans ((keep h' _ _ hbl).trans c1); clear h') | (go_at_call 9; refine (HVR.out _).mono ?_; rw [HNE.out]; rintro e w6 ⟨rfl, hb6⟩; have HB6 := Lib.hid hb6; clear hb6))
            go_roundw
            case rel => exact ⟨q + 1, by go_num, by omega, on HBR.out (on HB5.out (on ((Below.refl _ _).alloc (Nat.le_refl _) _) HB6.out))⟩
            case measure => simp [intOf]; omega
          · have e1 : ((t.k : Int) == 1) = false := nat_ne h1
            have e2 : ((t.k : Int) == 2) = false := nat_ne h2
            by_cases h3 : t.k = 3
            · have h3' : ∃ v, readV tt = some v ∧ v.k ≠ 3 := by have := HRT.out; unfold ReadsT at this; rw [if_neg h1, if_neg h2, if_pos h3] at this; rw [← HTT.out]; exact this
              obtain ⟨v', hv', hk3⟩ := h3'
              rw [HN.out] at hv'; injection hv' with hv'; subst hv'
              have e3 : ((t.k : Int) == 3) = true := nat_is h3
              have e4 : (v.k == 3) = false := by rw [beq_eq_false_iff_ne]; exact hk3
              go_wp2_with (first | (go_at_call 13; refine (HRV.out _).mono ?_; intro e w5 h'; replace h' := read_some HN.out h'; obtain ⟨rfl, h'⟩ := h'; have HB5 := Lib.hid h'; have hl5 : b < w5.heap.size := Nat.lt_of_lt_of_le hbl h'.size; have g0 := fun ob => (keep ((Below.refl _ w5).alloc (Nat.le_refl _) ob) _ _ hl5).trans ((keep h' _ _ hbl).trans c0); have g1 := fun ob => (keep ((Below.refl _ w5).alloc (Nat.le_refl _) ob) _ _ hl5).trans ((keep h' _ _ hbl).trans c1); clear h'))
              go_roundw
              case rel => exact ⟨q + 1, by go_num, by omega, on HBR.out (on HB5.out ((Below.refl _ _).alloc (Nat.le_refl _) _))⟩
              case measure => simp [intOf]; omega
            · have e3 : ((t.k : Int) == 3) = false := nat_ne h3
              go_wp2_with (first | (go_at_call 13; refine (HRV.out _).mono ?_; intro e w5 h'; replace h' := read_some HN.out h'; obtain ⟨rfl, h'⟩ := h'; have HB5 := Lib.hid h'; have hl5 : b < w5.heap.size := Nat.lt_of_lt_of_le hbl h'.size; have g0 := fun ob => (keep ((Below.refl _ w5).alloc (Nat.le_refl _) ob) _ _ hl5).trans ((keep h' _ _ hbl).trans c0); have g1 := fun ob => (keep ((Below.refl _ w5).alloc (Nat.le_refl _) ob) _ _ hl5).trans ((keep h' _ _ hbl).trans c1); clear h'))
              go_roundw
              case rel => exact ⟨q + 1, by go_num, by omega, on HBR.out (on HB5.out ((Below.refl _ _).alloc (Nat.le_refl _) _))⟩
              case measure => simp [intOf]; omega
    · obtain rfl : q = ts.length := by omega
      have HB := Lib.hid (on hB HBR.out)
      have HRW := Lib.hid (rowOn hR.out (on HA2.out HBR.out))
      have d0 := HRW.out.cell 0
      have d1 := HRW.out.cell 1
      have d2 := HRW.out.cell 2
      simp only [List.getElem?_cons_zero, List.getElem?_cons_succ] at d0 d1 d2
      have hbx : w.heap.size < wr.heap.size := HRW.out.lt
      have HTX : Hid (∀ W, Calls Tryd.prog 15 #[.agg #[.int .i64 k, .int .i64 n, .string u]] W fun e w' => e = .returned (.string T) ∧ Below W.heap.size W w') := Lib.hid fun W => by
        have := text_go k n u W hu hf.1 hf.2
        unfold TextV at this
        rwa [HT.out] at this
      have HRG : Hid (∀ W, Calls Tryd.prog 16 #[.agg #[.int .i64 k, .int .i64 n, .string u]] W fun e w' => e = .returned (.bool (rightV ⟨k, n, u⟩)) ∧ Below W.heap.size W w') := Lib.hid fun W => right_go k n u W hu
      have HVS : Hid (∀ W, Calls Tryd.prog 9 #[.string s] W fun e w' => e = .returned (.bool (varL (ls s))) ∧ Below W.heap.size W w') := Lib.hid fun W => variable_any s W (by unfold maxLen; omega)
      have HAL := Lib.hid (show (ea != 0) = false ∨ ((ea != 0) = true ∧ ts = []) by cases h : (ea != 0) with | false => exact .inl rfl | true => exact .inr ⟨rfl, HEA.out h⟩)
      clear hlt hB
      have hrr : rightV ⟨k, n, u⟩ = false ∨ rightV ⟨k, n, u⟩ = true := by cases rightV ⟨k, n, u⟩ <;> simp
      have hkk : (k == 3) = decide (k = 3) := rfl
      rcases hrr with hr | hr
      · rw [hr] at HRG
        clear hr hkk
        rcases HAL.out with he | ⟨he, rfl⟩
        all_goals
          go_wp2_with (first
            | (go_at_call 15; refine (HTX.out _).mono ?_; rintro e w3 ⟨rfl, hb⟩; replace HB := Lib.hid (on HB.out hb); replace d0 := (keep hb _ _ hbx).trans d0; replace d1 := (keep hb _ _ hbx).trans d1; replace d2 := (keep hb _ _ hbx).trans d2; replace hbx := Nat.lt_of_lt_of_le hbx hb.size; clear hb)
            | (go_at_call 6; (with_reducible refine (TB.out _).mono ?_); rintro e w4 ⟨A4, c4, rfl, hr, hb⟩; replace HB := Lib.hid (on HB.out hb); replace d0 := (keep hb _ _ hbx).trans d0; replace d1 := (keep hb _ _ hbx).trans d1; replace d2 := (keep hb _ _ hbx).trans d2; replace hbx := Nat.lt_of_lt_of_le hbx hb.size; have HR4 := Lib.hid hr; clear hr hb))
          have q0 := cell_regrown d0
          have q1 := cell_regrown d1
          have q2 := cell_regrown d2
          have cR : ∀ d os, Calls Tryd.prog 16 #[.agg #[.int .i64 k, .int .i64 n, .string u]] (Go.Sort.grow (redrawn _ d) os) fun e w'' => e = .returned (.bool false) ∧ ∃ p : Regrown, w'' = Go.Sort.grow (redrawn _ p.d) p.os := fun d os => Calls.regrown_of (w := w4) (HRG.out _)
          clear d0 d1 d2
          refine wp_region_quiet_below (by kernel_rfl) (by kernel_rfl) ?_
          repeat (first | go_big_quiet_step (exact cR _ _) | quiet_step (exact cR _ _))
          refine wpQuiet_nil ?_
          intro _ hw'
          obtain ⟨⟨dq, osq⟩, hw''⟩ := hw'
          subst hw''
          have HB5 := Lib.hid (on HB.out (below_regrown w4 dq osq))
          clear q0 q1 q2 cR
          generalize Go.Sort.grow (redrawn w4 dq) osq = w5 at HB5 ⊢
          have hvv : varL (ls s) = false ∨ varL (ls s) = true := by cases varL (ls s) <;> simp
          rcases hvv with hvv | hvv
          · rw [hvv] at HVS
            clear hvv
            go_wp2_with (first
              | (go_at_call 6; (with_reducible refine (TS.out _).mono ?_); rintro e w6 ⟨A6, c6, rfl, hr, hb⟩; have HB6 := Lib.hid (on HB5.out hb); clear hr hb)
              | (go_at_call 9; refine (HVS.out _).mono ?_; rintro e w7 ⟨rfl, hb⟩; have HB7 := Lib.hid (on HB6.out hb); clear hb))
            go_ret
            exact ⟨rfl, HB7.out⟩
          · obtain ⟨rfl, t2, rfl, hk2⟩ := HV.out hvv
            rw [hvv] at HVS
            clear hvv
            have HK2 := Lib.hid hk2
            clear hk2
            go_wp2_with (first
              | (go_at_call 6; (with_reducible refine (TS.out _).mono ?_); rintro e w6 ⟨A6, c6, rfl, hr, hb⟩; have HB6 := Lib.hid (on HB5.out hb); obtain ⟨b6, o6, rfl, hbl6, e0, -, -⟩ := hr 0 t2 rfl; rw [HK2.out, Nat.zero_mul, Nat.add_zero] at e0; replace e0 : w6.cell? ⟨b6, o6, none⟩ = some (.int .i64 2) := e0; clear hr hb)
              | (go_at_call 9; refine (HVS.out _).mono ?_; rintro e w7 ⟨rfl, hb⟩; have HB7 := Lib.hid (on HB6.out hb); have e0' := (keep hb _ _ hbl6).trans e0; clear hb))
            go_ret
            exact ⟨rfl, HB7.out⟩
      · obtain ⟨rfl, t, rfl, hk1⟩ := HR.out hr
        rw [hr] at HRG
        clear hr hkk
        have hcs : (((t.k : Int) == 1) = true ∧ (k == 3) = true) ∨ (((t.k : Int) == 1) = false ∧ (k == 3) = false) := by
          by_cases e : t.k = 1
          · exact .inl ⟨nat_is e, by rw [hk1.1 e]; rfl⟩
          · exact .inr ⟨nat_ne e, by rw [beq_eq_false_iff_ne]; exact fun h => e (hk1.2 h)⟩
        have HCS := Lib.hid hcs
        clear hcs hk1
        rcases HAL.out with he | ⟨he, rfl⟩
        all_goals
          rcases HCS.out with ⟨f1, f2⟩ | ⟨f1, f2⟩
        all_goals
          go_wp2_with (first
            | (go_at_call 15; refine (HTX.out _).mono ?_; rintro e w3 ⟨rfl, hb⟩; replace HB := Lib.hid (on HB.out hb); replace d0 := (keep hb _ _ hbx).trans d0; replace d1 := (keep hb _ _ hbx).trans d1; replace d2 := (keep hb _ _ hbx).trans d2; replace hbx := Nat.lt_of_lt_of_le hbx hb.size; clear hb)
            | (go_at_call 6; (with_reducible refine (TB.out _).mono ?_); rintro e w4 ⟨A4, c4, rfl, hr, hb⟩; replace HB := Lib.hid (on HB.out hb); replace d0 := (keep hb _ _ hbx).trans d0; replace d1 := (keep hb _ _ hbx).trans d1; replace d2 := (keep hb _ _ hbx).trans d2; replace hbx := Nat.lt_of_lt_of_le hbx hb.size; obtain ⟨b4, o4, rfl, hbl4, e4, -, -⟩ := hr 0 t rfl; rw [Nat.zero_mul, Nat.add_zero] at e4; clear hr hb))
          have q0 := cell_regrown d0
          have q1 := cell_regrown d1
          have q2 := cell_regrown d2
          have cR : ∀ d os, Calls Tryd.prog 16 #[.agg #[.int .i64 k, .int .i64 n, .string u]] (Go.Sort.grow (redrawn _ d) os) fun e w'' => e = .returned (.bool true) ∧ ∃ p : Regrown, w'' = Go.Sort.grow (redrawn _ p.d) p.os := fun d os => Calls.regrown_of (w := w4) (HRG.out _)
          clear d0 d1 d2
          have q4 := cell_regrown e4
          refine wp_region_quiet_below (by kernel_rfl) (by kernel_rfl) ?_
          repeat (first | go_big_quiet_step (exact cR _ _) | quiet_step (exact cR _ _))
          refine wpQuiet_nil ?_
          intro _ hw'
          obtain ⟨⟨dq, osq⟩, hw''⟩ := hw'
          subst hw''
          have HB5 := Lib.hid (on HB.out (below_regrown w4 dq osq))
          clear q0 q1 q2 cR q4
          generalize Go.Sort.grow (redrawn w4 dq) osq = w5 at HB5 ⊢
          have hvv : varL (ls s) = false ∨ varL (ls s) = true := by cases varL (ls s) <;> simp
          rcases hvv with hvv | hvv
          · rw [hvv] at HVS
            clear hvv
            go_wp2_with (first
              | (go_at_call 6; (with_reducible refine (TS.out _).mono ?_); rintro e w6 ⟨A6, c6, rfl, hr, hb⟩; have HB6 := Lib.hid (on HB5.out hb); clear hr hb)
              | (go_at_call 9; refine (HVS.out _).mono ?_; rintro e w7 ⟨rfl, hb⟩; have HB7 := Lib.hid (on HB6.out hb); clear hb))
            go_ret
            exact ⟨rfl, HB7.out⟩
          · obtain ⟨rfl, t2, rfl, hk2⟩ := HV.out hvv
            rw [hvv] at HVS
            clear hvv
            have HK2 := Lib.hid hk2
            clear hk2
            go_wp2_with (first
              | (go_at_call 6; (with_reducible refine (TS.out _).mono ?_); rintro e w6 ⟨A6, c6, rfl, hr, hb⟩; have HB6 := Lib.hid (on HB5.out hb); obtain ⟨b6, o6, rfl, hbl6, e0, -, -⟩ := hr 0 t2 rfl; rw [HK2.out, Nat.zero_mul, Nat.add_zero] at e0; replace e0 : w6.cell? ⟨b6, o6, none⟩ = some (.int .i64 2) := e0; clear hr hb)
              | (go_at_call 9; refine (HVS.out _).mono ?_; rintro e w7 ⟨rfl, hb⟩; have HB7 := Lib.hid (on HB6.out hb); have e0' := (keep hb _ _ hbl6).trans e0; clear hb))
            go_ret
            exact ⟨rfl, HB7.out⟩
theorem walk (a0 : ByteArray) (k n : Int) (u s : ByteArray) (w0 : a0.size ≤ maxLen) (wk : (Lit.int .i64 k).wf = true) (wn : (Lit.int .i64 n).wf = true) (hu : u.size ≤ maxLen) (hs : s.size ≤ maxLen) (w : World) :
    Calls Tryd.prog 4 #[.string a0, .agg #[.int .i64 k, .int .i64 n, .string u], .string s] w fun e w' => e = .returned (.bool true) ∧ Below w.heap.size w w' := by
  have hf := fits_of wn
  by_cases h0 : 400 < (a0.size : Int)
  · exact walk_l0 a0 k n u s w (.inl h0)
  by_cases h1 : 100 < (s.size : Int)
  · exact walk_l0 a0 k n u s w (.inr ⟨h0, h1⟩)
  have hT := textV_len ⟨k, n, u⟩ hf
  refine walk_go a0 k n u s w h0 h1 _ _ _ _ _ _ _ _ _ _ (bs (textV ⟨k, n, u⟩)) hu hf (Lib.hid (tells a0 (by omega))) (Lib.hid (tells _ (by omega))) (Lib.hid (tells s (by omega))) rfl (Lib.hid fun t ht => ?_) ?_ ?_ ?_ ?_
  · cases hq : toksL 0 (ls a0) with
    | bad _ => rw [hq] at ht; simp [Rs.ts] at ht
    | good l =>
      rw [hq] at ht
      have he := toks_each _ _ _ (Nat.le_refl _) _ hq t ht
      have hsm := toks_sum _ _ _ (Nat.le_refl _) _ hq
      have := mem_sum l t ht
      rw [ls_len] at hsm
      exact ⟨reads_of he, by omega⟩
  · cases hq : toksL 0 (ls a0) with
    | bad _ => simp [Rs.ts]
    | good l => have := toks_len hq; rw [ls_len] at this; simp only [Rs.ts]; omega
  · intro h
    cases hq : toksL 0 (ls a0) with
    | bad _ => rfl
    | good l => rw [hq] at h; simp [Rs.no] at h
  · intro h
    obtain ⟨k', hf1, hk'⟩ := text_first ⟨k, n, u⟩ h hf
    have h1 := toks_one hf1 0
    rw [ls_bs, h1]
    exact ⟨rfl, _, rfl, hk'⟩
  · intro h
    rw [toks_one (var_first h) 0]
    exact ⟨rfl, _, rfl, rfl⟩

theorem own : ownKnob Tryd.prog.godebug = none := by kernel_rfl

set_option maxRecDepth 100000 in
theorem lifted (os : Os) (started : os.Started) (H : Type) (enc : TypeId × Value → H) :
    ReturnsInHanded {} Tryd.checked os 4 .any (fun w args => (Rows.lexKindsSpec.pre enc Tryd.prog Tryd.f4 Rows.lexKindsRow.domain false w args ∧ laidMetH Tryd.prog Rows.lexKindsRow.laid w) ∧ sizedMet enc Tryd.prog Tryd.f4 (OpenSpec.ofChange Rows.lexKindsSpec) false w args) (Rows.lexKindsSpec.post enc Tryd.prog Tryd.f4 false true false false) := by
  refine returnsInHanded_of_change_and (C := Tryd.checked) (X := fun w _ => laidMetH Tryd.prog Rows.lexKindsRow.laid w) (fun _ _ _ hh h => h.of_heap hh) own started (by kernel_rfl) Tryd.func4
    (ChangeSpec.witness_shaped (enc := enc) (C := Tryd.checked) (os := os) (X := fun w _ => laidMetH Tryd.prog Rows.lexKindsRow.laid w) false (World.laidAll Tryd.prog os Rows.lexKindsRow.laid) #[.string ByteArray.empty, .agg #[.int .i64 0, .int .i64 0, .string ByteArray.empty], .string ByteArray.empty] 8 (World.laidAll_os _ _ _)
      (World.shaped_of_ZipB (by kernel_rfl) (by kernel_rfl)) (by kernel_rfl) (by kernel_rfl) (by kernel_rfl)
      (by rw [MakeChecks.laidMetH_plain _ _ _ (by kernel_rfl)]; exact laidMet_laidAll _ (by kernel_rfl) (by kernel_rfl))) ?_
  intro W base args ds gs before hval0 hW hcnd _ hL _
  have hval : ∀ (j : Nat) t v, Tryd.f4.params[j]? = some t → args[j]? = some v → Value.okWide Tryd.prog W .any base t v := hval0
  have hW' := hW
  obtain ⟨p, q, hA0, hV, rfl, hfz, hnd⟩ := hW
  have hA : DataW.TrodAll enc Tryd.prog W 0 (fun _ => true) true Tryd.f4.params.toList args.toList ds p := hA0
  rw [Tryd.params4] at hA hval
  obtain ⟨v0, vs0, d0, ds0, p0, q0, hargs, rfl, rfl, h0, r0⟩ := trodAll_cons hA
  obtain ⟨v1, vs1, d1, ds1, p1, q1, rfl, rfl, rfl, h1, r1⟩ := trodAll_cons r0
  obtain ⟨v2, vs2, d2, ds2, p2, q2, rfl, rfl, rfl, h2, r2⟩ := trodAll_cons r1
  obtain ⟨rfl, rfl, rfl⟩ := trodAll_nil r2
  obtain rfl : args = #[v0, v1, v2] := by cases args; simp_all
  obtain ⟨rfl, rfl⟩ := trodVars_none hV
  obtain ⟨a0, rfl, rfl, rfl, w0⟩ := Go.ChangeMaps.open_string Tryd.underlying9 (hval 0 9 v0 rfl rfl) h0
  obtain ⟨k1, n1, s1, rfl, rfl, rfl, wk1, wn1, ws1⟩ := open_val (hval 1 34 v1 rfl rfl) h1
  obtain ⟨a2, rfl, rfl, rfl, w2⟩ := Go.ChangeMaps.open_string Tryd.underlying9 (hval 2 9 v2 rfl rfl) h2
  clear hA0 hval0
  simp only [List.append_nil] at hW'
  refine (walk a0 k1 n1 s1 a2 w0 wk1 wn1 ws1 w2 W).mono fun e W' ⟨he, hg⟩ => ?_
  subst he
  exact ⟨_, rfl, post_plain hW' (fun _ _ _ => (trodAll_cons_mk (shut_bool Tryd.underlying4 _) trodAll_mk0)) (fun sp => (trodAll_cons_mk (Go.ChangeMaps.shut_string Tryd.underlying9 w0) (trodAll_cons_mk (shut_val wk1 wn1 ws1) (trodAll_cons_mk (Go.ChangeMaps.shut_string Tryd.underlying9 w2) trodAll_mk0)))) (fun _ => rfl) hg (ok_one (by kernel_rfl) rfl (okWide_bool_mk Tryd.underlying4 _))⟩

theorem row_proved : Rows.LexKindsSaid :=
  OpenClaim.holds_of_wide 4 Tryd.f4 rfl rfl rfl rfl rfl rfl rfl ⟨rfl, rfl, rfl, rfl, rfl⟩ rfl rfl rfl rfl rfl (by kernel_rfl) Tryd.func4 (by kernel_rfl)
    (of_decide_eq_true (by kernel_rfl)) (by unfold Func.isWrapper; first | (rw [if_pos (by decide +kernel)]; kernel_rfl) | (rw [if_neg (by decide +kernel)]; exact ⟨rfl, rfl⟩))
    (fun os started H enc _ => lifted os started H enc)
theorem proved : Rows.LexKindsCardSaid :=
  Claim7.holds_tied_plain_at .later [] Rows.lexKindsCard.laidKinds Rows.lexKindsCard.laidTests Rows.lexKindsCard.stood.harness Rows.lexKindsCard.stood.looks row_proved (fun _ h => by cases h) (by kernel_rfl) (fun _ h => by cases h) lexKinds_row_tie rfl ⟨rfl, rfl⟩ (by kernel_rfl) rfl
    (fun f fn hf hfn => by
      obtain rfl : f = 4 := Option.some.inj ((show Tryd.prog.funcNamed "antecedent/antecedentlaw07.LexKinds" = some 4 by kernel_rfl).symm.trans hf) |>.symm
      obtain rfl : fn = Tryd.f4 := (Option.some.inj (Tryd.func4.symm.trans hfn)).symm
      exact ⟨by kernel_rfl, fun j t ht => by
        rw [Tryd.params4] at ht
        have hm : t ∈ [9, 34, 9] := by simpa using Array.mem_of_getElem? ht
        have hall : ([9, 34, 9].all fun u => !Tryd.prog.wantsStandIn u) = true := by kernel_rfl
        exact (show Tryd.prog.wantsStandIn t = false by simpa using List.all_eq_true.1 hall t hm)⟩)
    (by kernel_rfl)
#print axioms proved
end Go.Proofs.YtahnnefmkcpibaaDoor.lexKinds

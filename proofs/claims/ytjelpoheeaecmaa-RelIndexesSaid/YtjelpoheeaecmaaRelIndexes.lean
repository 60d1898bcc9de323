/-
  RelIndexes (layer 5, rel): for every p, q, l, which and cols the call returns true: with any indexes, or none, the same tuples are found by any columns. No condition.
-/
import Derived.Test.YtjelpoheeaecmaaRows
import Derived.Test.YtjelpoheeaecmaaRelMany
import Derived.Test.YtjelpoheeaecmaaRelPar
import Derived.Test.YtjelpoheeaecmaaTupRef
import Derived.Test.YtjelpoheeaecmaaRelB
import Derived.Test.YtjelpoheeaecmaaRelB
import Derived.WalkKit
import Derived.ProofKit
import Derived.OpenShut
namespace Go.Proofs.Ytjelpoheeaecmaa.relIndexes
open Go.ChangeShapes Go.WideShapes Go.ChangeAt Go.RowKit FloM ValM
set_option linter.unusedVariables false
set_option linter.unusedSimpArgs false
theorem bel_drawN' {B : Nat} {w u : World} (h : Below B w u) (k : Nat) : Below B w (u.drewN k) := ⟨h.os, h.tape, h.output, h.size, h.block⟩
set_option maxRecDepth 20000 in
set_option maxHeartbeats 4000000 in
theorem walk_no (A0 A1 A2 A4 : Option Addr) (c0 c1 c2 c4 : Nat) (ps qs : List IS) (xs : List Sl) (a3 : Int) (cols : List Int) (w : World) (r0 : RdP w A0 ps) (m0 : ps.length ≤ maxLen) (r1 : RdP w A1 qs) (m1 : qs.length ≤ maxLen) (r2 : RdL w A2 xs) (m2 : xs.length ≤ maxLen)
    (h : fewR (ps.map IS.l) (xs.map Sl.l) = false ∨ fewR (ps.map IS.l) (xs.map Sl.l) = true ∧ (fewR (qs.map IS.l) (xs.map Sl.l) = false ∨ fewR (qs.map IS.l) (xs.map Sl.l) = true ∧ (12 < (cols.length : Int) ∨ ¬ 12 < (cols.length : Int) ∧ xs.length = 0))) :
    Calls Try.prog 3 #[.slice A0 ps.length c0, .slice A1 qs.length c1, .slice A2 xs.length c2, .int .u8 a3, .slice A4 cols.length c4] w fun e w' => e = .returned (.bool true) ∧ Below w.heap.size w w' := by
  have hB := Below.refl w.heap.size w
  have R0 := Lib.hid r0; have R1 := Lib.hid r1; have R2 := Lib.hid r2; clear r0 r1 r2
  have HFP : Hid (∀ W, Below w.heap.size w W → Calls Try.prog 9 #[.slice A0 ps.length c0, .slice A2 xs.length c2] W fun e w' => e = .returned (.bool (fewR (ps.map IS.l) (xs.map Sl.l))) ∧ W = w') := Lib.hid fun W hW => fewR_any A0 A2 c0 c2 ps xs W (R0.out.on hW) (R2.out.on hW) m0 m2
  have HFQ : Hid (∀ W, Below w.heap.size w W → Calls Try.prog 9 #[.slice A1 qs.length c1, .slice A2 xs.length c2] W fun e w' => e = .returned (.bool (fewR (qs.map IS.l) (xs.map Sl.l))) ∧ W = w') := Lib.hid fun W hW => fewR_any A1 A2 c1 c2 qs xs W (R1.out.on hW) (R2.out.on hW) m1 m2
  rcases h with h | ⟨h, h1 | ⟨h1, h2 | ⟨h2, h3⟩⟩⟩
  · rw [h] at HFP
    clear h
    go_enter Try.func3, Try.ntmps3
    go_wp2_with (first
      | (go_at_call 8; refine (awakeR_any _).mono ?_; rintro e w1 ⟨rfl, h'⟩; replace hB := on hB h'; clear h')
      | (go_at_call 9; refine (HFP.out _ hB).mono ?_; rintro e w2 ⟨rfl, rfl⟩))
    go_ret
    exact ⟨rfl, hB⟩
  · rw [h] at HFP; rw [h1] at HFQ
    clear h h1
    go_enter Try.func3, Try.ntmps3
    go_wp2_with (first
      | (go_at_call 8; refine (awakeR_any _).mono ?_; rintro e w1 ⟨rfl, h'⟩; replace hB := on hB h'; clear h')
      | (go_at_call 9; first | ((with_reducible refine (HFP.out _ hB).mono ?_); rintro e w2 ⟨rfl, rfl⟩) | ((with_reducible refine (HFQ.out _ hB).mono ?_); rintro e w2 ⟨rfl, rfl⟩)))
    go_ret
    exact ⟨rfl, hB⟩
  · rw [h] at HFP; rw [h1] at HFQ
    clear h h1
    go_enter Try.func3, Try.ntmps3
    go_wp2_with (first
      | (go_at_call 8; refine (awakeR_any _).mono ?_; rintro e w1 ⟨rfl, h'⟩; replace hB := on hB h'; clear h')
      | (go_at_call 9; first | ((with_reducible refine (HFP.out _ hB).mono ?_); rintro e w2 ⟨rfl, rfl⟩) | ((with_reducible refine (HFQ.out _ hB).mono ?_); rintro e w2 ⟨rfl, rfl⟩)))
    go_ret
    exact ⟨rfl, hB⟩
  · rw [h] at HFP; rw [h1] at HFQ
    obtain rfl := List.length_eq_zero_iff.1 h3
    simp only [List.length_nil] at HFP HFQ ⊢
    clear h h1 h3 m2
    go_enter Try.func3, Try.ntmps3
    go_wp2_with (first
      | (go_at_call 8; refine (awakeR_any _).mono ?_; rintro e w1 ⟨rfl, h'⟩; replace hB := on hB h'; clear h')
      | (go_at_call 9; first | ((with_reducible refine (HFP.out _ hB).mono ?_); rintro e w2 ⟨rfl, rfl⟩) | ((with_reducible refine (HFQ.out _ hB).mono ?_); rintro e w2 ⟨rfl, rfl⟩)))
    go_ret
    exact ⟨rfl, hB⟩
set_option maxRecDepth 20000 in
set_option maxHeartbeats 8000000 in
theorem walk_bad (A0 A1 A4 : Option Addr) (c0 c1 c2 c4 ab ao xc n : Nat) (xA : Option Addr) (ps qs : List IS) (xs : List Sl) (a3 E1 E2 E3 : Int) (cols : List Int) (w : World) (r0 : RdP w A0 ps) (m0 : ps.length ≤ 1000) (r1 : RdP w A1 qs) (m1 : qs.length ≤ 1000)
    (HFP : Hid (∀ W, Below w.heap.size w W → Calls Try.prog 9 #[.slice A0 ps.length c0, .slice (some ⟨ab, ao, none⟩) xs.length c2] W fun e w' => e = .returned (.bool true) ∧ W = w'))
    (HFQ : Hid (∀ W, Below w.heap.size w W → Calls Try.prog 9 #[.slice A1 qs.length c1, .slice (some ⟨ab, ao, none⟩) xs.length c2] W fun e w' => e = .returned (.bool true) ∧ W = w'))
    (hc : ¬ 12 < (cols.length : Int)) (hne' : ((xs.length : Int) == 0) = false) (hab : ab < w.heap.size) (cx : w.cell? ⟨ab, ao, none⟩ = some (.slice xA n xc)) (hn : n ≤ 12)
    (he1 : relE (n : Int) (ps.map IS.l) = E1) (he2 : relE (n : Int) (qs.map IS.l) = E2) (he3 : relE (n : Int) [] = E3)
    (h : 8 < n ∧ E1 = 1 ∨ ¬ 8 < n ∧ (E1 = 1 ∨ E1 = 0 ∧ E2 = 1)) :
    Calls Try.prog 3 #[.slice A0 ps.length c0, .slice A1 qs.length c1, .slice (some ⟨ab, ao, none⟩) xs.length c2, .int .u8 a3, .slice A4 cols.length c4] w fun e w' => e = .returned (.bool true) ∧ Below w.heap.size w w' := by
  have hB := Below.refl w.heap.size w
  have hne2 : 0 < xs.length := by rw [beq_eq_false_iff_ne] at hne'; omega
  have HN1 : Hid (∀ W, Below w.heap.size w W → Calls Try.prog 10 #[.int .i64 (n : Int), .slice A0 ps.length c0] W fun e w' => (∃ r, e = .returned (.tuple #[.pointer r, .int .i64 E1])) ∧ Below W.heap.size W w') := Lib.hid fun W hW => by
    have := newX_any A0 c0 n ps W (r0.on hW) m0
    rw [he1] at this; exact this
  have HN2 : Hid (∀ W, Below w.heap.size w W → Calls Try.prog 10 #[.int .i64 (n : Int), .slice A1 qs.length c1] W fun e w' => (∃ r, e = .returned (.tuple #[.pointer r, .int .i64 E2])) ∧ Below W.heap.size W w') := Lib.hid fun W hW => by
    have := newX_any A1 c1 n qs W (r1.on hW) m1
    rw [he2] at this; exact this
  have HN3 : Hid (∀ W, Below w.heap.size w W → Calls Try.prog 10 #[.int .i64 (n : Int), .slice none 0 0] W fun e w' => (∃ r, e = .returned (.tuple #[.pointer r, .int .i64 E3])) ∧ Below W.heap.size W w') := Lib.hid fun W hW => by
    have := newX_any none 0 n [] W RdP.nil (by simp)
    rw [List.map_nil, he3] at this; exact this
  clear r0 r1 he1 he2 he3 m0 m1
  rcases h with ⟨h8, rfl⟩ | ⟨h8, rfl | ⟨rfl, rfl⟩⟩
  all_goals
    go_enter Try.func3, Try.ntmps3
    go_wp2_with (first
      | (go_at_call 8; refine (awakeR_any _).mono ?_; rintro e w1 ⟨rfl, h'⟩; replace hB := on hB h'; clear h'; replace cx := (keep hB _ _ hab).trans cx)
      | (go_at_call 9; first | ((with_reducible refine (HFP.out _ hB).mono ?_); rintro e w2 ⟨rfl, rfl⟩) | ((with_reducible refine (HFQ.out _ hB).mono ?_); rintro e w2 ⟨rfl, rfl⟩))
      | (go_at_call 10; first
        | ((with_reducible refine (HN1.out _ hB).mono ?_); rintro e w3 ⟨⟨r3, rfl⟩, hb⟩; replace hB := on hB hb; clear hb)
        | ((with_reducible refine (HN2.out _ hB).mono ?_); rintro e w3 ⟨⟨r3, rfl⟩, hb⟩; replace hB := on hB hb; clear hb)
        | ((with_reducible refine (HN3.out _ hB).mono ?_); rintro e w3 ⟨⟨r3, rfl⟩, hb⟩; replace hB := on hB hb; clear hb)))
    go_ret
    exact ⟨rfl, hB⟩
set_option maxRecDepth 20000 in
set_option maxHeartbeats 8000000 in
theorem walk_yes (A0 A1 A4 : Option Addr) (c0 c1 c2 c4 ab ao xc n k3 i0 : Nat) (xA : Option Addr) (ps qs : List IS) (xs : List Sl) (x : Sl) (cols : List Int) (w : World) (r0 : RdP w A0 ps) (m0 : ps.length ≤ 1000) (r1 : RdP w A1 qs) (m1 : qs.length ≤ 1000) (r2 : RdL w (some ⟨ab, ao, none⟩) xs) (m2 : xs.length ≤ 60) (r4 : RdI w A4 cols)
    (HFP : Hid (∀ W, Below w.heap.size w W → Calls Try.prog 9 #[.slice A0 ps.length c0, .slice (some ⟨ab, ao, none⟩) xs.length c2] W fun e w' => e = .returned (.bool true) ∧ W = w'))
    (HFQ : Hid (∀ W, Below w.heap.size w W → Calls Try.prog 9 #[.slice A1 qs.length c1, .slice (some ⟨ab, ao, none⟩) xs.length c2] W fun e w' => e = .returned (.bool true) ∧ W = w'))
    (hc : ¬ 12 < (cols.length : Int)) (hne' : ((xs.length : Int) == 0) = false) (hab : ab < w.heap.size) (cx : w.cell? ⟨ab, ao, none⟩ = some (.slice xA n xc)) (hn8 : n ≤ 8)
    (g1 : ∀ p ∈ ps, goodP n p.l = true) (g2 : ∀ p ∈ qs, goodP n p.l = true)
    (hrow : ∀ j y, xs[j]? = some y → w.cell? ⟨ab, ao + j, none⟩ = some (.slice y.A y.l.length y.c)) (h2 : k3 % xs.length = i0) (hk3 : k3 < 256) (hx : xs[i0]? = some x) (hx12 : x.l.length ≤ 12) :
    Calls Try.prog 3 #[.slice A0 ps.length c0, .slice A1 qs.length c1, .slice (some ⟨ab, ao, none⟩) xs.length c2, .int .u8 (k3 : Int), .slice A4 cols.length c4] w fun e w' => e = .returned (.bool true) ∧ Below w.heap.size w w' := by
  have hB := Below.refl w.heap.size w
  have hne2 : 0 < xs.length := by rw [beq_eq_false_iff_ne] at hne'; omega
  have hnz : ¬ (xs.length : Int) = 0 := by omega
  have hlt0 : i0 < xs.length := (List.getElem?_eq_some_iff.1 hx).1
  have hrem : Int.tmod (k3 : Int) (xs.length : Int) = (i0 : Int) := by rw [Int.tmod_eq_emod_of_nonneg (by omega), ← h2]; rfl
  have R0 := Lib.hid r0; have R1 := Lib.hid r1; have R2 := Lib.hid r2; have R4 := Lib.hid r4; have HG1 := Lib.hid g1; have HG2 := Lib.hid g2; have HROW := Lib.hid hrow; have HX := Lib.hid hx
  have HN1 : Hid (∀ W, Below w.heap.size w W → Calls Try.prog 10 #[.int .i64 (n : Int), .slice A0 ps.length c0] W fun e w' => ∃ a : RI, e = .returned (.tuple #[.pointer (some ⟨a.r, 0, none⟩), .int .i64 0]) ∧ a.ps = ps.map IS.l ∧ NewS W n a.ps a.r a.g0 a.gs w') := Lib.hid fun W hW => newR1 A0 c0 ps W hn8 (R0.out.on hW) m0 HG1.out
  have HN2 : Hid (∀ (Z : Nat → Prop) W, Below w.heap.size w W → (∀ k, Z k → k < W.heap.size) → Calls Try.prog 10 #[.int .i64 (n : Int), .slice A1 qs.length c1] W fun e w' => ∃ a : RI, e = .returned (.tuple #[.pointer (some ⟨a.r, 0, none⟩), .int .i64 0]) ∧ a.ps = qs.map IS.l ∧ NewZ Z W n a.ps [] a.r a.g0 a.gs w') := Lib.hid fun Z W hW hZ => newRZ A1 c1 qs W hZ hn8 (R1.out.on hW) m1 HG2.out
  have HN3 : Hid (∀ (Z : Nat → Prop) W, (∀ k, Z k → k < W.heap.size) → Calls Try.prog 10 #[.int .i64 (n : Int), .slice none 0 0] W fun e w' => ∃ a : RI, e = .returned (.tuple #[.pointer (some ⟨a.r, 0, none⟩), .int .i64 0]) ∧ a.ps = [] ∧ NewZ Z W n a.ps [] a.r a.g0 a.gs w') := Lib.hid fun Z W hZ => newRZ none 0 [] W hZ hn8 RdP.nil (by simp) (fun p hp => by cases hp)
  clear r0 r1 r2 r4 g1 g2 hrow hx h2
  go_enter Try.func3, Try.ntmps3
  go_wp2_with (first
    | (go_at_call 8; refine (awakeR_any _).mono ?_; rintro e w1 ⟨rfl, h'⟩; replace hB := on hB h'; clear h'; replace cx := (keep hB _ _ hab).trans cx)
    | (go_at_call 9; first | ((with_reducible refine (HFP.out _ hB).mono ?_); rintro e w2 ⟨rfl, rfl⟩) | ((with_reducible refine (HFQ.out _ hB).mono ?_); rintro e w2 ⟨rfl, rfl⟩))
    | (go_at_call 10; first
      | ((with_reducible refine (HN1.out _ hB).mono ?_); rintro e w3 ⟨a, rfl, hap, N1⟩; have HB0 := Lib.hid hB; have HAP := Lib.hid hap; have HNA := Lib.hid N1; have HAX := Lib.hid (show ∀ k, a.x k → k < w3.heap.size from RelG.x_lt N1.s); replace hB := on hB N1.b; clear hap N1)
      | ((with_reducible refine (HN2.out a.x _ hB HAX.out).mono ?_); rintro e w4 ⟨b, rfl, hbp, N2⟩; have HNB := Lib.hid N2; have HBX := Lib.hid (show ∀ k, (a.x k ∨ b.x k) → k < w4.heap.size from fun k hk => hk.elim (fun hk => Nat.lt_of_lt_of_le (HAX.out k hk) N2.b.size) (RelG.x_lt N2.s k)); clear hbp N2)
      | ((with_reducible refine (HN3.out (fun k => a.x k ∨ b.x k) _ HBX.out).mono ?_); rintro e w5 ⟨c, rfl, hcp, N3⟩; have HCP := Lib.hid hcp; have HT := Lib.hid (TriR.start HB0.out HNA.out (Below.refl _ _) HNB.out (Below.refl _ _) N3); clear hcp N3)))
  clear cx HN1 HN2 HN3 HNA HNB HB0 hB
  go_loopw [90] (fun v wr => ∃ k : Nat, v = .int .i64 (k : Nat) ∧ k ≤ xs.length ∧ TriR w n a b c ((xs.map Sl.l).take k) ((xs.map Sl.l).take k) ((xs.map Sl.l).take k) wr) (fun v _ => xs.length - (intOf v).toNat)
  case atStart => exact ⟨0, rfl, Nat.zero_le _, HT.out⟩
  case round =>
    clear HT
    obtain ⟨k, rfl, hk, hT⟩ := hrel
    have HT := Lib.hid hT; clear hT
    by_cases hlt : k < xs.length
    · have hy := List.getElem?_eq_getElem hlt
      generalize xs[k] = y at hy
      have HY := Lib.hid (HROW.out k y hy)
      have ca := (keep HT.out.bw _ _ hab).trans HY.out
      have RY := Lib.hid (R2.out.each y (List.mem_of_getElem? hy)).1
      have HA := Lib.hid (show (xs.map Sl.l)[k]? = some y.l by rw [List.getElem?_map, hy]; rfl)
      have HLK : Hid (((xs.map Sl.l).take k).length < 100000) := Lib.hid (by rw [List.length_take, List.length_map]; omega)
      clear hy
      go_wp2_with (go_at_call 11; first
        | ((with_reducible refine (HT.out.p1 (ca := y.c) RY.out HLK.out).mono ?_); rintro e w6 ⟨rfl, ht⟩; have HT1 := Lib.hid ht; clear ht; replace ca := (keep HT1.out.bw _ _ hab).trans HY.out)
        | ((with_reducible refine (HT1.out.p2 (ca := y.c) RY.out HLK.out).mono ?_); rintro e w7 ⟨rfl, ht⟩; have HT2 := Lib.hid ht; clear ht; replace ca := (keep HT2.out.bw _ _ hab).trans HY.out)
        | ((with_reducible refine (HT2.out.p3 (ca := y.c) RY.out HLK.out).mono ?_); rintro e w8 ⟨rfl, ht⟩; have HT3 := Lib.hid ht; clear ht))
      go_roundw
      case rel => exact ⟨k + 1, by go_num, by omega, by rw [take_snoc' HA.out]; exact HT3.out⟩
      case measure => simp [intOf]; omega
    · obtain rfl : k = xs.length := by omega
      rw [List.take_of_length_le (by simp)] at HT
      have cx := (keep HT.out.bw _ _ hab).trans (HROW.out i0 x HX.out)
      have RX := Lib.hid (R2.out.each x (List.mem_of_getElem? HX.out)).1
      have hH : (xs.map Sl.l).length ≤ 100000 := by rw [List.length_map]; omega
      have HPK : Hid (∀ W, Below w.heap.size w W → Calls Try.prog 12 #[.slice x.A x.l.length x.c, .slice A4 cols.length c4] W (SaysV (pickL x.l cols) W)) := Lib.hid fun W hW => refPick_any x.A A4 x.c c4 x.l cols W (RX.out.on hW) (R4.out.on hW) (by omega) (by omega)
      have hml : (puts (upto n) (xs.map Sl.l)).length ≤ 60 := Nat.le_trans (puts_len _ _) (by rw [List.length_map]; exact m2)
      have hfl := find_le (n := n) (H := xs.map Sl.l) cols (pickL x.l cols)
      generalize pickL x.l cols = vs at HPK hfl
      generalize xs.map Sl.l = H at HT hH hml hfl
      have HFA : Hid (∀ W A d, TriR w n a b c H H H W → RdV W A vs → Calls Try.prog 13 #[.pointer (some ⟨a.r, 0, none⟩), .slice A4 cols.length c4, .slice A vs.length d] W (FindQ (findL n cols vs H) W)) := Lib.hid fun W A d hT hv => hT.f1 hn8 hH R4.out hv (by omega)
      have HFB : Hid (∀ W A d, TriR w n a b c H H H W → RdV W A vs → Calls Try.prog 13 #[.pointer (some ⟨b.r, 0, none⟩), .slice A4 cols.length c4, .slice A vs.length d] W (FindQ (findL n cols vs H) W)) := Lib.hid fun W A d hT hv => hT.f2 hn8 hH R4.out hv (by omega)
      have HFC : Hid (∀ W A d, TriR w n a b c H H H W → RdV W A vs → Calls Try.prog 13 #[.pointer (some ⟨c.r, 0, none⟩), .slice A4 cols.length c4, .slice A vs.length d] W (FindQ (findL n cols vs H) W)) := Lib.hid fun W A d hT hv => hT.f3 hn8 hH R4.out hv (by omega)
      have HLA : Hid (∀ W, TriR w n a b c H H H W → Calls Try.prog 15 #[.pointer (some ⟨a.r, 0, none⟩)] W (FindQ (puts (upto n) H) W)) := Lib.hid fun W hT => hT.l1 hn8 hH
      have HLC : Hid (∀ W, TriR w n a b c H H H W → Calls Try.prog 15 #[.pointer (some ⟨c.r, 0, none⟩)] W (FindQ (puts (upto n) H) W)) := Lib.hid fun W hT => hT.l3 hn8 hH
      have HUA : Hid (∀ W, TriR w n a b c H H H W → Calls Try.prog 16 #[.pointer (some ⟨a.r, 0, none⟩), .slice A4 cols.length c4] W fun e w' => (∃ k, e = .returned (.int .i64 k) ∧ k < (ps.length : Int)) ∧ Below W.heap.size W w') := Lib.hid fun W hT => by
        have := hT.u1 (cc := c4) R4.out (by omega)
        rw [HAP.out, List.length_map] at this; exact this
      have HUC : Hid (∀ W, TriR w n a b c H H H W → Calls Try.prog 16 #[.pointer (some ⟨c.r, 0, none⟩), .slice A4 cols.length c4] W fun e w' => e = .returned (.int .i64 (-1)) ∧ Below W.heap.size W w') := Lib.hid fun W hT => hT.u3 HCP.out R4.out (by omega)
      generalize puts (upto n) H = M at HLA HLC hml hfl
      generalize findL n cols vs H = L at HFA HFB HFC hfl
      have HSM : Hid (∀ (L : List (List V)), L.length ≤ 60 → ∀ W B C d c ys zs, RdL W B ys → RdL W C zs → lsOf ys = L → lsOf zs = L → Calls Try.prog 14 #[.slice B L.length d, .slice C L.length c] W fun e w' => e = .returned (.bool true) ∧ Below W.heap.size W w') := Lib.hid fun L hL W B C d c ys zs h1 h2 h3 h4 => by
        have l3 : ys.length = L.length := by rw [← h3]; simp [lsOf]
        have l4 : zs.length = L.length := by rw [← h4]; simp [lsOf]
        have := same_yes B C d c ys zs W h1 h2 (by rw [l3]; unfold maxLen; omega) (by rw [h3, h4])
        rwa [l3, l4] at this
      have hL : L.length ≤ 60 := by omega
      clear hfl m0 m1 hk hlt
      go_wp2_with (first
        | (go_at_call 12; refine (HPK.out _ HT.out.bw).mono ?_; rintro e w6 ⟨A6, d6, rfl, hv, _, hb⟩; have HT6 := Lib.hid (HT.out.on hb); have HV6 := Lib.hid hv; clear hv hb)
        | (go_at_call 13; first
          | ((with_reducible refine (HFC.out _ A6 d6 HT6.out HV6.out).mono ?_); rintro e w7 ⟨B7, d7, ys7, rfl, hy, he, hb⟩; have HT7 := Lib.hid (HT6.out.on hb); have HV7 := Lib.hid (HV6.out.on hb); have HY7 := Lib.hid hy; have HE7 := Lib.hid he; clear hy he hb)
          | ((with_reducible refine (HFA.out _ A6 d6 HT7.out HV7.out).mono ?_); rintro e w8 ⟨B8, d8, ys8, rfl, hy, he, hb⟩; have HT8 := Lib.hid (HT7.out.on hb); have HV8 := Lib.hid (HV7.out.on hb); have HZ8 := Lib.hid (HY7.out.on hb); have HY8 := Lib.hid hy; have HE8 := Lib.hid he; clear hy he hb)
          | ((with_reducible refine (HFB.out _ A6 d6 HT9.out HV9.out).mono ?_); rintro e w10 ⟨B10, d10, ys10, rfl, hy, he, hb⟩; have HT10 := Lib.hid (HT9.out.on hb); have HZ10 := Lib.hid (HZ9.out.on hb); have HY10 := Lib.hid hy; have HE10 := Lib.hid he; clear hy he hb))
        | (go_at_call 14; first
          | ((with_reducible refine (HSM.out L hL _ B8 B7 d8 d7 ys8 ys7 HY8.out HZ8.out HE8.out HE7.out).mono ?_); rintro e w9 ⟨rfl, hb⟩; have HT9 := Lib.hid (HT8.out.on hb); have HV9 := Lib.hid (HV8.out.on hb); have HZ9 := Lib.hid (HZ8.out.on hb); clear hb)
          | ((with_reducible refine (HSM.out L hL _ B10 B7 d10 d7 ys10 ys7 HY10.out HZ10.out HE10.out HE7.out).mono ?_); rintro e w11 ⟨rfl, hb⟩; have HT11 := Lib.hid (HT10.out.on hb); clear hb)
          | ((with_reducible refine (HSM.out M hml _ B12 B13 d12 d13 ys12 ys13 HY12.out HY13.out HE12.out HE13.out).mono ?_); rintro e w14 ⟨rfl, hb⟩; have HT14 := Lib.hid (HT13.out.on hb); clear hb))
        | (go_at_call 15; first
          | ((with_reducible refine (HLA.out _ HT11.out).mono ?_); rintro e w12 ⟨B12, d12, ys12, rfl, hy, he, hb⟩; have HT12 := Lib.hid (HT11.out.on hb); have HY11 := Lib.hid hy; have HE12 := Lib.hid he; clear hy he hb)
          | ((with_reducible refine (HLC.out _ HT12.out).mono ?_); rintro e w13 ⟨B13, d13, ys13, rfl, hy, he, hb⟩; have HT13 := Lib.hid (HT12.out.on hb); have HY12 := Lib.hid (HY11.out.on hb); have HY13 := Lib.hid hy; have HE13 := Lib.hid he; clear hy he hb))
        | (go_at_call 16; first
          | ((with_reducible refine (HUC.out _ HT14.out).mono ?_); rintro e w15 ⟨rfl, hb⟩; have HT15 := Lib.hid (HT14.out.on hb); clear hb)
          | ((with_reducible refine (HUA.out _ HT15.out).mono ?_); rintro e w16 ⟨⟨k16, rfl, hk16⟩, hb⟩; have HT16 := Lib.hid (HT15.out.on hb); clear hb)))
      go_ret
      exact ⟨by first | rfl | simp [hk16], HT16.out.bw⟩
theorem walk (A0 : Option Addr) (c0 : Nat) (ps : List IS) (A1 : Option Addr) (c1 : Nat) (qs : List IS) (A2 : Option Addr) (c2 : Nat) (xs : List Sl) (a3 : Int) (A4 : Option Addr) (c4 : Nat) (cols : List Int) (w : World) (r0 : RdP w A0 ps) (m0 : ps.length ≤ maxLen) (q0 : ∀ x ∈ ps, x.l.length ≤ x.c) (r1 : RdP w A1 qs) (m1 : qs.length ≤ maxLen) (q1 : ∀ x ∈ qs, x.l.length ≤ x.c) (r2 : RdL w A2 xs) (m2 : xs.length ≤ maxLen) (q2 : xs.length ≤ c2) (w3 : (Lit.int .u8 a3).wf = true) (r4 : RdI w A4 cols) (q4 : cols.length ≤ c4) (m4 : cols.length ≤ maxLen) (z4 : A4 = none → c4 = 0) :
    Calls Try.prog 3 #[.slice A0 ps.length c0, .slice A1 qs.length c1, .slice A2 xs.length c2, .int .u8 a3, .slice A4 cols.length c4] w fun e w' => e = .returned (.bool true) ∧ Below w.heap.size w w' := by
  by_cases h : fewR (ps.map IS.l) (xs.map Sl.l) = true ∧ fewR (qs.map IS.l) (xs.map Sl.l) = true ∧ ¬ 12 < (cols.length : Int) ∧ 0 < xs.length
  · obtain ⟨h1, h2, h3, h4⟩ := h
    have h5 : 0 ≤ a3 ∧ a3 < 256 := by simp [Lit.wf, IntKind.min, IntKind.max, IntKind.bits, IntKind.signed] at w3; omega
    obtain ⟨k3, rfl⟩ := Int.eq_ofNat_of_zero_le h5.1
    obtain ⟨ab, ao, rfl, hab, hrow⟩ : ∃ b o, A2 = some ⟨b, o, none⟩ ∧ b < w.heap.size ∧ ∀ j y, xs[j]? = some y → w.cell? ⟨b, o + j, none⟩ = some (.slice y.A y.l.length y.c) := by
      obtain ⟨b, o, rfl, hb, _⟩ := r2.at_ (List.getElem?_eq_getElem h4)
      refine ⟨b, o, rfl, hb, fun j x hx => ?_⟩
      obtain ⟨b', o', e, _, hc⟩ := r2.at_ hx
      injection e with e; injection e with e1 e2 _; subst e1 e2; exact hc
    have HFP : Hid (∀ W, Below w.heap.size w W → Calls Try.prog 9 #[.slice A0 ps.length c0, .slice (some ⟨ab, ao, none⟩) xs.length c2] W fun e w' => e = .returned (.bool true) ∧ W = w') := Lib.hid fun W hW => by
      have := fewR_any A0 (some ⟨ab, ao, none⟩) c0 c2 ps xs W (r0.on hW) (r2.on hW) m0 m2
      rw [h1] at this; exact this
    have HFQ : Hid (∀ W, Below w.heap.size w W → Calls Try.prog 9 #[.slice A1 qs.length c1, .slice (some ⟨ab, ao, none⟩) xs.length c2] W fun e w' => e = .returned (.bool true) ∧ W = w') := Lib.hid fun W hW => by
      have := fewR_any A1 (some ⟨ab, ao, none⟩) c1 c2 qs xs W (r1.on hW) (r2.on hW) m1 m2
      rw [h2] at this; exact this
    obtain ⟨_, f2, f3, f4⟩ := fewR_yes h1
    obtain ⟨_, _, f5, _⟩ := fewR_yes h2
    rw [List.length_map] at f3 f4 f5
    have hne' : ((xs.length : Int) == 0) = false := by rw [beq_eq_false_iff_ne]; omega
    obtain ⟨x0, hx0⟩ : ∃ x, xs[0]? = some x := ⟨_, List.getElem?_eq_getElem h4⟩
    obtain ⟨x, hx⟩ : ∃ x, xs[k3 % xs.length]? = some x := ⟨_, List.getElem?_eq_getElem (Nat.mod_lt _ h4)⟩
    have l0 : x0.l.length ≤ 12 := f2 _ (List.mem_map.2 ⟨x0, List.mem_of_getElem? hx0, rfl⟩)
    have lx : x.l.length ≤ 12 := f2 _ (List.mem_map.2 ⟨x, List.mem_of_getElem? hx, rfl⟩)
    have cx : w.cell? ⟨ab, ao, none⟩ = some (.slice x0.A x0.l.length x0.c) := by simpa using hrow 0 x0 hx0
    generalize x0.l.length = n at l0 cx
    have bad : ∀ E1 E2 E3, relE (n : Int) (ps.map IS.l) = E1 → relE (n : Int) (qs.map IS.l) = E2 → relE (n : Int) [] = E3 → (8 < n ∧ E1 = 1 ∨ ¬ 8 < n ∧ (E1 = 1 ∨ E1 = 0 ∧ E2 = 1)) → _ := fun E1 E2 E3 e1 e2 e3 h => walk_bad A0 A1 A4 c0 c1 c2 c4 ab ao x0.c n x0.A ps qs xs (k3 : Int) E1 E2 E3 cols w r0 (by omega) r1 (by omega) HFP HFQ h3 hne' hab cx l0 e1 e2 e3 h
    by_cases h8 : 8 < n
    · exact bad _ _ _ rfl rfl rfl (.inl ⟨h8, relE_big h8 _⟩)
    · rcases relE_cases (n : Int) (ps.map IS.l) with e1 | e1
      · rcases relE_cases (n : Int) (qs.map IS.l) with e2 | e2
        · exact walk_yes A0 A1 A4 c0 c1 c2 c4 ab ao x0.c n k3 _ x0.A ps qs xs x cols w r0 (by omega) r1 (by omega) r2 (by omega) r4 HFP HFQ h3 hne' hab cx (relE_good e1).1 (relE_good e1).2 (relE_good e2).2 hrow rfl (by omega) hx lx
        · exact bad _ _ _ e1 e2 rfl (.inr ⟨h8, .inr ⟨rfl, rfl⟩⟩)
      · exact bad _ _ _ e1 rfl rfl (.inr ⟨h8, .inl rfl⟩)
  · refine walk_no A0 A1 A2 A4 c0 c1 c2 c4 ps qs xs a3 cols w r0 m0 r1 m1 r2 m2 ?_
    cases hf : fewR (ps.map IS.l) (xs.map Sl.l) <;> cases hg : fewR (qs.map IS.l) (xs.map Sl.l) <;> simp [hf, hg] at h ⊢
    by_cases hc : (cols.length : Int) ≤ 12
    · exact .inr ⟨hc, h hc⟩
    · exact .inl (by omega)

theorem own : ownKnob Try.prog.godebug = none := by kernel_rfl

set_option maxRecDepth 100000 in
theorem lifted (os : Os) (started : os.Started) (H : Type) (enc : TypeId × Value → H) :
    ReturnsInHanded {} Try.checked os 3 .any (Rows.relIndexesSpec.pre6 enc Try.prog Try.f3 Rows.relIndexesRow.domain false) (Rows.relIndexesSpec.post enc Try.prog Try.f3 false true false false) := by
  refine returnsInHanded_of_change (C := Try.checked) own started (by kernel_rfl) Try.func3
    (ChangeSpec.witness6 (enc := enc) (C := Try.checked) false ⟨#[], #[.slice none 0 0, .slice none 0 0, .slice none 0 0, .int .u8 0, .slice none 0 0], []⟩ 8 (by kernel_rfl) (by kernel_rfl) (by kernel_rfl) (by kernel_rfl)) ?_
  intro W base args ds gs before hval0 hW hcnd _
  have hval : ∀ (j : Nat) t v, Try.f3.params[j]? = some t → args[j]? = some v → Value.okWide Try.prog W .any base t v := hval0
  have hW' := hW
  obtain ⟨p, q, hA0, hV, rfl, hfz, hnd⟩ := hW
  have hA : DataW.TrodAll enc Try.prog W 0 (fun _ => true) true Try.f3.params.toList args.toList ds p := hA0
  have hAk := hA
  rw [Try.params3] at hA hval
  obtain ⟨v0, vs0, d0, ds0, p0, q0, hargs, rfl, rfl, h0, r0⟩ := trodAll_cons hA
  obtain ⟨v1, vs1, d1, ds1, p1, q1, rfl, rfl, rfl, h1, r1⟩ := trodAll_cons r0
  obtain ⟨v2, vs2, d2, ds2, p2, q2, rfl, rfl, rfl, h2, r2⟩ := trodAll_cons r1
  obtain ⟨v3, vs3, d3, ds3, p3, q3, rfl, rfl, rfl, h3, r3⟩ := trodAll_cons r2
  obtain ⟨v4, vs4, d4, ds4, p4, q4, rfl, rfl, rfl, h4, r4⟩ := trodAll_cons r3
  obtain ⟨rfl, rfl, rfl⟩ := trodAll_nil r4
  obtain rfl : args = #[v0, v1, v2, v3, v4] := by cases args; simp_all
  obtain ⟨rfl, rfl⟩ := trodVars_none hV
  obtain ⟨A0, c0, l0, rfl, r0', m0', q0'⟩ := open_perms (okWide_slice Try.underlying22 (hval 0 22 v0 rfl rfl)) h0
  obtain ⟨A1, c1, l1, rfl, r1', m1', q1'⟩ := open_perms (okWide_slice Try.underlying22 (hval 1 22 v1 rfl rfl)) h1
  obtain ⟨A2, c2, l2, rfl, r2', m2', q2'⟩ := open_tups (okWide_slice Try.underlying23 (hval 2 23 v2 rfl rfl)) h2
  obtain ⟨a3, rfl, rfl, rfl, w3⟩ := open_int Try.underlying5 (hval 3 5 v3 rfl rfl) h3
  obtain ⟨A4, c4, l4, rfl, r4', q4', m4', z4'⟩ := open_nums (okWide_slice Try.underlying24 (hval 4 24 v4 rfl rfl)) h4
  clear hA0 hval0
  refine (walk A0 c0 l0 A1 c1 l1 A2 c2 l2 a3 A4 c4 l4 W r0' m0' q0' r1' m1' q1' r2' m2' q2' w3 r4' q4' m4' z4').mono fun e W' ⟨he, hg⟩ => ?_
  subst he
  refine ⟨_, rfl, post_old hW' (by simpa using hAk) (by rw [Try.params3]; decide) (fun _ _ _ => (trodAll_cons_mk (shut_bool Try.underlying4 _) trodAll_mk0)) rfl (fun _ => rfl) hg⟩

theorem proved : Rows.RelIndexesSaid :=
  OpenClaim.holds_of_wide 3 Try.f3 rfl rfl rfl rfl rfl rfl rfl ⟨rfl, rfl, rfl, rfl, rfl⟩ rfl rfl rfl rfl rfl (by kernel_rfl) Try.func3 (by kernel_rfl)
    (of_decide_eq_true (by kernel_rfl)) (by unfold Func.isWrapper; first | (rw [if_pos (by decide +kernel)]; kernel_rfl) | (rw [if_neg (by decide +kernel)]; exact ⟨rfl, rfl⟩))
    (fun os started H enc _ => lifted os started H enc)
#print axioms proved
end Go.Proofs.Ytjelpoheeaecmaa.relIndexes

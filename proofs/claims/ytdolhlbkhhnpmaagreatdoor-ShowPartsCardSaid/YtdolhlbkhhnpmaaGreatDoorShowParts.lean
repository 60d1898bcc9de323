/-
  ShowParts (layer 9, show): for every program the call returns true: a program's text is its rules', line by line, and its question's; each rule by itself is parsed with any question. No condition.
-/
import Derived.Test.YtdolhlbkhhnpmaaGreatDoorRows
import Derived.Test.YtdolhlbkhhnpmaaGreatDoorCards
import Derived.Test.YtdolhlbkhhnpmaaGreatDoorTie
import Derived.Test.YtdolhlbkhhnpmaaGreatDoorShwSm
import Derived.Test.YtdolhlbkhhnpmaaGreatDoorShwLit
import Derived.Test.YtdolhlbkhhnpmaaGreatDoorShwIn
import Derived.WalkKit
import Derived.ProofKit
import Derived.OpenShut
import Derived.LaidMore
import Derived.Lay
import Derived.SevenTiedAt
import Derived.Stop.Joined
import Derived.RegionTactic
import Derived.BigQuiet
import Derived.Lib.QuietBelow
import Derived.Deep.RegionHeld3
import Derived.Deep.MidRow
import Derived.Deep.CutRange
import Derived.Deep.DeepCutAuto
namespace Go.Proofs.YtdolhlbkhhnpmaaGreatDoor.showParts
open Go.ChangeShapes Go.WideShapes Go.ChangeAt Go.RowKit FloM ValM Go.Shelf
set_option linter.unusedVariables false
set_option linter.unusedSimpArgs false
theorem rule_alone {x : RlI} (h : ruleX litX x ≠ []) (hok : x.ok) (hlen : (ruleX litX x).length ≤ 19993) : TellsP (bs (ruleX litX x ++ [32, 63, 45, 32, 120, 46])) ⟨[rlOf x], ⟨[120], []⟩⟩ 0 0 := by
  obtain ⟨T, a1, a2, hp⟩ := rule_reads h hok 0
  have h0 := parse_all (bs (ruleX litX x ++ [32, 63, 45, 32, 120, 46])) (by rw [bs_size]; simp; omega)
  have ht := a1 [32, 63, 45, 32, 120, 46]
  generalize ruleX litX x = R at *
  have hq : toksL (0 + R.length) [32, 63, 45, 32, 120, 46] = .good [⟨4, [63, 45], 0 + R.length + 1⟩, ⟨1, [120], 0 + R.length + 1 + 2 + 1⟩, ⟨4, [46], 0 + R.length + 1 + 2 + 1 + 1⟩] := by
    rw [toks_space]
    show toksL _ ([63, 45] ++ 32 :: ([120] ++ [46])) = _
    rw [toks_ask, toks_space, toks_name (by decide) (stop_one (by simp) _), toks_one1 (by simp), toks_end (l := []) rfl]
    rfl
  rw [hq] at ht
  rw [ls_bs, ht] at h0
  generalize 0 + R.length + 1 + 2 + 1 + 1 = q3 at *
  generalize 0 + R.length + 1 + 2 + 1 = q2 at *
  generalize 0 + R.length + 1 = q1 at *
  have e : ∀ z, progS z (Rs.lay (⟨1, x.h.p, 0⟩ :: T) (.good [⟨4, [63, 45], q1⟩, ⟨1, [120], q2⟩, ⟨4, [46], q3⟩])) = .ok ⟨[rlOf x], ⟨[120], []⟩⟩ [] := fun z => by
    show wholeP progP z (⟨1, x.h.p, 0⟩ :: T ++ [⟨4, [63, 45], q1⟩, ⟨1, [120], q2⟩, ⟨4, [46], q3⟩]) = _
    unfold wholeP progP
    obtain ⟨n, hN⟩ : ∃ n, many = n + 1 := ⟨20009, rfl⟩
    rw [hN]
    have a3 := a2 z [⟨4, [63, 45], q1⟩, ⟨1, [120], q2⟩, ⟨4, [46], q3⟩]
    have hh : hdT z (⟨1, x.h.p, 0⟩ :: T ++ [⟨4, [63, 45], q1⟩, ⟨1, [120], q2⟩, ⟨4, [46], q3⟩]) = ⟨1, x.h.p, 0⟩ := rfl
    have hr : rulesL z (n + 1) [] (⟨1, x.h.p, 0⟩ :: T ++ [⟨4, [63, 45], q1⟩, ⟨1, [120], q2⟩, ⟨4, [46], q3⟩]) = .ok [rlOf x] [⟨4, [63, 45], q1⟩, ⟨1, [120], q2⟩, ⟨4, [46], q3⟩] := by
      conv => lhs; unfold rulesL
      rw [hh, if_pos (pred_tokT hp 0), if_neg (show ¬ ([] : List Rl).length = 200 by decide), a3]
      simp only [Ans.bind, List.nil_append]
      exact rulesL_end rfl n _
    rw [hr]
    simp only [Ans.bind]
    rw [want9]
    simp only
    rfl
  rw [e] at h0
  exact h0
theorem rule_said (x : RlI) (W : World) (hx : x.rd W) (hok : x.ok) : Calls Tryz.prog 9 #[.agg #[.string (bs x.h.p), .slice x.h.A x.h.a.length x.h.c, .int .i64 x.f, .slice x.A x.b.length x.c]] W fun e w' => e = .returned (.string (bs (ruleX litX x))) ∧ Below W.heap.size W w' :=
  rule9_any x W hx hok litX (lit_h hx hok) (fun y hy => by have := litX_len (hok.2.2 y hy); omega)
def SameRl (y : RlI) (V : World) : Prop := ∀ Y : RlA, Y.rd V → Y.rl = rlOf y → Calls Tryz.prog 18 #[.agg #[.string (bs Y.h.p), .slice Y.h.A Y.h.a.length Y.h.c, .int .i64 (Y.f : Int), .slice Y.A Y.b.length Y.c], .agg #[.string (bs y.h.p), .slice y.h.A y.h.a.length y.h.c, .int .i64 y.f, .slice y.A y.b.length y.c]] V fun e w' => e = .returned (.bool true) ∧ Below V.heap.size V w'
theorem one_rule {X : PgA} {r : Rl} {q : Am} (h : X.pg = ⟨[r], q⟩) : ∃ Y, X.r = [Y] ∧ Y.rl = r := by
  have h1 : X.r.map RlA.rl = [r] := congrArg Pg.r h
  obtain ⟨Y, e, h2⟩ := List.map_eq_singleton_iff.1 h1
  exact ⟨Y, e, h2⟩
theorem rlI_er (Y : RlA) : (rlI Y).er = rlE Y.rl := by
  unfold RlI.er rlE rlI RlA.rl
  simp only [List.map_map]
  congr 1
theorem same_rl {y : RlI} {V : World} (hy : y.rd V) (hok : y.ok) (ht : ruleX litX y ≠ []) : SameRl y V := fun Y hY hp => by
  have h := sameRule9_yes (rlI Y) y V (rlI_rd hY) hy (by rw [rlI_er, hp, rl_er ht hok])
  have e : (rlI Y).b.length = Y.b.length := List.length_map _
  rw [e] at h
  exact h
set_option maxRecDepth 20000 in
set_option maxHeartbeats 16000000 in
theorem walk (x : PgI) (w : World) (hr : x.rd w) (hk : x.ok) :
    Calls Tryz.prog 6 #[.agg #[.slice x.A x.r.length x.c, .string (bs x.q.p), .slice x.q.A x.q.a.length x.q.c]] w fun e w' => e = .returned (.bool true) ∧ Below w.heap.size w w' := by
  go_enter Tryz.func6, Tryz.ntmps6
  go_upto_region 1 with fail
  generalize hW0 : World.alloc w _ = W0
  have hb0 : Below w.heap.size w W0 := hW0 ▸ (Below.refl _ _).alloc (Nat.le_refl _) _
  have hr0 : Row 27 W0 w.heap.size [.slice x.A x.r.length x.c, .string (bs x.q.p), .slice x.q.A x.q.a.length x.q.c] := by rw [← hW0]; exact row_new w _
  have hx0 := hr.on hb0
  have hlt0 : w.heap.size < W0.heap.size := hr0.lt
  clear hW0
  have HB0 := Lib.hid hb0; have HR0 := Lib.hid hr0; have HX0 := Lib.hid hx0; have HK := Lib.hid hk
  have HFew : Hid (∀ V, Below W0.heap.size W0 V → Calls Tryz.prog 8 #[.agg #[.slice x.A x.r.length x.c, .string (bs x.q.p), .slice x.q.A x.q.a.length x.q.c], .int .i64 12, .int .i64 14] V (AnyB V)) := Lib.hid fun V hV => few9_any x V (hx0.on hV)
  have HText : Hid (∀ V, Below W0.heap.size W0 V → Calls Tryz.prog 11 #[.agg #[.slice x.A x.r.length x.c, .string (bs x.q.p), .slice x.q.A x.q.a.length x.q.c]] V fun e w' => e = .returned (.string (bs (textX litX x))) ∧ Below V.heap.size V w') := Lib.hid fun V hV => showText_any x V (hx0.on hV) hk
  have HRight : Hid (∀ V, Below W0.heap.size W0 V → Calls Tryz.prog 13 #[.agg #[.slice x.A x.r.length x.c, .string (bs x.q.p), .slice x.q.A x.q.a.length x.q.c]] V fun e w' => e = .returned (.bool (decide (textX litX x ≠ []))) ∧ Below V.heap.size V w') := Lib.hid fun V hV => showRight_any x V (hx0.on hV) hk
  have HAtom : Hid (∀ V, Below W0.heap.size W0 V → Calls Tryz.prog 14 #[.agg #[.string (bs x.q.p), .slice x.q.A x.q.a.length x.q.c]] V fun e w' => e = .returned (.string (bs (atomX x.q))) ∧ Below V.heap.size V w') := Lib.hid fun V hV => atom9_any x.q V (AmA.rd.on hx0.2.2 hV) hk.2
  have h4 : Below W0.heap.size W0 W0 := Below.refl _ _
  have p0 := hr0.cell 0; have p1 := hr0.cell 1; have p2 := hr0.cell 2
  simp only [List.getElem?_cons_zero, List.getElem?_cons_succ] at p0 p1 p2
  have hmx : x.r.length ≤ 9223372036854775807 := Nat.le_trans hr.1.1 (by decide)
  by_cases ht : textX litX x = []
  · rw [show decide (textX litX x ≠ []) = false by simp [ht]] at HRight
    clear ht hr hk hx0 hb0 hr0 HText HAtom
    go_wp2_with (first
      | (go_at_call 7; refine (awake9_any _).mono ?_; rintro e w1 ⟨rfl, h'⟩; replace h4 := on h4 h'; replace p0 := (rowOn HR0.out h4).cell 0; replace p1 := (rowOn HR0.out h4).cell 1; replace p2 := (rowOn HR0.out h4).cell 2; simp only [List.getElem?_cons_zero, List.getElem?_cons_succ] at p0 p1 p2; clear h')
      | (go_at_call 8; refine (HFew.out _ h4).mono ?_; rintro e w2 ⟨fb, rfl, h'⟩; replace h4 := on h4 h'; replace p0 := (rowOn HR0.out h4).cell 0; replace p1 := (rowOn HR0.out h4).cell 1; replace p2 := (rowOn HR0.out h4).cell 2; simp only [List.getElem?_cons_zero, List.getElem?_cons_succ] at p0 p1 p2; clear h')
      | (go_at_call 13; refine (HRight.out _ h4).mono ?_; rintro e w2 ⟨rfl, h'⟩; replace h4 := on h4 h'; replace p0 := (rowOn HR0.out h4).cell 0; replace p1 := (rowOn HR0.out h4).cell 1; replace p2 := (rowOn HR0.out h4).cell 2; simp only [List.getElem?_cons_zero, List.getElem?_cons_succ] at p0 p1 p2; clear h'))
    all_goals
      go_ret
      exact ⟨rfl, on HB0.out h4⟩
  · rw [show decide (textX litX x ≠ []) = true by simp [ht]] at HRight
    have hts := text_some (show textT (x.r.map (lineX litX)) (queryX x.q) ≠ [] from ht)
    obtain ⟨h200, hin, hq, hlen, hte⟩ := hts
    obtain ⟨hqi, hqe⟩ := wholeX_some (show wholeX [[63, 45, 32], atomX x.q, [46, 10]] ≠ [] from hq)
    have HLINE : Hid (∀ y ∈ x.r, ruleX litX y ≠ [] ∧ lineX litX y = ruleX litX y ++ [10]) := Lib.hid fun y hy => line_some (fun e => hin (List.mem_map.2 ⟨y, hy, e⟩))
    have HLEN : Hid ((x.r.map (lineX litX)).flatten.length ≤ 19994) := Lib.hid (by
      have h6 : 6 ≤ (queryX x.q).length := by
        unfold queryX
        rw [hqe]
        have : (atomX x.q).length ≠ 0 := fun e => hqi (by simp [List.eq_nil_of_length_eq_zero e])
        simp; omega
      omega)
    have HEND : Hid (textX litX x = (x.r.map (lineX litX)).flatten ++ [63, 45, 32] ++ atomX x.q ++ [46, 10]) := Lib.hid (by
      show textT (x.r.map (lineX litX)) (queryX x.q) = _
      rw [hte]
      unfold queryX
      rw [hqe]; simp)
    have hal := headX_len (p := x.q.p) (fold := 0) hk.2.2
    have hal2 : (atomX x.q).length ≤ 600 := hal
    clear hr hk hx0 hb0 hr0 ht h200 hin hq hlen hte hqi hqe hal
    go_upto_region 7 with (first
      | (go_at_call 7; refine (awake9_any _).mono ?_; rintro e w1 ⟨rfl, h'⟩; replace h4 := on h4 h'; replace p0 := (rowOn HR0.out h4).cell 0; replace p1 := (rowOn HR0.out h4).cell 1; replace p2 := (rowOn HR0.out h4).cell 2; simp only [List.getElem?_cons_zero, List.getElem?_cons_succ] at p0 p1 p2; clear h')
      | (go_at_call 8; refine (HFew.out _ h4).mono ?_; rintro e w2 ⟨fb, rfl, h'⟩; replace h4 := on h4 h'; replace p0 := (rowOn HR0.out h4).cell 0; replace p1 := (rowOn HR0.out h4).cell 1; replace p2 := (rowOn HR0.out h4).cell 2; simp only [List.getElem?_cons_zero, List.getElem?_cons_succ] at p0 p1 p2; clear h')
      | (go_at_call 13; refine (HRight.out _ h4).mono ?_; rintro e w2 ⟨rfl, h'⟩; replace h4 := on h4 h'; replace p0 := (rowOn HR0.out h4).cell 0; replace p1 := (rowOn HR0.out h4).cell 1; replace p2 := (rowOn HR0.out h4).cell 2; simp only [List.getElem?_cons_zero, List.getElem?_cons_succ] at p0 p1 p2; clear h'))
    all_goals first
      | (go_wp2; go_ret; exact ⟨rfl, on HB0.out h4⟩)
      | skip
    go_loopw [3, 23] (fun sv vi wr => ∃ k : Nat, vi = .int .i64 (k : Nat) ∧ k ≤ x.r.length ∧ sv = .string (bs ((x.r.map (lineX litX)).take k).flatten) ∧ Below W0.heap.size W0 wr) (fun _ v _ => x.r.length - (intOf v).toNat)
    case atStart => exact ⟨0, rfl, Nat.zero_le _, rfl, h4⟩
    case round =>
      obtain ⟨k, rfl, hk, rfl, h4⟩ := hrel
      have H4 := Lib.hid h4
      have p0 := (rowOn HR0.out h4).cell 0; have p1 := (rowOn HR0.out h4).cell 1; have p2 := (rowOn HR0.out h4).cell 2
      simp only [List.getElem?_cons_zero, List.getElem?_cons_succ] at p0 p1 p2
      obtain ⟨F, hF⟩ : ∃ F, ((x.r.map (lineX litX)).take k).flatten = F := ⟨_, rfl⟩
      have hFl : F.length ≤ 19994 := by
        have e : F.length + (((x.r.map (lineX litX)).drop k).flatten).length = (x.r.map (lineX litX)).flatten.length := by
          rw [← hF, ← List.length_append, ← List.flatten_append, List.take_append_drop]
        have := HLEN.out
        omega
      rw [hF]
      by_cases hlt : k < x.r.length
      · obtain ⟨y, hy⟩ : ∃ y, x.r[k]? = some y := ⟨_, List.getElem?_eq_getElem hlt⟩
        have hym := List.mem_of_getElem? hy
        obtain ⟨b, o, hA, hbl, hc⟩ := HX0.out.1.2 k y hy
        have hyr : y.rd W0 := HX0.out.2.1 y hym
        have hyo : y.ok := HK.out.1 y hym
        obtain ⟨hye, hyl⟩ := HLINE.out y hym
        have HRU : Hid (∀ V, Below W0.heap.size W0 V → Calls Tryz.prog 9 #[.agg #[.string (bs y.h.p), .slice y.h.A y.h.a.length y.h.c, .int .i64 y.f, .slice y.A y.b.length y.c]] V fun e w' => e = .returned (.string (bs (ruleX litX y))) ∧ Below V.heap.size V w') := Lib.hid fun V hV => rule_said y V (hyr.on hV) hyo
        have HSR : Hid (∀ V, Below W0.heap.size W0 V → SameRl y V) := Lib.hid fun V hV => same_rl (hyr.on hV) hyo hye
        have hnx : ((x.r.map (lineX litX)).take (k + 1)).flatten = F ++ (ruleX litX y ++ [10]) := by
          rw [List.take_add_one, List.getElem?_map, hy, List.flatten_append, hF, ← hyl]
          simp
        have hRl : (ruleX litX y).length ≤ 19993 := by
          have e : ((x.r.map (lineX litX)).take (k + 1)).flatten.length + (((x.r.map (lineX litX)).drop (k + 1)).flatten).length = (x.r.map (lineX litX)).flatten.length := by
            rw [← List.length_append, ← List.flatten_append, List.take_append_drop]
          rw [hnx] at e
          simp only [List.length_append, List.length_cons, List.length_nil] at e
          have := HLEN.out
          omega
        have HPar := Lib.hid (rule_alone hye hyo hRl)
        have HNX := Lib.hid hnx
        have x0 := (keep h4 _ _ hbl).trans (hc 0 _ rfl); have x1 := (keep h4 _ _ hbl).trans (hc 1 _ rfl); have x2 := (keep h4 _ _ hbl).trans (hc 2 _ rfl); have x3 := (keep h4 _ _ hbl).trans (hc 3 _ rfl)
        rw [Nat.add_zero] at x0
        rw [hA] at p0
        have HC := Lib.hid hc; have HA := Lib.hid hA; have HBL := Lib.hid hbl
        clear hF hnx hye hyl hyr hyo hym hy hc hA hbl p1 p2
        generalize ruleX litX y = R at *
        have k1 := add_bs1 R 10 (by omega)
        have k2 := add_bs F (R ++ [10]) (by simp; omega)
        have k3 : ∀ w, (Op.stringOp .add (bs R) ⟨#[32, 63, 45, 32, 120, 46]⟩).run Tryz.prog w = .ok (.string (bs (R ++ [32, 63, 45, 32, 120, 46]))) w := fun w => add_bs R [32, 63, 45, 32, 120, 46] (by simp; omega) w
        clear hRl hFl
        go_upto_region 12 with (first
          | (go_at_call 9; refine (HRU.out _ h4).mono ?_; rintro e w2 ⟨rfl, h'⟩; replace h4 := on h4 h'; clear h' p0 x0 x1 x2 x3)
          | (go_at_call 16; refine (HPar.out _).mono ?_; rintro e w3 ⟨X, hpg, rfl, hXok, h'⟩; have HXR := Lib.hid (PgA.ok.rd hXok); have HPG := Lib.hid hpg; replace h4 := on h4 h'; clear h' hXok hpg))
        obtain ⟨Y, hY, hYr⟩ := one_rule HPG.out
        have hXl : X.r.length = 1 := by rw [hY]; rfl
        rw [hXl]
        generalize hW5 : World.alloc w3 _ = W5
        have h5 : Below W0.heap.size W0 W5 := hW5 ▸ h4.alloc h4.size _
        have hw5 : Below w3.heap.size w3 W5 := hW5 ▸ (Below.refl _ _).alloc (Nat.le_refl _) _
        have rX : Row 27 W5 w3.heap.size [.slice X.A 1 X.c, .string (bs X.q.p), .slice X.q.A X.q.a.length X.q.c] := by rw [← hW5]; exact row_new w3 _
        clear hW5
        obtain ⟨g4, o4, hA4, hg4, hc4⟩ := (HXR.out.on hw5).1.2 0 Y (by rw [hY]; rfl)
        have hYrd : Y.rd W5 := (HXR.out.on hw5).2.1 Y (by rw [hY]; exact List.mem_singleton.2 rfl)
        have hb5 := Nat.lt_of_lt_of_le HBL.out h5.size
        have HSY : Hid (∀ V, Below W5.heap.size W5 V → Calls Tryz.prog 18 #[.agg #[.string (bs Y.h.p), .slice Y.h.A Y.h.a.length Y.h.c, .int .i64 (Y.f : Int), .slice Y.A Y.b.length Y.c], .agg #[.string (bs y.h.p), .slice y.h.A y.h.a.length y.h.c, .int .i64 y.f, .slice y.A y.b.length y.c]] V fun e w' => e = .returned (.bool true) ∧ Below V.heap.size V w') := Lib.hid fun V hV => HSR.out V (on h5 hV) Y (hYrd.on hV) hYr
        have HS : Hid (∀ t, Below W5.heap.size W5 t → (Below W5.heap.size W5 t ∧ t.cell? ⟨w3.heap.size, 0, none⟩ = some (.slice (some ⟨g4, o4, none⟩) 1 X.c) ∧ t.cell? ⟨w.heap.size, 0, none⟩ = some (.slice (some ⟨b, o, none⟩) x.r.length x.c) ∧ t.cell? ⟨g4, o4, none⟩ = some (.string (bs Y.h.p)) ∧ t.cell? ⟨g4, o4 + 1, none⟩ = some (.slice Y.h.A Y.h.a.length Y.h.c) ∧ t.cell? ⟨g4, o4 + 2, none⟩ = some (.int .i64 (Y.f : Int)) ∧ t.cell? ⟨g4, o4 + 3, none⟩ = some (.slice Y.A Y.b.length Y.c) ∧ t.cell? ⟨b, o + k * 4, none⟩ = some (.string (bs y.h.p)) ∧ t.cell? ⟨b, o + k * 4 + 1, none⟩ = some (.slice y.h.A y.h.a.length y.h.c) ∧ t.cell? ⟨b, o + k * 4 + 2, none⟩ = some (.int .i64 y.f) ∧ t.cell? ⟨b, o + k * 4 + 3, none⟩ = some (.slice y.A y.b.length y.c))) := Lib.hid fun t ht => ⟨ht, by rw [(rowOn rX ht).cell 0, ← hA4]; rfl, by rw [(rowOn HR0.out (on h5 ht)).cell 0, ← HA.out]; rfl, (keep ht _ _ hg4).trans (hc4 0 _ rfl), (keep ht _ _ hg4).trans (hc4 1 _ rfl), (keep ht _ _ hg4).trans (hc4 2 _ rfl), (keep ht _ _ hg4).trans (hc4 3 _ rfl), (keep (on h5 ht) _ _ HBL.out).trans (HC.out 0 _ rfl), (keep (on h5 ht) _ _ HBL.out).trans (HC.out 1 _ rfl), (keep (on h5 ht) _ _ HBL.out).trans (HC.out 2 _ rfl), (keep (on h5 ht) _ _ HBL.out).trans (HC.out 3 _ rfl)⟩
        have H5 := Lib.hid h5
        have hs0 : w.heap.size < W5.heap.size := Nat.lt_of_lt_of_le hlt0 h5.size
        have hs3 : w3.heap.size < W5.heap.size := rX.lt
        replace h4 : Below W5.heap.size W5 W5.drew := (Below.refl _ _).drew
        clear hY hYr hXl hA4 hc4 hYrd hw5 rX h5 HPG HXR HSR HRU HPar
        go_region_held3 (fun t => Below W5.heap.size W5 t ∧ t.cell? ⟨w3.heap.size, 0, none⟩ = some (.slice (some ⟨g4, o4, none⟩) 1 X.c) ∧ t.cell? ⟨w.heap.size, 0, none⟩ = some (.slice (some ⟨b, o, none⟩) x.r.length x.c) ∧ t.cell? ⟨g4, o4, none⟩ = some (.string (bs Y.h.p)) ∧ t.cell? ⟨g4, o4 + 1, none⟩ = some (.slice Y.h.A Y.h.a.length Y.h.c) ∧ t.cell? ⟨g4, o4 + 2, none⟩ = some (.int .i64 (Y.f : Int)) ∧ t.cell? ⟨g4, o4 + 3, none⟩ = some (.slice Y.A Y.b.length Y.c) ∧ t.cell? ⟨b, o + k * 4, none⟩ = some (.string (bs y.h.p)) ∧ t.cell? ⟨b, o + k * 4 + 1, none⟩ = some (.slice y.h.A y.h.a.length y.h.c) ∧ t.cell? ⟨b, o + k * 4 + 2, none⟩ = some (.int .i64 y.f) ∧ t.cell? ⟨b, o + k * 4 + 3, none⟩ = some (.slice y.A y.b.length y.c))
          (exact HS.out _ (by first | exact Below.refl _ _ | exact h4))
          ((go_at_call 18; refine (HSY.out _ h4).mono ?_; rintro e w6 ⟨rfl, h'⟩; replace h4 := on h4 h'; clear h'))
        all_goals
          go_wp2
          go_roundw
          case rel => exact ⟨k + 1, by go_num, by omega, by rw [HNX.out], on H5.out h4⟩
          case measure => simp [intOf]; omega
      · obtain rfl : k = x.r.length := by omega
        have hFe : (x.r.map (lineX litX)).flatten = F := by rw [← hF, List.take_of_length_le (by simp)]
        have HT2 : Hid (∀ V, Below W0.heap.size W0 V → Calls Tryz.prog 11 #[.agg #[.slice x.A x.r.length x.c, .string (bs x.q.p), .slice x.q.A x.q.a.length x.q.c]] V fun e w' => e = .returned (.string (bs (F ++ [63, 45, 32] ++ atomX x.q ++ [46, 10]))) ∧ Below V.heap.size V w') := Lib.hid fun V hV => by
          have h := HText.out V hV
          rw [HEND.out, hFe] at h
          exact h
        generalize atomX x.q = T at *
        have k1 : ∀ w, (Op.stringOp .add (bs F) ⟨#[63, 45, 32]⟩).run Tryz.prog w = .ok (.string (bs (F ++ [63, 45, 32]))) w := fun w => add_bs F [63, 45, 32] (by simp; omega) w
        have k2 := add_bs (F ++ [63, 45, 32]) T (by simp; omega)
        have k3 : ∀ w, (Op.stringOp .add (bs (F ++ [63, 45, 32] ++ T)) ⟨#[46, 10]⟩).run Tryz.prog w = .ok (.string (bs (F ++ [63, 45, 32] ++ T ++ [46, 10]))) w := fun w => add_bs (F ++ [63, 45, 32] ++ T) [46, 10] (by simp; omega) w
        generalize F ++ [63, 45, 32] ++ T ++ [46, 10] = S3 at *
        generalize F ++ [63, 45, 32] ++ T = S2 at *
        generalize F ++ [63, 45, 32] = S1 at *
        have HS : Hid (∀ t, Below wr.heap.size wr t → (Below wr.heap.size wr t ∧ t.cell? ⟨w.heap.size, 0, none⟩ = some (.slice x.A x.r.length x.c) ∧ t.cell? ⟨w.heap.size, 1, none⟩ = some (.string (bs x.q.p)) ∧ t.cell? ⟨w.heap.size, 2, none⟩ = some (.slice x.q.A x.q.a.length x.q.c))) := Lib.hid fun t ht => ⟨ht, (rowOn HR0.out (on H4.out ht)).cell 0, (rowOn HR0.out (on H4.out ht)).cell 1, (rowOn HR0.out (on H4.out ht)).cell 2⟩
        have hs0 : w.heap.size < wr.heap.size := Nat.lt_of_lt_of_le hlt0 h4.size
        replace h4 : Below wr.heap.size wr wr.drew := (Below.refl _ _).drew
        clear hF hFe hFl HText HEND p0 p1 p2
        go_upto_region 15 with fail
        go_region_held3 (fun t => Below wr.heap.size wr t ∧ t.cell? ⟨w.heap.size, 0, none⟩ = some (.slice x.A x.r.length x.c) ∧ t.cell? ⟨w.heap.size, 1, none⟩ = some (.string (bs x.q.p)) ∧ t.cell? ⟨w.heap.size, 2, none⟩ = some (.slice x.q.A x.q.a.length x.q.c))
          (exact HS.out _ (by first | exact Below.refl _ _ | exact h4))
          ((first
            | (go_at_call 11; refine (HT2.out _ (on H4.out h4)).mono ?_; rintro e w6 ⟨rfl, h'⟩; replace h4 := on h4 h'; clear h')
            | (go_at_call 14; refine (HAtom.out _ (on H4.out h4)).mono ?_; rintro e w6 ⟨rfl, h'⟩; replace h4 := on h4 h'; clear h')))
        all_goals
          go_wp2
          go_ret
          exact ⟨by simp, on HB0.out (on H4.out h4)⟩

theorem own : ownKnob Tryz.prog.godebug = none := by kernel_rfl

set_option maxRecDepth 100000 in
theorem lifted (os : Os) (started : os.Started) (H : Type) (enc : TypeId × Value → H) :
    ReturnsInHanded {} Tryz.checked os 6 .any (fun w args => (Rows.showPartsSpec.pre enc Tryz.prog Tryz.f6 Rows.showPartsRow.domain false w args ∧ laidMetH Tryz.prog Rows.showPartsRow.laid w) ∧ sizedMet enc Tryz.prog Tryz.f6 (OpenSpec.ofChange Rows.showPartsSpec) false w args) (Rows.showPartsSpec.post enc Tryz.prog Tryz.f6 false true false false) := by
  refine returnsInHanded_of_change_and (C := Tryz.checked) (X := fun w _ => laidMetH Tryz.prog Rows.showPartsRow.laid w) (fun _ _ _ hh h => h.of_heap hh) own started (by kernel_rfl) Tryz.func6
    (ChangeSpec.witness_shaped (enc := enc) (C := Tryz.checked) (os := os) (X := fun w _ => laidMetH Tryz.prog Rows.showPartsRow.laid w) false (World.laidAll Tryz.prog os Rows.showPartsRow.laid) #[.agg #[.slice none 0 0, .string ByteArray.empty, .slice none 0 0]] 8 (World.laidAll_os _ _ _)
      (World.shaped_of_ZipB (by kernel_rfl) (by kernel_rfl)) (by kernel_rfl) (by kernel_rfl) (by kernel_rfl)
      (by rw [MakeChecks.laidMetH_plain _ _ _ (by kernel_rfl)]; exact laidMet_laidAll _ (by kernel_rfl) (by kernel_rfl))) ?_
  intro W base args ds gs before hval0 hW hcnd _ hL _
  have hval : ∀ (j : Nat) t v, Tryz.f6.params[j]? = some t → args[j]? = some v → Value.okWide Tryz.prog W .any base t v := hval0
  have hW' := hW
  obtain ⟨p, q, hA0, hV, rfl, hfz, hnd⟩ := hW
  have hA : DataW.TrodAll enc Tryz.prog W 0 (fun _ => true) true Tryz.f6.params.toList args.toList ds p := hA0
  have hAk := hA
  rw [Tryz.params6] at hA hval
  obtain ⟨v0, vs0, d0, ds0, p0, q0, hargs, rfl, rfl, h0, r0⟩ := trodAll_cons hA
  obtain ⟨rfl, rfl, rfl⟩ := trodAll_nil r0
  obtain rfl : args = #[v0] := by cases args; simp_all
  obtain ⟨rfl, rfl⟩ := trodVars_none hV
  obtain ⟨x0, rfl, r0', k0'⟩ := open_prog (okWide_struct Tryz.underlying27 (hval 0 27 v0 rfl rfl)) h0
  clear hA0 hval0
  refine (walk x0 W r0' k0').mono fun e W' ⟨he, hg⟩ => ?_
  subst he
  refine ⟨_, rfl, post_old hW' (by simpa using hAk) (by rw [Tryz.params6]; decide) (fun _ _ _ => (trodAll_cons_mk (shut_bool Tryz.underlying4 _) trodAll_mk0)) rfl (fun _ => rfl) hg⟩

theorem row_proved : Rows.ShowPartsSaid :=
  OpenClaim.holds_of_wide 6 Tryz.f6 rfl rfl rfl rfl rfl rfl rfl ⟨rfl, rfl, rfl, rfl, rfl⟩ rfl rfl rfl rfl rfl (by kernel_rfl) Tryz.func6 (by kernel_rfl)
    (of_decide_eq_true (by kernel_rfl)) (by unfold Func.isWrapper; first | (rw [if_pos (by decide +kernel)]; kernel_rfl) | (rw [if_neg (by decide +kernel)]; exact ⟨rfl, rfl⟩))
    (fun os started H enc _ => lifted os started H enc)
theorem proved : Rows.ShowPartsCardSaid :=
  Claim7.holds_tied_plain_at .later [] Rows.showPartsCard.laidKinds Rows.showPartsCard.laidTests Rows.showPartsCard.stood.harness Rows.showPartsCard.stood.looks row_proved (fun _ h => by cases h) (by kernel_rfl) (fun _ h => by cases h) showParts_row_tie rfl ⟨rfl, rfl⟩ (by kernel_rfl) rfl
    (fun f fn hf hfn => by
      obtain rfl : f = 6 := Option.some.inj ((show Tryz.prog.funcNamed "antecedent/antecedentlaw09.ShowParts" = some 6 by kernel_rfl).symm.trans hf) |>.symm
      obtain rfl : fn = Tryz.f6 := (Option.some.inj (Tryz.func6.symm.trans hfn)).symm
      exact ⟨by kernel_rfl, fun j t ht => by
        rw [Tryz.params6] at ht
        have hm : t ∈ [27] := by simpa using Array.mem_of_getElem? ht
        have hall : ([27].all fun u => !Tryz.prog.wantsStandIn u) = true := by kernel_rfl
        exact (show Tryz.prog.wantsStandIn t = false by simpa using List.all_eq_true.1 hall t hm)⟩)
    (by kernel_rfl)
#print axioms proved
end Go.Proofs.YtdolhlbkhhnpmaaGreatDoor.showParts

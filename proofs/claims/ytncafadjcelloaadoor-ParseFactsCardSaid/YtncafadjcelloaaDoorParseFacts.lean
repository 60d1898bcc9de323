/-
  ParseFacts (layer 8, parse): for every text the call returns true: an atom is read alike as a fact, as a question, and, with not ahead of it, or without, as a literal. No condition.
-/
import Derived.Test.YtncafadjcelloaaDoorRows
import Derived.Test.YtncafadjcelloaaDoorCards
import Derived.Test.YtncafadjcelloaaDoorTie
import Derived.Test.YtncafadjcelloaaDoorPrsSin
import Derived.Test.YtncafadjcelloaaDoorPrsTop
import Derived.WalkKit
import Derived.ProofKit
import Derived.OpenShut
import Derived.LaidMore
import Derived.Lay
import Derived.SevenTiedAt
import Derived.Stop.Joined
import Derived.RegionTactic
import Derived.BigQuiet
import Derived.Lib.QuietBelow
import Derived.Deep.RegionHeld3
import Derived.Deep.MidRow
import Derived.Deep.CutRange
import Derived.Deep.DeepCutAuto
namespace Go.Proofs.YtncafadjcelloaaDoor.parseFacts
open Go.ChangeShapes Go.WideShapes Go.ChangeAt Go.RowKit FloM ValM Go.Shelf
set_option linter.unusedVariables false
set_option linter.unusedSimpArgs false
theorem sz_app (s t : ByteArray) : (s ++ t).size = s.size + t.size := by rw [← ls_len, ls_append, List.length_append, ls_len, ls_len]
theorem len_of {X : PgA} {p : Pg} (h : X.pg = p) : X.r.length = p.r.length := by rw [← h]; simp [PgA.pg]
theorem progS_k (z : Nat) (R : Rs) (h : ¬ rK (progS z R) = 0) : rK (progS z R) = 2 ∨ rK (progS z R) = 3 ∨ rK (progS z R) = 4 := by
  cases R with
  | bad n => exact .inl rfl
  | good ts =>
    have e' : progS z (.good ts) = wholeP progP z ts := rfl
    rw [e'] at h ⊢
    cases e : wholeP progP z ts with
    | ok x r => rw [e] at h; exact absurd rfl h
    | no a k => exact whole_nq prog_nq z ts a k e
abbrev twoR (q : Am) : List Rl := [⟨q, 0, []⟩, ⟨⟨[120], []⟩, 0, [⟨1, q, [], tm0, tm0, tm0, []⟩, ⟨2, q, [], tm0, tm0, tm0, []⟩]⟩]
theorem facts_same {s : ByteArray} (hs : s.size ≤ 375) {z1 z2 : Nat} (h1 : rK (progS z1 (toksL 0 (factL (ls s)))) = 0) (h2 : rK (progS z2 (toksL 0 (ruleL2 (ls s)))) = 0) (hr : (rP (progS z1 (toksL 0 (factL (ls s))))).r = []) :
    (rP (progS z2 (toksL 0 (ruleL2 (ls s))))).r = twoR (rP (progS z1 (toksL 0 (factL (ls s))))).q := by
  obtain ⟨x, e1, ts1, g1, p1⟩ := progS_nz _ _ h1
  obtain ⟨y, e2, ts2, g2, p2⟩ := progS_nz _ _ h2
  rw [e1] at hr
  rw [e1, e2]
  have hl : (factL (ls s)).length ≤ 400 := by simp only [factL, List.length_append, ls_len, List.length_cons, List.length_nil]; omega
  cases hS : toksL 0 (ls s) with
  | bad n => obtain ⟨m, hm⟩ := (toks_fact (ls s)).1 n hS; rw [hm] at g1; cases g1
  | good T =>
    obtain ⟨q0, T1, d1, c1, c2, c3, c4⟩ := (toks_fact (ls s)).2 T hS
    obtain ⟨T2, T3, T4, d2, x2, i2, c2', n2, d3, R, f1, f2, f3, f4, f5, f6, f7, f8, f9, f10, f11⟩ := toks_rule2 hS
    rw [c1] at g1; injection g1 with g1; subst g1
    rw [f1] at g2; injection g2 with g2; subst g2
    have ho := okt_of c1 (by omega)
    have hn := toks_few c1
    exact facts_rules p1 p2 hr c3 c4 f5 f6 f7 f8 f9 f10 ((Eqv.symm c2).trans f2) ((Eqv.symm c2).trans f3) ((Eqv.symm c2).trans f4) ho (by omega) (fun t ht => cmp_kind c1 t (by simp [ht])) (f11 z2)
theorem facts_form {Y : PgA} {q : Am} {p : Pg} (h : Y.pg = p) (hp : p.r = twoR q) : ∃ y0 y1 l0 l1, Y.r = [y0, y1] ∧ y1.b = [l0, l1] ∧ y0.f = 0 ∧ y0.h.am = q ∧ l0.k = 1 ∧ l0.m.am = q ∧ l1.k = 2 ∧ l1.m.am = q := by
  have h1 : Y.r.map RlA.rl = twoR q := by rw [← hp, ← h]; rfl
  obtain ⟨y0, r0, e0, e1, e2⟩ := List.map_eq_cons_iff.1 h1
  obtain ⟨y1, r1, e3, e4, e5⟩ := List.map_eq_cons_iff.1 e2
  obtain rfl := List.map_eq_nil_iff.1 e5
  subst e3
  unfold RlA.rl at e1 e4
  injection e1 with k1 k2 k3
  injection e4 with m1 m2 m3
  obtain ⟨l0, b0, n0, n1, n2⟩ := List.map_eq_cons_iff.1 m3
  obtain ⟨l1, b1, n3, n4, n5⟩ := List.map_eq_cons_iff.1 n2
  obtain rfl := List.map_eq_nil_iff.1 n5
  subst n3
  exact ⟨y0, y1, l0, l1, e0, n0, k2, k1, congrArg Lt.k n1, congrArg Lt.m n1, congrArg Lt.k n4, congrArg Lt.m n4⟩
theorem facts_cells {Y : PgA} {W : World} {base : Nat} {y0 y1 : RlA} {l0 l1 : LtA} (hok : Y.ok W base) (hr : Y.r = [y0, y1]) (hb : y1.b = [l0, l1]) (hf : y0.f = 0) (hk0 : l0.k = 1) (hk1 : l1.k = 2) :
    ∃ gy gb, Y.A = some ⟨gy, 0, none⟩ ∧ y1.A = some ⟨gb, 0, none⟩ ∧ gy < W.heap.size ∧ gb < W.heap.size ∧
      W.cell? ⟨gy, 0, none⟩ = some (.string (bs y0.h.p)) ∧ W.cell? ⟨gy, 1, none⟩ = some (.slice y0.h.A y0.h.a.length y0.h.c) ∧ W.cell? ⟨gy, 2, none⟩ = some (.int .i64 0) ∧
      W.cell? ⟨gy, 4, none⟩ = some (.string (bs y1.h.p)) ∧ W.cell? ⟨gy, 5, none⟩ = some (.slice y1.h.A y1.h.a.length y1.h.c) ∧ W.cell? ⟨gy, 6, none⟩ = some (.int .i64 (y1.f : Int)) ∧ W.cell? ⟨gy, 7, none⟩ = some (.slice (some ⟨gb, 0, none⟩) 2 y1.c) ∧
      W.cell? ⟨gb, 0, none⟩ = some (.int .i64 1) ∧ W.cell? ⟨gb, 1, none⟩ = some (.string (bs l0.m.p)) ∧ W.cell? ⟨gb, 2, none⟩ = some (.slice l0.m.A l0.m.a.length l0.m.c) ∧
      W.cell? ⟨gb, 17, none⟩ = some (.int .i64 2) ∧ W.cell? ⟨gb, 18, none⟩ = some (.string (bs l1.m.p)) ∧ W.cell? ⟨gb, 19, none⟩ = some (.slice l1.m.A l1.m.a.length l1.m.c) := by
  have h1 := hok.1
  unfold OwnX at h1
  rw [hr] at h1
  obtain ⟨gy, eA, _, hgy, hc⟩ := own_cells h1 (by simp)
  have hx := (hok.2.1 y1 (by rw [hr]; simp)).2.1
  unfold OwnX at hx
  rw [hb] at hx
  obtain ⟨gb, eB, _, hgb, hd⟩ := own_cells hx (by simp)
  refine ⟨gy, gb, eA, eB, hgy, hgb, hc 0 _ rfl, hc 1 _ rfl, ?_, hc 4 _ rfl, hc 5 _ rfl, hc 6 _ rfl, ?_, ?_, hd 1 _ rfl, hd 2 _ rfl, ?_, hd 18 _ rfl, hd 19 _ rfl⟩
  · have := hc 2 (.int .i64 (y0.f : Int)) rfl
    rw [this, hf]; rfl
  · have := hc 7 (.slice y1.A y1.b.length y1.c) rfl
    rw [this, eB, hb]; rfl
  · have := hd 0 (.int .i64 (l0.k : Int)) rfl
    rw [this, hk0]; rfl
  · have := hd 17 (.int .i64 (l1.k : Int)) rfl
    rw [this, hk1]; rfl
set_option maxRecDepth 20000 in
set_option maxHeartbeats 4000000 in
theorem walk_long (a0 : ByteArray) (w : World) (h0 : 375 < (a0.size : Int)) :
    Calls Tryd.prog 7 #[.string a0] w fun e w' => e = .returned (.bool true) ∧ Below w.heap.size w w' := by
  have hB := Below.refl w.heap.size w
  go_enter Tryd.func7, Tryd.ntmps7
  go_wp2_with (go_at_call 10; refine (awake8_any _).mono ?_; rintro e w1 ⟨rfl, h'⟩; replace hB := on hB h'; clear h')
  go_ret
  exact ⟨rfl, hB⟩
set_option maxRecDepth 20000 in
set_option maxHeartbeats 16000000 in
theorem walk_a2 (a0 : ByteArray) (w : World) (h0 : ¬ 375 < (a0.size : Int)) (p q : Pg) (a b : Nat) (m : Nat) (TA : Hid (TellsP (⟨#[63, 45, 32]⟩ ++ a0 ++ ⟨#[46]⟩) p a 2)) (TB : Hid (TellsP (a0 ++ ⟨#[46, 32, 120, 32, 58, 45, 32]⟩ ++ a0 ++ ⟨#[44, 32, 110, 111, 116, 32]⟩ ++ a0 ++ ⟨#[46, 32, 63, 45, 32, 120, 46]⟩) q b m)) :
    Calls Tryd.prog 7 #[.string a0] w fun e w' => e = .returned (.bool true) ∧ Below w.heap.size w w' := by
  have hB := Below.refl w.heap.size w
  have e1 : ((ByteArray.mk #[63, 45, 32]) ++ a0).size = 3 + a0.size := sz_app _ _
  have x1 : ¬ 9223372036854775807 < (ByteArray.mk #[63, 45, 32]).size + a0.size := by show ¬ 9223372036854775807 < 3 + a0.size; omega
  have x2 : ¬ 9223372036854775807 < ((ByteArray.mk #[63, 45, 32]) ++ a0).size + (ByteArray.mk #[46]).size := by rw [e1]; show ¬ 9223372036854775807 < 3 + a0.size + 1; omega
  have e2 : (a0 ++ (ByteArray.mk #[46, 32, 120, 32, 58, 45, 32])).size = a0.size + 7 := sz_app _ _
  have e3 : (a0 ++ (ByteArray.mk #[46, 32, 120, 32, 58, 45, 32]) ++ a0).size = a0.size + 7 + a0.size := by rw [sz_app, e2]
  have e4 : (a0 ++ (ByteArray.mk #[46, 32, 120, 32, 58, 45, 32]) ++ a0 ++ (ByteArray.mk #[44, 32, 110, 111, 116, 32])).size = a0.size + 7 + a0.size + 6 := by rw [sz_app, e3]; rfl
  have e5 : (a0 ++ (ByteArray.mk #[46, 32, 120, 32, 58, 45, 32]) ++ a0 ++ (ByteArray.mk #[44, 32, 110, 111, 116, 32]) ++ a0).size = a0.size + 7 + a0.size + 6 + a0.size := by rw [sz_app, e4]
  have x3 : ¬ 9223372036854775807 < a0.size + (ByteArray.mk #[46, 32, 120, 32, 58, 45, 32]).size := by show ¬ 9223372036854775807 < a0.size + 7; omega
  have x4 : ¬ 9223372036854775807 < (a0 ++ (ByteArray.mk #[46, 32, 120, 32, 58, 45, 32])).size + a0.size := by omega
  have x5 : ¬ 9223372036854775807 < (a0 ++ (ByteArray.mk #[46, 32, 120, 32, 58, 45, 32]) ++ a0).size + (ByteArray.mk #[44, 32, 110, 111, 116, 32]).size := by rw [e3]; show ¬ 9223372036854775807 < a0.size + 7 + a0.size + 6; omega
  have x6 : ¬ 9223372036854775807 < (a0 ++ (ByteArray.mk #[46, 32, 120, 32, 58, 45, 32]) ++ a0 ++ (ByteArray.mk #[44, 32, 110, 111, 116, 32])).size + a0.size := by omega
  have x7 : ¬ 9223372036854775807 < (a0 ++ (ByteArray.mk #[46, 32, 120, 32, 58, 45, 32]) ++ a0 ++ (ByteArray.mk #[44, 32, 110, 111, 116, 32]) ++ a0).size + (ByteArray.mk #[46, 32, 63, 45, 32, 120, 46]).size := by rw [e5]; show ¬ 9223372036854775807 < a0.size + 7 + a0.size + 6 + a0.size + 7; omega
  clear e1 e2 e3 e4 e5
  go_enter Tryd.func7, Tryd.ntmps7
  go_upto_region 5 with (first
    | (go_at_call 10; refine (awake8_any _).mono ?_; rintro e w1 ⟨rfl, h'⟩; replace hB := on hB h'; clear h')
    | (go_at_call 11; with_reducible refine (TA.out _).mono ?_; rintro e w2 ⟨X, hX, rfl, hok, hb⟩; have HX := Lib.hid hX; have OKX := Lib.hid hok; replace hB := on hB hb; clear hX hb hok)
    | (refine wpList_storeR rfl 28 (.tmp 3) _ rfl w2.heap.size 0 rfl (.agg (pgC X).toArray) rfl (pgC X) rfl (pre := []) (old := [.slice none 0 0, .string ByteArray.empty, .slice none 0 0]) (post := []) (row_new w2 [.slice none 0 0, .string ByteArray.empty, .slice none 0 0]) rfl rfl (by kernel_rfl) rfl ?_; intro w3 hR hF hs; have hbs : Below w2.heap.size w2 w3 := ((Below.refl _ _).alloc (Nat.le_refl _) _).trans ((hF _).below (Nat.le_refl _) fun k hk e => by omega); have R3 : Hid (Row 28 w3 w2.heap.size (pgC X)) := Lib.hid hR; have R3c := pg_c0 hR; have OKX := Lib.hid (OKX.out.onB hbs); replace hB := on hB hbs; clear hR hF hs hbs)
    | (go_at_call 11; with_reducible refine (TB.out _).mono ?_; rintro e w4 ⟨Y, hX, rfl, hok, hb⟩; have HY := Lib.hid hX; have OKY := Lib.hid hok; have R3 := Lib.hid (rowOn R3.out hb); have R3c := pg_c0 R3.out; have OKX := Lib.hid (OKX.out.onB hb); replace hB := on hB hb; clear hX hb hok)
    | (refine wpList_storeR rfl 28 (.tmp 6) _ rfl w4.heap.size 0 rfl (.agg (pgC Y).toArray) rfl (pgC Y) rfl (pre := []) (old := [.slice none 0 0, .string ByteArray.empty, .slice none 0 0]) (post := []) (row_new w4 [.slice none 0 0, .string ByteArray.empty, .slice none 0 0]) rfl rfl (by kernel_rfl) rfl ?_; intro w5 hR hF hs; have hbs : Below w4.heap.size w4 w5 := ((Below.refl _ _).alloc (Nat.le_refl _) _).trans ((hF _).below (Nat.le_refl _) fun k hk e => by omega); have R6 : Hid (Row 28 w5 w4.heap.size (pgC Y)) := Lib.hid hR; have R6c := pg_c0 hR; have OKX := Lib.hid (OKX.out.onB hbs); have OKY := Lib.hid (OKY.out.onB hbs); have R3 := Lib.hid (rowOn R3.out hbs); have R3c := pg_c0 R3.out; replace hB := on hB hbs; clear hR hF hs hbs))
  clear TA TB
  go_wp2
  go_ret
  exact ⟨rfl, hB⟩
set_option maxRecDepth 20000 in
set_option maxHeartbeats 16000000 in
theorem walk_b2 (a0 : ByteArray) (w : World) (h0 : ¬ 375 < (a0.size : Int)) (p q : Pg) (a b : Nat) (TA : Hid (TellsP (⟨#[63, 45, 32]⟩ ++ a0 ++ ⟨#[46]⟩) p a 0)) (TB : Hid (TellsP (a0 ++ ⟨#[46, 32, 120, 32, 58, 45, 32]⟩ ++ a0 ++ ⟨#[44, 32, 110, 111, 116, 32]⟩ ++ a0 ++ ⟨#[46, 32, 63, 45, 32, 120, 46]⟩) q b 2)) :
    Calls Tryd.prog 7 #[.string a0] w fun e w' => e = .returned (.bool true) ∧ Below w.heap.size w w' := by
  have hB := Below.refl w.heap.size w
  have e1 : ((ByteArray.mk #[63, 45, 32]) ++ a0).size = 3 + a0.size := sz_app _ _
  have x1 : ¬ 9223372036854775807 < (ByteArray.mk #[63, 45, 32]).size + a0.size := by show ¬ 9223372036854775807 < 3 + a0.size; omega
  have x2 : ¬ 9223372036854775807 < ((ByteArray.mk #[63, 45, 32]) ++ a0).size + (ByteArray.mk #[46]).size := by rw [e1]; show ¬ 9223372036854775807 < 3 + a0.size + 1; omega
  have e2 : (a0 ++ (ByteArray.mk #[46, 32, 120, 32, 58, 45, 32])).size = a0.size + 7 := sz_app _ _
  have e3 : (a0 ++ (ByteArray.mk #[46, 32, 120, 32, 58, 45, 32]) ++ a0).size = a0.size + 7 + a0.size := by rw [sz_app, e2]
  have e4 : (a0 ++ (ByteArray.mk #[46, 32, 120, 32, 58, 45, 32]) ++ a0 ++ (ByteArray.mk #[44, 32, 110, 111, 116, 32])).size = a0.size + 7 + a0.size + 6 := by rw [sz_app, e3]; rfl
  have e5 : (a0 ++ (ByteArray.mk #[46, 32, 120, 32, 58, 45, 32]) ++ a0 ++ (ByteArray.mk #[44, 32, 110, 111, 116, 32]) ++ a0).size = a0.size + 7 + a0.size + 6 + a0.size := by rw [sz_app, e4]
  have x3 : ¬ 9223372036854775807 < a0.size + (ByteArray.mk #[46, 32, 120, 32, 58, 45, 32]).size := by show ¬ 9223372036854775807 < a0.size + 7; omega
  have x4 : ¬ 9223372036854775807 < (a0 ++ (ByteArray.mk #[46, 32, 120, 32, 58, 45, 32])).size + a0.size := by omega
  have x5 : ¬ 9223372036854775807 < (a0 ++ (ByteArray.mk #[46, 32, 120, 32, 58, 45, 32]) ++ a0).size + (ByteArray.mk #[44, 32, 110, 111, 116, 32]).size := by rw [e3]; show ¬ 9223372036854775807 < a0.size + 7 + a0.size + 6; omega
  have x6 : ¬ 9223372036854775807 < (a0 ++ (ByteArray.mk #[46, 32, 120, 32, 58, 45, 32]) ++ a0 ++ (ByteArray.mk #[44, 32, 110, 111, 116, 32])).size + a0.size := by omega
  have x7 : ¬ 9223372036854775807 < (a0 ++ (ByteArray.mk #[46, 32, 120, 32, 58, 45, 32]) ++ a0 ++ (ByteArray.mk #[44, 32, 110, 111, 116, 32]) ++ a0).size + (ByteArray.mk #[46, 32, 63, 45, 32, 120, 46]).size := by rw [e5]; show ¬ 9223372036854775807 < a0.size + 7 + a0.size + 6 + a0.size + 7; omega
  clear e1 e2 e3 e4 e5
  go_enter Tryd.func7, Tryd.ntmps7
  go_upto_region 5 with (first
    | (go_at_call 10; refine (awake8_any _).mono ?_; rintro e w1 ⟨rfl, h'⟩; replace hB := on hB h'; clear h')
    | (go_at_call 11; with_reducible refine (TA.out _).mono ?_; rintro e w2 ⟨X, hX, rfl, hok, hb⟩; have HX := Lib.hid hX; have OKX := Lib.hid hok; replace hB := on hB hb; clear hX hb hok)
    | (refine wpList_storeR rfl 28 (.tmp 3) _ rfl w2.heap.size 0 rfl (.agg (pgC X).toArray) rfl (pgC X) rfl (pre := []) (old := [.slice none 0 0, .string ByteArray.empty, .slice none 0 0]) (post := []) (row_new w2 [.slice none 0 0, .string ByteArray.empty, .slice none 0 0]) rfl rfl (by kernel_rfl) rfl ?_; intro w3 hR hF hs; have hbs : Below w2.heap.size w2 w3 := ((Below.refl _ _).alloc (Nat.le_refl _) _).trans ((hF _).below (Nat.le_refl _) fun k hk e => by omega); have R3 : Hid (Row 28 w3 w2.heap.size (pgC X)) := Lib.hid hR; have R3c := pg_c0 hR; have OKX := Lib.hid (OKX.out.onB hbs); replace hB := on hB hbs; clear hR hF hs hbs)
    | (go_at_call 11; with_reducible refine (TB.out _).mono ?_; rintro e w4 ⟨Y, hX, rfl, hok, hb⟩; have HY := Lib.hid hX; have OKY := Lib.hid hok; have R3 := Lib.hid (rowOn R3.out hb); have R3c := pg_c0 R3.out; have OKX := Lib.hid (OKX.out.onB hb); replace hB := on hB hb; clear hX hb hok)
    | (refine wpList_storeR rfl 28 (.tmp 6) _ rfl w4.heap.size 0 rfl (.agg (pgC Y).toArray) rfl (pgC Y) rfl (pre := []) (old := [.slice none 0 0, .string ByteArray.empty, .slice none 0 0]) (post := []) (row_new w4 [.slice none 0 0, .string ByteArray.empty, .slice none 0 0]) rfl rfl (by kernel_rfl) rfl ?_; intro w5 hR hF hs; have hbs : Below w4.heap.size w4 w5 := ((Below.refl _ _).alloc (Nat.le_refl _) _).trans ((hF _).below (Nat.le_refl _) fun k hk e => by omega); have R6 : Hid (Row 28 w5 w4.heap.size (pgC Y)) := Lib.hid hR; have R6c := pg_c0 hR; have OKX := Lib.hid (OKX.out.onB hbs); have OKY := Lib.hid (OKY.out.onB hbs); have R3 := Lib.hid (rowOn R3.out hbs); have R3c := pg_c0 R3.out; replace hB := on hB hbs; clear hR hF hs hbs))
  clear TA TB
  go_wp2
  go_ret
  exact ⟨rfl, hB⟩
set_option maxRecDepth 20000 in
set_option maxHeartbeats 16000000 in
theorem walk_a3 (a0 : ByteArray) (w : World) (h0 : ¬ 375 < (a0.size : Int)) (p q : Pg) (a b : Nat) (m : Nat) (TA : Hid (TellsP (⟨#[63, 45, 32]⟩ ++ a0 ++ ⟨#[46]⟩) p a 3)) (TB : Hid (TellsP (a0 ++ ⟨#[46, 32, 120, 32, 58, 45, 32]⟩ ++ a0 ++ ⟨#[44, 32, 110, 111, 116, 32]⟩ ++ a0 ++ ⟨#[46, 32, 63, 45, 32, 120, 46]⟩) q b m)) :
    Calls Tryd.prog 7 #[.string a0] w fun e w' => e = .returned (.bool true) ∧ Below w.heap.size w w' := by
  have hB := Below.refl w.heap.size w
  have e1 : ((ByteArray.mk #[63, 45, 32]) ++ a0).size = 3 + a0.size := sz_app _ _
  have x1 : ¬ 9223372036854775807 < (ByteArray.mk #[63, 45, 32]).size + a0.size := by show ¬ 9223372036854775807 < 3 + a0.size; omega
  have x2 : ¬ 9223372036854775807 < ((ByteArray.mk #[63, 45, 32]) ++ a0).size + (ByteArray.mk #[46]).size := by rw [e1]; show ¬ 9223372036854775807 < 3 + a0.size + 1; omega
  have e2 : (a0 ++ (ByteArray.mk #[46, 32, 120, 32, 58, 45, 32])).size = a0.size + 7 := sz_app _ _
  have e3 : (a0 ++ (ByteArray.mk #[46, 32, 120, 32, 58, 45, 32]) ++ a0).size = a0.size + 7 + a0.size := by rw [sz_app, e2]
  have e4 : (a0 ++ (ByteArray.mk #[46, 32, 120, 32, 58, 45, 32]) ++ a0 ++ (ByteArray.mk #[44, 32, 110, 111, 116, 32])).size = a0.size + 7 + a0.size + 6 := by rw [sz_app, e3]; rfl
  have e5 : (a0 ++ (ByteArray.mk #[46, 32, 120, 32, 58, 45, 32]) ++ a0 ++ (ByteArray.mk #[44, 32, 110, 111, 116, 32]) ++ a0).size = a0.size + 7 + a0.size + 6 + a0.size := by rw [sz_app, e4]
  have x3 : ¬ 9223372036854775807 < a0.size + (ByteArray.mk #[46, 32, 120, 32, 58, 45, 32]).size := by show ¬ 9223372036854775807 < a0.size + 7; omega
  have x4 : ¬ 9223372036854775807 < (a0 ++ (ByteArray.mk #[46, 32, 120, 32, 58, 45, 32])).size + a0.size := by omega
  have x5 : ¬ 9223372036854775807 < (a0 ++ (ByteArray.mk #[46, 32, 120, 32, 58, 45, 32]) ++ a0).size + (ByteArray.mk #[44, 32, 110, 111, 116, 32]).size := by rw [e3]; show ¬ 9223372036854775807 < a0.size + 7 + a0.size + 6; omega
  have x6 : ¬ 9223372036854775807 < (a0 ++ (ByteArray.mk #[46, 32, 120, 32, 58, 45, 32]) ++ a0 ++ (ByteArray.mk #[44, 32, 110, 111, 116, 32])).size + a0.size := by omega
  have x7 : ¬ 9223372036854775807 < (a0 ++ (ByteArray.mk #[46, 32, 120, 32, 58, 45, 32]) ++ a0 ++ (ByteArray.mk #[44, 32, 110, 111, 116, 32]) ++ a0).size + (ByteArray.mk #[46, 32, 63, 45, 32, 120, 46]).size := by rw [e5]; show ¬ 9223372036854775807 < a0.size + 7 + a0.size + 6 + a0.size + 7; omega
  clear e1 e2 e3 e4 e5
  go_enter Tryd.func7, Tryd.ntmps7
  go_upto_region 5 with (first
    | (go_at_call 10; refine (awake8_any _).mono ?_; rintro e w1 ⟨rfl, h'⟩; replace hB := on hB h'; clear h')
    | (go_at_call 11; with_reducible refine (TA.out _).mono ?_; rintro e w2 ⟨X, hX, rfl, hok, hb⟩; have HX := Lib.hid hX; have OKX := Lib.hid hok; replace hB := on hB hb; clear hX hb hok)
    | (refine wpList_storeR rfl 28 (.tmp 3) _ rfl w2.heap.size 0 rfl (.agg (pgC X).toArray) rfl (pgC X) rfl (pre := []) (old := [.slice none 0 0, .string ByteArray.empty, .slice none 0 0]) (post := []) (row_new w2 [.slice none 0 0, .string ByteArray.empty, .slice none 0 0]) rfl rfl (by kernel_rfl) rfl ?_; intro w3 hR hF hs; have hbs : Below w2.heap.size w2 w3 := ((Below.refl _ _).alloc (Nat.le_refl _) _).trans ((hF _).below (Nat.le_refl _) fun k hk e => by omega); have R3 : Hid (Row 28 w3 w2.heap.size (pgC X)) := Lib.hid hR; have R3c := pg_c0 hR; have OKX := Lib.hid (OKX.out.onB hbs); replace hB := on hB hbs; clear hR hF hs hbs)
    | (go_at_call 11; with_reducible refine (TB.out _).mono ?_; rintro e w4 ⟨Y, hX, rfl, hok, hb⟩; have HY := Lib.hid hX; have OKY := Lib.hid hok; have R3 := Lib.hid (rowOn R3.out hb); have R3c := pg_c0 R3.out; have OKX := Lib.hid (OKX.out.onB hb); replace hB := on hB hb; clear hX hb hok)
    | (refine wpList_storeR rfl 28 (.tmp 6) _ rfl w4.heap.size 0 rfl (.agg (pgC Y).toArray) rfl (pgC Y) rfl (pre := []) (old := [.slice none 0 0, .string ByteArray.empty, .slice none 0 0]) (post := []) (row_new w4 [.slice none 0 0, .string ByteArray.empty, .slice none 0 0]) rfl rfl (by kernel_rfl) rfl ?_; intro w5 hR hF hs; have hbs : Below w4.heap.size w4 w5 := ((Below.refl _ _).alloc (Nat.le_refl _) _).trans ((hF _).below (Nat.le_refl _) fun k hk e => by omega); have R6 : Hid (Row 28 w5 w4.heap.size (pgC Y)) := Lib.hid hR; have R6c := pg_c0 hR; have OKX := Lib.hid (OKX.out.onB hbs); have OKY := Lib.hid (OKY.out.onB hbs); have R3 := Lib.hid (rowOn R3.out hbs); have R3c := pg_c0 R3.out; replace hB := on hB hbs; clear hR hF hs hbs))
  clear TA TB
  go_wp2
  go_ret
  exact ⟨rfl, hB⟩
set_option maxRecDepth 20000 in
set_option maxHeartbeats 16000000 in
theorem walk_b3 (a0 : ByteArray) (w : World) (h0 : ¬ 375 < (a0.size : Int)) (p q : Pg) (a b : Nat) (TA : Hid (TellsP (⟨#[63, 45, 32]⟩ ++ a0 ++ ⟨#[46]⟩) p a 0)) (TB : Hid (TellsP (a0 ++ ⟨#[46, 32, 120, 32, 58, 45, 32]⟩ ++ a0 ++ ⟨#[44, 32, 110, 111, 116, 32]⟩ ++ a0 ++ ⟨#[46, 32, 63, 45, 32, 120, 46]⟩) q b 3)) :
    Calls Tryd.prog 7 #[.string a0] w fun e w' => e = .returned (.bool true) ∧ Below w.heap.size w w' := by
  have hB := Below.refl w.heap.size w
  have e1 : ((ByteArray.mk #[63, 45, 32]) ++ a0).size = 3 + a0.size := sz_app _ _
  have x1 : ¬ 9223372036854775807 < (ByteArray.mk #[63, 45, 32]).size + a0.size := by show ¬ 9223372036854775807 < 3 + a0.size; omega
  have x2 : ¬ 9223372036854775807 < ((ByteArray.mk #[63, 45, 32]) ++ a0).size + (ByteArray.mk #[46]).size := by rw [e1]; show ¬ 9223372036854775807 < 3 + a0.size + 1; omega
  have e2 : (a0 ++ (ByteArray.mk #[46, 32, 120, 32, 58, 45, 32])).size = a0.size + 7 := sz_app _ _
  have e3 : (a0 ++ (ByteArray.mk #[46, 32, 120, 32, 58, 45, 32]) ++ a0).size = a0.size + 7 + a0.size := by rw [sz_app, e2]
  have e4 : (a0 ++ (ByteArray.mk #[46, 32, 120, 32, 58, 45, 32]) ++ a0 ++ (ByteArray.mk #[44, 32, 110, 111, 116, 32])).size = a0.size + 7 + a0.size + 6 := by rw [sz_app, e3]; rfl
  have e5 : (a0 ++ (ByteArray.mk #[46, 32, 120, 32, 58, 45, 32]) ++ a0 ++ (ByteArray.mk #[44, 32, 110, 111, 116, 32]) ++ a0).size = a0.size + 7 + a0.size + 6 + a0.size := by rw [sz_app, e4]
  have x3 : ¬ 9223372036854775807 < a0.size + (ByteArray.mk #[46, 32, 120, 32, 58, 45, 32]).size := by show ¬ 9223372036854775807 < a0.size + 7; omega
  have x4 : ¬ 9223372036854775807 < (a0 ++ (ByteArray.mk #[46, 32, 120, 32, 58, 45, 32])).size + a0.size := by omega
  have x5 : ¬ 9223372036854775807 < (a0 ++ (ByteArray.mk #[46, 32, 120, 32, 58, 45, 32]) ++ a0).size + (ByteArray.mk #[44, 32, 110, 111, 116, 32]).size := by rw [e3]; show ¬ 9223372036854775807 < a0.size + 7 + a0.size + 6; omega
  have x6 : ¬ 9223372036854775807 < (a0 ++ (ByteArray.mk #[46, 32, 120, 32, 58, 45, 32]) ++ a0 ++ (ByteArray.mk #[44, 32, 110, 111, 116, 32])).size + a0.size := by omega
  have x7 : ¬ 9223372036854775807 < (a0 ++ (ByteArray.mk #[46, 32, 120, 32, 58, 45, 32]) ++ a0 ++ (ByteArray.mk #[44, 32, 110, 111, 116, 32]) ++ a0).size + (ByteArray.mk #[46, 32, 63, 45, 32, 120, 46]).size := by rw [e5]; show ¬ 9223372036854775807 < a0.size + 7 + a0.size + 6 + a0.size + 7; omega
  clear e1 e2 e3 e4 e5
  go_enter Tryd.func7, Tryd.ntmps7
  go_upto_region 5 with (first
    | (go_at_call 10; refine (awake8_any _).mono ?_; rintro e w1 ⟨rfl, h'⟩; replace hB := on hB h'; clear h')
    | (go_at_call 11; with_reducible refine (TA.out _).mono ?_; rintro e w2 ⟨X, hX, rfl, hok, hb⟩; have HX := Lib.hid hX; have OKX := Lib.hid hok; replace hB := on hB hb; clear hX hb hok)
    | (refine wpList_storeR rfl 28 (.tmp 3) _ rfl w2.heap.size 0 rfl (.agg (pgC X).toArray) rfl (pgC X) rfl (pre := []) (old := [.slice none 0 0, .string ByteArray.empty, .slice none 0 0]) (post := []) (row_new w2 [.slice none 0 0, .string ByteArray.empty, .slice none 0 0]) rfl rfl (by kernel_rfl) rfl ?_; intro w3 hR hF hs; have hbs : Below w2.heap.size w2 w3 := ((Below.refl _ _).alloc (Nat.le_refl _) _).trans ((hF _).below (Nat.le_refl _) fun k hk e => by omega); have R3 : Hid (Row 28 w3 w2.heap.size (pgC X)) := Lib.hid hR; have R3c := pg_c0 hR; have OKX := Lib.hid (OKX.out.onB hbs); replace hB := on hB hbs; clear hR hF hs hbs)
    | (go_at_call 11; with_reducible refine (TB.out _).mono ?_; rintro e w4 ⟨Y, hX, rfl, hok, hb⟩; have HY := Lib.hid hX; have OKY := Lib.hid hok; have R3 := Lib.hid (rowOn R3.out hb); have R3c := pg_c0 R3.out; have OKX := Lib.hid (OKX.out.onB hb); replace hB := on hB hb; clear hX hb hok)
    | (refine wpList_storeR rfl 28 (.tmp 6) _ rfl w4.heap.size 0 rfl (.agg (pgC Y).toArray) rfl (pgC Y) rfl (pre := []) (old := [.slice none 0 0, .string ByteArray.empty, .slice none 0 0]) (post := []) (row_new w4 [.slice none 0 0, .string ByteArray.empty, .slice none 0 0]) rfl rfl (by kernel_rfl) rfl ?_; intro w5 hR hF hs; have hbs : Below w4.heap.size w4 w5 := ((Below.refl _ _).alloc (Nat.le_refl _) _).trans ((hF _).below (Nat.le_refl _) fun k hk e => by omega); have R6 : Hid (Row 28 w5 w4.heap.size (pgC Y)) := Lib.hid hR; have R6c := pg_c0 hR; have OKX := Lib.hid (OKX.out.onB hbs); have OKY := Lib.hid (OKY.out.onB hbs); have R3 := Lib.hid (rowOn R3.out hbs); have R3c := pg_c0 R3.out; replace hB := on hB hbs; clear hR hF hs hbs))
  clear TA TB
  go_wp2
  go_ret
  exact ⟨rfl, hB⟩
set_option maxRecDepth 20000 in
set_option maxHeartbeats 16000000 in
theorem walk_a4 (a0 : ByteArray) (w : World) (h0 : ¬ 375 < (a0.size : Int)) (p q : Pg) (a b : Nat) (m : Nat) (TA : Hid (TellsP (⟨#[63, 45, 32]⟩ ++ a0 ++ ⟨#[46]⟩) p a 4)) (TB : Hid (TellsP (a0 ++ ⟨#[46, 32, 120, 32, 58, 45, 32]⟩ ++ a0 ++ ⟨#[44, 32, 110, 111, 116, 32]⟩ ++ a0 ++ ⟨#[46, 32, 63, 45, 32, 120, 46]⟩) q b m)) :
    Calls Tryd.prog 7 #[.string a0] w fun e w' => e = .returned (.bool true) ∧ Below w.heap.size w w' := by
  have hB := Below.refl w.heap.size w
  have e1 : ((ByteArray.mk #[63, 45, 32]) ++ a0).size = 3 + a0.size := sz_app _ _
  have x1 : ¬ 9223372036854775807 < (ByteArray.mk #[63, 45, 32]).size + a0.size := by show ¬ 9223372036854775807 < 3 + a0.size; omega
  have x2 : ¬ 9223372036854775807 < ((ByteArray.mk #[63, 45, 32]) ++ a0).size + (ByteArray.mk #[46]).size := by rw [e1]; show ¬ 9223372036854775807 < 3 + a0.size + 1; omega
  have e2 : (a0 ++ (ByteArray.mk #[46, 32, 120, 32, 58, 45, 32])).size = a0.size + 7 := sz_app _ _
  have e3 : (a0 ++ (ByteArray.mk #[46, 32, 120, 32, 58, 45, 32]) ++ a0).size = a0.size + 7 + a0.size := by rw [sz_app, e2]
  have e4 : (a0 ++ (ByteArray.mk #[46, 32, 120, 32, 58, 45, 32]) ++ a0 ++ (ByteArray.mk #[44, 32, 110, 111, 116, 32])).size = a0.size + 7 + a0.size + 6 := by rw [sz_app, e3]; rfl
  have e5 : (a0 ++ (ByteArray.mk #[46, 32, 120, 32, 58, 45, 32]) ++ a0 ++ (ByteArray.mk #[44, 32, 110, 111, 116, 32]) ++ a0).size = a0.size + 7 + a0.size + 6 + a0.size := by rw [sz_app, e4]
  have x3 : ¬ 9223372036854775807 < a0.size + (ByteArray.mk #[46, 32, 120, 32, 58, 45, 32]).size := by show ¬ 9223372036854775807 < a0.size + 7; omega
  have x4 : ¬ 9223372036854775807 < (a0 ++ (ByteArray.mk #[46, 32, 120, 32, 58, 45, 32])).size + a0.size := by omega
  have x5 : ¬ 9223372036854775807 < (a0 ++ (ByteArray.mk #[46, 32, 120, 32, 58, 45, 32]) ++ a0).size + (ByteArray.mk #[44, 32, 110, 111, 116, 32]).size := by rw [e3]; show ¬ 9223372036854775807 < a0.size + 7 + a0.size + 6; omega
  have x6 : ¬ 9223372036854775807 < (a0 ++ (ByteArray.mk #[46, 32, 120, 32, 58, 45, 32]) ++ a0 ++ (ByteArray.mk #[44, 32, 110, 111, 116, 32])).size + a0.size := by omega
  have x7 : ¬ 9223372036854775807 < (a0 ++ (ByteArray.mk #[46, 32, 120, 32, 58, 45, 32]) ++ a0 ++ (ByteArray.mk #[44, 32, 110, 111, 116, 32]) ++ a0).size + (ByteArray.mk #[46, 32, 63, 45, 32, 120, 46]).size := by rw [e5]; show ¬ 9223372036854775807 < a0.size + 7 + a0.size + 6 + a0.size + 7; omega
  clear e1 e2 e3 e4 e5
  go_enter Tryd.func7, Tryd.ntmps7
  go_upto_region 5 with (first
    | (go_at_call 10; refine (awake8_any _).mono ?_; rintro e w1 ⟨rfl, h'⟩; replace hB := on hB h'; clear h')
    | (go_at_call 11; with_reducible refine (TA.out _).mono ?_; rintro e w2 ⟨X, hX, rfl, hok, hb⟩; have HX := Lib.hid hX; have OKX := Lib.hid hok; replace hB := on hB hb; clear hX hb hok)
    | (refine wpList_storeR rfl 28 (.tmp 3) _ rfl w2.heap.size 0 rfl (.agg (pgC X).toArray) rfl (pgC X) rfl (pre := []) (old := [.slice none 0 0, .string ByteArray.empty, .slice none 0 0]) (post := []) (row_new w2 [.slice none 0 0, .string ByteArray.empty, .slice none 0 0]) rfl rfl (by kernel_rfl) rfl ?_; intro w3 hR hF hs; have hbs : Below w2.heap.size w2 w3 := ((Below.refl _ _).alloc (Nat.le_refl _) _).trans ((hF _).below (Nat.le_refl _) fun k hk e => by omega); have R3 : Hid (Row 28 w3 w2.heap.size (pgC X)) := Lib.hid hR; have R3c := pg_c0 hR; have OKX := Lib.hid (OKX.out.onB hbs); replace hB := on hB hbs; clear hR hF hs hbs)
    | (go_at_call 11; with_reducible refine (TB.out _).mono ?_; rintro e w4 ⟨Y, hX, rfl, hok, hb⟩; have HY := Lib.hid hX; have OKY := Lib.hid hok; have R3 := Lib.hid (rowOn R3.out hb); have R3c := pg_c0 R3.out; have OKX := Lib.hid (OKX.out.onB hb); replace hB := on hB hb; clear hX hb hok)
    | (refine wpList_storeR rfl 28 (.tmp 6) _ rfl w4.heap.size 0 rfl (.agg (pgC Y).toArray) rfl (pgC Y) rfl (pre := []) (old := [.slice none 0 0, .string ByteArray.empty, .slice none 0 0]) (post := []) (row_new w4 [.slice none 0 0, .string ByteArray.empty, .slice none 0 0]) rfl rfl (by kernel_rfl) rfl ?_; intro w5 hR hF hs; have hbs : Below w4.heap.size w4 w5 := ((Below.refl _ _).alloc (Nat.le_refl _) _).trans ((hF _).below (Nat.le_refl _) fun k hk e => by omega); have R6 : Hid (Row 28 w5 w4.heap.size (pgC Y)) := Lib.hid hR; have R6c := pg_c0 hR; have OKX := Lib.hid (OKX.out.onB hbs); have OKY := Lib.hid (OKY.out.onB hbs); have R3 := Lib.hid (rowOn R3.out hbs); have R3c := pg_c0 R3.out; replace hB := on hB hbs; clear hR hF hs hbs))
  clear TA TB
  go_wp2
  go_ret
  exact ⟨rfl, hB⟩
set_option maxRecDepth 20000 in
set_option maxHeartbeats 16000000 in
theorem walk_b4 (a0 : ByteArray) (w : World) (h0 : ¬ 375 < (a0.size : Int)) (p q : Pg) (a b : Nat) (TA : Hid (TellsP (⟨#[63, 45, 32]⟩ ++ a0 ++ ⟨#[46]⟩) p a 0)) (TB : Hid (TellsP (a0 ++ ⟨#[46, 32, 120, 32, 58, 45, 32]⟩ ++ a0 ++ ⟨#[44, 32, 110, 111, 116, 32]⟩ ++ a0 ++ ⟨#[46, 32, 63, 45, 32, 120, 46]⟩) q b 4)) :
    Calls Tryd.prog 7 #[.string a0] w fun e w' => e = .returned (.bool true) ∧ Below w.heap.size w w' := by
  have hB := Below.refl w.heap.size w
  have e1 : ((ByteArray.mk #[63, 45, 32]) ++ a0).size = 3 + a0.size := sz_app _ _
  have x1 : ¬ 9223372036854775807 < (ByteArray.mk #[63, 45, 32]).size + a0.size := by show ¬ 9223372036854775807 < 3 + a0.size; omega
  have x2 : ¬ 9223372036854775807 < ((ByteArray.mk #[63, 45, 32]) ++ a0).size + (ByteArray.mk #[46]).size := by rw [e1]; show ¬ 9223372036854775807 < 3 + a0.size + 1; omega
  have e2 : (a0 ++ (ByteArray.mk #[46, 32, 120, 32, 58, 45, 32])).size = a0.size + 7 := sz_app _ _
  have e3 : (a0 ++ (ByteArray.mk #[46, 32, 120, 32, 58, 45, 32]) ++ a0).size = a0.size + 7 + a0.size := by rw [sz_app, e2]
  have e4 : (a0 ++ (ByteArray.mk #[46, 32, 120, 32, 58, 45, 32]) ++ a0 ++ (ByteArray.mk #[44, 32, 110, 111, 116, 32])).size = a0.size + 7 + a0.size + 6 := by rw [sz_app, e3]; rfl
  have e5 : (a0 ++ (ByteArray.mk #[46, 32, 120, 32, 58, 45, 32]) ++ a0 ++ (ByteArray.mk #[44, 32, 110, 111, 116, 32]) ++ a0).size = a0.size + 7 + a0.size + 6 + a0.size := by rw [sz_app, e4]
  have x3 : ¬ 9223372036854775807 < a0.size + (ByteArray.mk #[46, 32, 120, 32, 58, 45, 32]).size := by show ¬ 9223372036854775807 < a0.size + 7; omega
  have x4 : ¬ 9223372036854775807 < (a0 ++ (ByteArray.mk #[46, 32, 120, 32, 58, 45, 32])).size + a0.size := by omega
  have x5 : ¬ 9223372036854775807 < (a0 ++ (ByteArray.mk #[46, 32, 120, 32, 58, 45, 32]) ++ a0).size + (ByteArray.mk #[44, 32, 110, 111, 116, 32]).size := by rw [e3]; show ¬ 9223372036854775807 < a0.size + 7 + a0.size + 6; omega
  have x6 : ¬ 9223372036854775807 < (a0 ++ (ByteArray.mk #[46, 32, 120, 32, 58, 45, 32]) ++ a0 ++ (ByteArray.mk #[44, 32, 110, 111, 116, 32])).size + a0.size := by omega
  have x7 : ¬ 9223372036854775807 < (a0 ++ (ByteArray.mk #[46, 32, 120, 32, 58, 45, 32]) ++ a0 ++ (ByteArray.mk #[44, 32, 110, 111, 116, 32]) ++ a0).size + (ByteArray.mk #[46, 32, 63, 45, 32, 120, 46]).size := by rw [e5]; show ¬ 9223372036854775807 < a0.size + 7 + a0.size + 6 + a0.size + 7; omega
  clear e1 e2 e3 e4 e5
  go_enter Tryd.func7, Tryd.ntmps7
  go_upto_region 5 with (first
    | (go_at_call 10; refine (awake8_any _).mono ?_; rintro e w1 ⟨rfl, h'⟩; replace hB := on hB h'; clear h')
    | (go_at_call 11; with_reducible refine (TA.out _).mono ?_; rintro e w2 ⟨X, hX, rfl, hok, hb⟩; have HX := Lib.hid hX; have OKX := Lib.hid hok; replace hB := on hB hb; clear hX hb hok)
    | (refine wpList_storeR rfl 28 (.tmp 3) _ rfl w2.heap.size 0 rfl (.agg (pgC X).toArray) rfl (pgC X) rfl (pre := []) (old := [.slice none 0 0, .string ByteArray.empty, .slice none 0 0]) (post := []) (row_new w2 [.slice none 0 0, .string ByteArray.empty, .slice none 0 0]) rfl rfl (by kernel_rfl) rfl ?_; intro w3 hR hF hs; have hbs : Below w2.heap.size w2 w3 := ((Below.refl _ _).alloc (Nat.le_refl _) _).trans ((hF _).below (Nat.le_refl _) fun k hk e => by omega); have R3 : Hid (Row 28 w3 w2.heap.size (pgC X)) := Lib.hid hR; have R3c := pg_c0 hR; have OKX := Lib.hid (OKX.out.onB hbs); replace hB := on hB hbs; clear hR hF hs hbs)
    | (go_at_call 11; with_reducible refine (TB.out _).mono ?_; rintro e w4 ⟨Y, hX, rfl, hok, hb⟩; have HY := Lib.hid hX; have OKY := Lib.hid hok; have R3 := Lib.hid (rowOn R3.out hb); have R3c := pg_c0 R3.out; have OKX := Lib.hid (OKX.out.onB hb); replace hB := on hB hb; clear hX hb hok)
    | (refine wpList_storeR rfl 28 (.tmp 6) _ rfl w4.heap.size 0 rfl (.agg (pgC Y).toArray) rfl (pgC Y) rfl (pre := []) (old := [.slice none 0 0, .string ByteArray.empty, .slice none 0 0]) (post := []) (row_new w4 [.slice none 0 0, .string ByteArray.empty, .slice none 0 0]) rfl rfl (by kernel_rfl) rfl ?_; intro w5 hR hF hs; have hbs : Below w4.heap.size w4 w5 := ((Below.refl _ _).alloc (Nat.le_refl _) _).trans ((hF _).below (Nat.le_refl _) fun k hk e => by omega); have R6 : Hid (Row 28 w5 w4.heap.size (pgC Y)) := Lib.hid hR; have R6c := pg_c0 hR; have OKX := Lib.hid (OKX.out.onB hbs); have OKY := Lib.hid (OKY.out.onB hbs); have R3 := Lib.hid (rowOn R3.out hbs); have R3c := pg_c0 R3.out; replace hB := on hB hbs; clear hR hF hs hbs))
  clear TA TB
  go_wp2
  go_ret
  exact ⟨rfl, hB⟩
set_option maxRecDepth 20000 in
set_option maxHeartbeats 16000000 in
theorem walk_c (a0 : ByteArray) (w : World) (h0 : ¬ 375 < (a0.size : Int)) (p q : Pg) (a b : Nat) (TA : Hid (TellsP (⟨#[63, 45, 32]⟩ ++ a0 ++ ⟨#[46]⟩) p a 0)) (TB : Hid (TellsP (a0 ++ ⟨#[46, 32, 120, 32, 58, 45, 32]⟩ ++ a0 ++ ⟨#[44, 32, 110, 111, 116, 32]⟩ ++ a0 ++ ⟨#[46, 32, 63, 45, 32, 120, 46]⟩) q b 0)) (hn : ¬ q.r.length = 2) :
    Calls Tryd.prog 7 #[.string a0] w fun e w' => e = .returned (.bool true) ∧ Below w.heap.size w w' := by
  have hB := Below.refl w.heap.size w
  have e1 : ((ByteArray.mk #[63, 45, 32]) ++ a0).size = 3 + a0.size := sz_app _ _
  have x1 : ¬ 9223372036854775807 < (ByteArray.mk #[63, 45, 32]).size + a0.size := by show ¬ 9223372036854775807 < 3 + a0.size; omega
  have x2 : ¬ 9223372036854775807 < ((ByteArray.mk #[63, 45, 32]) ++ a0).size + (ByteArray.mk #[46]).size := by rw [e1]; show ¬ 9223372036854775807 < 3 + a0.size + 1; omega
  have e2 : (a0 ++ (ByteArray.mk #[46, 32, 120, 32, 58, 45, 32])).size = a0.size + 7 := sz_app _ _
  have e3 : (a0 ++ (ByteArray.mk #[46, 32, 120, 32, 58, 45, 32]) ++ a0).size = a0.size + 7 + a0.size := by rw [sz_app, e2]
  have e4 : (a0 ++ (ByteArray.mk #[46, 32, 120, 32, 58, 45, 32]) ++ a0 ++ (ByteArray.mk #[44, 32, 110, 111, 116, 32])).size = a0.size + 7 + a0.size + 6 := by rw [sz_app, e3]; rfl
  have e5 : (a0 ++ (ByteArray.mk #[46, 32, 120, 32, 58, 45, 32]) ++ a0 ++ (ByteArray.mk #[44, 32, 110, 111, 116, 32]) ++ a0).size = a0.size + 7 + a0.size + 6 + a0.size := by rw [sz_app, e4]
  have x3 : ¬ 9223372036854775807 < a0.size + (ByteArray.mk #[46, 32, 120, 32, 58, 45, 32]).size := by show ¬ 9223372036854775807 < a0.size + 7; omega
  have x4 : ¬ 9223372036854775807 < (a0 ++ (ByteArray.mk #[46, 32, 120, 32, 58, 45, 32])).size + a0.size := by omega
  have x5 : ¬ 9223372036854775807 < (a0 ++ (ByteArray.mk #[46, 32, 120, 32, 58, 45, 32]) ++ a0).size + (ByteArray.mk #[44, 32, 110, 111, 116, 32]).size := by rw [e3]; show ¬ 9223372036854775807 < a0.size + 7 + a0.size + 6; omega
  have x6 : ¬ 9223372036854775807 < (a0 ++ (ByteArray.mk #[46, 32, 120, 32, 58, 45, 32]) ++ a0 ++ (ByteArray.mk #[44, 32, 110, 111, 116, 32])).size + a0.size := by omega
  have x7 : ¬ 9223372036854775807 < (a0 ++ (ByteArray.mk #[46, 32, 120, 32, 58, 45, 32]) ++ a0 ++ (ByteArray.mk #[44, 32, 110, 111, 116, 32]) ++ a0).size + (ByteArray.mk #[46, 32, 63, 45, 32, 120, 46]).size := by rw [e5]; show ¬ 9223372036854775807 < a0.size + 7 + a0.size + 6 + a0.size + 7; omega
  clear e1 e2 e3 e4 e5
  go_enter Tryd.func7, Tryd.ntmps7
  go_wp2_with (first
    | (go_at_call 10; refine (awake8_any _).mono ?_; rintro e w1 ⟨rfl, h'⟩; replace hB := on hB h'; clear h')
    | (go_at_call 11; with_reducible refine (TA.out _).mono ?_; rintro e w2 ⟨X, hX, rfl, hok, hb⟩; have HX := Lib.hid hX; have OKX := Lib.hid hok; replace hB := on hB hb; clear hX hb hok)
    | (refine wpList_storeR rfl 28 (.tmp 3) _ rfl w2.heap.size 0 rfl (.agg (pgC X).toArray) rfl (pgC X) rfl (pre := []) (old := [.slice none 0 0, .string ByteArray.empty, .slice none 0 0]) (post := []) (row_new w2 [.slice none 0 0, .string ByteArray.empty, .slice none 0 0]) rfl rfl (by kernel_rfl) rfl ?_; intro w3 hR hF hs; have hbs : Below w2.heap.size w2 w3 := ((Below.refl _ _).alloc (Nat.le_refl _) _).trans ((hF _).below (Nat.le_refl _) fun k hk e => by omega); have R3 : Hid (Row 28 w3 w2.heap.size (pgC X)) := Lib.hid hR; have R3c := pg_c0 hR; have OKX := Lib.hid (OKX.out.onB hbs); replace hB := on hB hbs; clear hR hF hs hbs)
    | (go_at_call 11; with_reducible refine (TB.out _).mono ?_; rintro e w4 ⟨Y, hX, rfl, hok, hb⟩; have HY := Lib.hid hX; have OKY := Lib.hid hok; have R3 := Lib.hid (rowOn R3.out hb); have R3c := pg_c0 R3.out; have OKX := Lib.hid (OKX.out.onB hb); replace hB := on hB hb; have lY := len_of hX; have hn2 : ((Y.r.length : Int) != 2) = true := (by rw [bne_iff_ne]; omega); have hn3 : ¬ (Y.r.length : Int) = 2 := (by omega); have hn4 : ¬ Y.r.length = 2 := (by omega); clear lY hX hb hok)
    | (refine wpList_storeR rfl 28 (.tmp 6) _ rfl w4.heap.size 0 rfl (.agg (pgC Y).toArray) rfl (pgC Y) rfl (pre := []) (old := [.slice none 0 0, .string ByteArray.empty, .slice none 0 0]) (post := []) (row_new w4 [.slice none 0 0, .string ByteArray.empty, .slice none 0 0]) rfl rfl (by kernel_rfl) rfl ?_; intro w5 hR hF hs; have hbs : Below w4.heap.size w4 w5 := ((Below.refl _ _).alloc (Nat.le_refl _) _).trans ((hF _).below (Nat.le_refl _) fun k hk e => by omega); have R6 : Hid (Row 28 w5 w4.heap.size (pgC Y)) := Lib.hid hR; have R6c := pg_c0 hR; have OKX := Lib.hid (OKX.out.onB hbs); have OKY := Lib.hid (OKY.out.onB hbs); have R3 := Lib.hid (rowOn R3.out hbs); have R3c := pg_c0 R3.out; replace hB := on hB hbs; clear hR hF hs hbs))
  go_ret
  exact ⟨rfl, hB⟩
set_option maxRecDepth 20000 in
set_option maxHeartbeats 16000000 in
theorem walk_d (a0 : ByteArray) (w : World) (h0 : ¬ 375 < (a0.size : Int)) (p q : Pg) (a b : Nat) (TA : Hid (TellsP (⟨#[63, 45, 32]⟩ ++ a0 ++ ⟨#[46]⟩) p a 0)) (TB : Hid (TellsP (a0 ++ ⟨#[46, 32, 120, 32, 58, 45, 32]⟩ ++ a0 ++ ⟨#[44, 32, 110, 111, 116, 32]⟩ ++ a0 ++ ⟨#[46, 32, 63, 45, 32, 120, 46]⟩) q b 0)) (hn : q.r.length = 2) (hp : ¬ p.r.length = 0) :
    Calls Tryd.prog 7 #[.string a0] w fun e w' => e = .returned (.bool true) ∧ Below w.heap.size w w' := by
  have hB := Below.refl w.heap.size w
  have e1 : ((ByteArray.mk #[63, 45, 32]) ++ a0).size = 3 + a0.size := sz_app _ _
  have x1 : ¬ 9223372036854775807 < (ByteArray.mk #[63, 45, 32]).size + a0.size := by show ¬ 9223372036854775807 < 3 + a0.size; omega
  have x2 : ¬ 9223372036854775807 < ((ByteArray.mk #[63, 45, 32]) ++ a0).size + (ByteArray.mk #[46]).size := by rw [e1]; show ¬ 9223372036854775807 < 3 + a0.size + 1; omega
  have e2 : (a0 ++ (ByteArray.mk #[46, 32, 120, 32, 58, 45, 32])).size = a0.size + 7 := sz_app _ _
  have e3 : (a0 ++ (ByteArray.mk #[46, 32, 120, 32, 58, 45, 32]) ++ a0).size = a0.size + 7 + a0.size := by rw [sz_app, e2]
  have e4 : (a0 ++ (ByteArray.mk #[46, 32, 120, 32, 58, 45, 32]) ++ a0 ++ (ByteArray.mk #[44, 32, 110, 111, 116, 32])).size = a0.size + 7 + a0.size + 6 := by rw [sz_app, e3]; rfl
  have e5 : (a0 ++ (ByteArray.mk #[46, 32, 120, 32, 58, 45, 32]) ++ a0 ++ (ByteArray.mk #[44, 32, 110, 111, 116, 32]) ++ a0).size = a0.size + 7 + a0.size + 6 + a0.size := by rw [sz_app, e4]
  have x3 : ¬ 9223372036854775807 < a0.size + (ByteArray.mk #[46, 32, 120, 32, 58, 45, 32]).size := by show ¬ 9223372036854775807 < a0.size + 7; omega
  have x4 : ¬ 9223372036854775807 < (a0 ++ (ByteArray.mk #[46, 32, 120, 32, 58, 45, 32])).size + a0.size := by omega
  have x5 : ¬ 9223372036854775807 < (a0 ++ (ByteArray.mk #[46, 32, 120, 32, 58, 45, 32]) ++ a0).size + (ByteArray.mk #[44, 32, 110, 111, 116, 32]).size := by rw [e3]; show ¬ 9223372036854775807 < a0.size + 7 + a0.size + 6; omega
  have x6 : ¬ 9223372036854775807 < (a0 ++ (ByteArray.mk #[46, 32, 120, 32, 58, 45, 32]) ++ a0 ++ (ByteArray.mk #[44, 32, 110, 111, 116, 32])).size + a0.size := by omega
  have x7 : ¬ 9223372036854775807 < (a0 ++ (ByteArray.mk #[46, 32, 120, 32, 58, 45, 32]) ++ a0 ++ (ByteArray.mk #[44, 32, 110, 111, 116, 32]) ++ a0).size + (ByteArray.mk #[46, 32, 63, 45, 32, 120, 46]).size := by rw [e5]; show ¬ 9223372036854775807 < a0.size + 7 + a0.size + 6 + a0.size + 7; omega
  clear e1 e2 e3 e4 e5
  go_enter Tryd.func7, Tryd.ntmps7
  go_wp2_with (first
    | (go_at_call 10; refine (awake8_any _).mono ?_; rintro e w1 ⟨rfl, h'⟩; replace hB := on hB h'; clear h')
    | (go_at_call 11; with_reducible refine (TA.out _).mono ?_; rintro e w2 ⟨X, hX, rfl, hok, hb⟩; have HX := Lib.hid hX; have OKX := Lib.hid hok; replace hB := on hB hb; have lX := len_of hX; have hm2 : ((X.r.length : Int) != 0) = true := (by rw [bne_iff_ne]; omega); have hm3 : ¬ (X.r.length : Int) = 0 := (by omega); have hm4 : ¬ X.r.length = 0 := (by omega); clear lX hX hb hok)
    | (refine wpList_storeR rfl 28 (.tmp 3) _ rfl w2.heap.size 0 rfl (.agg (pgC X).toArray) rfl (pgC X) rfl (pre := []) (old := [.slice none 0 0, .string ByteArray.empty, .slice none 0 0]) (post := []) (row_new w2 [.slice none 0 0, .string ByteArray.empty, .slice none 0 0]) rfl rfl (by kernel_rfl) rfl ?_; intro w3 hR hF hs; have hbs : Below w2.heap.size w2 w3 := ((Below.refl _ _).alloc (Nat.le_refl _) _).trans ((hF _).below (Nat.le_refl _) fun k hk e => by omega); have R3 : Hid (Row 28 w3 w2.heap.size (pgC X)) := Lib.hid hR; have R3c := pg_c0 hR; have OKX := Lib.hid (OKX.out.onB hbs); replace hB := on hB hbs; clear hR hF hs hbs)
    | (go_at_call 11; with_reducible refine (TB.out _).mono ?_; rintro e w4 ⟨Y, hX, rfl, hok, hb⟩; have HY := Lib.hid hX; have OKY := Lib.hid hok; have R3 := Lib.hid (rowOn R3.out hb); have R3c := pg_c0 R3.out; have OKX := Lib.hid (OKX.out.onB hb); replace hB := on hB hb; have lY := Lib.hid ((len_of hX).trans hn); clear hX hb hok)
    | (refine wpList_storeR rfl 28 (.tmp 6) _ rfl w4.heap.size 0 rfl (.agg (pgC Y).toArray) rfl (pgC Y) rfl (pre := []) (old := [.slice none 0 0, .string ByteArray.empty, .slice none 0 0]) (post := []) (row_new w4 [.slice none 0 0, .string ByteArray.empty, .slice none 0 0]) rfl rfl (by kernel_rfl) rfl ?_; intro w5 hR hF hs; have hbs : Below w4.heap.size w4 w5 := ((Below.refl _ _).alloc (Nat.le_refl _) _).trans ((hF _).below (Nat.le_refl _) fun k hk e => by omega); have R6 : Hid (Row 28 w5 w4.heap.size (pgC Y)) := Lib.hid hR; have R6c := pg_c0 hR; have OKX := Lib.hid (OKX.out.onB hbs); have OKY := Lib.hid (OKY.out.onB hbs); have R3 := Lib.hid (rowOn R3.out hbs); have R3c := pg_c0 R3.out; have hn2 : ((Y.r.length : Int) != 2) = false := (by rw [lY.out]; rfl); replace hB := on hB hbs; clear hR hF hs hbs))
  go_ret
  exact ⟨rfl, hB⟩
set_option maxRecDepth 20000 in
set_option maxHeartbeats 16000000 in
theorem walk_main (a0 : ByteArray) (w : World) (h0 : ¬ 375 < (a0.size : Int)) (p q : Pg) (a b : Nat) (TA : Hid (TellsP (⟨#[63, 45, 32]⟩ ++ a0 ++ ⟨#[46]⟩) p a 0)) (TB : Hid (TellsP (a0 ++ ⟨#[46, 32, 120, 32, 58, 45, 32]⟩ ++ a0 ++ ⟨#[44, 32, 110, 111, 116, 32]⟩ ++ a0 ++ ⟨#[46, 32, 63, 45, 32, 120, 46]⟩) q b 0)) (hp : p.r = []) (hq : q.r = twoR p.q) :
    Calls Tryd.prog 7 #[.string a0] w fun e w' => e = .returned (.bool true) ∧ Below w.heap.size w w' := by
  have hB := Below.refl w.heap.size w
  have e1 : ((ByteArray.mk #[63, 45, 32]) ++ a0).size = 3 + a0.size := sz_app _ _
  have x1 : ¬ 9223372036854775807 < (ByteArray.mk #[63, 45, 32]).size + a0.size := by show ¬ 9223372036854775807 < 3 + a0.size; omega
  have x2 : ¬ 9223372036854775807 < ((ByteArray.mk #[63, 45, 32]) ++ a0).size + (ByteArray.mk #[46]).size := by rw [e1]; show ¬ 9223372036854775807 < 3 + a0.size + 1; omega
  have e2 : (a0 ++ (ByteArray.mk #[46, 32, 120, 32, 58, 45, 32])).size = a0.size + 7 := sz_app _ _
  have e3 : (a0 ++ (ByteArray.mk #[46, 32, 120, 32, 58, 45, 32]) ++ a0).size = a0.size + 7 + a0.size := by rw [sz_app, e2]
  have e4 : (a0 ++ (ByteArray.mk #[46, 32, 120, 32, 58, 45, 32]) ++ a0 ++ (ByteArray.mk #[44, 32, 110, 111, 116, 32])).size = a0.size + 7 + a0.size + 6 := by rw [sz_app, e3]; rfl
  have e5 : (a0 ++ (ByteArray.mk #[46, 32, 120, 32, 58, 45, 32]) ++ a0 ++ (ByteArray.mk #[44, 32, 110, 111, 116, 32]) ++ a0).size = a0.size + 7 + a0.size + 6 + a0.size := by rw [sz_app, e4]
  have x3 : ¬ 9223372036854775807 < a0.size + (ByteArray.mk #[46, 32, 120, 32, 58, 45, 32]).size := by show ¬ 9223372036854775807 < a0.size + 7; omega
  have x4 : ¬ 9223372036854775807 < (a0 ++ (ByteArray.mk #[46, 32, 120, 32, 58, 45, 32])).size + a0.size := by omega
  have x5 : ¬ 9223372036854775807 < (a0 ++ (ByteArray.mk #[46, 32, 120, 32, 58, 45, 32]) ++ a0).size + (ByteArray.mk #[44, 32, 110, 111, 116, 32]).size := by rw [e3]; show ¬ 9223372036854775807 < a0.size + 7 + a0.size + 6; omega
  have x6 : ¬ 9223372036854775807 < (a0 ++ (ByteArray.mk #[46, 32, 120, 32, 58, 45, 32]) ++ a0 ++ (ByteArray.mk #[44, 32, 110, 111, 116, 32])).size + a0.size := by omega
  have x7 : ¬ 9223372036854775807 < (a0 ++ (ByteArray.mk #[46, 32, 120, 32, 58, 45, 32]) ++ a0 ++ (ByteArray.mk #[44, 32, 110, 111, 116, 32]) ++ a0).size + (ByteArray.mk #[46, 32, 63, 45, 32, 120, 46]).size := by rw [e5]; show ¬ 9223372036854775807 < a0.size + 7 + a0.size + 6 + a0.size + 7; omega
  clear e1 e2 e3 e4 e5
  go_enter Tryd.func7, Tryd.ntmps7
  go_wp2_with (first
    | (go_at_call 10; refine (awake8_any _).mono ?_; rintro e w1 ⟨rfl, h'⟩; replace hB := on hB h'; clear h')
    | (go_at_call 11; with_reducible refine (TA.out _).mono ?_; rintro e w2 ⟨X, hX, rfl, hok, hb⟩; have HX := Lib.hid hX; have OKX := Lib.hid hok; replace hB := on hB hb; clear hX hb hok)
    | (refine wpList_storeR rfl 28 (.tmp 3) _ rfl w2.heap.size 0 rfl (.agg (pgC X).toArray) rfl (pgC X) rfl (pre := []) (old := [.slice none 0 0, .string ByteArray.empty, .slice none 0 0]) (post := []) (row_new w2 [.slice none 0 0, .string ByteArray.empty, .slice none 0 0]) rfl rfl (by kernel_rfl) rfl ?_; intro w3 hR hF hs; have hbs : Below w2.heap.size w2 w3 := ((Below.refl _ _).alloc (Nat.le_refl _) _).trans ((hF _).below (Nat.le_refl _) fun k hk e => by omega); have R3 : Hid (Row 28 w3 w2.heap.size (pgC X)) := Lib.hid hR; have R3c := pg_c0 hR; have OKX := Lib.hid (OKX.out.onB hbs); replace hB := on hB hbs; clear hR hF hs hbs)
    | (go_at_call 11; with_reducible refine (TB.out _).mono ?_; rintro e w4 ⟨Y, hX, rfl, hok, hb⟩; have HY := Lib.hid hX; have OKY := Lib.hid hok; have R3 := Lib.hid (rowOn R3.out hb); have R3c := pg_c0 R3.out; have OKX := Lib.hid (OKX.out.onB hb); replace hB := on hB hb; clear hX hb hok)
    | (refine wpList_storeR rfl 28 (.tmp 6) _ rfl w4.heap.size 0 rfl (.agg (pgC Y).toArray) rfl (pgC Y) rfl (pre := []) (old := [.slice none 0 0, .string ByteArray.empty, .slice none 0 0]) (post := []) (row_new w4 [.slice none 0 0, .string ByteArray.empty, .slice none 0 0]) rfl rfl (by kernel_rfl) rfl ?_; intro w5 hR hF hs; have hbs : Below w4.heap.size w4 w5 := ((Below.refl _ _).alloc (Nat.le_refl _) _).trans ((hF _).below (Nat.le_refl _) fun k hk e => by omega); have R6 : Hid (Row 28 w5 w4.heap.size (pgC Y)) := Lib.hid hR; have R6c := pg_c0 hR; have OKX := Lib.hid (OKX.out.onB hbs); have OKY := Lib.hid (OKY.out.onB hbs); have R3 := Lib.hid (rowOn R3.out hbs); have R3c := pg_c0 R3.out; obtain ⟨y0, y1, l0, l1, hYr, hYb, hf0, ha0, hk0, hm0, hk1, hm1⟩ := facts_form HY.out hq; have hXl : Hid (X.r.length = 0) := Lib.hid (by rw [len_of HX.out, hp]; rfl); have hXn : ((X.r.length : Int) != 0) = false := (by rw [hXl.out]; rfl); have hYl : Hid (Y.r.length = 2) := Lib.hid (by rw [hYr]; rfl); have hYn : ((Y.r.length : Int) != 2) = false := (by rw [hYl.out]; rfl); have hY0 : (0 : Int) < (Y.r.length : Int) := (by rw [hYl.out]; decide); have hY1 : (1 : Int) < (Y.r.length : Int) := (by rw [hYl.out]; decide); obtain ⟨gy, gb, eYA, eyA, hgy, hgb, c0, c1, c2, c4, c5, c6, c7, d0, d1, d2, d17, d18, d19⟩ := facts_cells OKY.out hYr hYb hf0 hk0 hk1; have R6c' := R6c; rw [eYA] at R6c'; clear R6c; have p1 := pg_c1 R3.out; have p2 := pg_c2 R3.out; have HAM := Lib.hid (And.intro ha0 (And.intro hm0 hm1)); have HYM := Lib.hid (And.intro (show y0 ∈ Y.r by rw [hYr]; simp) (And.intro (show y1 ∈ Y.r by rw [hYr]; simp) (And.intro (show l0 ∈ y1.b by rw [hYb]; simp) (show l1 ∈ y1.b by rw [hYb]; simp)))); have HLT := Lib.hid (And.intro hgy (And.intro hgb (And.intro R3.out.lt R6.out.lt))); clear hYr hYb hf0 ha0 hk0 hm0 hk1 hm1 eYA eyA; replace hB := on hB hbs; clear hR hF hs hbs)
    | (refine wpList_storeR rfl 51 (.tmp 9) _ rfl w5.heap.size 0 rfl (.agg #[.string (bs y1.h.p), .slice y1.h.A y1.h.a.length y1.h.c, .int .i64 (y1.f : Int), .slice (some ⟨gb, 0, none⟩) 2 y1.c]) rfl [.string (bs y1.h.p), .slice y1.h.A y1.h.a.length y1.h.c, .int .i64 (y1.f : Int), .slice (some ⟨gb, 0, none⟩) 2 y1.c] rfl (pre := []) (old := [.string ByteArray.empty, .slice none 0 0, .int .i64 0, .slice none 0 0]) (post := []) (row_new w5 [.string ByteArray.empty, .slice none 0 0, .int .i64 0, .slice none 0 0]) rfl rfl (by kernel_rfl) rfl ?_; intro w6 hR hF hs; have hbs : Below w5.heap.size w5 w6 := ((Below.refl _ _).alloc (Nat.le_refl _) _).trans ((hF _).below (Nat.le_refl _) fun k hk e => by omega); have r3 : w6.cell? ⟨w5.heap.size, 3, none⟩ = some (.slice (some ⟨gb, 0, none⟩) 2 y1.c) := hR.cell 3; have HBS := Lib.hid hbs; clear hR hF hs hbs))
  have kp : ∀ (g o : Nat) (v : Value), g < w5.heap.size → w5.cell? ⟨g, o, none⟩ = some v → w6.cell? ⟨g, o, none⟩ = some v := fun g o v hg h => (keep HBS.out _ _ hg).trans h
  have q_c0 := cell_regrown (kp _ _ _ HLT.out.1 c0)
  have q_c1 := cell_regrown (kp _ _ _ HLT.out.1 c1)
  have q_c2 := cell_regrown (kp _ _ _ HLT.out.1 c2)
  have q_d0 := cell_regrown (kp _ _ _ HLT.out.2.1 d0)
  have q_d1 := cell_regrown (kp _ _ _ HLT.out.2.1 d1)
  have q_d2 := cell_regrown (kp _ _ _ HLT.out.2.1 d2)
  have q_d17 := cell_regrown (kp _ _ _ HLT.out.2.1 d17)
  have q_d18 := cell_regrown (kp _ _ _ HLT.out.2.1 d18)
  have q_d19 := cell_regrown (kp _ _ _ HLT.out.2.1 d19)
  have q_p1 := cell_regrown (kp _ _ _ HLT.out.2.2.1 p1)
  have q_p2 := cell_regrown (kp _ _ _ HLT.out.2.2.1 p2)
  have q_R6c := cell_regrown (kp _ _ _ HLT.out.2.2.2 R6c')
  have q_r3 := cell_regrown r3
  have HYO := Lib.hid (OKY.out.onB HBS.out).rd; have HXO := Lib.hid (OKX.out.onB HBS.out).rd
  have HXQ : X.q.am = p.q := congrArg Pg.q HX.out
  have k0 : ∀ d os, Calls Tryd.prog 16 #[.agg #[.string (bs y0.h.p), .slice y0.h.A y0.h.a.length y0.h.c], .agg #[.string (bs X.q.p), .slice X.q.A X.q.a.length X.q.c]] (Go.Sort.grow (redrawn w6 d) os) fun e w'' => e = .returned (.bool true) ∧ ∃ p : Regrown, w'' = Go.Sort.grow (redrawn w6 p.d) p.os := fun d os => Calls.regrown_of (w := w6) (atoms_yes y0.h X.q _ (AmA.rd.on (HYO.out.2.1 y0 HYM.out.1).1 (below_regrown w6 d os)) (AmA.rd.on HXO.out.2.2 (below_regrown w6 d os)) (HAM.out.1.trans HXQ.symm))
  have k1 : ∀ d os, Calls Tryd.prog 16 #[.agg #[.string (bs l0.m.p), .slice l0.m.A l0.m.a.length l0.m.c], .agg #[.string (bs X.q.p), .slice X.q.A X.q.a.length X.q.c]] (Go.Sort.grow (redrawn w6 d) os) fun e w'' => e = .returned (.bool true) ∧ ∃ p : Regrown, w'' = Go.Sort.grow (redrawn w6 p.d) p.os := fun d os => Calls.regrown_of (w := w6) (atoms_yes l0.m X.q _ (AmA.rd.on ((HYO.out.2.1 y1 HYM.out.2.1).2.2 l0 HYM.out.2.2.1).1 (below_regrown w6 d os)) (AmA.rd.on HXO.out.2.2 (below_regrown w6 d os)) (HAM.out.2.1.trans HXQ.symm))
  have k2 : ∀ d os, Calls Tryd.prog 16 #[.agg #[.string (bs l1.m.p), .slice l1.m.A l1.m.a.length l1.m.c], .agg #[.string (bs X.q.p), .slice X.q.A X.q.a.length X.q.c]] (Go.Sort.grow (redrawn w6 d) os) fun e w'' => e = .returned (.bool true) ∧ ∃ p : Regrown, w'' = Go.Sort.grow (redrawn w6 p.d) p.os := fun d os => Calls.regrown_of (w := w6) (atoms_yes l1.m X.q _ (AmA.rd.on ((HYO.out.2.1 y1 HYM.out.2.1).2.2 l1 HYM.out.2.2.2).1 (below_regrown w6 d os)) (AmA.rd.on HXO.out.2.2 (below_regrown w6 d os)) (HAM.out.2.2.trans HXQ.symm))
  have HB6 := Lib.hid (on hB HBS.out)
  clear c0 c1 c2 c4 c5 c6 c7 d0 d1 d2 d17 d18 d19 p1 p2 R6c' r3 kp hB HXQ
  refine wp_region_quiet_below (by kernel_rfl) (by kernel_rfl) ?_
  iterate 20 (first | go_big_quiet_step (exact k0 _ _) | quiet_step (exact k0 _ _))
  clear k0
  iterate 22 (first | go_big_quiet_step (exact k1 _ _) | quiet_step (exact k1 _ _))
  clear k1
  repeat (first | go_big_quiet_step (exact k2 _ _) | quiet_step (exact k2 _ _))
  refine wpQuiet_nil ?_
  intro _ hw'
  obtain ⟨⟨dq, osq⟩, hw''⟩ := hw'
  subst hw''
  have HB7 := Lib.hid (on HB6.out (below_regrown w6 dq osq))
  generalize Go.Sort.grow (redrawn w6 dq) osq = w7 at HB7 ⊢
  go_wp2
  go_ret
  exact ⟨rfl, HB7.out⟩
theorem walk (a0 : ByteArray) (w0 : a0.size ≤ maxLen) (w : World) :
    Calls Tryd.prog 7 #[.string a0] w fun e w' => e = .returned (.bool true) ∧ Below w.heap.size w w' := by
  by_cases h0 : 375 < (a0.size : Int)
  · exact walk_long a0 w h0
  have hA := parse_all (⟨#[63, 45, 32]⟩ ++ a0 ++ ⟨#[46]⟩) (by rw [sz_app, sz_app]; show 3 + a0.size + 1 ≤ 20000; omega)
  have hBt := parse_all (a0 ++ ⟨#[46, 32, 120, 32, 58, 45, 32]⟩ ++ a0 ++ ⟨#[44, 32, 110, 111, 116, 32]⟩ ++ a0 ++ ⟨#[46, 32, 63, 45, 32, 120, 46]⟩) (by rw [sz_app, sz_app, sz_app, sz_app, sz_app]; show a0.size + 7 + a0.size + 6 + a0.size + 7 ≤ 20000; omega)
  have e1 : ls (⟨#[63, 45, 32]⟩ ++ a0 ++ ⟨#[46]⟩) = factL (ls a0) := by rw [ls_append, ls_append]; rfl
  have e2 : ls (a0 ++ ⟨#[46, 32, 120, 32, 58, 45, 32]⟩ ++ a0 ++ ⟨#[44, 32, 110, 111, 116, 32]⟩ ++ a0 ++ ⟨#[46, 32, 63, 45, 32, 120, 46]⟩) = ruleL2 (ls a0) := by rw [ls_append, ls_append, ls_append, ls_append, ls_append]; rfl
  rw [e1] at hA
  rw [e2] at hBt
  generalize hz1 : (⟨#[63, 45, 32]⟩ ++ a0 ++ ⟨#[46]⟩).size = z1 at hA
  generalize hz2 : (a0 ++ ⟨#[46, 32, 120, 32, 58, 45, 32]⟩ ++ a0 ++ ⟨#[44, 32, 110, 111, 116, 32]⟩ ++ a0 ++ ⟨#[46, 32, 63, 45, 32, 120, 46]⟩).size = z2 at hBt
  by_cases k1 : rK (progS z1 (toksL 0 (factL (ls a0)))) = 0
  · rw [k1] at hA
    by_cases k2 : rK (progS z2 (toksL 0 (ruleL2 (ls a0)))) = 0
    · rw [k2] at hBt
      by_cases hp : (rP (progS z1 (toksL 0 (factL (ls a0))))).r = []
      · exact walk_main a0 w h0 _ _ _ _ (Lib.hid hA) (Lib.hid hBt) hp (facts_same (by omega) k1 k2 hp)
      · by_cases hn : (rP (progS z2 (toksL 0 (ruleL2 (ls a0))))).r.length = 2
        · exact walk_d a0 w h0 _ _ _ _ (Lib.hid hA) (Lib.hid hBt) hn fun h => hp (List.eq_nil_of_length_eq_zero h)
        · exact walk_c a0 w h0 _ _ _ _ (Lib.hid hA) (Lib.hid hBt) hn
    · rcases progS_k _ _ k2 with k2 | k2 | k2
      · rw [k2] at hBt; exact walk_b2 a0 w h0 _ _ _ _ (Lib.hid hA) (Lib.hid hBt)
      · rw [k2] at hBt; exact walk_b3 a0 w h0 _ _ _ _ (Lib.hid hA) (Lib.hid hBt)
      · rw [k2] at hBt; exact walk_b4 a0 w h0 _ _ _ _ (Lib.hid hA) (Lib.hid hBt)
  · rcases progS_k _ _ k1 with k1 | k1 | k1
    · rw [k1] at hA; exact walk_a2 a0 w h0 _ _ _ _ _ (Lib.hid hA) (Lib.hid hBt)
    · rw [k1] at hA; exact walk_a3 a0 w h0 _ _ _ _ _ (Lib.hid hA) (Lib.hid hBt)
    · rw [k1] at hA; exact walk_a4 a0 w h0 _ _ _ _ _ (Lib.hid hA) (Lib.hid hBt)

theorem own : ownKnob Tryd.prog.godebug = none := by kernel_rfl

set_option maxRecDepth 100000 in
theorem lifted (os : Os) (started : os.Started) (H : Type) (enc : TypeId × Value → H) :
    ReturnsInHanded {} Tryd.checked os 7 .any (fun w args => (Rows.parseFactsSpec.pre enc Tryd.prog Tryd.f7 Rows.parseFactsRow.domain false w args ∧ laidMetH Tryd.prog Rows.parseFactsRow.laid w) ∧ sizedMet enc Tryd.prog Tryd.f7 (OpenSpec.ofChange Rows.parseFactsSpec) false w args) (Rows.parseFactsSpec.post enc Tryd.prog Tryd.f7 false true false false) := by
  refine returnsInHanded_of_change_and (C := Tryd.checked) (X := fun w _ => laidMetH Tryd.prog Rows.parseFactsRow.laid w) (fun _ _ _ hh h => h.of_heap hh) own started (by kernel_rfl) Tryd.func7
    (ChangeSpec.witness_shaped (enc := enc) (C := Tryd.checked) (os := os) (X := fun w _ => laidMetH Tryd.prog Rows.parseFactsRow.laid w) false (World.laidAll Tryd.prog os Rows.parseFactsRow.laid) #[.string ByteArray.empty] 8 (World.laidAll_os _ _ _)
      (World.shaped_of_ZipB (by kernel_rfl) (by kernel_rfl)) (by kernel_rfl) (by kernel_rfl) (by kernel_rfl)
      (by rw [MakeChecks.laidMetH_plain _ _ _ (by kernel_rfl)]; exact laidMet_laidAll _ (by kernel_rfl) (by kernel_rfl))) ?_
  intro W base args ds gs before hval0 hW hcnd _ hL _
  have hval : ∀ (j : Nat) t v, Tryd.f7.params[j]? = some t → args[j]? = some v → Value.okWide Tryd.prog W .any base t v := hval0
  have hW' := hW
  obtain ⟨p, q, hA0, hV, rfl, hfz, hnd⟩ := hW
  have hA : DataW.TrodAll enc Tryd.prog W 0 (fun _ => true) true Tryd.f7.params.toList args.toList ds p := hA0
  rw [Tryd.params7] at hA hval
  obtain ⟨v0, vs0, d0, ds0, p0, q0, hargs, rfl, rfl, h0, r0⟩ := trodAll_cons hA
  obtain ⟨rfl, rfl, rfl⟩ := trodAll_nil r0
  obtain rfl : args = #[v0] := by cases args; simp_all
  obtain ⟨rfl, rfl⟩ := trodVars_none hV
  obtain ⟨a0, rfl, rfl, rfl, w0⟩ := Go.ChangeMaps.open_string Tryd.underlying9 (hval 0 9 v0 rfl rfl) h0
  clear hA0 hval0
  simp only [List.append_nil] at hW'
  refine (walk a0 w0 W).mono fun e W' ⟨he, hg⟩ => ?_
  subst he
  exact ⟨_, rfl, post_plain hW' (fun _ _ _ => (trodAll_cons_mk (shut_bool Tryd.underlying4 _) trodAll_mk0)) (fun sp => (trodAll_cons_mk (Go.ChangeMaps.shut_string Tryd.underlying9 w0) trodAll_mk0)) (fun _ => rfl) hg (ok_one (by kernel_rfl) rfl (okWide_bool_mk Tryd.underlying4 _))⟩

theorem row_proved : Rows.ParseFactsSaid :=
  OpenClaim.holds_of_wide 7 Tryd.f7 rfl rfl rfl rfl rfl rfl rfl ⟨rfl, rfl, rfl, rfl, rfl⟩ rfl rfl rfl rfl rfl (by kernel_rfl) Tryd.func7 (by kernel_rfl)
    (of_decide_eq_true (by kernel_rfl)) (by unfold Func.isWrapper; first | (rw [if_pos (by decide +kernel)]; kernel_rfl) | (rw [if_neg (by decide +kernel)]; exact ⟨rfl, rfl⟩))
    (fun os started H enc _ => lifted os started H enc)
theorem proved : Rows.ParseFactsCardSaid :=
  Claim7.holds_tied_plain_at .later [] Rows.parseFactsCard.laidKinds Rows.parseFactsCard.laidTests Rows.parseFactsCard.stood.harness Rows.parseFactsCard.stood.looks row_proved (fun _ h => by cases h) (by kernel_rfl) (fun _ h => by cases h) parseFacts_row_tie rfl ⟨rfl, rfl⟩ (by kernel_rfl) rfl
    (fun f fn hf hfn => by
      obtain rfl : f = 7 := Option.some.inj ((show Tryd.prog.funcNamed "antecedent/antecedentlaw08.ParseFacts" = some 7 by kernel_rfl).symm.trans hf) |>.symm
      obtain rfl : fn = Tryd.f7 := (Option.some.inj (Tryd.func7.symm.trans hfn)).symm
      exact ⟨by kernel_rfl, fun j t ht => by
        rw [Tryd.params7] at ht
        have hm : t ∈ [9] := by simpa using Array.mem_of_getElem? ht
        have hall : ([9].all fun u => !Tryd.prog.wantsStandIn u) = true := by kernel_rfl
        exact (show Tryd.prog.wantsStandIn t = false by simpa using List.all_eq_true.1 hall t hm)⟩)
    (by kernel_rfl)
#print axioms proved
end Go.Proofs.YtncafadjcelloaaDoor.parseFacts

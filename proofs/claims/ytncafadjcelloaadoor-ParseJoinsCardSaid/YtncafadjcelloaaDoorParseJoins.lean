/-
  ParseJoins (layer 8, parse): for every a and b the call returns true: two programs' rules, one behind the other, with the second one's question, are the rules of both. No condition.
-/
import Derived.Test.YtncafadjcelloaaDoorRows
import Derived.Test.YtncafadjcelloaaDoorCards
import Derived.Test.YtncafadjcelloaaDoorTie
import Derived.Test.YtncafadjcelloaaDoorPrsSin
import Derived.Test.YtncafadjcelloaaDoorPrsTop
import Derived.WalkKit
import Derived.ProofKit
import Derived.OpenShut
import Derived.LaidMore
import Derived.Lay
import Derived.SevenTiedAt
import Derived.Stop.Joined
import Derived.RegionTactic
import Derived.BigQuiet
import Derived.Lib.QuietBelow
import Derived.Deep.RegionHeld3
import Derived.Deep.MidRow
import Derived.Deep.CutRange
import Derived.Deep.DeepCutAuto
namespace Go.Proofs.YtncafadjcelloaaDoor.parseJoins
open Go.ChangeShapes Go.WideShapes Go.ChangeAt Go.RowKit FloM ValM Go.Shelf
set_option linter.unusedVariables false
set_option linter.unusedSimpArgs false
theorem sz_app (s t : ByteArray) : (s ++ t).size = s.size + t.size := by rw [← ls_len, ls_append, List.length_append, ls_len, ls_len]
def qB : ByteArray := ⟨#[10, 63, 45, 32, 120, 46]⟩
theorem ls_q (s : ByteArray) : ls (s ++ qB) = ls s ++ questL := by rw [ls_append]; rfl
theorem atom_x {z : Nat} {x d : Tk} {q : Am} (hx : kt x = (1, [120])) (hd : kt d = (4, [46])) (h : ((atomP z [x, d]).bind fun y r => (wantP [46] z r).bind fun _ r => .ok y r) = .ok q []) : q = ⟨[120], []⟩ := by
  have kx : x.t = [120] := congrArg Prod.snd hx
  have kk : x.k = 1 := congrArg Prod.fst hx
  have kd : d.t = [46] := congrArg Prod.snd hd
  have hp : predT x = true := by unfold predT; rw [kx, kk]; decide
  have e1 : atomP z [x, d] = .ok ⟨[120], []⟩ [d] := by
    unfold atomP atomB
    simp only [needP, hp, if_true, Ans.bind]
    rw [if_neg (by show ¬ d.t = _; rw [kd]; decide), kx]
  rw [e1] at h
  obtain ⟨y, r, e2, e3⟩ := bind_ok h
  cases e2
  obtain ⟨_, _, _, e4⟩ := bind_ok e3
  cases e4; rfl
/-- What is read of two texts' rules and of those of both. -/
theorem joins_same {s t : ByteArray} (hs : s.size ≤ 1500) (ht : t.size ≤ 1500) {z1 z2 z3 : Nat} (h1 : rK (progS z1 (toksL 0 (ls s ++ questL))) = 0) (h2 : rK (progS z2 (toksL 0 (ls t ++ questL))) = 0)
    (hn : (rP (progS z1 (toksL 0 (ls s ++ questL)))).r.length + (rP (progS z2 (toksL 0 (ls t ++ questL)))).r.length ≤ 200) :
    rK (progS z3 (toksL 0 (ls s ++ 10 :: (ls t ++ questL)))) = 0 ∧ rP (progS z3 (toksL 0 (ls s ++ 10 :: (ls t ++ questL)))) = ⟨(rP (progS z1 (toksL 0 (ls s ++ questL)))).r ++ (rP (progS z2 (toksL 0 (ls t ++ questL)))).r, ⟨[120], []⟩⟩ := by
  obtain ⟨x, e1, ts1, g1, p1⟩ := progS_nz _ _ h1
  obtain ⟨y, e2, ts2, g2, p2⟩ := progS_nz _ _ h2
  rw [e1, e2] at hn ⊢
  have hl1 : (ls s ++ questL).length ≤ 1506 := by rw [List.length_append, ls_len]; show s.size + 6 ≤ 1506; omega
  have hl2 : (ls t ++ questL).length ≤ 1506 := by rw [List.length_append, ls_len]; show t.size + 6 ≤ 1506; omega
  cases hS : toksL 0 (ls s) with
  | bad n => obtain ⟨m, hm⟩ := (toks_quest (ls s) 0).1 n hS; rw [hm] at g1; cases g1
  | good T =>
    cases hT : toksL 0 (ls t) with
    | bad n => obtain ⟨m, hm⟩ := (toks_quest (ls t) 0).1 n hT; rw [hm] at g2; cases g2
    | good U =>
      obtain ⟨T1, q1, x1, d1, c1, c2, c3, c4, c5⟩ := (toks_quest (ls s) 0).2 T hS
      obtain ⟨U1, q2, x2, d2, f1, f2, f3, f4, f5⟩ := (toks_quest (ls t) 0).2 U hT
      obtain ⟨T3, U3, q3, x3, d3, k1, k2, k3, k4, k5, k6⟩ := toks_two hS hT
      rw [c1] at g1; injection g1 with g1; subst g1
      rw [f1] at g2; injection g2 with g2; subst g2
      have ho1 := okt_of c1 (by omega)
      have ho2 := okt_of f1 (by omega)
      have n1 := toks_few c1; have n2 := toks_few f1
      have kq1 : q1.t = [63, 45] := congrArg Prod.snd c3
      have kq2 : q2.t = [63, 45] := congrArg Prod.snd f3
      have hj := prog_joins (z1 := z1) (z2 := z2) (z3 := z3) (A' := T3) (B' := U3) (q3 := q3) (Q3 := [x3, d3]) p1 p2 kq1 kq2 (c3.trans k4.symm) (by unfold Eqv; simp only [List.map_cons, List.map_nil]; rw [c4, c5, k5, k6]) ((Eqv.symm c2).trans k2) ((Eqv.symm f2).trans k3) ho1 ho2 (by omega) (by omega) hn
      have hq := atom_x c4 c5 (prog_parts kq1 ho1 (by omega) p1).2.2.2.2
      have e3 : progS z3 (toksL 0 (ls s ++ 10 :: (ls t ++ questL))) = .ok ⟨x.r ++ y.r, x.q⟩ [] := by
        rw [k1]
        show (progP z3 _).bind _ = _
        rw [hj]; rfl
      rw [e3]
      exact ⟨rfl, by show (⟨x.r ++ y.r, x.q⟩ : Pg) = _; rw [hq]; rfl⟩
set_option maxRecDepth 20000 in
set_option maxHeartbeats 4000000 in
theorem walk_long (a0 a1 : ByteArray) (w : World) (h0 : 1500 < (a0.size : Int) ∨ (¬ 1500 < (a0.size : Int) ∧ 1500 < (a1.size : Int))) :
    Calls Tryd.prog 3 #[.string a0, .string a1] w fun e w' => e = .returned (.bool true) ∧ Below w.heap.size w w' := by
  have hB := Below.refl w.heap.size w
  rcases h0 with h0 | ⟨h0, h1⟩
  all_goals
    go_enter Tryd.func3, Tryd.ntmps3
    go_wp2_with (go_at_call 10; refine (awake8_any _).mono ?_; rintro e w1 ⟨rfl, h'⟩; replace hB := on hB h'; clear h')
    go_ret
    exact ⟨rfl, hB⟩
theorem progS_k (z : Nat) (R : Rs) (h : ¬ rK (progS z R) = 0) : rK (progS z R) = 2 ∨ rK (progS z R) = 3 ∨ rK (progS z R) = 4 := by
  cases R with
  | bad n => exact .inl rfl
  | good ts =>
    have e' : progS z (.good ts) = wholeP progP z ts := rfl
    rw [e'] at h ⊢
    cases e : wholeP progP z ts with
    | ok x r => rw [e] at h; exact absurd rfl h
    | no a k => exact whole_nq prog_nq z ts a k e
theorem rulesL_200 {z : Nat} : ∀ (n : Nat) (acc : List Rl) (ts : List Tk) (l : List Rl) (r : List Tk), acc.length ≤ 200 → rulesL z n acc ts = .ok l r → l.length ≤ 200 := by
  intro n
  induction n with
  | zero => intro acc ts l r h0 h; cases h; exact h0
  | succ n ih =>
    intro acc ts l r h0 h
    cases hp : predT (hdT z ts) with
    | false => rw [rules_stop hp] at h; cases h; exact h0
    | true =>
      by_cases hl : acc.length = 200
      · rw [rules_full hp hl] at h; cases h
      · rw [rules_step hp hl] at h
        obtain ⟨x, r1, e1, e2⟩ := bind_ok h
        exact ih _ r1 l r (by simp; omega) e2
theorem rules_200 {z : Nat} {ts : List Tk} {x : Pg} (h : progP z ts = .ok x []) : x.r.length ≤ 200 := by
  obtain ⟨l, r, e1, e2⟩ := bind_ok h
  obtain ⟨_, _, _, e4⟩ := bind_ok e2
  obtain ⟨_, _, _, e6⟩ := bind_ok e4
  obtain ⟨_, _, _, e8⟩ := bind_ok e6
  cases e8
  exact rulesL_200 many [] ts l r (by simp) e1
theorem len_of {X : PgA} {p : Pg} (h : X.pg = p) : X.r.length = p.r.length := by rw [← h]; simp [PgA.pg]
theorem own_pg {wr U U' : World} {n c g : Nat} {xs : List Value} {A : Option Addr} (h : JA wr n xs A c U) (hp : JP wr g U) (hF : ∀ B, Fr (· = g) B U U') : U'.ownsRow wr.heap.size 51 4 (.slice A n c) n xs :=
  own_fr h.o fun ad ha => by
    have h1 := own_in h.o ad ha
    refine (hF _).block _ h1.2 fun e => ?_
    obtain ⟨_, cs, z, h2⟩ := own_typ h.o ad.block (by subst ha; rfl)
    have h3 := hp.r
    unfold Row at h3
    rw [e, h3] at h2
    injection h2 with h2; injection h2 with _ h2 _
    exact absurd h2 (by decide)
set_option maxRecDepth 20000 in
set_option maxHeartbeats 16000000 in
theorem walk_a2 (a0 a1 : ByteArray) (w : World) (h0 : ¬ 1500 < (a0.size : Int)) (h1 : ¬ 1500 < (a1.size : Int)) (p q : Pg) (a b : Nat) (m : Nat) (TA : Hid (TellsP (a0 ++ ⟨#[10, 63, 45, 32, 120, 46]⟩) p a 2)) (TB : Hid (TellsP (a1 ++ ⟨#[10, 63, 45, 32, 120, 46]⟩) q b m)) :
    Calls Tryd.prog 3 #[.string a0, .string a1] w fun e w' => e = .returned (.bool true) ∧ Below w.heap.size w w' := by
  have hB := Below.refl w.heap.size w
  have hx1 : ¬ 9223372036854775807 < a0.size + (ByteArray.mk #[10, 63, 45, 32, 120, 46]).size := by show ¬ 9223372036854775807 < a0.size + 6; omega
  have hx2 : ¬ 9223372036854775807 < a1.size + (ByteArray.mk #[10, 63, 45, 32, 120, 46]).size := by show ¬ 9223372036854775807 < a1.size + 6; omega
  go_enter Tryd.func3, Tryd.ntmps3
  go_upto_region 5 with (first
    | (go_at_call 10; refine (awake8_any _).mono ?_; rintro e w1 ⟨rfl, h'⟩; replace hB := on hB h'; clear h')
    | (go_at_call 11; with_reducible refine (TA.out _).mono ?_; rintro e w2 ⟨X, hX, rfl, hok, hb⟩; have HX := Lib.hid hX; have OKX := Lib.hid hok; replace hB := on hB hb; clear hX hb hok)
    | (refine wpList_storeR rfl 28 (.tmp 5) _ rfl w2.heap.size 0 rfl (.agg (pgC X).toArray) rfl (pgC X) rfl (pre := []) (old := [.slice none 0 0, .string ByteArray.empty, .slice none 0 0]) (post := []) (row_new w2 [.slice none 0 0, .string ByteArray.empty, .slice none 0 0]) rfl rfl (by kernel_rfl) rfl ?_; intro w3 hR hF hs; have hbs : Below w2.heap.size w2 w3 := ((Below.refl _ _).alloc (Nat.le_refl _) _).trans ((hF _).below (Nat.le_refl _) fun k hk e => by omega); have R5 : Hid (Row 28 w3 w2.heap.size (pgC X)) := Lib.hid hR; have R5c := pg_c0 hR; have OKX := Lib.hid (OKX.out.onB hbs); replace hB := on hB hbs; clear hR hF hs hbs)
    | (go_at_call 11; with_reducible refine (TB.out _).mono ?_; rintro e w4 ⟨Y, hX, rfl, hok, hb⟩; have HY := Lib.hid hX; have OKY := Lib.hid hok; have R5 := Lib.hid (rowOn R5.out hb); have R5c := pg_c0 R5.out; have OKX := Lib.hid (OKX.out.onB hb); replace hB := on hB hb; clear hX hb hok)
    | (refine wpList_storeR rfl 28 (.tmp 8) _ rfl w4.heap.size 0 rfl (.agg (pgC Y).toArray) rfl (pgC Y) rfl (pre := []) (old := [.slice none 0 0, .string ByteArray.empty, .slice none 0 0]) (post := []) (row_new w4 [.slice none 0 0, .string ByteArray.empty, .slice none 0 0]) rfl rfl (by kernel_rfl) rfl ?_; intro w5 hR hF hs; have hbs : Below w4.heap.size w4 w5 := ((Below.refl _ _).alloc (Nat.le_refl _) _).trans ((hF _).below (Nat.le_refl _) fun k hk e => by omega); have R8 : Hid (Row 28 w5 w4.heap.size (pgC Y)) := Lib.hid hR; have R8c := pg_c0 hR; have OKX := Lib.hid (OKX.out.onB hbs); have OKY := Lib.hid (OKY.out.onB hbs); have R5 := Lib.hid (rowOn R5.out hbs); have R5c := pg_c0 R5.out; replace hB := on hB hbs; clear hR hF hs hbs))
  clear TA TB
  go_wp2
  go_ret
  exact ⟨rfl, hB⟩
set_option maxRecDepth 20000 in
set_option maxHeartbeats 16000000 in
theorem walk_b2 (a0 a1 : ByteArray) (w : World) (h0 : ¬ 1500 < (a0.size : Int)) (h1 : ¬ 1500 < (a1.size : Int)) (p q : Pg) (a b : Nat) (TA : Hid (TellsP (a0 ++ ⟨#[10, 63, 45, 32, 120, 46]⟩) p a 0)) (TB : Hid (TellsP (a1 ++ ⟨#[10, 63, 45, 32, 120, 46]⟩) q b 2)) :
    Calls Tryd.prog 3 #[.string a0, .string a1] w fun e w' => e = .returned (.bool true) ∧ Below w.heap.size w w' := by
  have hB := Below.refl w.heap.size w
  have hx1 : ¬ 9223372036854775807 < a0.size + (ByteArray.mk #[10, 63, 45, 32, 120, 46]).size := by show ¬ 9223372036854775807 < a0.size + 6; omega
  have hx2 : ¬ 9223372036854775807 < a1.size + (ByteArray.mk #[10, 63, 45, 32, 120, 46]).size := by show ¬ 9223372036854775807 < a1.size + 6; omega
  go_enter Tryd.func3, Tryd.ntmps3
  go_upto_region 5 with (first
    | (go_at_call 10; refine (awake8_any _).mono ?_; rintro e w1 ⟨rfl, h'⟩; replace hB := on hB h'; clear h')
    | (go_at_call 11; with_reducible refine (TA.out _).mono ?_; rintro e w2 ⟨X, hX, rfl, hok, hb⟩; have HX := Lib.hid hX; have OKX := Lib.hid hok; replace hB := on hB hb; clear hX hb hok)
    | (refine wpList_storeR rfl 28 (.tmp 5) _ rfl w2.heap.size 0 rfl (.agg (pgC X).toArray) rfl (pgC X) rfl (pre := []) (old := [.slice none 0 0, .string ByteArray.empty, .slice none 0 0]) (post := []) (row_new w2 [.slice none 0 0, .string ByteArray.empty, .slice none 0 0]) rfl rfl (by kernel_rfl) rfl ?_; intro w3 hR hF hs; have hbs : Below w2.heap.size w2 w3 := ((Below.refl _ _).alloc (Nat.le_refl _) _).trans ((hF _).below (Nat.le_refl _) fun k hk e => by omega); have R5 : Hid (Row 28 w3 w2.heap.size (pgC X)) := Lib.hid hR; have R5c := pg_c0 hR; have OKX := Lib.hid (OKX.out.onB hbs); replace hB := on hB hbs; clear hR hF hs hbs)
    | (go_at_call 11; with_reducible refine (TB.out _).mono ?_; rintro e w4 ⟨Y, hX, rfl, hok, hb⟩; have HY := Lib.hid hX; have OKY := Lib.hid hok; have R5 := Lib.hid (rowOn R5.out hb); have R5c := pg_c0 R5.out; have OKX := Lib.hid (OKX.out.onB hb); replace hB := on hB hb; clear hX hb hok)
    | (refine wpList_storeR rfl 28 (.tmp 8) _ rfl w4.heap.size 0 rfl (.agg (pgC Y).toArray) rfl (pgC Y) rfl (pre := []) (old := [.slice none 0 0, .string ByteArray.empty, .slice none 0 0]) (post := []) (row_new w4 [.slice none 0 0, .string ByteArray.empty, .slice none 0 0]) rfl rfl (by kernel_rfl) rfl ?_; intro w5 hR hF hs; have hbs : Below w4.heap.size w4 w5 := ((Below.refl _ _).alloc (Nat.le_refl _) _).trans ((hF _).below (Nat.le_refl _) fun k hk e => by omega); have R8 : Hid (Row 28 w5 w4.heap.size (pgC Y)) := Lib.hid hR; have R8c := pg_c0 hR; have OKX := Lib.hid (OKX.out.onB hbs); have OKY := Lib.hid (OKY.out.onB hbs); have R5 := Lib.hid (rowOn R5.out hbs); have R5c := pg_c0 R5.out; replace hB := on hB hbs; clear hR hF hs hbs))
  clear TA TB
  go_wp2
  go_ret
  exact ⟨rfl, hB⟩
set_option maxRecDepth 20000 in
set_option maxHeartbeats 16000000 in
theorem walk_a3 (a0 a1 : ByteArray) (w : World) (h0 : ¬ 1500 < (a0.size : Int)) (h1 : ¬ 1500 < (a1.size : Int)) (p q : Pg) (a b : Nat) (m : Nat) (TA : Hid (TellsP (a0 ++ ⟨#[10, 63, 45, 32, 120, 46]⟩) p a 3)) (TB : Hid (TellsP (a1 ++ ⟨#[10, 63, 45, 32, 120, 46]⟩) q b m)) :
    Calls Tryd.prog 3 #[.string a0, .string a1] w fun e w' => e = .returned (.bool true) ∧ Below w.heap.size w w' := by
  have hB := Below.refl w.heap.size w
  have hx1 : ¬ 9223372036854775807 < a0.size + (ByteArray.mk #[10, 63, 45, 32, 120, 46]).size := by show ¬ 9223372036854775807 < a0.size + 6; omega
  have hx2 : ¬ 9223372036854775807 < a1.size + (ByteArray.mk #[10, 63, 45, 32, 120, 46]).size := by show ¬ 9223372036854775807 < a1.size + 6; omega
  go_enter Tryd.func3, Tryd.ntmps3
  go_upto_region 5 with (first
    | (go_at_call 10; refine (awake8_any _).mono ?_; rintro e w1 ⟨rfl, h'⟩; replace hB := on hB h'; clear h')
    | (go_at_call 11; with_reducible refine (TA.out _).mono ?_; rintro e w2 ⟨X, hX, rfl, hok, hb⟩; have HX := Lib.hid hX; have OKX := Lib.hid hok; replace hB := on hB hb; clear hX hb hok)
    | (refine wpList_storeR rfl 28 (.tmp 5) _ rfl w2.heap.size 0 rfl (.agg (pgC X).toArray) rfl (pgC X) rfl (pre := []) (old := [.slice none 0 0, .string ByteArray.empty, .slice none 0 0]) (post := []) (row_new w2 [.slice none 0 0, .string ByteArray.empty, .slice none 0 0]) rfl rfl (by kernel_rfl) rfl ?_; intro w3 hR hF hs; have hbs : Below w2.heap.size w2 w3 := ((Below.refl _ _).alloc (Nat.le_refl _) _).trans ((hF _).below (Nat.le_refl _) fun k hk e => by omega); have R5 : Hid (Row 28 w3 w2.heap.size (pgC X)) := Lib.hid hR; have R5c := pg_c0 hR; have OKX := Lib.hid (OKX.out.onB hbs); replace hB := on hB hbs; clear hR hF hs hbs)
    | (go_at_call 11; with_reducible refine (TB.out _).mono ?_; rintro e w4 ⟨Y, hX, rfl, hok, hb⟩; have HY := Lib.hid hX; have OKY := Lib.hid hok; have R5 := Lib.hid (rowOn R5.out hb); have R5c := pg_c0 R5.out; have OKX := Lib.hid (OKX.out.onB hb); replace hB := on hB hb; clear hX hb hok)
    | (refine wpList_storeR rfl 28 (.tmp 8) _ rfl w4.heap.size 0 rfl (.agg (pgC Y).toArray) rfl (pgC Y) rfl (pre := []) (old := [.slice none 0 0, .string ByteArray.empty, .slice none 0 0]) (post := []) (row_new w4 [.slice none 0 0, .string ByteArray.empty, .slice none 0 0]) rfl rfl (by kernel_rfl) rfl ?_; intro w5 hR hF hs; have hbs : Below w4.heap.size w4 w5 := ((Below.refl _ _).alloc (Nat.le_refl _) _).trans ((hF _).below (Nat.le_refl _) fun k hk e => by omega); have R8 : Hid (Row 28 w5 w4.heap.size (pgC Y)) := Lib.hid hR; have R8c := pg_c0 hR; have OKX := Lib.hid (OKX.out.onB hbs); have OKY := Lib.hid (OKY.out.onB hbs); have R5 := Lib.hid (rowOn R5.out hbs); have R5c := pg_c0 R5.out; replace hB := on hB hbs; clear hR hF hs hbs))
  clear TA TB
  go_wp2
  go_ret
  exact ⟨rfl, hB⟩
set_option maxRecDepth 20000 in
set_option maxHeartbeats 16000000 in
theorem walk_b3 (a0 a1 : ByteArray) (w : World) (h0 : ¬ 1500 < (a0.size : Int)) (h1 : ¬ 1500 < (a1.size : Int)) (p q : Pg) (a b : Nat) (TA : Hid (TellsP (a0 ++ ⟨#[10, 63, 45, 32, 120, 46]⟩) p a 0)) (TB : Hid (TellsP (a1 ++ ⟨#[10, 63, 45, 32, 120, 46]⟩) q b 3)) :
    Calls Tryd.prog 3 #[.string a0, .string a1] w fun e w' => e = .returned (.bool true) ∧ Below w.heap.size w w' := by
  have hB := Below.refl w.heap.size w
  have hx1 : ¬ 9223372036854775807 < a0.size + (ByteArray.mk #[10, 63, 45, 32, 120, 46]).size := by show ¬ 9223372036854775807 < a0.size + 6; omega
  have hx2 : ¬ 9223372036854775807 < a1.size + (ByteArray.mk #[10, 63, 45, 32, 120, 46]).size := by show ¬ 9223372036854775807 < a1.size + 6; omega
  go_enter Tryd.func3, Tryd.ntmps3
  go_upto_region 5 with (first
    | (go_at_call 10; refine (awake8_any _).mono ?_; rintro e w1 ⟨rfl, h'⟩; replace hB := on hB h'; clear h')
    | (go_at_call 11; with_reducible refine (TA.out _).mono ?_; rintro e w2 ⟨X, hX, rfl, hok, hb⟩; have HX := Lib.hid hX; have OKX := Lib.hid hok; replace hB := on hB hb; clear hX hb hok)
    | (refine wpList_storeR rfl 28 (.tmp 5) _ rfl w2.heap.size 0 rfl (.agg (pgC X).toArray) rfl (pgC X) rfl (pre := []) (old := [.slice none 0 0, .string ByteArray.empty, .slice none 0 0]) (post := []) (row_new w2 [.slice none 0 0, .string ByteArray.empty, .slice none 0 0]) rfl rfl (by kernel_rfl) rfl ?_; intro w3 hR hF hs; have hbs : Below w2.heap.size w2 w3 := ((Below.refl _ _).alloc (Nat.le_refl _) _).trans ((hF _).below (Nat.le_refl _) fun k hk e => by omega); have R5 : Hid (Row 28 w3 w2.heap.size (pgC X)) := Lib.hid hR; have R5c := pg_c0 hR; have OKX := Lib.hid (OKX.out.onB hbs); replace hB := on hB hbs; clear hR hF hs hbs)
    | (go_at_call 11; with_reducible refine (TB.out _).mono ?_; rintro e w4 ⟨Y, hX, rfl, hok, hb⟩; have HY := Lib.hid hX; have OKY := Lib.hid hok; have R5 := Lib.hid (rowOn R5.out hb); have R5c := pg_c0 R5.out; have OKX := Lib.hid (OKX.out.onB hb); replace hB := on hB hb; clear hX hb hok)
    | (refine wpList_storeR rfl 28 (.tmp 8) _ rfl w4.heap.size 0 rfl (.agg (pgC Y).toArray) rfl (pgC Y) rfl (pre := []) (old := [.slice none 0 0, .string ByteArray.empty, .slice none 0 0]) (post := []) (row_new w4 [.slice none 0 0, .string ByteArray.empty, .slice none 0 0]) rfl rfl (by kernel_rfl) rfl ?_; intro w5 hR hF hs; have hbs : Below w4.heap.size w4 w5 := ((Below.refl _ _).alloc (Nat.le_refl _) _).trans ((hF _).below (Nat.le_refl _) fun k hk e => by omega); have R8 : Hid (Row 28 w5 w4.heap.size (pgC Y)) := Lib.hid hR; have R8c := pg_c0 hR; have OKX := Lib.hid (OKX.out.onB hbs); have OKY := Lib.hid (OKY.out.onB hbs); have R5 := Lib.hid (rowOn R5.out hbs); have R5c := pg_c0 R5.out; replace hB := on hB hbs; clear hR hF hs hbs))
  clear TA TB
  go_wp2
  go_ret
  exact ⟨rfl, hB⟩
set_option maxRecDepth 20000 in
set_option maxHeartbeats 16000000 in
theorem walk_a4 (a0 a1 : ByteArray) (w : World) (h0 : ¬ 1500 < (a0.size : Int)) (h1 : ¬ 1500 < (a1.size : Int)) (p q : Pg) (a b : Nat) (m : Nat) (TA : Hid (TellsP (a0 ++ ⟨#[10, 63, 45, 32, 120, 46]⟩) p a 4)) (TB : Hid (TellsP (a1 ++ ⟨#[10, 63, 45, 32, 120, 46]⟩) q b m)) :
    Calls Tryd.prog 3 #[.string a0, .string a1] w fun e w' => e = .returned (.bool true) ∧ Below w.heap.size w w' := by
  have hB := Below.refl w.heap.size w
  have hx1 : ¬ 9223372036854775807 < a0.size + (ByteArray.mk #[10, 63, 45, 32, 120, 46]).size := by show ¬ 9223372036854775807 < a0.size + 6; omega
  have hx2 : ¬ 9223372036854775807 < a1.size + (ByteArray.mk #[10, 63, 45, 32, 120, 46]).size := by show ¬ 9223372036854775807 < a1.size + 6; omega
  go_enter Tryd.func3, Tryd.ntmps3
  go_upto_region 5 with (first
    | (go_at_call 10; refine (awake8_any _).mono ?_; rintro e w1 ⟨rfl, h'⟩; replace hB := on hB h'; clear h')
    | (go_at_call 11; with_reducible refine (TA.out _).mono ?_; rintro e w2 ⟨X, hX, rfl, hok, hb⟩; have HX := Lib.hid hX; have OKX := Lib.hid hok; replace hB := on hB hb; clear hX hb hok)
    | (refine wpList_storeR rfl 28 (.tmp 5) _ rfl w2.heap.size 0 rfl (.agg (pgC X).toArray) rfl (pgC X) rfl (pre := []) (old := [.slice none 0 0, .string ByteArray.empty, .slice none 0 0]) (post := []) (row_new w2 [.slice none 0 0, .string ByteArray.empty, .slice none 0 0]) rfl rfl (by kernel_rfl) rfl ?_; intro w3 hR hF hs; have hbs : Below w2.heap.size w2 w3 := ((Below.refl _ _).alloc (Nat.le_refl _) _).trans ((hF _).below (Nat.le_refl _) fun k hk e => by omega); have R5 : Hid (Row 28 w3 w2.heap.size (pgC X)) := Lib.hid hR; have R5c := pg_c0 hR; have OKX := Lib.hid (OKX.out.onB hbs); replace hB := on hB hbs; clear hR hF hs hbs)
    | (go_at_call 11; with_reducible refine (TB.out _).mono ?_; rintro e w4 ⟨Y, hX, rfl, hok, hb⟩; have HY := Lib.hid hX; have OKY := Lib.hid hok; have R5 := Lib.hid (rowOn R5.out hb); have R5c := pg_c0 R5.out; have OKX := Lib.hid (OKX.out.onB hb); replace hB := on hB hb; clear hX hb hok)
    | (refine wpList_storeR rfl 28 (.tmp 8) _ rfl w4.heap.size 0 rfl (.agg (pgC Y).toArray) rfl (pgC Y) rfl (pre := []) (old := [.slice none 0 0, .string ByteArray.empty, .slice none 0 0]) (post := []) (row_new w4 [.slice none 0 0, .string ByteArray.empty, .slice none 0 0]) rfl rfl (by kernel_rfl) rfl ?_; intro w5 hR hF hs; have hbs : Below w4.heap.size w4 w5 := ((Below.refl _ _).alloc (Nat.le_refl _) _).trans ((hF _).below (Nat.le_refl _) fun k hk e => by omega); have R8 : Hid (Row 28 w5 w4.heap.size (pgC Y)) := Lib.hid hR; have R8c := pg_c0 hR; have OKX := Lib.hid (OKX.out.onB hbs); have OKY := Lib.hid (OKY.out.onB hbs); have R5 := Lib.hid (rowOn R5.out hbs); have R5c := pg_c0 R5.out; replace hB := on hB hbs; clear hR hF hs hbs))
  clear TA TB
  go_wp2
  go_ret
  exact ⟨rfl, hB⟩
set_option maxRecDepth 20000 in
set_option maxHeartbeats 16000000 in
theorem walk_b4 (a0 a1 : ByteArray) (w : World) (h0 : ¬ 1500 < (a0.size : Int)) (h1 : ¬ 1500 < (a1.size : Int)) (p q : Pg) (a b : Nat) (TA : Hid (TellsP (a0 ++ ⟨#[10, 63, 45, 32, 120, 46]⟩) p a 0)) (TB : Hid (TellsP (a1 ++ ⟨#[10, 63, 45, 32, 120, 46]⟩) q b 4)) :
    Calls Tryd.prog 3 #[.string a0, .string a1] w fun e w' => e = .returned (.bool true) ∧ Below w.heap.size w w' := by
  have hB := Below.refl w.heap.size w
  have hx1 : ¬ 9223372036854775807 < a0.size + (ByteArray.mk #[10, 63, 45, 32, 120, 46]).size := by show ¬ 9223372036854775807 < a0.size + 6; omega
  have hx2 : ¬ 9223372036854775807 < a1.size + (ByteArray.mk #[10, 63, 45, 32, 120, 46]).size := by show ¬ 9223372036854775807 < a1.size + 6; omega
  go_enter Tryd.func3, Tryd.ntmps3
  go_upto_region 5 with (first
    | (go_at_call 10; refine (awake8_any _).mono ?_; rintro e w1 ⟨rfl, h'⟩; replace hB := on hB h'; clear h')
    | (go_at_call 11; with_reducible refine (TA.out _).mono ?_; rintro e w2 ⟨X, hX, rfl, hok, hb⟩; have HX := Lib.hid hX; have OKX := Lib.hid hok; replace hB := on hB hb; clear hX hb hok)
    | (refine wpList_storeR rfl 28 (.tmp 5) _ rfl w2.heap.size 0 rfl (.agg (pgC X).toArray) rfl (pgC X) rfl (pre := []) (old := [.slice none 0 0, .string ByteArray.empty, .slice none 0 0]) (post := []) (row_new w2 [.slice none 0 0, .string ByteArray.empty, .slice none 0 0]) rfl rfl (by kernel_rfl) rfl ?_; intro w3 hR hF hs; have hbs : Below w2.heap.size w2 w3 := ((Below.refl _ _).alloc (Nat.le_refl _) _).trans ((hF _).below (Nat.le_refl _) fun k hk e => by omega); have R5 : Hid (Row 28 w3 w2.heap.size (pgC X)) := Lib.hid hR; have R5c := pg_c0 hR; have OKX := Lib.hid (OKX.out.onB hbs); replace hB := on hB hbs; clear hR hF hs hbs)
    | (go_at_call 11; with_reducible refine (TB.out _).mono ?_; rintro e w4 ⟨Y, hX, rfl, hok, hb⟩; have HY := Lib.hid hX; have OKY := Lib.hid hok; have R5 := Lib.hid (rowOn R5.out hb); have R5c := pg_c0 R5.out; have OKX := Lib.hid (OKX.out.onB hb); replace hB := on hB hb; clear hX hb hok)
    | (refine wpList_storeR rfl 28 (.tmp 8) _ rfl w4.heap.size 0 rfl (.agg (pgC Y).toArray) rfl (pgC Y) rfl (pre := []) (old := [.slice none 0 0, .string ByteArray.empty, .slice none 0 0]) (post := []) (row_new w4 [.slice none 0 0, .string ByteArray.empty, .slice none 0 0]) rfl rfl (by kernel_rfl) rfl ?_; intro w5 hR hF hs; have hbs : Below w4.heap.size w4 w5 := ((Below.refl _ _).alloc (Nat.le_refl _) _).trans ((hF _).below (Nat.le_refl _) fun k hk e => by omega); have R8 : Hid (Row 28 w5 w4.heap.size (pgC Y)) := Lib.hid hR; have R8c := pg_c0 hR; have OKX := Lib.hid (OKX.out.onB hbs); have OKY := Lib.hid (OKY.out.onB hbs); have R5 := Lib.hid (rowOn R5.out hbs); have R5c := pg_c0 R5.out; replace hB := on hB hbs; clear hR hF hs hbs))
  clear TA TB
  go_wp2
  go_ret
  exact ⟨rfl, hB⟩
set_option maxRecDepth 20000 in
set_option maxHeartbeats 16000000 in
theorem walk_many (a0 a1 : ByteArray) (w : World) (h0 : ¬ 1500 < (a0.size : Int)) (h1 : ¬ 1500 < (a1.size : Int)) (p q : Pg) (a b : Nat) (TA : Hid (TellsP (a0 ++ ⟨#[10, 63, 45, 32, 120, 46]⟩) p a 0)) (TB : Hid (TellsP (a1 ++ ⟨#[10, 63, 45, 32, 120, 46]⟩) q b 0)) (hp : p.r.length ≤ 200) (hq : q.r.length ≤ 200) (hm : 200 < p.r.length + q.r.length) :
    Calls Tryd.prog 3 #[.string a0, .string a1] w fun e w' => e = .returned (.bool true) ∧ Below w.heap.size w w' := by
  have hB := Below.refl w.heap.size w
  have hx1 : ¬ 9223372036854775807 < a0.size + (ByteArray.mk #[10, 63, 45, 32, 120, 46]).size := by show ¬ 9223372036854775807 < a0.size + 6; omega
  have hx2 : ¬ 9223372036854775807 < a1.size + (ByteArray.mk #[10, 63, 45, 32, 120, 46]).size := by show ¬ 9223372036854775807 < a1.size + 6; omega
  go_enter Tryd.func3, Tryd.ntmps3
  go_wp2_with (first
    | (go_at_call 10; refine (awake8_any _).mono ?_; rintro e w1 ⟨rfl, h'⟩; replace hB := on hB h'; clear h')
    | (go_at_call 11; with_reducible refine (TA.out _).mono ?_; rintro e w2 ⟨X, hX, rfl, hok, hb⟩; have HX := Lib.hid hX; have OKX := Lib.hid hok; replace hB := on hB hb; have lX := len_of hX; have lX1 := Nat.le_of_eq lX; have lX2 := Nat.le_of_eq lX.symm; clear lX hX hb hok)
    | (refine wpList_storeR rfl 28 (.tmp 5) _ rfl w2.heap.size 0 rfl (.agg (pgC X).toArray) rfl (pgC X) rfl (pre := []) (old := [.slice none 0 0, .string ByteArray.empty, .slice none 0 0]) (post := []) (row_new w2 [.slice none 0 0, .string ByteArray.empty, .slice none 0 0]) rfl rfl (by kernel_rfl) rfl ?_; intro w3 hR hF hs; have hbs : Below w2.heap.size w2 w3 := ((Below.refl _ _).alloc (Nat.le_refl _) _).trans ((hF _).below (Nat.le_refl _) fun k hk e => by omega); have R5 : Hid (Row 28 w3 w2.heap.size (pgC X)) := Lib.hid hR; have R5c := pg_c0 hR; have OKX := Lib.hid (OKX.out.onB hbs); replace hB := on hB hbs; clear hR hF hs hbs)
    | (go_at_call 11; with_reducible refine (TB.out _).mono ?_; rintro e w4 ⟨Y, hX, rfl, hok, hb⟩; have HY := Lib.hid hX; have OKY := Lib.hid hok; have R5 := Lib.hid (rowOn R5.out hb); have R5c := pg_c0 R5.out; have OKX := Lib.hid (OKX.out.onB hb); replace hB := on hB hb; have lY := len_of hX; have lY1 := Nat.le_of_eq lY; have lY2 := Nat.le_of_eq lY.symm; have hsum : 200 < (X.r.length : Int) + (Y.r.length : Int) := (by omega); clear lY hX hb hok)
    | (refine wpList_storeR rfl 28 (.tmp 8) _ rfl w4.heap.size 0 rfl (.agg (pgC Y).toArray) rfl (pgC Y) rfl (pre := []) (old := [.slice none 0 0, .string ByteArray.empty, .slice none 0 0]) (post := []) (row_new w4 [.slice none 0 0, .string ByteArray.empty, .slice none 0 0]) rfl rfl (by kernel_rfl) rfl ?_; intro w5 hR hF hs; have hbs : Below w4.heap.size w4 w5 := ((Below.refl _ _).alloc (Nat.le_refl _) _).trans ((hF _).below (Nat.le_refl _) fun k hk e => by omega); have R8 : Hid (Row 28 w5 w4.heap.size (pgC Y)) := Lib.hid hR; have R8c := pg_c0 hR; have OKX := Lib.hid (OKX.out.onB hbs); have OKY := Lib.hid (OKY.out.onB hbs); have R5 := Lib.hid (rowOn R5.out hbs); have R5c := pg_c0 R5.out; replace hB := on hB hbs; clear hR hF hs hbs))
  go_ret
  exact ⟨rfl, hB⟩
set_option maxRecDepth 20000 in
set_option maxHeartbeats 16000000 in
theorem walk_main (a0 a1 : ByteArray) (w : World) (h0 : ¬ 1500 < (a0.size : Int)) (h1 : ¬ 1500 < (a1.size : Int)) (p q : Pg) (a b : Nat) (TA : Hid (TellsP (a0 ++ ⟨#[10, 63, 45, 32, 120, 46]⟩) p a 0)) (TB : Hid (TellsP (a1 ++ ⟨#[10, 63, 45, 32, 120, 46]⟩) q b 0)) (c : Nat) (TC : Hid (TellsP (a0 ++ ⟨#[10]⟩ ++ a1 ++ ⟨#[10, 63, 45, 32, 120, 46]⟩) ⟨p.r ++ q.r, ⟨[120], []⟩⟩ c 0)) (hm : p.r.length + q.r.length ≤ 200) :
    Calls Tryd.prog 3 #[.string a0, .string a1] w fun e w' => e = .returned (.bool true) ∧ Below w.heap.size w w' := by
  have hB := Below.refl w.heap.size w
  have hx1 : ¬ 9223372036854775807 < a0.size + (ByteArray.mk #[10, 63, 45, 32, 120, 46]).size := by show ¬ 9223372036854775807 < a0.size + 6; omega
  have hx2 : ¬ 9223372036854775807 < a1.size + (ByteArray.mk #[10, 63, 45, 32, 120, 46]).size := by show ¬ 9223372036854775807 < a1.size + 6; omega
  have hx3 : ¬ 9223372036854775807 < a0.size + (ByteArray.mk #[10]).size := by show ¬ 9223372036854775807 < a0.size + 1; omega
  have hy1 : (a0 ++ ⟨#[10]⟩).size = a0.size + 1 := sz_app _ _
  have hy2 : (a0 ++ ⟨#[10]⟩ ++ a1).size = a0.size + 1 + a1.size := by rw [sz_app, hy1]
  have hx4 : ¬ 9223372036854775807 < (a0 ++ ⟨#[10]⟩).size + a1.size := by omega
  have hx5 : ¬ 9223372036854775807 < (a0 ++ ⟨#[10]⟩ ++ a1).size + (ByteArray.mk #[10, 63, 45, 32, 120, 46]).size := by rw [hy2]; show ¬ 9223372036854775807 < a0.size + 1 + a1.size + 6; omega
  clear hy1 hy2
  obtain ⟨i0, hi0, hz0, hz1, hz2⟩ := info_parts info_rule
  have HI := Lib.hid (And.intro hi0 (And.intro hz0 (And.intro hz1 hz2)))
  clear hi0 hz0 hz1 hz2
  go_enter Tryd.func3, Tryd.ntmps3
  go_wp2_with (first
    | (go_at_call 10; refine (awake8_any _).mono ?_; rintro e w1 ⟨rfl, h'⟩; replace hB := on hB h'; clear h')
    | (go_at_call 11; with_reducible refine (TA.out _).mono ?_; rintro e w2 ⟨X, hX, rfl, hok, hb⟩; have HX := Lib.hid hX; have OKX := Lib.hid hok; replace hB := on hB hb; have lX := len_of hX; have lX1 := Nat.le_of_eq lX; have lX2 := Nat.le_of_eq lX.symm; clear lX hX hb hok)
    | (refine wpList_storeR rfl 28 (.tmp 5) _ rfl w2.heap.size 0 rfl (.agg (pgC X).toArray) rfl (pgC X) rfl (pre := []) (old := [.slice none 0 0, .string ByteArray.empty, .slice none 0 0]) (post := []) (row_new w2 [.slice none 0 0, .string ByteArray.empty, .slice none 0 0]) rfl rfl (by kernel_rfl) rfl ?_; intro w3 hR hF hs; have hbs : Below w2.heap.size w2 w3 := ((Below.refl _ _).alloc (Nat.le_refl _) _).trans ((hF _).below (Nat.le_refl _) fun k hk e => by omega); have R5 : Hid (Row 28 w3 w2.heap.size (pgC X)) := Lib.hid hR; have R5c := pg_c0 hR; have OKX := Lib.hid (OKX.out.onB hbs); replace hB := on hB hbs; clear hR hF hs hbs)
    | (go_at_call 11; with_reducible refine (TB.out _).mono ?_; rintro e w4 ⟨Y, hX, rfl, hok, hb⟩; have HY := Lib.hid hX; have OKY := Lib.hid hok; have R5 := Lib.hid (rowOn R5.out hb); have R5c := pg_c0 R5.out; have OKX := Lib.hid (OKX.out.onB hb); replace hB := on hB hb; have lY := len_of hX; have lY1 := Nat.le_of_eq lY; have lY2 := Nat.le_of_eq lY.symm; have hsum : ¬ 200 < (X.r.length : Int) + (Y.r.length : Int) := (by omega); clear lY hX hb hok)
    | (refine wpList_storeR rfl 28 (.tmp 8) _ rfl w4.heap.size 0 rfl (.agg (pgC Y).toArray) rfl (pgC Y) rfl (pre := []) (old := [.slice none 0 0, .string ByteArray.empty, .slice none 0 0]) (post := []) (row_new w4 [.slice none 0 0, .string ByteArray.empty, .slice none 0 0]) rfl rfl (by kernel_rfl) rfl ?_; intro w5 hR hF hs; have hbs : Below w4.heap.size w4 w5 := ((Below.refl _ _).alloc (Nat.le_refl _) _).trans ((hF _).below (Nat.le_refl _) fun k hk e => by omega); have R8 : Hid (Row 28 w5 w4.heap.size (pgC Y)) := Lib.hid hR; have R8c := pg_c0 hR; have OKX := Lib.hid (OKX.out.onB hbs); have OKY := Lib.hid (OKY.out.onB hbs); have R5 := Lib.hid (rowOn R5.out hbs); have R5c := pg_c0 R5.out; replace hB := on hB hbs; clear hR hF hs hbs)
    | (go_at_call 11; with_reducible refine (TC.out _).mono ?_; rintro e w6 ⟨Z, hX, rfl, hok, hb⟩; have HZ := Lib.hid hX; have OKZ := Lib.hid hok; have R5 := Lib.hid (rowOn R5.out hb); have R5c := pg_c0 R5.out; have R8 := Lib.hid (rowOn R8.out hb); have R8c := pg_c0 R8.out; have OKX := Lib.hid (OKX.out.onB hb); have OKY := Lib.hid (OKY.out.onB hb); replace hB := on hB hb; clear hX hb hok)
    | (refine wpList_storeR rfl 28 (.tmp 11) _ rfl w6.heap.size 0 rfl (.agg (pgC Z).toArray) rfl (pgC Z) rfl (pre := []) (old := [.slice none 0 0, .string ByteArray.empty, .slice none 0 0]) (post := []) (row_new w6 [.slice none 0 0, .string ByteArray.empty, .slice none 0 0]) rfl rfl (by kernel_rfl) rfl ?_; intro w7 hR hF hs; have hbs : Below w6.heap.size w6 w7 := ((Below.refl _ _).alloc (Nat.le_refl _) _).trans ((hF _).below (Nat.le_refl _) fun k hk e => by omega); have R11 : Hid (Row 28 w7 w6.heap.size (pgC Z)) := Lib.hid hR; have R11c := pg_c0 hR; have OKX := Lib.hid (OKX.out.onB hbs); have OKY := Lib.hid (OKY.out.onB hbs); have OKZ := Lib.hid (OKZ.out.onB hbs); have R5 := Lib.hid (rowOn R5.out hbs); have R8 := Lib.hid (rowOn R8.out hbs); have R5c := pg_c0 R5.out; have R8c := pg_c0 R8.out; replace hB := on hB hbs; clear hR hF hs hbs))
  have HXR := Lib.hid OKX.out.rd; have HYR := Lib.hid OKY.out.rd; have HZR := Lib.hid OKZ.out.rd
  have HLT := Lib.hid (And.intro R5.out.lt (And.intro R8.out.lt R11.out.lt))
  have hBW := Lib.hid hB
  clear hB
  go_upto_region 8 with fail
  go_cut [14] (fun v14 wx => ∃ (g : Nat) (A2 : Option Addr) (c2 : Nat), v14 = .pointer (some ⟨g, 0, none⟩) ∧ Row 28 wx g [.slice A2 (X.r.length + Y.r.length) c2, .string ⟨#[120]⟩, .slice none 0 0] ∧ wx.ownsRow w7.heap.size 51 4 (.slice A2 (X.r.length + Y.r.length) c2) (X.r.length + Y.r.length) (cellsOf rlC X.r ++ cellsOf rlC Y.r) ∧ Below w7.heap.size w7 wx)
  case first =>
    refine wp_region_held_drew (S := fun u => Below w7.heap.size w7 u) (by kernel_rfl) (Below.refl _ _).drew (fun hHeld => ?_)
    refine wpAnyH_take (i := 1) (v := ?v1) rfl (by kernel_rfl) (by kernel_rfl) (by kernel_rfl) (fun _ _ _ h => h) (Or.inl ⟨by rfl, ?hy1⟩) hHeld ?rest1
    case hy1 => (intro u hSw; (try dsimp only at hSw); have hz0 := (keep hSw _ _ HLT.out.1).trans R5c; have hz1 := (keep hSw _ _ HLT.out.2.1).trans R8c; go_simp; try with_reducible rfl)
    try simp only [Act.put, List.setIfInBounds_toArray, List.set_cons_zero, List.set_cons_succ, List.getElem_toArray, List.getElem_cons_zero, List.getElem_cons_succ]
    refine wpAnyH_take (i := 2) (v := ?v2) rfl (by kernel_rfl) (by kernel_rfl) (by kernel_rfl) (fun _ _ _ h => h) (Or.inl ⟨by rfl, ?hy2⟩) hHeld ?rest2
    case hy2 => (intro u hSw; (try dsimp only at hSw); have hz0 := (keep hSw _ _ HLT.out.1).trans R5c; have hz1 := (keep hSw _ _ HLT.out.2.1).trans R8c; go_simp; try with_reducible rfl)
    try simp only [Act.put, List.setIfInBounds_toArray, List.set_cons_zero, List.set_cons_succ, List.getElem_toArray, List.getElem_cons_zero, List.getElem_cons_succ]
    refine wpAnyH_take (i := 4) (v := ?v4) rfl (by kernel_rfl) (by kernel_rfl) (by kernel_rfl) (fun _ _ _ h => h) (Or.inl ⟨by rfl, ?hy4⟩) hHeld ?rest4
    case hy4 => (intro u hSw; (try dsimp only at hSw); have hz0 := (keep hSw _ _ HLT.out.1).trans R5c; have hz1 := (keep hSw _ _ HLT.out.2.1).trans R8c; go_simp; try with_reducible rfl)
    try simp only [Act.put, List.setIfInBounds_toArray, List.set_cons_zero, List.set_cons_succ, List.getElem_toArray, List.getElem_cons_zero, List.getElem_cons_succ]
    refine wpAnyH_take (i := 5) (v := ?v5) rfl (by kernel_rfl) (by kernel_rfl) (by kernel_rfl) (fun _ _ _ h => h) (Or.inl ⟨by rfl, ?hy5⟩) hHeld ?rest5
    case hy5 => (intro u hSw; (try dsimp only at hSw); have hz0 := (keep hSw _ _ HLT.out.1).trans R5c; have hz1 := (keep hSw _ _ HLT.out.2.1).trans R8c; go_simp; try with_reducible rfl)
    try simp only [Act.put, List.setIfInBounds_toArray, List.set_cons_zero, List.set_cons_succ, List.getElem_toArray, List.getElem_cons_zero, List.getElem_cons_succ]
    refine wpAnyH_take (i := 7) (v := ?v7) rfl (by kernel_rfl) (by kernel_rfl) (by kernel_rfl) (fun _ _ _ h => h) (Or.inl ⟨by rfl, ?hy7⟩) hHeld ?rest7
    case hy7 => (intro u hSw; (try dsimp only at hSw); have hz0 := (keep hSw _ _ HLT.out.1).trans R5c; have hz1 := (keep hSw _ _ HLT.out.2.1).trans R8c; go_simp; try with_reducible rfl)
    try simp only [Act.put, List.setIfInBounds_toArray, List.set_cons_zero, List.set_cons_succ, List.getElem_toArray, List.getElem_cons_zero, List.getElem_cons_succ]
    clear hHeld
    obtain ⟨V0, hV0⟩ : ∃ V0, w7.drew = V0 := ⟨_, rfl⟩
    have b0 : Below w7.heap.size w7 V0 := by rw [← hV0]; exact (Below.refl _ _).drew
    rw [hV0]
    clear hV0
    refine wpAnyH_ready (rs := [0, 9]) (by kernel_rfl) (by simp) ?_
    refine AllReadyH.cons rfl (fun K hK => ?_) (AllReadyH.cons rfl (fun K hK => ?_) AllReadyH.nil)
    · go_simp
      have J1 := JA.made (wr := w7) b0
      obtain ⟨V1, hV1⟩ : ∃ V1, V0.alloc (.cells #[] 51) = V1 := ⟨_, rfl⟩
      rw [hV1] at J1
      rw [hV1]
      clear hV1
      refine hK.out _ _ J1.b (fun _ => ?_)
      clear hK K
      try simp only [Act.put, List.setIfInBounds_toArray, List.set_cons_zero, List.set_cons_succ, List.getElem_toArray, List.getElem_cons_zero, List.getElem_cons_succ]
      refine wpAnyH_ready (rs := [3, 9]) (by kernel_rfl) (by simp) ?_
      refine AllReadyH.cons rfl (fun K hK => ?_) (AllReadyH.cons rfl (fun K hK => ?_) AllReadyH.nil)
      · rw [if_pos (by rfl)]
        try simp only [Act.put, List.setIfInBounds_toArray, List.set_cons_zero, List.set_cons_succ, List.getElem_toArray, List.getElem_cons_zero, List.getElem_cons_succ]
        refine step_appX (cl := rlC) (sz := 4) (fun _ => rfl) rl_one (by decide) (.tmp 68) (.tmp 70) 23 ?ho_2 w7.heap.size 51 i0 _ 72 Tryd.underlying23 HI.out.1 HI.out.2.1 HI.out.2.2.1 HI.out.2.2.2 rfl (by decide) (some ⟨V0.heap.size, 0, none⟩) 0 0 [] ?hs_2 J1.o X.A X.c X.r ?hx_2 (RdX.on HXR.out.1 J1.b) (by omega) J1.b.size ?hK_2
        case ho_2 => rfl
        case hs_2 => first | rfl | simp [Act.eval, Act.put]
        case hx_2 => first | rfl | simp [Act.eval, Act.put]
        intro A2 c2 V2 ho2 hg2
        have J2 := J1.grow ho2 hg2
        refine hK.out _ _ J2.b (fun _ => ?_)
        clear hK K
        try simp only [Act.put, List.setIfInBounds_toArray, List.set_cons_zero, List.set_cons_succ, List.getElem_toArray, List.getElem_cons_zero, List.getElem_cons_succ]
        refine wpAnyH_ready (rs := [6, 9]) (by kernel_rfl) (by simp) ?_
        refine AllReadyH.cons rfl (fun K hK => ?_) (AllReadyH.cons rfl (fun K hK => ?_) AllReadyH.nil)
        · rw [if_pos (by rfl)]
          try simp only [Act.put, List.setIfInBounds_toArray, List.set_cons_zero, List.set_cons_succ, List.getElem_toArray, List.getElem_cons_zero, List.getElem_cons_succ]
          refine step_appX (cl := rlC) (sz := 4) (fun _ => rfl) rl_one (by decide) (.tmp 71) (.tmp 73) 23 ?ho_3 w7.heap.size 51 i0 _ 72 Tryd.underlying23 HI.out.1 HI.out.2.1 HI.out.2.2.1 HI.out.2.2.2 rfl (by decide) A2 (0 + X.r.length) c2 ([] ++ cellsOf rlC X.r) ?hs_3 J2.o Y.A Y.c Y.r ?hx_3 (RdX.on HYR.out.1 J2.b) (by omega) J2.b.size ?hK_3
          case ho_3 => rfl
          case hs_3 => first | rfl | simp [Act.eval, Act.put]
          case hx_3 => first | rfl | simp [Act.eval, Act.put]
          intro A3 c3 V3 ho3 hg3
          have J3 := J2.grow ho3 hg3
          simp only [Nat.zero_add, List.nil_append] at J3
          try simp only [Nat.zero_add]
          refine hK.out _ _ J3.b (fun _ => ?_)
          clear hK K
          try simp only [Act.put, List.setIfInBounds_toArray, List.set_cons_zero, List.set_cons_succ, List.getElem_toArray, List.getElem_cons_zero, List.getElem_cons_succ]
          refine wpAnyH_take (i := 8) (v := ?v8_4) rfl (by kernel_rfl) (by kernel_rfl) (by kernel_rfl) (fun _ _ _ h => h) (Or.inl ⟨by rfl, ?hy8_4⟩) J3.b ?rest8_4
          case hy8_4 => (intro u hSw; go_simp; try with_reducible rfl)
          try simp only [Act.put, List.setIfInBounds_toArray, List.set_cons_zero, List.set_cons_succ, List.getElem_toArray, List.getElem_cons_zero, List.getElem_cons_succ]
          refine wpAnyH_ready (rs := [9]) (by kernel_rfl) (by simp) ?_
          refine AllReadyH.cons rfl (fun K hK => ?_) AllReadyH.nil
          go_simp
          have P5 := JP.made (wr := w7) J3.b
          have P5b : Below w7.heap.size w7 (V3.alloc (.cells pz.toArray 28)) := Below.alloc J3.b (Below.size J3.b) _
          have J5 := J3.al (.cells pz.toArray 28)
          obtain ⟨V5, hV5⟩ : ∃ V5, V3.alloc (.cells pz.toArray 28) = V5 := ⟨_, rfl⟩
          rw [hV5] at P5 P5b J5
          change V3.alloc (.cells #[.slice none 0 0, .string ⟨#[]⟩, .slice none 0 0] 28) = V5 at hV5
          rw [hV5]
          clear hV5
          refine hK.out _ _ P5b (fun _ => ?_)
          clear hK K
          try simp only [Act.put, List.setIfInBounds_toArray, List.set_cons_zero, List.set_cons_succ, List.getElem_toArray, List.getElem_cons_zero, List.getElem_cons_succ]
          refine wpAnyH_ready (rs := [10]) (by kernel_rfl) (by simp) ?_
          refine AllReadyH.cons rfl (fun K hK => ?_) AllReadyH.nil
          rw [if_pos (by rfl)]
          try simp only [Act.put, List.setIfInBounds_toArray, List.set_cons_zero, List.set_cons_succ, List.getElem_toArray, List.getElem_cons_zero, List.getElem_cons_succ]
          refine step_storeR 28 (.tmp 14) (.tmp 76) ?ho_6 V3.heap.size ?hx_6 (.agg #[.slice A3 (X.r.length + Y.r.length) c3, .string ⟨#[120]⟩, .slice none 0 0]) ?hy_6 [.slice A3 (X.r.length + Y.r.length) c3, .string ⟨#[120]⟩, .slice none 0 0] rfl P5.r rfl (by kernel_rfl) rfl ?hK_6
          case ho_6 => rfl
          case hx_6 => first | rfl | simp [Act.eval, Act.put]
          case hy_6 => first | rfl | simp [Act.eval, Act.put]
          intro V9 hR9 hF9 hs9
          have hge := P5.ge; have hlt9 := P5.r.lt
          have b9 : Below w7.heap.size w7 V9 := J5.b.trans ((hF9 _).below (Nat.le_refl _) fun k hk e => by omega)
          have o9 := own_pg J5 P5 hF9
          refine hK.out _ _ b9 (fun _ => ?_)
          clear hK K
          refine wpAnyH_done (by kernel_rfl) ?_ _
          try simp only [Act.put, List.setIfInBounds_toArray, List.set_cons_zero, List.set_cons_succ, List.getElem_toArray, List.getElem_cons_zero, List.getElem_cons_succ]
          go_wp2_with fail
          go_meet
          exact ⟨V3.heap.size, A3, c3, rfl, hR9, by simpa using o9, b9⟩
        · go_simp
          have P7 := JP.made (wr := w7) J2.b
          have P7b : Below w7.heap.size w7 (V2.alloc (.cells pz.toArray 28)) := Below.alloc J2.b (Below.size J2.b) _
          have J7 := J2.al (.cells pz.toArray 28)
          obtain ⟨V7, hV7⟩ : ∃ V7, V2.alloc (.cells pz.toArray 28) = V7 := ⟨_, rfl⟩
          rw [hV7] at P7 P7b J7
          change V2.alloc (.cells #[.slice none 0 0, .string ⟨#[]⟩, .slice none 0 0] 28) = V7 at hV7
          rw [hV7]
          clear hV7
          refine hK.out _ _ P7b (fun _ => ?_)
          clear hK K
          try simp only [Act.put, List.setIfInBounds_toArray, List.set_cons_zero, List.set_cons_succ, List.getElem_toArray, List.getElem_cons_zero, List.getElem_cons_succ]
          refine wpAnyH_ready (rs := [6]) (by kernel_rfl) (by simp) ?_
          refine AllReadyH.cons rfl (fun K hK => ?_) AllReadyH.nil
          rw [if_pos (by rfl)]
          try simp only [Act.put, List.setIfInBounds_toArray, List.set_cons_zero, List.set_cons_succ, List.getElem_toArray, List.getElem_cons_zero, List.getElem_cons_succ]
          refine step_appX (cl := rlC) (sz := 4) (fun _ => rfl) rl_one (by decide) (.tmp 71) (.tmp 73) 23 ?ho_8 w7.heap.size 51 i0 _ 72 Tryd.underlying23 HI.out.1 HI.out.2.1 HI.out.2.2.1 HI.out.2.2.2 rfl (by decide) A2 (0 + X.r.length) c2 ([] ++ cellsOf rlC X.r) ?hs_8 J7.o Y.A Y.c Y.r ?hx_8 (RdX.on HYR.out.1 J7.b) (by omega) J7.b.size ?hK_8
          case ho_8 => rfl
          case hs_8 => first | rfl | simp [Act.eval, Act.put]
          case hx_8 => first | rfl | simp [Act.eval, Act.put]
          intro A8 c8 V8 ho8 hg8
          have J8 := J7.grow ho8 hg8
          have P8 := P7.grow J7 hg8
          simp only [Nat.zero_add, List.nil_append] at J8
          try simp only [Nat.zero_add]
          refine hK.out _ _ J8.b (fun _ => ?_)
          clear hK K
          try simp only [Act.put, List.setIfInBounds_toArray, List.set_cons_zero, List.set_cons_succ, List.getElem_toArray, List.getElem_cons_zero, List.getElem_cons_succ]
          refine wpAnyH_take (i := 8) (v := ?v8_9) rfl (by kernel_rfl) (by kernel_rfl) (by kernel_rfl) (fun _ _ _ h => h) (Or.inl ⟨by rfl, ?hy8_9⟩) J8.b ?rest8_9
          case hy8_9 => (intro u hSw; go_simp; try with_reducible rfl)
          try simp only [Act.put, List.setIfInBounds_toArray, List.set_cons_zero, List.set_cons_succ, List.getElem_toArray, List.getElem_cons_zero, List.getElem_cons_succ]
          refine wpAnyH_ready (rs := [10]) (by kernel_rfl) (by simp) ?_
          refine AllReadyH.cons rfl (fun K hK => ?_) AllReadyH.nil
          rw [if_pos (by rfl)]
          try simp only [Act.put, List.setIfInBounds_toArray, List.set_cons_zero, List.set_cons_succ, List.getElem_toArray, List.getElem_cons_zero, List.getElem_cons_succ]
          refine step_storeR 28 (.tmp 14) (.tmp 76) ?ho_10 V2.heap.size ?hx_10 (.agg #[.slice A8 (X.r.length + Y.r.length) c8, .string ⟨#[120]⟩, .slice none 0 0]) ?hy_10 [.slice A8 (X.r.length + Y.r.length) c8, .string ⟨#[120]⟩, .slice none 0 0] rfl P8.r rfl (by kernel_rfl) rfl ?hK_10
          case ho_10 => rfl
          case hx_10 => first | rfl | simp [Act.eval, Act.put]
          case hy_10 => first | rfl | simp [Act.eval, Act.put]
          intro V9 hR9 hF9 hs9
          have hge := P8.ge; have hlt9 := P8.r.lt
          have b9 : Below w7.heap.size w7 V9 := J8.b.trans ((hF9 _).below (Nat.le_refl _) fun k hk e => by omega)
          have o9 := own_pg J8 P8 hF9
          refine hK.out _ _ b9 (fun _ => ?_)
          clear hK K
          refine wpAnyH_done (by kernel_rfl) ?_ _
          try simp only [Act.put, List.setIfInBounds_toArray, List.set_cons_zero, List.set_cons_succ, List.getElem_toArray, List.getElem_cons_zero, List.getElem_cons_succ]
          go_wp2_with fail
          go_meet
          exact ⟨V2.heap.size, A8, c8, rfl, hR9, by simpa using o9, b9⟩
      · go_simp
        have P11 := JP.made (wr := w7) J1.b
        have P11b : Below w7.heap.size w7 (V1.alloc (.cells pz.toArray 28)) := Below.alloc J1.b (Below.size J1.b) _
        have J11 := J1.al (.cells pz.toArray 28)
        obtain ⟨V11, hV11⟩ : ∃ V11, V1.alloc (.cells pz.toArray 28) = V11 := ⟨_, rfl⟩
        rw [hV11] at P11 P11b J11
        change V1.alloc (.cells #[.slice none 0 0, .string ⟨#[]⟩, .slice none 0 0] 28) = V11 at hV11
        rw [hV11]
        clear hV11
        refine hK.out _ _ P11b (fun _ => ?_)
        clear hK K
        try simp only [Act.put, List.setIfInBounds_toArray, List.set_cons_zero, List.set_cons_succ, List.getElem_toArray, List.getElem_cons_zero, List.getElem_cons_succ]
        refine wpAnyH_ready (rs := [3]) (by kernel_rfl) (by simp) ?_
        refine AllReadyH.cons rfl (fun K hK => ?_) AllReadyH.nil
        rw [if_pos (by rfl)]
        try simp only [Act.put, List.setIfInBounds_toArray, List.set_cons_zero, List.set_cons_succ, List.getElem_toArray, List.getElem_cons_zero, List.getElem_cons_succ]
        refine step_appX (cl := rlC) (sz := 4) (fun _ => rfl) rl_one (by decide) (.tmp 68) (.tmp 70) 23 ?ho_12 w7.heap.size 51 i0 _ 72 Tryd.underlying23 HI.out.1 HI.out.2.1 HI.out.2.2.1 HI.out.2.2.2 rfl (by decide) (some ⟨V0.heap.size, 0, none⟩) 0 0 [] ?hs_12 J11.o X.A X.c X.r ?hx_12 (RdX.on HXR.out.1 J11.b) (by omega) J11.b.size ?hK_12
        case ho_12 => rfl
        case hs_12 => first | rfl | simp [Act.eval, Act.put]
        case hx_12 => first | rfl | simp [Act.eval, Act.put]
        intro A12 c12 V12 ho12 hg12
        have J12 := J11.grow ho12 hg12
        have P12 := P11.grow J11 hg12
        refine hK.out _ _ J12.b (fun _ => ?_)
        clear hK K
        try simp only [Act.put, List.setIfInBounds_toArray, List.set_cons_zero, List.set_cons_succ, List.getElem_toArray, List.getElem_cons_zero, List.getElem_cons_succ]
        refine wpAnyH_ready (rs := [6]) (by kernel_rfl) (by simp) ?_
        refine AllReadyH.cons rfl (fun K hK => ?_) AllReadyH.nil
        rw [if_pos (by rfl)]
        try simp only [Act.put, List.setIfInBounds_toArray, List.set_cons_zero, List.set_cons_succ, List.getElem_toArray, List.getElem_cons_zero, List.getElem_cons_succ]
        refine step_appX (cl := rlC) (sz := 4) (fun _ => rfl) rl_one (by decide) (.tmp 71) (.tmp 73) 23 ?ho_13 w7.heap.size 51 i0 _ 72 Tryd.underlying23 HI.out.1 HI.out.2.1 HI.out.2.2.1 HI.out.2.2.2 rfl (by decide) A12 (0 + X.r.length) c12 ([] ++ cellsOf rlC X.r) ?hs_13 J12.o Y.A Y.c Y.r ?hx_13 (RdX.on HYR.out.1 J12.b) (by omega) J12.b.size ?hK_13
        case ho_13 => rfl
        case hs_13 => first | rfl | simp [Act.eval, Act.put]
        case hx_13 => first | rfl | simp [Act.eval, Act.put]
        intro A13 c13 V13 ho13 hg13
        have J13 := J12.grow ho13 hg13
        have P13 := P12.grow J12 hg13
        simp only [Nat.zero_add, List.nil_append] at J13
        try simp only [Nat.zero_add]
        refine hK.out _ _ J13.b (fun _ => ?_)
        clear hK K
        try simp only [Act.put, List.setIfInBounds_toArray, List.set_cons_zero, List.set_cons_succ, List.getElem_toArray, List.getElem_cons_zero, List.getElem_cons_succ]
        refine wpAnyH_take (i := 8) (v := ?v8_14) rfl (by kernel_rfl) (by kernel_rfl) (by kernel_rfl) (fun _ _ _ h => h) (Or.inl ⟨by rfl, ?hy8_14⟩) J13.b ?rest8_14
        case hy8_14 => (intro u hSw; go_simp; try with_reducible rfl)
        try simp only [Act.put, List.setIfInBounds_toArray, List.set_cons_zero, List.set_cons_succ, List.getElem_toArray, List.getElem_cons_zero, List.getElem_cons_succ]
        refine wpAnyH_ready (rs := [10]) (by kernel_rfl) (by simp) ?_
        refine AllReadyH.cons rfl (fun K hK => ?_) AllReadyH.nil
        rw [if_pos (by rfl)]
        try simp only [Act.put, List.setIfInBounds_toArray, List.set_cons_zero, List.set_cons_succ, List.getElem_toArray, List.getElem_cons_zero, List.getElem_cons_succ]
        refine step_storeR 28 (.tmp 14) (.tmp 76) ?ho_15 V1.heap.size ?hx_15 (.agg #[.slice A13 (X.r.length + Y.r.length) c13, .string ⟨#[120]⟩, .slice none 0 0]) ?hy_15 [.slice A13 (X.r.length + Y.r.length) c13, .string ⟨#[120]⟩, .slice none 0 0] rfl P13.r rfl (by kernel_rfl) rfl ?hK_15
        case ho_15 => rfl
        case hx_15 => first | rfl | simp [Act.eval, Act.put]
        case hy_15 => first | rfl | simp [Act.eval, Act.put]
        intro V9 hR9 hF9 hs9
        have hge := P13.ge; have hlt9 := P13.r.lt
        have b9 : Below w7.heap.size w7 V9 := J13.b.trans ((hF9 _).below (Nat.le_refl _) fun k hk e => by omega)
        have o9 := own_pg J13 P13 hF9
        refine hK.out _ _ b9 (fun _ => ?_)
        clear hK K
        refine wpAnyH_done (by kernel_rfl) ?_ _
        try simp only [Act.put, List.setIfInBounds_toArray, List.set_cons_zero, List.set_cons_succ, List.getElem_toArray, List.getElem_cons_zero, List.getElem_cons_succ]
        go_wp2_with fail
        go_meet
        exact ⟨V1.heap.size, A13, c13, rfl, hR9, by simpa using o9, b9⟩
    · go_simp
      have P16 := JP.made (wr := w7) b0
      have P16b : Below w7.heap.size w7 (V0.alloc (.cells pz.toArray 28)) := Below.alloc b0 (Below.size b0) _
      obtain ⟨V16, hV16⟩ : ∃ V16, V0.alloc (.cells pz.toArray 28) = V16 := ⟨_, rfl⟩
      rw [hV16] at P16 P16b
      change V0.alloc (.cells #[.slice none 0 0, .string ⟨#[]⟩, .slice none 0 0] 28) = V16 at hV16
      rw [hV16]
      clear hV16
      refine hK.out _ _ P16b (fun _ => ?_)
      clear hK K
      try simp only [Act.put, List.setIfInBounds_toArray, List.set_cons_zero, List.set_cons_succ, List.getElem_toArray, List.getElem_cons_zero, List.getElem_cons_succ]
      refine wpAnyH_ready (rs := [0]) (by kernel_rfl) (by simp) ?_
      refine AllReadyH.cons rfl (fun K hK => ?_) AllReadyH.nil
      go_simp
      have J17 := JA.made (wr := w7) P16b
      have P17 := P16.al (.cells #[] 51)
      obtain ⟨V17, hV17⟩ : ∃ V17, V16.alloc (.cells #[] 51) = V17 := ⟨_, rfl⟩
      rw [hV17] at J17 P17
      rw [hV17]
      clear hV17
      refine hK.out _ _ J17.b (fun _ => ?_)
      clear hK K
      try simp only [Act.put, List.setIfInBounds_toArray, List.set_cons_zero, List.set_cons_succ, List.getElem_toArray, List.getElem_cons_zero, List.getElem_cons_succ]
      refine wpAnyH_ready (rs := [3]) (by kernel_rfl) (by simp) ?_
      refine AllReadyH.cons rfl (fun K hK => ?_) AllReadyH.nil
      rw [if_pos (by rfl)]
      try simp only [Act.put, List.setIfInBounds_toArray, List.set_cons_zero, List.set_cons_succ, List.getElem_toArray, List.getElem_cons_zero, List.getElem_cons_succ]
      refine step_appX (cl := rlC) (sz := 4) (fun _ => rfl) rl_one (by decide) (.tmp 68) (.tmp 70) 23 ?ho_18 w7.heap.size 51 i0 _ 72 Tryd.underlying23 HI.out.1 HI.out.2.1 HI.out.2.2.1 HI.out.2.2.2 rfl (by decide) (some ⟨V16.heap.size, 0, none⟩) 0 0 [] ?hs_18 J17.o X.A X.c X.r ?hx_18 (RdX.on HXR.out.1 J17.b) (by omega) J17.b.size ?hK_18
      case ho_18 => rfl
      case hs_18 => first | rfl | simp [Act.eval, Act.put]
      case hx_18 => first | rfl | simp [Act.eval, Act.put]
      intro A18 c18 V18 ho18 hg18
      have J18 := J17.grow ho18 hg18
      have P18 := P17.grow J17 hg18
      refine hK.out _ _ J18.b (fun _ => ?_)
      clear hK K
      try simp only [Act.put, List.setIfInBounds_toArray, List.set_cons_zero, List.set_cons_succ, List.getElem_toArray, List.getElem_cons_zero, List.getElem_cons_succ]
      refine wpAnyH_ready (rs := [6]) (by kernel_rfl) (by simp) ?_
      refine AllReadyH.cons rfl (fun K hK => ?_) AllReadyH.nil
      rw [if_pos (by rfl)]
      try simp only [Act.put, List.setIfInBounds_toArray, List.set_cons_zero, List.set_cons_succ, List.getElem_toArray, List.getElem_cons_zero, List.getElem_cons_succ]
      refine step_appX (cl := rlC) (sz := 4) (fun _ => rfl) rl_one (by decide) (.tmp 71) (.tmp 73) 23 ?ho_19 w7.heap.size 51 i0 _ 72 Tryd.underlying23 HI.out.1 HI.out.2.1 HI.out.2.2.1 HI.out.2.2.2 rfl (by decide) A18 (0 + X.r.length) c18 ([] ++ cellsOf rlC X.r) ?hs_19 J18.o Y.A Y.c Y.r ?hx_19 (RdX.on HYR.out.1 J18.b) (by omega) J18.b.size ?hK_19
      case ho_19 => rfl
      case hs_19 => first | rfl | simp [Act.eval, Act.put]
      case hx_19 => first | rfl | simp [Act.eval, Act.put]
      intro A19 c19 V19 ho19 hg19
      have J19 := J18.grow ho19 hg19
      have P19 := P18.grow J18 hg19
      simp only [Nat.zero_add, List.nil_append] at J19
      try simp only [Nat.zero_add]
      refine hK.out _ _ J19.b (fun _ => ?_)
      clear hK K
      try simp only [Act.put, List.setIfInBounds_toArray, List.set_cons_zero, List.set_cons_succ, List.getElem_toArray, List.getElem_cons_zero, List.getElem_cons_succ]
      refine wpAnyH_take (i := 8) (v := ?v8_20) rfl (by kernel_rfl) (by kernel_rfl) (by kernel_rfl) (fun _ _ _ h => h) (Or.inl ⟨by rfl, ?hy8_20⟩) J19.b ?rest8_20
      case hy8_20 => (intro u hSw; go_simp; try with_reducible rfl)
      try simp only [Act.put, List.setIfInBounds_toArray, List.set_cons_zero, List.set_cons_succ, List.getElem_toArray, List.getElem_cons_zero, List.getElem_cons_succ]
      refine wpAnyH_ready (rs := [10]) (by kernel_rfl) (by simp) ?_
      refine AllReadyH.cons rfl (fun K hK => ?_) AllReadyH.nil
      rw [if_pos (by rfl)]
      try simp only [Act.put, List.setIfInBounds_toArray, List.set_cons_zero, List.set_cons_succ, List.getElem_toArray, List.getElem_cons_zero, List.getElem_cons_succ]
      refine step_storeR 28 (.tmp 14) (.tmp 76) ?ho_21 V0.heap.size ?hx_21 (.agg #[.slice A19 (X.r.length + Y.r.length) c19, .string ⟨#[120]⟩, .slice none 0 0]) ?hy_21 [.slice A19 (X.r.length + Y.r.length) c19, .string ⟨#[120]⟩, .slice none 0 0] rfl P19.r rfl (by kernel_rfl) rfl ?hK_21
      case ho_21 => rfl
      case hx_21 => first | rfl | simp [Act.eval, Act.put]
      case hy_21 => first | rfl | simp [Act.eval, Act.put]
      intro V9 hR9 hF9 hs9
      have hge := P19.ge; have hlt9 := P19.r.lt
      have b9 : Below w7.heap.size w7 V9 := J19.b.trans ((hF9 _).below (Nat.le_refl _) fun k hk e => by omega)
      have o9 := own_pg J19 P19 hF9
      refine hK.out _ _ b9 (fun _ => ?_)
      clear hK K
      refine wpAnyH_done (by kernel_rfl) ?_ _
      try simp only [Act.put, List.setIfInBounds_toArray, List.set_cons_zero, List.set_cons_succ, List.getElem_toArray, List.getElem_cons_zero, List.getElem_cons_succ]
      go_wp2_with fail
      go_meet
      exact ⟨V0.heap.size, A19, c19, rfl, hR9, by simpa using o9, b9⟩
  case rest =>
    obtain ⟨g, A2, c2, rfl, hR14, ho14, hbc⟩ := hcut
    have hcx : wc.cell? ⟨g, 0, none⟩ = some (.slice A2 (X.r.length + Y.r.length) c2) := hR14.cell 0; have hcy : wc.cell? ⟨g, 1, none⟩ = some (.string ⟨#[120]⟩) := hR14.cell 1; have hcz : wc.cell? ⟨g, 2, none⟩ = some (.slice none 0 0) := hR14.cell 2
    have hd0 := pg_c0 (rowOn R11.out hbc); have hd1 := pg_c1 (rowOn R11.out hbc); have hd2 := pg_c2 (rowOn R11.out hbc)
    have hW : PgA.rd wc ⟨A2, c2, X.r ++ Y.r, ⟨[120], none, 0, []⟩⟩ := ⟨RdX.of_own (base := w7.heap.size) (c := c2) (E := 51) (fun _ => rfl) (by rw [List.length_append, cellsOf_app]; exact ho14), fun y hy => (List.mem_append.1 hy).elim (fun h => (HXR.out.2.1 y h).on hbc) (fun h => (HYR.out.2.1 y h).on hbc), ⟨Nat.zero_le _, fun i x h => by simp at h⟩⟩
    have hSM := same_yes Z ⟨A2, c2, X.r ++ Y.r, ⟨[120], none, 0, []⟩⟩ wc (HZR.out.on hbc) hW (by rw [HZ.out]; unfold PgA.pg; simp only [List.map_append]; rw [← HX.out, ← HY.out]; rfl)
    unfold pgC at hSM
    simp only [List.length_append] at hSM
    have HSM := Lib.hid hSM
    have hB := on hBW.out hbc
    clear hSM hW hR14 ho14 hbc
    go_wp2_with (go_at_call 12; refine HSM.out.mono ?_; rintro e w9 ⟨rfl, hb9⟩; replace hB := on hB hb9; clear hb9)
    go_ret
    exact ⟨rfl, hB⟩
theorem walk (a0 a1 : ByteArray) (w0 : a0.size ≤ maxLen) (w1 : a1.size ≤ maxLen) (w : World) :
    Calls Tryd.prog 3 #[.string a0, .string a1] w fun e w' => e = .returned (.bool true) ∧ Below w.heap.size w w' := by
  by_cases h0 : 1500 < (a0.size : Int)
  · exact walk_long a0 a1 w (.inl h0)
  by_cases h1 : 1500 < (a1.size : Int)
  · exact walk_long a0 a1 w (.inr ⟨h0, h1⟩)
  have hA := parse_all (a0 ++ qB) (by rw [sz_app]; show a0.size + 6 ≤ 20000; omega)
  have hBt := parse_all (a1 ++ qB) (by rw [sz_app]; show a1.size + 6 ≤ 20000; omega)
  rw [ls_q] at hA hBt
  by_cases k1 : rK (progS (a0 ++ qB).size (toksL 0 (ls a0 ++ questL))) = 0
  · by_cases k2 : rK (progS (a1 ++ qB).size (toksL 0 (ls a1 ++ questL))) = 0
    · by_cases hm : (rP (progS (a0 ++ qB).size (toksL 0 (ls a0 ++ questL)))).r.length + (rP (progS (a1 ++ qB).size (toksL 0 (ls a1 ++ questL)))).r.length ≤ 200
      · have hC := parse_all (a0 ++ ⟨#[10]⟩ ++ a1 ++ qB) (by rw [sz_app, sz_app, sz_app]; show a0.size + 1 + a1.size + 6 ≤ 20000; omega)
        have e : ls (a0 ++ ⟨#[10]⟩ ++ a1 ++ qB) = ls a0 ++ 10 :: (ls a1 ++ questL) := by
          rw [ls_append, ls_append, ls_append]
          show ls a0 ++ [10] ++ ls a1 ++ questL = _
          simp
        rw [e] at hC
        obtain ⟨c1, c2⟩ := joins_same (s := a0) (t := a1) (z3 := (a0 ++ ⟨#[10]⟩ ++ a1 ++ qB).size) (by omega) (by omega) k1 k2 hm
        rw [c1, c2] at hC
        rw [k1] at hA
        rw [k2] at hBt
        exact walk_main a0 a1 w h0 h1 _ _ _ _ (Lib.hid hA) (Lib.hid hBt) _ (Lib.hid hC) hm
      · obtain ⟨x, e1, _, _, p1⟩ := progS_nz _ _ k1
        obtain ⟨y, e2, _, _, p2⟩ := progS_nz _ _ k2
        rw [e1] at hA hm
        rw [e2] at hBt hm
        exact walk_many a0 a1 w h0 h1 _ _ _ _ (Lib.hid hA) (Lib.hid hBt) (rules_200 p1) (rules_200 p2) (by simp only [rP] at hm; show 200 < x.r.length + y.r.length; omega)
    · rw [k1] at hA
      rcases progS_k _ _ k2 with k2 | k2 | k2
      · rw [k2] at hBt; exact walk_b2 a0 a1 w h0 h1 _ _ _ _ (Lib.hid hA) (Lib.hid hBt)
      · rw [k2] at hBt; exact walk_b3 a0 a1 w h0 h1 _ _ _ _ (Lib.hid hA) (Lib.hid hBt)
      · rw [k2] at hBt; exact walk_b4 a0 a1 w h0 h1 _ _ _ _ (Lib.hid hA) (Lib.hid hBt)
  · rcases progS_k _ _ k1 with k1 | k1 | k1
    · rw [k1] at hA; exact walk_a2 a0 a1 w h0 h1 _ _ _ _ _ (Lib.hid hA) (Lib.hid hBt)
    · rw [k1] at hA; exact walk_a3 a0 a1 w h0 h1 _ _ _ _ _ (Lib.hid hA) (Lib.hid hBt)
    · rw [k1] at hA; exact walk_a4 a0 a1 w h0 h1 _ _ _ _ _ (Lib.hid hA) (Lib.hid hBt)

theorem own : ownKnob Tryd.prog.godebug = none := by kernel_rfl

set_option maxRecDepth 100000 in
theorem lifted (os : Os) (started : os.Started) (H : Type) (enc : TypeId × Value → H) :
    ReturnsInHanded {} Tryd.checked os 3 .any (fun w args => (Rows.parseJoinsSpec.pre enc Tryd.prog Tryd.f3 Rows.parseJoinsRow.domain false w args ∧ laidMetH Tryd.prog Rows.parseJoinsRow.laid w) ∧ sizedMet enc Tryd.prog Tryd.f3 (OpenSpec.ofChange Rows.parseJoinsSpec) false w args) (Rows.parseJoinsSpec.post enc Tryd.prog Tryd.f3 false true false false) := by
  refine returnsInHanded_of_change_and (C := Tryd.checked) (X := fun w _ => laidMetH Tryd.prog Rows.parseJoinsRow.laid w) (fun _ _ _ hh h => h.of_heap hh) own started (by kernel_rfl) Tryd.func3
    (ChangeSpec.witness_shaped (enc := enc) (C := Tryd.checked) (os := os) (X := fun w _ => laidMetH Tryd.prog Rows.parseJoinsRow.laid w) false (World.laidAll Tryd.prog os Rows.parseJoinsRow.laid) #[.string ByteArray.empty, .string ByteArray.empty] 8 (World.laidAll_os _ _ _)
      (World.shaped_of_ZipB (by kernel_rfl) (by kernel_rfl)) (by kernel_rfl) (by kernel_rfl) (by kernel_rfl)
      (by rw [MakeChecks.laidMetH_plain _ _ _ (by kernel_rfl)]; exact laidMet_laidAll _ (by kernel_rfl) (by kernel_rfl))) ?_
  intro W base args ds gs before hval0 hW hcnd _ hL _
  have hval : ∀ (j : Nat) t v, Tryd.f3.params[j]? = some t → args[j]? = some v → Value.okWide Tryd.prog W .any base t v := hval0
  have hW' := hW
  obtain ⟨p, q, hA0, hV, rfl, hfz, hnd⟩ := hW
  have hA : DataW.TrodAll enc Tryd.prog W 0 (fun _ => true) true Tryd.f3.params.toList args.toList ds p := hA0
  rw [Tryd.params3] at hA hval
  obtain ⟨v0, vs0, d0, ds0, p0, q0, hargs, rfl, rfl, h0, r0⟩ := trodAll_cons hA
  obtain ⟨v1, vs1, d1, ds1, p1, q1, rfl, rfl, rfl, h1, r1⟩ := trodAll_cons r0
  obtain ⟨rfl, rfl, rfl⟩ := trodAll_nil r1
  obtain rfl : args = #[v0, v1] := by cases args; simp_all
  obtain ⟨rfl, rfl⟩ := trodVars_none hV
  obtain ⟨a0, rfl, rfl, rfl, w0⟩ := Go.ChangeMaps.open_string Tryd.underlying9 (hval 0 9 v0 rfl rfl) h0
  obtain ⟨a1, rfl, rfl, rfl, w1⟩ := Go.ChangeMaps.open_string Tryd.underlying9 (hval 1 9 v1 rfl rfl) h1
  clear hA0 hval0
  simp only [List.append_nil] at hW'
  refine (walk a0 a1 w0 w1 W).mono fun e W' ⟨he, hg⟩ => ?_
  subst he
  exact ⟨_, rfl, post_plain hW' (fun _ _ _ => (trodAll_cons_mk (shut_bool Tryd.underlying4 _) trodAll_mk0)) (fun sp => (trodAll_cons_mk (Go.ChangeMaps.shut_string Tryd.underlying9 w0) (trodAll_cons_mk (Go.ChangeMaps.shut_string Tryd.underlying9 w1) trodAll_mk0))) (fun _ => rfl) hg (ok_one (by kernel_rfl) rfl (okWide_bool_mk Tryd.underlying4 _))⟩

theorem row_proved : Rows.ParseJoinsSaid :=
  OpenClaim.holds_of_wide 3 Tryd.f3 rfl rfl rfl rfl rfl rfl rfl ⟨rfl, rfl, rfl, rfl, rfl⟩ rfl rfl rfl rfl rfl (by kernel_rfl) Tryd.func3 (by kernel_rfl)
    (of_decide_eq_true (by kernel_rfl)) (by unfold Func.isWrapper; first | (rw [if_pos (by decide +kernel)]; kernel_rfl) | (rw [if_neg (by decide +kernel)]; exact ⟨rfl, rfl⟩))
    (fun os started H enc _ => lifted os started H enc)
theorem proved : Rows.ParseJoinsCardSaid :=
  Claim7.holds_tied_plain_at .later [] Rows.parseJoinsCard.laidKinds Rows.parseJoinsCard.laidTests Rows.parseJoinsCard.stood.harness Rows.parseJoinsCard.stood.looks row_proved (fun _ h => by cases h) (by kernel_rfl) (fun _ h => by cases h) parseJoins_row_tie rfl ⟨rfl, rfl⟩ (by kernel_rfl) rfl
    (fun f fn hf hfn => by
      obtain rfl : f = 3 := Option.some.inj ((show Tryd.prog.funcNamed "antecedent/antecedentlaw08.ParseJoins" = some 3 by kernel_rfl).symm.trans hf) |>.symm
      obtain rfl : fn = Tryd.f3 := (Option.some.inj (Tryd.func3.symm.trans hfn)).symm
      exact ⟨by kernel_rfl, fun j t ht => by
        rw [Tryd.params3] at ht
        have hm : t ∈ [9, 9] := by simpa using Array.mem_of_getElem? ht
        have hall : ([9, 9].all fun u => !Tryd.prog.wantsStandIn u) = true := by kernel_rfl
        exact (show Tryd.prog.wantsStandIn t = false by simpa using List.all_eq_true.1 hall t hm)⟩)
    (by kernel_rfl)
#print axioms proved
end Go.Proofs.YtncafadjcelloaaDoor.parseJoins

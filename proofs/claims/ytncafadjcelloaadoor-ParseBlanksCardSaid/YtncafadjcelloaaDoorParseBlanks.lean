/-
  ParseBlanks (layer 8, parse): for every text and blank the call returns true: more spaces, or ends of lines, between tokens change nothing of the program; where a text is wrong it is a token's place, or its end. No condition.
-/
import Derived.Test.YtncafadjcelloaaDoorRows
import Derived.Test.YtncafadjcelloaaDoorCards
import Derived.Test.YtncafadjcelloaaDoorTie
import Derived.Test.YtncafadjcelloaaDoorPrsSim
import Derived.Test.YtncafadjcelloaaDoorPrsTop
import Derived.WalkKit
import Derived.ProofKit
import Derived.OpenShut
import Derived.LaidMore
import Derived.Lay
import Derived.SevenTiedAt
import Derived.Stop.Joined
import Derived.RegionTactic
import Derived.BigQuiet
import Derived.Lib.QuietBelow
import Derived.Deep.RegionHeld3
import Derived.Deep.MidRow
import Derived.Deep.CutRange
import Derived.Deep.DeepCutAuto
namespace Go.Proofs.YtncafadjcelloaaDoor.parseBlanks
open Go.ChangeShapes Go.WideShapes Go.ChangeAt Go.RowKit FloM ValM Go.Shelf
set_option linter.unusedVariables false
set_option linter.unusedSimpArgs false
theorem u8_of {n : Int} (h : (Lit.int .u8 n).wf = true) : 0 ≤ n ∧ n < 256 := by
  simp [Lit.wf, IntKind.min, IntKind.max, IntKind.bits, IntKind.signed] at h; omega
theorem bs_app (a b : List UInt8) : bs a ++ bs b = bs (a ++ b) := by apply ls_inj; rw [ls_append, ls_bs, ls_bs, ls_bs]
def sepOf (r : Nat) : List UInt8 := if r = 0 then [32] else if r = 1 then [10] else if r = 2 then [9, 32, 32] else [32, 10, 10]
theorem sep_ok (r : Nat) : (sepOf r).all sepC = true ∧ sepOf r ≠ [] ∧ (sepOf r).length ≤ 3 := by
  unfold sepOf
  by_cases h0 : r = 0
  · rw [if_pos h0]; decide
  · by_cases h1 : r = 1
    · rw [if_neg h0, if_pos h1]; decide
    · by_cases h2 : r = 2
      · rw [if_neg h0, if_neg h1, if_pos h2]; decide
      · rw [if_neg h0, if_neg h1, if_neg h2]; decide
theorem laid_len (sep : List UInt8) (h : sep.length ≤ 3) : ∀ ts : List Tk, (laidL sep ts).length ≤ (ts.map fun t => t.t.length).sum + 3 * ts.length
  | [] => by simp [laidL]
  | t :: ts => by
    have := laid_len sep h ts
    simp only [laidL, List.flatMap_cons, List.length_append, List.map_cons, List.sum_cons, List.length_cons] at this ⊢
    omega
/-- What is read of a text's tokens, laid apart: the same program, or the same error. -/
theorem blanks_same {l : List UInt8} {ts us : List Tk} {z z' : Nat} (h : toksL 0 l = .good ts) (hu : Eqv ts us) (hl : l.length ≤ 20000) :
    rP (progS z (.good ts)) = rP (progS z' (.good us)) ∧ rK (progS z (.good ts)) = rK (progS z' (.good us)) ∧ (rK (progS z (.good ts)) = 0 → rA (progS z (.good ts)) = 0) ∧ (rA (progS z (.good ts)) = z ∨ (∃ t ∈ ts, rA (progS z (.good ts)) = t.a) ∨ (rK (progS z (.good ts)) = 0 ∧ rA (progS z (.good ts)) = 0)) := by
  have ha := whole_alike (z := z) (z' := z') (okt_of h hl) hu
  have e1 : progS z (.good ts) = wholeP progP z ts := rfl
  have e2 : progS z' (.good us) = wholeP progP z' us := rfl
  rw [e1, e2]
  cases e : wholeP progP z ts with
  | ok x r => rw [ha.1 x r e]; exact ⟨rfl, rfl, fun _ => rfl, .inr (.inr ⟨rfl, rfl⟩)⟩
  | no a k =>
    obtain ⟨h1, a', h2⟩ := ha.2 a k e
    rw [h2]
    refine ⟨rfl, rfl, fun hk => absurd hk (whole_nz prog_nz z ts a k e), ?_⟩
    rcases h1 with h1 | ⟨t, ht, h1⟩
    · exact .inl h1
    · exact .inr (.inl ⟨t, ht, h1⟩)
set_option maxRecDepth 20000 in
set_option maxHeartbeats 4000000 in
theorem walk_long (a0 : ByteArray) (a1 : Int) (w : World) (h0 : 1500 < (a0.size : Int)) :
    Calls Tryd.prog 4 #[.string a0, .int .u8 a1] w fun e w' => e = .returned (.bool true) ∧ Below w.heap.size w w' := by
  have hB := Below.refl w.heap.size w
  go_enter Tryd.func4, Tryd.ntmps4
  go_wp2_with (go_at_call 10; refine (awake8_any _).mono ?_; rintro e w1 ⟨rfl, h'⟩; replace hB := on hB h'; clear h')
  go_ret
  exact ⟨rfl, hB⟩
set_option maxRecDepth 20000 in
set_option maxHeartbeats 4000000 in
theorem walk_bad (a0 : ByteArray) (a1 : Int) (w : World) (h0 : ¬ 1500 < (a0.size : Int)) (n : Nat) (h : toksL 0 (ls a0) = .bad n) :
    Calls Tryd.prog 4 #[.string a0, .int .u8 a1] w fun e w' => e = .returned (.bool true) ∧ Below w.heap.size w w' := by
  have hB := Below.refl w.heap.size w
  have hP := parse_all a0 (by omega)
  rw [h] at hP
  have HP := Lib.hid hP
  have HT : Hid (∀ V, Calls Tryd.prog 13 #[.string a0] V (SaysK (.bad n) V)) := Lib.hid fun V => by
    have := refTok_any a0 V (by omega); rwa [h] at this
  clear hP h
  go_enter Tryd.func4, Tryd.ntmps4
  go_wp2_with (first
    | (go_at_call 10; refine (awake8_any _).mono ?_; rintro e w1 ⟨rfl, h'⟩; replace hB := on hB h'; clear h')
    | (go_at_call 11; refine (HP.out _).mono ?_; rintro e w2 ⟨X, hX, rfl, hok, hb⟩; replace hB := on hB hb; clear hb hok)
    | (go_at_call 13; refine (HT.out _).mono ?_; rintro e w4 ⟨rfl, hb⟩; replace hB := on hB hb; clear hb)
    | (refine wpList_storeR rfl 28 (.tmp 5) _ rfl w2.heap.size 0 rfl (.agg (pgC X).toArray) rfl (pgC X) rfl (pre := []) (old := [.slice none 0 0, .string ByteArray.empty, .slice none 0 0]) (post := []) (row_new w2 [.slice none 0 0, .string ByteArray.empty, .slice none 0 0]) rfl rfl (by kernel_rfl) rfl ?_; intro w3 hR hF hs; have hb23 : Below w2.heap.size w2 w3 := ((Below.refl _ _).alloc (Nat.le_refl _) _).trans ((hF _).below (Nat.le_refl _) fun k hk e => by omega); replace hB := on hB hb23; clear hR hF hs hb23))
  go_ret
  exact ⟨rfl, hB⟩
theorem laid_snoc (sep : List UInt8) (ts : List Tk) (j : Nat) (t : Tk) (h : ts[j]? = some t) : laidL sep (ts.take (j + 1)) = laidL sep (ts.take j) ++ (t.t ++ sep) := by
  rw [List.take_add_one, h]
  simp [laidL]
def plB (ts : List Tk) (z a j : Nat) : Bool := ((a : Int) == (z : Int)) || (ts.take j).any fun t => (t.a : Int) == (a : Int)
theorem pl_snoc (ts : List Tk) (z a j : Nat) (t : Tk) (h : ts[j]? = some t) : plB ts z a (j + 1) = (plB ts z a j || ((t.a : Int) == (a : Int))) := by
  unfold plB
  rw [List.take_add_one, h, List.any_append]
  simp [Bool.or_assoc]
theorem keepC {w u : World} {g o : Nat} {v : Value} (hb : Below w.heap.size w u) (hg : g < w.heap.size) (h : w.cell? ⟨g, o, none⟩ = some v) : u.cell? ⟨g, o, none⟩ = some v := (keep hb _ _ hg).trans h
set_option maxRecDepth 20000 in
set_option maxHeartbeats 16000000 in
theorem walk_good (a0 : ByteArray) (a1 : Int) (w : World) (h0 : ¬ 1500 < (a0.size : Int)) (u1 : 0 ≤ a1) (ts : List Tk) (hts : ts.length ≤ 1500) (hlens : ∀ t ∈ ts, t.t.length ≤ 1500) (ht : toksL 0 (ls a0) = .good ts) (r : Nat) (sp : ByteArray) (hr : (r = 0 ∧ sp = ⟨#[32]⟩) ∨ (r = 1 ∧ sp = ⟨#[10]⟩) ∨ (r = 2 ∧ sp = ⟨#[9, 32, 32]⟩) ∨ (r = 3 ∧ sp = ⟨#[32, 10, 10]⟩)) (hm : a1.tmod 4 = (r : Int)) (hll : ∀ j, (laidL (ls sp) (ts.take j)).length ≤ 10000) (p : Pg) (a k a' : Nat) (TA : Hid (TellsP a0 p a k)) (TB : Hid (TellsP (bs (laidL (ls sp) ts)) p a' k)) (hpl : plB ts a0.size a ts.length = true ∨ (k = 0 ∧ a = 0)) :
    Calls Tryd.prog 4 #[.string a0, .int .u8 a1] w fun e w' => e = .returned (.bool true) ∧ Below w.heap.size w w' := by
  have hB := Below.refl w.heap.size w
  have hkk : ((k : Int) == (k : Int)) = true := by simp
  have HT : Hid (∀ V, Calls Tryd.prog 13 #[.string a0] V (SaysK (.good ts) V)) := Lib.hid fun V => by
    have := refTok_any a0 V (by omega); rwa [ht] at this
  have HLL := Lib.hid hll; have HLENS := Lib.hid hlens; have HPL := Lib.hid hpl; have HM := Lib.hid hm; have HRR := Lib.hid hr
  clear ht hll hlens hpl hm hr
  go_enter Tryd.func4, Tryd.ntmps4
  go_wp2_with (first
    | (go_at_call 10; refine (awake8_any _).mono ?_; rintro e w1 ⟨rfl, h'⟩; replace hB := on hB h'; clear h')
    | (go_at_call 11; with_reducible refine (TA.out _).mono ?_; rintro e w2 ⟨X, hX, rfl, hok, hb⟩; have HX := Lib.hid hX; have OKX := Lib.hid hok; replace hB := on hB hb; clear hX hb hok)
    | (go_at_call 13; refine (HT.out _).mono ?_; rintro e w4 ⟨A, c, rfl, hk, hb⟩; have HK := Lib.hid hk; have R5 := Lib.hid (rowOn R5.out hb); have OKX := Lib.hid (OKX.out.onB hb); replace hB := on hB hb; clear hb hk)
    | (refine wpList_storeR rfl 28 (.tmp 5) _ rfl w2.heap.size 0 rfl (.agg (pgC X).toArray) rfl (pgC X) rfl (pre := []) (old := [.slice none 0 0, .string ByteArray.empty, .slice none 0 0]) (post := []) (row_new w2 [.slice none 0 0, .string ByteArray.empty, .slice none 0 0]) rfl rfl (by kernel_rfl) rfl ?_; intro w3 hR hF hs; have hbs : Below w2.heap.size w2 w3 := ((Below.refl _ _).alloc (Nat.le_refl _) _).trans ((hF _).below (Nat.le_refl _) fun k hk e => by omega); have R5 : Hid (Row 28 w3 w2.heap.size (pgC X)) := Lib.hid hR; have OKX := Lib.hid (OKX.out.onB hbs); replace hB := on hB hbs; clear hR hF hs hbs))
  have HB4 := Lib.hid hB
  clear hB
  go_loopw [11, 45] (fun vs vi wr => ∃ j : Nat, vi = .int .i64 (j : Nat) ∧ j ≤ ts.length ∧ vs = .string (bs (laidL (ls sp) (ts.take j))) ∧ Below w4.heap.size w4 wr) (fun _ vi _ => ts.length - (intOf vi).toNat)
  case atStart => exact ⟨0, rfl, Nat.zero_le _, rfl, Below.refl _ _⟩
  case round =>
    obtain ⟨j, rfl, hj, rfl, hb⟩ := hrel
    by_cases hlt : j < ts.length
    · obtain ⟨t, htj⟩ : ∃ t, ts[j]? = some t := ⟨_, List.getElem?_eq_getElem hlt⟩
      have hln := HLL.out j
      have htl := HLENS.out t (List.mem_of_getElem? htj)
      obtain ⟨tb, tq, rfl, htb, _, k1, _⟩ := (HK.out.on hb) j t htj
      have e1 := laid_snoc (ls sp) ts j t htj
      have z1 : (bs t.t).size = t.t.length := bs_size _
      have z2 : (bs (laidL (ls sp) (ts.take j))).size = (laidL (ls sp) (ts.take j)).length := bs_size _
      have E1 := Lib.hid (show bs (laidL (ls sp) (ts.take j)) ++ (bs t.t ++ sp) = bs (laidL (ls sp) (ts.take (j + 1))) by rw [e1, ← bs_app, ← bs_app, bs_ls])
      have HB := Lib.hid hb
      have hm := HM.out
      clear htj e1 hb
      have hs2 : ∀ q : ByteArray, q.size ≤ 3 → ¬ 9223372036854775807 < (bs t.t).size + q.size ∧ ¬ 9223372036854775807 < (bs (laidL (ls sp) (ts.take j))).size + (bs t.t ++ q).size := fun q hq => by
        have : (bs t.t ++ q).size = (bs t.t).size + q.size := by rw [← ls_len, ls_append, List.length_append, ls_len, ls_len]
        omega
      obtain ⟨g1, g2⟩ := hs2 sp (by rcases HRR.out with ⟨_, rfl⟩ | ⟨_, rfl⟩ | ⟨_, rfl⟩ | ⟨_, rfl⟩ <;> decide)
      clear hs2
      rcases HRR.out with ⟨rfl, rfl⟩ | ⟨rfl, rfl⟩ | ⟨rfl, rfl⟩ | ⟨rfl, rfl⟩
      all_goals
        go_wp2
        have k1a : ∀ o : Obj, (wr.alloc o).cell? ⟨tb, tq + j * 3 + 1, none⟩ = some (.string (bs t.t)) := fun o => keepC ((Below.refl _ _).alloc (Nat.le_refl _) o) htb k1
        go_region_with (fail)
        all_goals
          go_wp2
          go_roundw
          case rel => exact ⟨j + 1, by go_num, by omega, congrArg Value.string E1.out, on HB.out (((Below.refl _ _).alloc (Nat.le_refl _) _).drew)⟩
          case measure => simp [intOf]; omega
    · obtain rfl : j = ts.length := by omega
      have etk : ts.take ts.length = ts := List.take_of_length_le (Nat.le_refl _)
      rw [etk]
      have R5 := Lib.hid (rowOn R5.out hb); have OKX := Lib.hid (OKX.out.onB hb); have HK := Lib.hid (HK.out.on hb)
      have hB := on HB4.out hb
      clear hb etk
      go_wp2_with (first
        | (go_at_call 11; with_reducible refine (TB.out _).mono ?_; rintro e w6 ⟨Y, hY, rfl, hok, hb⟩; have HY := Lib.hid hY; have OKY := Lib.hid hok; have R5 := Lib.hid (rowOn R5.out hb); have OKX := Lib.hid (OKX.out.onB hb); have HK := Lib.hid (HK.out.on hb); replace hB := on hB hb; clear hY hb hok)
        | (refine wpList_storeR rfl 28 (.tmp 13) _ rfl w6.heap.size 0 rfl (.agg (pgC Y).toArray) rfl (pgC Y) rfl (pre := []) (old := [.slice none 0 0, .string ByteArray.empty, .slice none 0 0]) (post := []) (row_new w6 [.slice none 0 0, .string ByteArray.empty, .slice none 0 0]) rfl rfl (by kernel_rfl) rfl ?_; intro w7 hR hF hs; have hbs : Below w6.heap.size w6 w7 := ((Below.refl _ _).alloc (Nat.le_refl _) _).trans ((hF _).below (Nat.le_refl _) fun k hk e => by omega); have R13 : Hid (Row 28 w7 w6.heap.size (pgC Y)) := Lib.hid hR; have OKY := Lib.hid (OKY.out.onB hbs); have OKX := Lib.hid (OKX.out.onB hbs); have R5 := Lib.hid (rowOn R5.out hbs); have HK := Lib.hid (HK.out.on hbs); replace hB := on hB hbs; clear hR hF hs hbs))
      have HB7 := Lib.hid hB
      clear hB
      go_loopw [16, 74] (fun vp vi wr => ∃ j : Nat, vi = .int .i64 (j : Nat) ∧ j ≤ ts.length ∧ vp = .bool (plB ts a0.size a j) ∧ Below w7.heap.size w7 wr) (fun _ vi _ => ts.length - (intOf vi).toNat)
      case atStart => exact ⟨0, rfl, Nat.zero_le _, by simp [plB], Below.refl _ _⟩
      case round =>
        obtain ⟨j, rfl, hj, rfl, hb⟩ := hrel
        by_cases hlt : j < ts.length
        · obtain ⟨t, htj⟩ : ∃ t, ts[j]? = some t := ⟨_, List.getElem?_eq_getElem hlt⟩
          obtain ⟨tb, tq, rfl, htb, _, _, k2⟩ := (HK.out.on hb) j t htj
          have e2 := pl_snoc ts a0.size a j t htj
          have HB := Lib.hid hb
          clear htj hb
          cases hpj : plB ts a0.size a j with
          | true =>
            rw [hpj, Bool.true_or] at e2
            have E2 := Lib.hid e2
            clear e2 hpj
            go_wp2
            go_roundw
            case rel => exact ⟨j + 1, by go_num, by omega, by rw [E2.out], HB.out⟩
            case measure => simp [intOf]; omega
          | false =>
            rw [hpj, Bool.false_or] at e2
            have E2 := Lib.hid e2
            clear e2 hpj
            go_wp2
            go_roundw
            case rel => exact ⟨j + 1, by go_num, by omega, by rw [E2.out], HB.out⟩
            case measure => simp [intOf]; omega
        · obtain rfl : j = ts.length := by omega
          have c0 := pg_c0 (rowOn R5.out hb); have c1 := pg_c1 (rowOn R5.out hb); have c2 := pg_c2 (rowOn R5.out hb)
          have d0 := pg_c0 (rowOn R13.out hb); have d1 := pg_c1 (rowOn R13.out hb); have d2 := pg_c2 (rowOn R13.out hb)
          have hB := on HB7.out hb
          have HSM := Lib.hid (same_yes X Y wr (OKX.out.onB hb).rd (OKY.out.onB hb).rd (HX.out.trans HY.out.symm))
          clear hb
          rcases HPL.out with hp | ⟨rfl, rfl⟩
          · rw [hp]
            go_wp2_with (go_at_call 12; refine HSM.out.mono ?_; rintro e w9 ⟨rfl, hb9⟩; replace hB := on hB hb9; clear hb9)
            go_ret
            exact ⟨rfl, hB⟩
          · cases hp : plB ts a0.size 0 ts.length
            all_goals
              go_wp2_with (go_at_call 12; refine HSM.out.mono ?_; rintro e w9 ⟨rfl, hb9⟩; replace hB := on hB hb9; clear hb9)
              go_ret
              exact ⟨rfl, hB⟩
theorem walk (a0 : ByteArray) (a1 : Int) (w0 : a0.size ≤ maxLen) (w1 : (Lit.int .u8 a1).wf = true) (w : World) :
    Calls Tryd.prog 4 #[.string a0, .int .u8 a1] w fun e w' => e = .returned (.bool true) ∧ Below w.heap.size w w' := by
  obtain ⟨u1, u2⟩ := u8_of w1
  by_cases h0 : 1500 < (a0.size : Int)
  · exact walk_long a0 a1 w h0
  · cases h : toksL 0 (ls a0) with
    | bad n => exact walk_bad a0 a1 w h0 n h
    | good ts =>
      obtain ⟨r, hr⟩ : ∃ r : Nat, a1 % 4 = r := ⟨(a1 % 4).toNat, by omega⟩
      have hr4 : r = 0 ∨ r = 1 ∨ r = 2 ∨ r = 3 := by omega
      have hlen : ts.length ≤ 1500 := by have := toks_few h; rw [ls_len] at this; omega
      have hsum := toks_sumL _ 0 _ (Nat.le_refl _) ts h
      rw [ls_len] at hsum
      obtain ⟨s1, s2, s3⟩ := sep_ok r
      obtain ⟨us, hu, he⟩ := laid_toks s1 s2 ts 0 fun t ht => toks_each _ 0 _ (Nat.le_refl _) ts h t ht
      have hll : ∀ j, (laidL (sepOf r) (ts.take j)).length ≤ 10000 := fun j => by
        have h1 := laid_len (sepOf r) s3 (ts.take j)
        have h2 : ((ts.take j).map fun t => t.t.length).sum ≤ (ts.map fun t => t.t.length).sum := by
          conv => rhs; rw [← List.take_append_drop j ts, List.map_append, List.sum_append]
          omega
        have h3 : (ts.take j).length ≤ ts.length := by rw [List.length_take]; omega
        omega
      have hlt : ∀ t ∈ ts, t.t.length ≤ 1500 := fun t ht => by
        have : ∀ l : List Tk, t ∈ l → t.t.length ≤ (l.map fun t => t.t.length).sum := fun l => by
          induction l with
          | nil => intro h; cases h
          | cons u l ih =>
            intro hu
            simp only [List.map_cons, List.sum_cons]
            rcases List.mem_cons.1 hu with rfl | hu
            · omega
            · have := ih hu; omega
        have := this ts ht; omega
      have hsz : (bs (laidL (sepOf r) ts)).size ≤ 20000 := by
        have := hll ts.length
        rw [List.take_of_length_le (Nat.le_refl _)] at this
        rw [bs_size]; omega
      have hA := parse_all a0 (by omega)
      have hBt := parse_all (bs (laidL (sepOf r) ts)) hsz
      rw [h] at hA
      rw [ls_bs, hu] at hBt
      obtain ⟨q1, q2, q3, q4⟩ := blanks_same (z := a0.size) (z' := (bs (laidL (sepOf r) ts)).size) h he (by rw [ls_len]; omega)
      rw [← q1, ← q2] at hBt
      refine walk_good a0 a1 w h0 u1 ts hlen hlt h r (bs (sepOf r)) ?_ (by rw [Int.tmod_eq_emod_of_nonneg u1, hr]) hll _ _ _ _ (Lib.hid hA) (Lib.hid hBt) ?_
      · rcases hr4 with rfl | rfl | rfl | rfl
        · exact .inl ⟨rfl, rfl⟩
        · exact .inr (.inl ⟨rfl, rfl⟩)
        · exact .inr (.inr (.inl ⟨rfl, rfl⟩))
        · exact .inr (.inr (.inr ⟨rfl, rfl⟩))
      · rcases q4 with q4 | ⟨t, ht, q4⟩ | q4
        · exact .inl (by unfold plB; rw [q4]; simp)
        · exact .inl (by
            unfold plB
            rw [List.take_of_length_le (Nat.le_refl _), q4]
            have : (ts.any fun u => (u.a : Int) == (t.a : Int)) = true := List.any_eq_true.2 ⟨t, ht, by simp⟩
            rw [this]; simp)
        · exact .inr q4

theorem own : ownKnob Tryd.prog.godebug = none := by kernel_rfl

set_option maxRecDepth 100000 in
theorem lifted (os : Os) (started : os.Started) (H : Type) (enc : TypeId × Value → H) :
    ReturnsInHanded {} Tryd.checked os 4 .any (fun w args => (Rows.parseBlanksSpec.pre enc Tryd.prog Tryd.f4 Rows.parseBlanksRow.domain false w args ∧ laidMetH Tryd.prog Rows.parseBlanksRow.laid w) ∧ sizedMet enc Tryd.prog Tryd.f4 (OpenSpec.ofChange Rows.parseBlanksSpec) false w args) (Rows.parseBlanksSpec.post enc Tryd.prog Tryd.f4 false true false false) := by
  refine returnsInHanded_of_change_and (C := Tryd.checked) (X := fun w _ => laidMetH Tryd.prog Rows.parseBlanksRow.laid w) (fun _ _ _ hh h => h.of_heap hh) own started (by kernel_rfl) Tryd.func4
    (ChangeSpec.witness_shaped (enc := enc) (C := Tryd.checked) (os := os) (X := fun w _ => laidMetH Tryd.prog Rows.parseBlanksRow.laid w) false (World.laidAll Tryd.prog os Rows.parseBlanksRow.laid) #[.string ByteArray.empty, .int .u8 0] 8 (World.laidAll_os _ _ _)
      (World.shaped_of_ZipB (by kernel_rfl) (by kernel_rfl)) (by kernel_rfl) (by kernel_rfl) (by kernel_rfl)
      (by rw [MakeChecks.laidMetH_plain _ _ _ (by kernel_rfl)]; exact laidMet_laidAll _ (by kernel_rfl) (by kernel_rfl))) ?_
  intro W base args ds gs before hval0 hW hcnd _ hL _
  have hval : ∀ (j : Nat) t v, Tryd.f4.params[j]? = some t → args[j]? = some v → Value.okWide Tryd.prog W .any base t v := hval0
  have hW' := hW
  obtain ⟨p, q, hA0, hV, rfl, hfz, hnd⟩ := hW
  have hA : DataW.TrodAll enc Tryd.prog W 0 (fun _ => true) true Tryd.f4.params.toList args.toList ds p := hA0
  rw [Tryd.params4] at hA hval
  obtain ⟨v0, vs0, d0, ds0, p0, q0, hargs, rfl, rfl, h0, r0⟩ := trodAll_cons hA
  obtain ⟨v1, vs1, d1, ds1, p1, q1, rfl, rfl, rfl, h1, r1⟩ := trodAll_cons r0
  obtain ⟨rfl, rfl, rfl⟩ := trodAll_nil r1
  obtain rfl : args = #[v0, v1] := by cases args; simp_all
  obtain ⟨rfl, rfl⟩ := trodVars_none hV
  obtain ⟨a0, rfl, rfl, rfl, w0⟩ := Go.ChangeMaps.open_string Tryd.underlying9 (hval 0 9 v0 rfl rfl) h0
  obtain ⟨a1, rfl, rfl, rfl, w1⟩ := open_int Tryd.underlying5 (hval 1 5 v1 rfl rfl) h1
  clear hA0 hval0
  simp only [List.append_nil] at hW'
  refine (walk a0 a1 w0 w1 W).mono fun e W' ⟨he, hg⟩ => ?_
  subst he
  exact ⟨_, rfl, post_plain hW' (fun _ _ _ => (trodAll_cons_mk (shut_bool Tryd.underlying4 _) trodAll_mk0)) (fun sp => (trodAll_cons_mk (Go.ChangeMaps.shut_string Tryd.underlying9 w0) (trodAll_cons_mk (shut_int Tryd.underlying5 w1) trodAll_mk0))) (fun _ => rfl) hg (ok_one (by kernel_rfl) rfl (okWide_bool_mk Tryd.underlying4 _))⟩

theorem row_proved : Rows.ParseBlanksSaid :=
  OpenClaim.holds_of_wide 4 Tryd.f4 rfl rfl rfl rfl rfl rfl rfl ⟨rfl, rfl, rfl, rfl, rfl⟩ rfl rfl rfl rfl rfl (by kernel_rfl) Tryd.func4 (by kernel_rfl)
    (of_decide_eq_true (by kernel_rfl)) (by unfold Func.isWrapper; first | (rw [if_pos (by decide +kernel)]; kernel_rfl) | (rw [if_neg (by decide +kernel)]; exact ⟨rfl, rfl⟩))
    (fun os started H enc _ => lifted os started H enc)
theorem proved : Rows.ParseBlanksCardSaid :=
  Claim7.holds_tied_plain_at .later [] Rows.parseBlanksCard.laidKinds Rows.parseBlanksCard.laidTests Rows.parseBlanksCard.stood.harness Rows.parseBlanksCard.stood.looks row_proved (fun _ h => by cases h) (by kernel_rfl) (fun _ h => by cases h) parseBlanks_row_tie rfl ⟨rfl, rfl⟩ (by kernel_rfl) rfl
    (fun f fn hf hfn => by
      obtain rfl : f = 4 := Option.some.inj ((show Tryd.prog.funcNamed "antecedent/antecedentlaw08.ParseBlanks" = some 4 by kernel_rfl).symm.trans hf) |>.symm
      obtain rfl : fn = Tryd.f4 := (Option.some.inj (Tryd.func4.symm.trans hfn)).symm
      exact ⟨by kernel_rfl, fun j t ht => by
        rw [Tryd.params4] at ht
        have hm : t ∈ [9, 5] := by simpa using Array.mem_of_getElem? ht
        have hall : ([9, 5].all fun u => !Tryd.prog.wantsStandIn u) = true := by kernel_rfl
        exact (show Tryd.prog.wantsStandIn t = false by simpa using List.all_eq_true.1 hall t hm)⟩)
    (by kernel_rfl)
#print axioms proved
end Go.Proofs.YtncafadjcelloaaDoor.parseBlanks

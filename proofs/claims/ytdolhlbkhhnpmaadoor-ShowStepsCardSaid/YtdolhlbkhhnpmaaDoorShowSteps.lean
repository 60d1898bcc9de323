/-
  ShowSteps (layer 9, show): for all steps and every text the call returns true: what is a path, as a text, is read as it was; a text that is read is a path, whose text is nested no deeper than it. No condition.
-/
import Derived.Test.YtdolhlbkhhnpmaaDoorRows
import Derived.Test.YtdolhlbkhhnpmaaDoorCards
import Derived.Test.YtdolhlbkhhnpmaaDoorTie
import Derived.Test.YtdolhlbkhhnpmaaDoorShwIn
import Derived.WalkKit
import Derived.ProofKit
import Derived.OpenShut
import Derived.LaidMore
import Derived.Lay
import Derived.SevenTiedAt
import Derived.Stop.Joined
import Derived.RegionTactic
import Derived.BigQuiet
import Derived.Lib.QuietBelow
import Derived.Deep.RegionHeld3
import Derived.Deep.MidRow
import Derived.Deep.CutRange
import Derived.Deep.DeepCutAuto
namespace Go.Proofs.YtdolhlbkhhnpmaaDoor.showSteps
open Go.ChangeShapes Go.WideShapes Go.ChangeAt Go.RowKit FloM ValM Go.Shelf
set_option linter.unusedVariables false
set_option linter.unusedSimpArgs false
set_option maxRecDepth 20000 in
set_option maxHeartbeats 4000000 in
theorem walk_no (A : Option Addr) (c : Nat) (l : List SI) (s : ByteArray) (w : World) (hr : RdX 2 siC w A l) (hws : s.size ≤ maxLen) (h : 110 < l.length ∨ (¬ 110 < l.length ∧ 1500 < s.size)) :
    Calls Tryd.prog 4 #[.slice A l.length c, .string s] w fun e w' => e = .returned (.bool true) ∧ Below w.heap.size w w' := by
  have hB := Below.refl w.heap.size w
  have hmx : l.length ≤ 9223372036854775807 := Nat.le_trans hr.1 (by decide)
  have hsx : s.size ≤ 9223372036854775807 := Nat.le_trans hws (by decide)
  clear hr hws
  rcases h with h | ⟨h, h2⟩
  · have hg : (110 : Int) < (l.length : Int) := by omega
    clear h
    go_enter Tryd.func4, Tryd.ntmps4
    go_wp2_with (go_at_call 6; refine (awake9_any _).mono ?_; rintro e w1 ⟨rfl, h'⟩; replace hB := on hB h'; clear h')
    go_ret
    exact ⟨rfl, hB⟩
  · have hg : ¬ (110 : Int) < (l.length : Int) := by omega
    have hg2 : (1500 : Int) < (s.size : Int) := by omega
    clear h h2
    go_enter Tryd.func4, Tryd.ntmps4
    go_wp2_with (go_at_call 6; refine (awake9_any _).mono ?_; rintro e w1 ⟨rfl, h'⟩; replace hB := on hB h'; clear h')
    go_ret
    exact ⟨rfl, hB⟩
theorem st_label : ∀ (e : PE), e.good → ∀ s ∈ e.st, s.l.length ≤ 40
  | .leaf b l, h, s, hs => by
    have : s = ⟨if b then 2 else 1, l⟩ := by simpa [PE.st] using hs
    subst this
    exact pred_len h
  | .un k e, h, s, hs => by
    have hs' : s ∈ e.st ++ [⟨k, []⟩] := hs
    rw [List.mem_append, List.mem_singleton] at hs'
    rcases hs' with h1 | rfl
    · exact st_label e h.2 s h1
    · simp
  | .bin k a b, h, s, hs => by
    have hs' : s ∈ a.st ++ b.st ++ [⟨k, []⟩] := hs
    rw [List.mem_append, List.mem_append, List.mem_singleton] at hs'
    rcases hs' with (h1 | h1) | rfl
    · exact st_label a h.2.1 s h1
    · exact st_label b h.2.2 s h1
    · simp
set_option maxRecDepth 20000 in
set_option maxHeartbeats 8000000 in
theorem walk_n_n (A : Option Addr) (c : Nat) (l : List SI) (s : ByteArray) (w : World) (hr : RdX 2 siC w A l) (hk : ∀ x ∈ l, SiOk x) (h110 : ¬ 110 < l.length) (h1500 : ¬ 1500 < s.size) (hX : pathX deepT (l.map stN) = []) (a k : Nat) (hR : pathS s.size (toksL 0 (ls s)) = .no a k) (hk0 : k ≠ 0) :
    Calls Tryd.prog 4 #[.slice A l.length c, .string s] w fun e w' => e = .returned (.bool true) ∧ Below w.heap.size w w' := by
  have hB := Below.refl w.heap.size w
  have hmx : l.length ≤ 9223372036854775807 := Nat.le_trans hr.1 (by decide)
  have hga : ¬ (110 : Int) < (l.length : Int) := by omega
  have hgb : ¬ (1500 : Int) < (s.size : Int) := by omega
  have hs : ∀ x ∈ l, x.2.size ≤ maxLen := fun x h => (hk x h).1
  have HRl : Hid (∀ W, Below w.heap.size w W → RdX 2 siC W A l) := Lib.hid fun W hW => hr.on hW
  have HR1 : Hid (∀ W, Below w.heap.size w W → Calls Tryd.prog 9 #[.slice A l.length c] W fun e w' => e = .returned (.bool false) ∧ Below W.heap.size W w') := Lib.hid fun W hW => by
    have h := rightPath_any A c l W (hr.on hW) hs
    rw [hX] at h; exact h
  have hkb : ((k : Int) != 0) = true := by simp; omega
  have HQ2 : Hid (∀ W, Calls Tryd.prog 10 #[.string s] W fun e' w' => e' = .returned (.tuple #[.slice none 0 0, .int .i64 (a : Int), .int .i64 (k : Int)]) ∧ Below W.heap.size W w') := Lib.hid fun W => by
    have h := parsePath_any s W (by omega)
    rw [hR] at h; exact h
  clear hr hk h110 h1500 hs hR hX hk0
  go_enter Tryd.func4, Tryd.ntmps4
  go_wp2_with (first
    | (go_at_call 6; refine (awake9_any _).mono ?_; rintro e w1 ⟨rfl, h'⟩; replace hB := on hB h'; clear h')
    | (go_at_call 9; with_reducible refine (HR1.out _ hB).mono ?_; rintro e w2 ⟨rfl, h'⟩; replace hB := on hB h'; clear h')
    | (go_at_call 10; with_reducible refine (HQ2.out _).mono ?_; rintro e w2 ⟨rfl, h'⟩; replace hB := on hB h'; clear h'))
  go_ret
  exact ⟨rfl, hB⟩
set_option maxRecDepth 20000 in
set_option maxHeartbeats 8000000 in
theorem walk_n_y (A : Option Addr) (c : Nat) (l : List SI) (s : ByteArray) (w : World) (hr : RdX 2 siC w A l) (hk : ∀ x ∈ l, SiOk x) (h110 : ¬ 110 < l.length) (h1500 : ¬ 1500 < s.size) (hX : pathX deepT (l.map stN) = []) (e2 : PE) (ts : List Tk) (hT : toksL 0 (ls s) = .good ts) (hR : pathS s.size (toksL 0 (ls s)) = .ok e2.st []) (hg2 : e2.good) (hdd : e2.dp ≤ deepL ts) (hd2 : deepL ts ≤ 32) (hn2 : e2.st.length ≤ 100) :
    Calls Tryd.prog 4 #[.slice A l.length c, .string s] w fun e w' => e = .returned (.bool true) ∧ Below w.heap.size w w' := by
  have hB := Below.refl w.heap.size w
  have hmx : l.length ≤ 9223372036854775807 := Nat.le_trans hr.1 (by decide)
  have hga : ¬ (110 : Int) < (l.length : Int) := by omega
  have hgb : ¬ (1500 : Int) < (s.size : Int) := by omega
  have hs : ∀ x ∈ l, x.2.size ≤ maxLen := fun x h => (hk x h).1
  have HRl : Hid (∀ W, Below w.heap.size w W → RdX 2 siC W A l) := Lib.hid fun W hW => hr.on hW
  have HR1 : Hid (∀ W, Below w.heap.size w W → Calls Tryd.prog 9 #[.slice A l.length c] W fun e w' => e = .returned (.bool false) ∧ Below W.heap.size W w') := Lib.hid fun W hW => by
    have h := rightPath_any A c l W (hr.on hW) hs
    rw [hX] at h; exact h
  have htl : e2.tx.length ≤ 4400 := by have := tree_len hg2; omega
  have hX2 : pathX deepT ((e2.st.map siOf).map stN) = e2.tx := by rw [map_si hg2, path_tree hg2 hn2, if_neg (by omega)]
  have hsz2 : ∀ x ∈ e2.st.map siOf, x.2.size ≤ maxLen := fun x hx => by
    obtain ⟨y, hy, rfl⟩ := List.mem_map.1 hx
    show (bs y.l).size ≤ maxLen
    rw [bs_size]
    exact few_max (by have := st_label e2 hg2 y hy; omega)
  have HQ2 : Hid (∀ W, Calls Tryd.prog 10 #[.string s] W fun e' w' => ∃ A' c', e' = .returned (.tuple #[.slice A' e2.st.length c', .int .i64 0, .int .i64 0]) ∧ RdX 2 siC w' A' (e2.st.map siOf) ∧ Below W.heap.size W w') := Lib.hid fun W => by
    have h := parsePath_any s W (by omega)
    rw [hR] at h
    refine h.mono ?_
    rintro e' w' ⟨A', c', rfl, ho, hb⟩
    exact ⟨A', c', rfl, ho.si, hb⟩
  have HR2 : Hid (∀ W A' c', RdX 2 siC W A' (e2.st.map siOf) → Calls Tryd.prog 9 #[.slice A' e2.st.length c'] W fun e w' => e = .returned (.bool true) ∧ Below W.heap.size W w') := Lib.hid fun W A' c' h1 => by
    have h := rightPath_any A' c' (e2.st.map siOf) W h1 hsz2
    rw [hX2, show decide (e2.tx ≠ []) = true by simp [tx_ne hg2], List.length_map] at h; exact h
  have HP2 : Hid (∀ W A' c', RdX 2 siC W A' (e2.st.map siOf) → Calls Tryd.prog 7 #[.slice A' e2.st.length c'] W fun e w' => e = .returned (.string (bs e2.tx)) ∧ Below W.heap.size W w') := Lib.hid fun W A' c' h1 => by
    have h := showPath_any A' c' (e2.st.map siOf) W h1 hsz2
    rw [hX2, List.length_map] at h; exact h
  have HD1 : Hid (∀ W, Calls Tryd.prog 12 #[.string (bs e2.tx)] W fun e w' => e = .returned (.int .i64 (e2.dp : Nat)) ∧ Below W.heap.size W w') := Lib.hid fun W => by
    have h := deep_any (bs e2.tx) W (by rw [bs_size]; omega)
    rw [ls_bs, toks_alone hg2] at h
    have e : deepL (Rs.good (e2.tk 0)).ts = e2.dp := deep_tree hg2
    rw [e] at h; exact h
  have HD2 : Hid (∀ W, Calls Tryd.prog 12 #[.string s] W fun e w' => e = .returned (.int .i64 (deepL ts : Nat)) ∧ Below W.heap.size W w') := Lib.hid fun W => by
    have h := deep_any s W (by omega)
    rw [hT] at h; exact h
  have hle : (e2.dp : Int) ≤ (deepL ts : Nat) := by omega
  clear hr hk h110 h1500 hs hR hX hT hg2 hdd hd2 hn2 htl hX2 hsz2
  generalize deepL ts = D2 at *
  go_enter Tryd.func4, Tryd.ntmps4
  go_wp2_with (first
    | (go_at_call 6; refine (awake9_any _).mono ?_; rintro e w1 ⟨rfl, h'⟩; replace hB := on hB h'; clear h')
    | (go_at_call 9; with_reducible refine (HR1.out _ hB).mono ?_; rintro e w2 ⟨rfl, h'⟩; replace hB := on hB h'; clear h')
    | (go_at_call 10; with_reducible refine (HQ2.out _).mono ?_; rintro e w2 ⟨A2, c2, rfl, hm, h'⟩; replace hB := on hB h'; have HM2 := Lib.hid hm; clear h' hm)
    | (go_at_call 9; with_reducible refine (HR2.out _ _ _ HM2.out).mono ?_; rintro e w3 ⟨rfl, h'⟩; replace hB := on hB h'; have HM3 := Lib.hid (RdX.on HM2.out h'); clear h')
    | (go_at_call 7; with_reducible refine (HP2.out _ _ _ HM3.out).mono ?_; rintro e w4 ⟨rfl, h'⟩; replace hB := on hB h'; clear h')
    | (go_at_call 12; with_reducible refine (HD1.out _).mono ?_; rintro e w5 ⟨rfl, h'⟩; replace hB := on hB h'; clear h')
    | (go_at_call 12; with_reducible refine (HD2.out _).mono ?_; rintro e w6 ⟨rfl, h'⟩; replace hB := on hB h'; clear h'))
  go_ret
  exact ⟨rfl, hB⟩
set_option maxRecDepth 20000 in
set_option maxHeartbeats 8000000 in
theorem walk_y_n (A : Option Addr) (c : Nat) (l : List SI) (s : ByteArray) (w : World) (hr : RdX 2 siC w A l) (hk : ∀ x ∈ l, SiOk x) (h110 : ¬ 110 < l.length) (h1500 : ¬ 1500 < s.size) (e1 : PE) (hg1 : e1.good) (hl1 : l = e1.st.map siOf) (hd1 : e1.dp ≤ 32) (hn1 : e1.st.length ≤ 100) (a k : Nat) (hR : pathS s.size (toksL 0 (ls s)) = .no a k) (hk0 : k ≠ 0) :
    Calls Tryd.prog 4 #[.slice A l.length c, .string s] w fun e w' => e = .returned (.bool true) ∧ Below w.heap.size w w' := by
  have hB := Below.refl w.heap.size w
  have hmx : l.length ≤ 9223372036854775807 := Nat.le_trans hr.1 (by decide)
  have hga : ¬ (110 : Int) < (l.length : Int) := by omega
  have hgb : ¬ (1500 : Int) < (s.size : Int) := by omega
  have hs : ∀ x ∈ l, x.2.size ≤ maxLen := fun x h => (hk x h).1
  have HRl : Hid (∀ W, Below w.heap.size w W → RdX 2 siC W A l) := Lib.hid fun W hW => hr.on hW
  have hX : pathX deepT (l.map stN) = e1.tx := by rw [hl1, map_si hg1, path_tree hg1 hn1, if_neg (by omega)]
  have HR1 : Hid (∀ W, Below w.heap.size w W → Calls Tryd.prog 9 #[.slice A l.length c] W fun e w' => e = .returned (.bool true) ∧ Below W.heap.size W w') := Lib.hid fun W hW => by
    have h := rightPath_any A c l W (hr.on hW) hs
    rw [hX, show decide (e1.tx ≠ []) = true by simp [tx_ne hg1]] at h; exact h
  have HP1 : Hid (∀ W, Below w.heap.size w W → Calls Tryd.prog 7 #[.slice A l.length c] W fun e w' => e = .returned (.string (bs e1.tx)) ∧ Below W.heap.size W w') := Lib.hid fun W hW => by
    have h := showPath_any A c l W (hr.on hW) hs
    rw [hX] at h; exact h
  have hll : e1.st.length = l.length := by rw [hl1, List.length_map]
  have HQ1 : Hid (∀ W, Calls Tryd.prog 10 #[.string (bs e1.tx)] W fun e' w' => ∃ A' c', e' = .returned (.tuple #[.slice A' l.length c', .int .i64 0, .int .i64 0]) ∧ RdX 2 siC w' A' l ∧ Below W.heap.size W w') := Lib.hid fun W => by
    have h := parse_back hg1 hd1 hn1 W
    rw [← hl1, hll] at h; exact h
  have HS1 : Hid (∀ W A' c', RdX 2 siC W A l → RdX 2 siC W A' l → Calls Tryd.prog 11 #[.slice A l.length c, .slice A' l.length c'] W fun e w' => e = .returned (.bool true) ∧ Below W.heap.size W w') := Lib.hid fun W A' c' h1 h2 => samePath_yes A A' c c' l W h1 h2
  have hkb : ((k : Int) != 0) = true := by simp; omega
  have HQ2 : Hid (∀ W, Calls Tryd.prog 10 #[.string s] W fun e' w' => e' = .returned (.tuple #[.slice none 0 0, .int .i64 (a : Int), .int .i64 (k : Int)]) ∧ Below W.heap.size W w') := Lib.hid fun W => by
    have h := parsePath_any s W (by omega)
    rw [hR] at h; exact h
  clear hr hk h110 h1500 hs hR hX hg1 hl1 hd1 hn1 hll hk0
  go_enter Tryd.func4, Tryd.ntmps4
  go_wp2_with (first
    | (go_at_call 6; refine (awake9_any _).mono ?_; rintro e w1 ⟨rfl, h'⟩; replace hB := on hB h'; clear h')
    | (go_at_call 11; refine (HS1.out _ _ _ (HRl.out _ hB) HM1.out).mono ?_; rintro e w2 ⟨rfl, h'⟩; replace hB := on hB h'; clear h')
    | (go_at_call 10; with_reducible refine (HQ1.out _).mono ?_; rintro e w2 ⟨A', c', rfl, hm, h'⟩; replace hB := on hB h'; have HM1 := Lib.hid hm; clear h' hm)
    | (go_at_call 7; with_reducible refine (HP1.out _ hB).mono ?_; rintro e w2 ⟨rfl, h'⟩; replace hB := on hB h'; clear h')
    | (go_at_call 9; with_reducible refine (HR1.out _ hB).mono ?_; rintro e w2 ⟨rfl, h'⟩; replace hB := on hB h'; clear h')
    | (go_at_call 10; with_reducible refine (HQ2.out _).mono ?_; rintro e w2 ⟨rfl, h'⟩; replace hB := on hB h'; clear h'))
  go_ret
  exact ⟨rfl, hB⟩
set_option maxRecDepth 20000 in
set_option maxHeartbeats 8000000 in
theorem walk_y_y (A : Option Addr) (c : Nat) (l : List SI) (s : ByteArray) (w : World) (hr : RdX 2 siC w A l) (hk : ∀ x ∈ l, SiOk x) (h110 : ¬ 110 < l.length) (h1500 : ¬ 1500 < s.size) (e1 : PE) (hg1 : e1.good) (hl1 : l = e1.st.map siOf) (hd1 : e1.dp ≤ 32) (hn1 : e1.st.length ≤ 100) (e2 : PE) (ts : List Tk) (hT : toksL 0 (ls s) = .good ts) (hR : pathS s.size (toksL 0 (ls s)) = .ok e2.st []) (hg2 : e2.good) (hdd : e2.dp ≤ deepL ts) (hd2 : deepL ts ≤ 32) (hn2 : e2.st.length ≤ 100) :
    Calls Tryd.prog 4 #[.slice A l.length c, .string s] w fun e w' => e = .returned (.bool true) ∧ Below w.heap.size w w' := by
  have hB := Below.refl w.heap.size w
  have hmx : l.length ≤ 9223372036854775807 := Nat.le_trans hr.1 (by decide)
  have hga : ¬ (110 : Int) < (l.length : Int) := by omega
  have hgb : ¬ (1500 : Int) < (s.size : Int) := by omega
  have hs : ∀ x ∈ l, x.2.size ≤ maxLen := fun x h => (hk x h).1
  have HRl : Hid (∀ W, Below w.heap.size w W → RdX 2 siC W A l) := Lib.hid fun W hW => hr.on hW
  have hX : pathX deepT (l.map stN) = e1.tx := by rw [hl1, map_si hg1, path_tree hg1 hn1, if_neg (by omega)]
  have HR1 : Hid (∀ W, Below w.heap.size w W → Calls Tryd.prog 9 #[.slice A l.length c] W fun e w' => e = .returned (.bool true) ∧ Below W.heap.size W w') := Lib.hid fun W hW => by
    have h := rightPath_any A c l W (hr.on hW) hs
    rw [hX, show decide (e1.tx ≠ []) = true by simp [tx_ne hg1]] at h; exact h
  have HP1 : Hid (∀ W, Below w.heap.size w W → Calls Tryd.prog 7 #[.slice A l.length c] W fun e w' => e = .returned (.string (bs e1.tx)) ∧ Below W.heap.size W w') := Lib.hid fun W hW => by
    have h := showPath_any A c l W (hr.on hW) hs
    rw [hX] at h; exact h
  have hll : e1.st.length = l.length := by rw [hl1, List.length_map]
  have HQ1 : Hid (∀ W, Calls Tryd.prog 10 #[.string (bs e1.tx)] W fun e' w' => ∃ A' c', e' = .returned (.tuple #[.slice A' l.length c', .int .i64 0, .int .i64 0]) ∧ RdX 2 siC w' A' l ∧ Below W.heap.size W w') := Lib.hid fun W => by
    have h := parse_back hg1 hd1 hn1 W
    rw [← hl1, hll] at h; exact h
  have HS1 : Hid (∀ W A' c', RdX 2 siC W A l → RdX 2 siC W A' l → Calls Tryd.prog 11 #[.slice A l.length c, .slice A' l.length c'] W fun e w' => e = .returned (.bool true) ∧ Below W.heap.size W w') := Lib.hid fun W A' c' h1 h2 => samePath_yes A A' c c' l W h1 h2
  have htl : e2.tx.length ≤ 4400 := by have := tree_len hg2; omega
  have hX2 : pathX deepT ((e2.st.map siOf).map stN) = e2.tx := by rw [map_si hg2, path_tree hg2 hn2, if_neg (by omega)]
  have hsz2 : ∀ x ∈ e2.st.map siOf, x.2.size ≤ maxLen := fun x hx => by
    obtain ⟨y, hy, rfl⟩ := List.mem_map.1 hx
    show (bs y.l).size ≤ maxLen
    rw [bs_size]
    exact few_max (by have := st_label e2 hg2 y hy; omega)
  have HQ2 : Hid (∀ W, Calls Tryd.prog 10 #[.string s] W fun e' w' => ∃ A' c', e' = .returned (.tuple #[.slice A' e2.st.length c', .int .i64 0, .int .i64 0]) ∧ RdX 2 siC w' A' (e2.st.map siOf) ∧ Below W.heap.size W w') := Lib.hid fun W => by
    have h := parsePath_any s W (by omega)
    rw [hR] at h
    refine h.mono ?_
    rintro e' w' ⟨A', c', rfl, ho, hb⟩
    exact ⟨A', c', rfl, ho.si, hb⟩
  have HR2 : Hid (∀ W A' c', RdX 2 siC W A' (e2.st.map siOf) → Calls Tryd.prog 9 #[.slice A' e2.st.length c'] W fun e w' => e = .returned (.bool true) ∧ Below W.heap.size W w') := Lib.hid fun W A' c' h1 => by
    have h := rightPath_any A' c' (e2.st.map siOf) W h1 hsz2
    rw [hX2, show decide (e2.tx ≠ []) = true by simp [tx_ne hg2], List.length_map] at h; exact h
  have HP2 : Hid (∀ W A' c', RdX 2 siC W A' (e2.st.map siOf) → Calls Tryd.prog 7 #[.slice A' e2.st.length c'] W fun e w' => e = .returned (.string (bs e2.tx)) ∧ Below W.heap.size W w') := Lib.hid fun W A' c' h1 => by
    have h := showPath_any A' c' (e2.st.map siOf) W h1 hsz2
    rw [hX2, List.length_map] at h; exact h
  have HD1 : Hid (∀ W, Calls Tryd.prog 12 #[.string (bs e2.tx)] W fun e w' => e = .returned (.int .i64 (e2.dp : Nat)) ∧ Below W.heap.size W w') := Lib.hid fun W => by
    have h := deep_any (bs e2.tx) W (by rw [bs_size]; omega)
    rw [ls_bs, toks_alone hg2] at h
    have e : deepL (Rs.good (e2.tk 0)).ts = e2.dp := deep_tree hg2
    rw [e] at h; exact h
  have HD2 : Hid (∀ W, Calls Tryd.prog 12 #[.string s] W fun e w' => e = .returned (.int .i64 (deepL ts : Nat)) ∧ Below W.heap.size W w') := Lib.hid fun W => by
    have h := deep_any s W (by omega)
    rw [hT] at h; exact h
  have hle : (e2.dp : Int) ≤ (deepL ts : Nat) := by omega
  clear hr hk h110 h1500 hs hR hX hg1 hl1 hd1 hn1 hll hT hg2 hdd hd2 hn2 htl hX2 hsz2
  generalize deepL ts = D2 at *
  go_enter Tryd.func4, Tryd.ntmps4
  go_wp2_with (first
    | (go_at_call 6; refine (awake9_any _).mono ?_; rintro e w1 ⟨rfl, h'⟩; replace hB := on hB h'; clear h')
    | (go_at_call 11; refine (HS1.out _ _ _ (HRl.out _ hB) HM1.out).mono ?_; rintro e w2 ⟨rfl, h'⟩; replace hB := on hB h'; clear h')
    | (go_at_call 10; with_reducible refine (HQ1.out _).mono ?_; rintro e w2 ⟨A', c', rfl, hm, h'⟩; replace hB := on hB h'; have HM1 := Lib.hid hm; clear h' hm)
    | (go_at_call 7; with_reducible refine (HP1.out _ hB).mono ?_; rintro e w2 ⟨rfl, h'⟩; replace hB := on hB h'; clear h')
    | (go_at_call 9; with_reducible refine (HR1.out _ hB).mono ?_; rintro e w2 ⟨rfl, h'⟩; replace hB := on hB h'; clear h')
    | (go_at_call 10; with_reducible refine (HQ2.out _).mono ?_; rintro e w2 ⟨A2, c2, rfl, hm, h'⟩; replace hB := on hB h'; have HM2 := Lib.hid hm; clear h' hm)
    | (go_at_call 9; with_reducible refine (HR2.out _ _ _ HM2.out).mono ?_; rintro e w3 ⟨rfl, h'⟩; replace hB := on hB h'; have HM3 := Lib.hid (RdX.on HM2.out h'); clear h')
    | (go_at_call 7; with_reducible refine (HP2.out _ _ _ HM3.out).mono ?_; rintro e w4 ⟨rfl, h'⟩; replace hB := on hB h'; clear h')
    | (go_at_call 12; with_reducible refine (HD1.out _).mono ?_; rintro e w5 ⟨rfl, h'⟩; replace hB := on hB h'; clear h')
    | (go_at_call 12; with_reducible refine (HD2.out _).mono ?_; rintro e w6 ⟨rfl, h'⟩; replace hB := on hB h'; clear h'))
  go_ret
  exact ⟨rfl, hB⟩
theorem walk (A : Option Addr) (c : Nat) (l : List SI) (s : ByteArray) (w : World) (hr : RdX 2 siC w A l) (hk : ∀ x ∈ l, SiOk x) (hc : l.length ≤ c) (hws : s.size ≤ maxLen) :
    Calls Tryd.prog 4 #[.slice A l.length c, .string s] w fun e w' => e = .returned (.bool true) ∧ Below w.heap.size w w' := by
  by_cases h110 : 110 < l.length
  · exact walk_no A c l s w hr hws (.inl h110)
  by_cases h1500 : 1500 < s.size
  · exact walk_no A c l s w hr hws (.inr ⟨h110, h1500⟩)
  have first : pathX deepT (l.map stN) = [] ∨ ∃ e1 : PE, e1.good ∧ l = e1.st.map siOf ∧ e1.dp ≤ 32 ∧ e1.st.length ≤ 100 := by
    by_cases hX : pathX deepT (l.map stN) = []
    · exact .inl hX
    · obtain ⟨e1, hg, he, hd, hn, _⟩ := tree_path hX
      exact .inr ⟨e1, hg, si_map he.symm (fun x hx => (st_kind e1 hg x hx).1), hd, by rw [he]; exact hn⟩
  cases hR : pathS s.size (toksL 0 (ls s)) with
  | no a k =>
    have hk0 : k ≠ 0 := fun e => pathS_nz _ _ a k hR e
    rcases first with hX | ⟨e1, hg1, hl1, hd1, hn1⟩
    · exact walk_n_n A c l s w hr hk h110 h1500 hX a k hR hk0
    · exact walk_y_n A c l s w hr hk h110 h1500 e1 hg1 hl1 hd1 hn1 a k hR hk0
  | ok m r =>
    obtain ⟨ts, e2, hT, hg2, he2, hdd, hd2, hn2⟩ := read_tree hR
    have hm : r = [] := by
      rw [hT] at hR
      have h1 : wholeP (pathP 32) s.size ts = .ok m r := hR
      obtain ⟨x, r1, e1, e3⟩ := bind_ok h1
      cases r1 with
      | nil => cases e3; rfl
      | cons t r1 => cases e3
    subst he2 hm
    rcases first with hX | ⟨e1, hg1, hl1, hd1, hn1⟩
    · exact walk_n_y A c l s w hr hk h110 h1500 hX e2 ts hT hR hg2 hdd hd2 hn2
    · exact walk_y_y A c l s w hr hk h110 h1500 e1 hg1 hl1 hd1 hn1 e2 ts hT hR hg2 hdd hd2 hn2

theorem own : ownKnob Tryd.prog.godebug = none := by kernel_rfl

set_option maxRecDepth 100000 in
theorem lifted (os : Os) (started : os.Started) (H : Type) (enc : TypeId × Value → H) :
    ReturnsInHanded {} Tryd.checked os 4 .any (fun w args => (Rows.showStepsSpec.pre enc Tryd.prog Tryd.f4 Rows.showStepsRow.domain false w args ∧ laidMetH Tryd.prog Rows.showStepsRow.laid w) ∧ sizedMet enc Tryd.prog Tryd.f4 (OpenSpec.ofChange Rows.showStepsSpec) false w args) (Rows.showStepsSpec.post enc Tryd.prog Tryd.f4 false true false false) := by
  refine returnsInHanded_of_change_and (C := Tryd.checked) (X := fun w _ => laidMetH Tryd.prog Rows.showStepsRow.laid w) (fun _ _ _ hh h => h.of_heap hh) own started (by kernel_rfl) Tryd.func4
    (ChangeSpec.witness_shaped (enc := enc) (C := Tryd.checked) (os := os) (X := fun w _ => laidMetH Tryd.prog Rows.showStepsRow.laid w) false (World.laidAll Tryd.prog os Rows.showStepsRow.laid) #[.slice none 0 0, .string ByteArray.empty] 8 (World.laidAll_os _ _ _)
      (World.shaped_of_ZipB (by kernel_rfl) (by kernel_rfl)) (by kernel_rfl) (by kernel_rfl) (by kernel_rfl)
      (by rw [MakeChecks.laidMetH_plain _ _ _ (by kernel_rfl)]; exact laidMet_laidAll _ (by kernel_rfl) (by kernel_rfl))) ?_
  intro W base args ds gs before hval0 hW hcnd _ hL _
  have hval : ∀ (j : Nat) t v, Tryd.f4.params[j]? = some t → args[j]? = some v → Value.okWide Tryd.prog W .any base t v := hval0
  have hW' := hW
  obtain ⟨p, q, hA0, hV, rfl, hfz, hnd⟩ := hW
  have hA : DataW.TrodAll enc Tryd.prog W 0 (fun _ => true) true Tryd.f4.params.toList args.toList ds p := hA0
  have hAk := hA
  rw [Tryd.params4] at hA hval
  obtain ⟨v0, vs0, d0, ds0, p0, q0, hargs, rfl, rfl, h0, r0⟩ := trodAll_cons hA
  obtain ⟨v1, vs1, d1, ds1, p1, q1, rfl, rfl, rfl, h1, r1⟩ := trodAll_cons r0
  obtain ⟨rfl, rfl, rfl⟩ := trodAll_nil r1
  obtain rfl : args = #[v0, v1] := by cases args; simp_all
  obtain ⟨rfl, rfl⟩ := trodVars_none hV
  obtain ⟨A0, c0, l0, rfl, r0', k0', m0'⟩ := open_steps (okWide_slice Tryd.underlying22 (hval 0 22 v0 rfl rfl)) h0
  obtain ⟨a1, rfl, rfl, rfl, w1⟩ := Go.ChangeMaps.open_string Tryd.underlying9 (hval 1 9 v1 rfl rfl) h1
  clear hA0 hval0
  refine (walk A0 c0 l0 a1 W r0' k0' m0' w1).mono fun e W' ⟨he, hg⟩ => ?_
  subst he
  refine ⟨_, rfl, post_old hW' (by simpa using hAk) (by rw [Tryd.params4]; decide) (fun _ _ _ => (trodAll_cons_mk (shut_bool Tryd.underlying4 _) trodAll_mk0)) rfl (fun _ => rfl) hg⟩

theorem row_proved : Rows.ShowStepsSaid :=
  OpenClaim.holds_of_wide 4 Tryd.f4 rfl rfl rfl rfl rfl rfl rfl ⟨rfl, rfl, rfl, rfl, rfl⟩ rfl rfl rfl rfl rfl (by kernel_rfl) Tryd.func4 (by kernel_rfl)
    (of_decide_eq_true (by kernel_rfl)) (by unfold Func.isWrapper; first | (rw [if_pos (by decide +kernel)]; kernel_rfl) | (rw [if_neg (by decide +kernel)]; exact ⟨rfl, rfl⟩))
    (fun os started H enc _ => lifted os started H enc)
theorem proved : Rows.ShowStepsCardSaid :=
  Claim7.holds_tied_plain_at .later [] Rows.showStepsCard.laidKinds Rows.showStepsCard.laidTests Rows.showStepsCard.stood.harness Rows.showStepsCard.stood.looks row_proved (fun _ h => by cases h) (by kernel_rfl) (fun _ h => by cases h) showSteps_row_tie rfl ⟨rfl, rfl⟩ (by kernel_rfl) rfl
    (fun f fn hf hfn => by
      obtain rfl : f = 4 := Option.some.inj ((show Tryd.prog.funcNamed "antecedent/antecedentlaw09.ShowSteps" = some 4 by kernel_rfl).symm.trans hf) |>.symm
      obtain rfl : fn = Tryd.f4 := (Option.some.inj (Tryd.func4.symm.trans hfn)).symm
      exact ⟨by kernel_rfl, fun j t ht => by
        rw [Tryd.params4] at ht
        have hm : t ∈ [22, 9] := by simpa using Array.mem_of_getElem? ht
        have hall : ([22, 9].all fun u => !Tryd.prog.wantsStandIn u) = true := by kernel_rfl
        exact (show Tryd.prog.wantsStandIn t = false by simpa using List.all_eq_true.1 hall t hm)⟩)
    (by kernel_rfl)
#print axioms proved
end Go.Proofs.YtdolhlbkhhnpmaaDoor.showSteps

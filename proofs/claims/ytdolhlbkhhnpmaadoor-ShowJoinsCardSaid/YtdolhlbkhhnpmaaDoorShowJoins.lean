/-
  ShowJoins (layer 9, show): for any two lists of steps the call returns true: two paths, one behind the other, or either, are shown with the first one's text ahead and the second one's behind, and parentheses only around these. No condition.
-/
import Derived.Test.YtdolhlbkhhnpmaaDoorRows
import Derived.Test.YtdolhlbkhhnpmaaDoorCards
import Derived.Test.YtdolhlbkhhnpmaaDoorTie
import Derived.Test.YtdolhlbkhhnpmaaDoorShwIn
import Derived.WalkKit
import Derived.ProofKit
import Derived.OpenShut
import Derived.LaidMore
import Derived.Lay
import Derived.SevenTiedAt
import Derived.Stop.Joined
import Derived.RegionTactic
import Derived.BigQuiet
import Derived.Lib.QuietBelow
import Derived.Deep.RegionHeld3
import Derived.Deep.MidRow
import Derived.Deep.CutRange
import Derived.Deep.DeepCutAuto
namespace Go.Proofs.YtdolhlbkhhnpmaaDoor.showJoins
open Go.ChangeShapes Go.WideShapes Go.ChangeAt Go.RowKit FloM ValM Go.Shelf
set_option linter.unusedVariables false
set_option linter.unusedSimpArgs false
theorem op_ok (k : Int) : ∀ s ∈ ([opS k] : List SI), s.2.size ≤ maxLen := fun s hs => by
  have : s = opS k := by simpa using hs
  subst this
  exact few_max (Nat.zero_le _)
def PatX (w : World) (l : List SI) : Prop := ∀ (W : World) (A : Option Addr) (c : Nat), Below w.heap.size w W → RdX 2 siC W A l → Calls Tryd.prog 7 #[.slice A l.length c] W fun e w' => e = .returned (.string (bs (pathX deepT (l.map stN)))) ∧ Below W.heap.size W w'
theorem rd_op (k : Int) (w : World) : RdX 2 siC (w.alloc (.cells #[.int .i64 k, .string ⟨#[]⟩] 33)) (some ⟨w.heap.size, 0, none⟩) [opS k] := rdX_row (cl := siC) (l := [opS k]) (fun _ => rfl) (few_max (by simp)) (row_new w [.int .i64 k, .string ⟨#[]⟩])
theorem own_rd {W : World} {base c : Nat} {A : Option Addr} {l : List SI} (h : OwnX 33 2 siC W base A c l) : RdX 2 siC W A l := RdX.of_own (fun _ => rfl) h
theorem str_ne {a b : List UInt8} (h : a ≠ b) : bs a ≠ bs b := fun e => h (by have := congrArg ls e; rwa [ls_bs, ls_bs] at this)
theorem walk_big (A B : Option Addr) (c d : Nat) (p q : List SI) (z : Bool) (w : World) (hp : RdX 2 siC w A p) (hq : RdX 2 siC w B q) (h : 40 < p.length ∨ (¬ 40 < p.length ∧ 40 < q.length)) :
    Calls Tryd.prog 5 #[.slice A p.length c, .slice B q.length d, .bool z] w fun e w' => e = .returned (.bool true) ∧ Below w.heap.size w w' := by
  have hB := Below.refl w.heap.size w
  have hmx : p.length ≤ 9223372036854775807 := Nat.le_trans hp.1 (by decide)
  have hmy : q.length ≤ 9223372036854775807 := Nat.le_trans hq.1 (by decide)
  clear hp hq
  rcases h with h | ⟨h, h2⟩
  · have hg : (40 : Int) < (p.length : Int) := by omega
    clear h
    go_enter Tryd.func5, Tryd.ntmps5
    go_wp2_with (go_at_call 6; refine (awake9_any _).mono ?_; rintro e w1 ⟨rfl, h'⟩; replace hB := on hB h'; clear h')
    go_ret
    exact ⟨rfl, hB⟩
  · have hg : ¬ (40 : Int) < (p.length : Int) := by omega
    have hg2 : (40 : Int) < (q.length : Int) := by omega
    clear h h2
    go_enter Tryd.func5, Tryd.ntmps5
    go_wp2_with (go_at_call 6; refine (awake9_any _).mono ?_; rintro e w1 ⟨rfl, h'⟩; replace hB := on hB h'; clear h')
    go_ret
    exact ⟨rfl, hB⟩
set_option maxRecDepth 20000 in
set_option maxHeartbeats 16000000 in
theorem walk_a_3 (A B : Option Addr) (c d : Nat) (p q : List SI) (w : World) (hp : RdX 2 siC w A p) (hq : RdX 2 siC w B q) (kp : ∀ s ∈ p, SiOk s) (kq : ∀ s ∈ q, SiOk s) (h1 : ¬ 40 < p.length) (h2 : ¬ 40 < q.length) (a b S : List UInt8) (ea : pathX deepT (p.map stN) = a) (eb : pathX deepT (q.map stN) = b) (es : pathX deepT ((p ++ q ++ [opS 3]).map stN) = S) (ha : a = []) :
    Calls Tryd.prog 5 #[.slice A p.length c, .slice B q.length d, .bool false] w fun e w' => e = .returned (.bool true) ∧ Below w.heap.size w w' := by
  have hB := Below.refl w.heap.size w
  have hmx : p.length ≤ 9223372036854775807 := Nat.le_trans hp.1 (by decide)
  have hmy : q.length ≤ 9223372036854775807 := Nat.le_trans hq.1 (by decide)
  have hga : ¬ (40 : Int) < (p.length : Int) := by omega
  have hgb : ¬ (40 : Int) < (q.length : Int) := by omega
  have hall : ∀ s ∈ p ++ q ++ [opS 3], s.2.size ≤ maxLen := fun s h => by
    rw [List.mem_append, List.mem_append] at h
    rcases h with (h | h) | h
    · exact (kp s h).1
    · exact (kq s h).1
    · exact op_ok _ s h
  have HP : Hid (∀ W, Below w.heap.size w W → Calls Tryd.prog 7 #[.slice A p.length c] W fun e w' => e = .returned (.string (bs a)) ∧ Below W.heap.size W w') := Lib.hid fun W hW => by have h := showPath_any A c p W (hp.on hW) (fun s h => (kp s h).1); rw [ea] at h; exact h
  have HQ : Hid (∀ W, Below w.heap.size w W → Calls Tryd.prog 7 #[.slice B q.length d] W fun e w' => e = .returned (.string (bs b)) ∧ Below W.heap.size W w') := Lib.hid fun W hW => by have h := showPath_any B d q W (hq.on hW) (fun s h => (kq s h).1); rw [eb] at h; exact h
  obtain ⟨m1, hm1⟩ : ∃ m, p ++ q = m := ⟨_, rfl⟩
  obtain ⟨m2, hm2⟩ : ∃ m, m1 ++ [opS 3] = m := ⟨_, rfl⟩
  have hl1 : m1.length ≤ 80 := by rw [← hm1, List.length_append]; omega
  have HM1 := Lib.hid hm1; have HM2 := Lib.hid hm2
  rw [hm1, hm2] at es hall
  clear hm1 hm2
  have HS : Hid (∀ W A' c', RdX 2 siC W A' m2 → Calls Tryd.prog 7 #[.slice A' m2.length c'] W fun e w' => e = .returned (.string (bs S)) ∧ Below W.heap.size W w') := Lib.hid fun W A' c' hW => by have h := showPath_any A' c' _ W hW hall; rw [es] at h; exact h
  have HRp : Hid (∀ W, Below w.heap.size w W → RdX 2 siC W A p) := Lib.hid fun W hW => hp.on hW
  have HRq : Hid (∀ W, Below w.heap.size w W → RdX 2 siC W B q) := Lib.hid fun W hW => hq.on hW
  have hall2 : ∀ s ∈ p ++ [opS 3], s.2.size ≤ maxLen := fun s h => by
    rw [List.mem_append] at h
    rcases h with h | h
    · exact (kp s h).1
    · exact op_ok _ s h
  obtain ⟨X, hX⟩ : ∃ X, pathX deepT ((p ++ [opS 3]).map stN) = X := ⟨_, rfl⟩
  obtain ⟨m3, hm3⟩ : ∃ m, p ++ [opS 3] = m := ⟨_, rfl⟩
  have HM3 := Lib.hid hm3
  have HX : Hid (∀ W A' c', RdX 2 siC W A' m3 → Calls Tryd.prog 7 #[.slice A' m3.length c'] W fun e w' => e = .returned (.string (bs X)) ∧ Below W.heap.size W w') := Lib.hid fun W A' c' hW => by have h := showPath_any A' c' m3 W hW (hm3 ▸ hall2); rw [← hm3, hX, hm3] at h; exact h
  have fa : ((bs a).toList == []) = true := by rw [bsl, ha]; rfl
  clear hX ea ha
  clear hp hq kp kq hall hall2 es eb hm3
  go_enter Tryd.func5, Tryd.ntmps5
  go_upto_region 7 with (first
    | (go_at_call 6; refine (awake9_any _).mono ?_; rintro e w1 ⟨rfl, h'⟩; replace hB := on hB h'; clear h')
    | (go_at_call 7; with_reducible refine (HP.out _ hB).mono ?_; rintro e w2 ⟨rfl, h'⟩; replace hB := on hB h'; clear h')
    | (go_at_call 7; with_reducible refine (HQ.out _ hB).mono ?_; rintro e w2 ⟨rfl, h'⟩; replace hB := on hB h'; clear h'))
  go_upto_region 8 with (first
    | (at_builtin; refine wpList_appS rfl (.tmp 34) (.tmp 35) rfl w2.heap.size (some ⟨w2.heap.size, 0, none⟩) 0 [] p p rfl rfl (ownS0 w2 (Nat.le_refl _)) A c rfl (HRp.out _ (on hB ((Below.refl _ _).alloc (Nat.le_refl _) _))) (by first | omega | (simp only [List.length_append, List.length_cons, List.length_nil]; omega)) (by simp) ?_; intro A3 c3 w3 ho hg; have O3 := Lib.hid ho; have H3 : Hid (Below w2.heap.size w2 w3) := Lib.hid (((Below.refl w2.heap.size w2).alloc (Nat.le_refl _) _).grown hg (by simp) (fun kk hkk => by simp [Value.ownBlock] at hkk; omega)); clear ho hg)
    | (at_builtin; refine wpList_appS rfl (.tmp 36) (.tmp 37) rfl w2.heap.size A3 c3 p q m1 HM1.out rfl (O3.out) B d rfl (HRq.out _ (on hB H3.out)) (by first | omega | (simp only [List.length_append, List.length_cons, List.length_nil]; omega)) (H3.out.size) ?_; intro A4 c4 w4 ho hg; have O4 := Lib.hid ho; have H4 : Hid (Below w2.heap.size w2 w4) := Lib.hid (H3.out.grown hg H3.out.size (fun kk hkk => own_base O3.out kk hkk)); clear ho hg)
    | (at_builtin; refine wpList_appS rfl (.tmp 38) (.tmp 41) rfl w2.heap.size A4 c4 m1 [opS 3] m2 HM2.out rfl (own_on O4.out ((Below.refl _ _).alloc (Nat.le_refl _) _)) (some ⟨w4.heap.size, 0, none⟩) 1 rfl (rd_op 3 w4) (by first | omega | (simp only [List.length_append, List.length_cons, List.length_nil]; omega)) (by have := H4.out.size; simp; omega) ?_; intro A5 c5 w5 ho hg; have O5 := Lib.hid ho; have H5 : Hid (Below w2.heap.size w2 w5) := Lib.hid ((H4.out.alloc H4.out.size _).grown hg (by have := H4.out.size; simp; omega) (fun kk hkk => own_base O4.out kk hkk)); clear ho hg)
    | (go_at_call 7; refine (HS.out _ _ _ (own_rd O5.out)).mono ?_; rintro e w6 ⟨rfl, h'⟩; replace hB := on (on hB H5.out) h'; clear h'))
  by_cases hx : X = []
  · have fX : ((bs X).toList == []) = true := by rw [bsl, hx]; rfl
    clear hx
    clear HP HQ HS O3 O4 O5 H3 H4 H5
    go_wp2_with (first
      | (at_builtin; refine wpList_appS rfl (.tmp 54) (.tmp 55) rfl w6.heap.size (some ⟨w6.heap.size, 0, none⟩) 0 [] p p rfl rfl (ownS0 w6 (Nat.le_refl _)) A c rfl (HRp.out _ (on hB ((Below.refl _ _).alloc (Nat.le_refl _) _))) (by first | omega | (simp only [List.length_append, List.length_cons, List.length_nil]; omega)) (by simp) ?_; intro A7 c7 w7 ho hg; have O7 := Lib.hid ho; have H7 : Hid (Below w6.heap.size w6 w7) := Lib.hid (((Below.refl w6.heap.size w6).alloc (Nat.le_refl _) _).grown hg (by simp) (fun kk hkk => by simp [Value.ownBlock] at hkk; omega)); clear ho hg)
      | (at_builtin; refine wpList_appS rfl (.tmp 56) (.tmp 58) rfl w6.heap.size A7 c7 p [opS 3] m3 HM3.out rfl (own_on O7.out ((Below.refl _ _).alloc (Nat.le_refl _) _)) (some ⟨w7.heap.size, 0, none⟩) 1 rfl (rd_op 3 w7) (by first | omega | (simp only [List.length_append, List.length_cons, List.length_nil]; omega)) (by have := H7.out.size; simp; omega) ?_; intro A8 c8 w8 ho hg; have O8 := Lib.hid ho; have H8 : Hid (Below w6.heap.size w6 w8) := Lib.hid ((H7.out.alloc H7.out.size _).grown hg (by have := H7.out.size; simp; omega) (fun kk hkk => own_base O7.out kk hkk)); clear ho hg)
      | (go_at_call 7; refine (HX.out _ _ _ (own_rd O8.out)).mono ?_; rintro e w9 ⟨rfl, h'⟩; replace hB := on (on hB H8.out) h'; clear h'))
    all_goals
      go_ret
      exact ⟨rfl, hB⟩
  · have fX : ((bs X).toList == []) = false := by rw [bsl, beq_eq_false_iff_ne]; exact hx
    clear hx
    clear HP HQ HS O3 O4 O5 H3 H4 H5
    go_wp2_with (first
      | (at_builtin; refine wpList_appS rfl (.tmp 54) (.tmp 55) rfl w6.heap.size (some ⟨w6.heap.size, 0, none⟩) 0 [] p p rfl rfl (ownS0 w6 (Nat.le_refl _)) A c rfl (HRp.out _ (on hB ((Below.refl _ _).alloc (Nat.le_refl _) _))) (by first | omega | (simp only [List.length_append, List.length_cons, List.length_nil]; omega)) (by simp) ?_; intro A7 c7 w7 ho hg; have O7 := Lib.hid ho; have H7 : Hid (Below w6.heap.size w6 w7) := Lib.hid (((Below.refl w6.heap.size w6).alloc (Nat.le_refl _) _).grown hg (by simp) (fun kk hkk => by simp [Value.ownBlock] at hkk; omega)); clear ho hg)
      | (at_builtin; refine wpList_appS rfl (.tmp 56) (.tmp 58) rfl w6.heap.size A7 c7 p [opS 3] m3 HM3.out rfl (own_on O7.out ((Below.refl _ _).alloc (Nat.le_refl _) _)) (some ⟨w7.heap.size, 0, none⟩) 1 rfl (rd_op 3 w7) (by first | omega | (simp only [List.length_append, List.length_cons, List.length_nil]; omega)) (by have := H7.out.size; simp; omega) ?_; intro A8 c8 w8 ho hg; have O8 := Lib.hid ho; have H8 : Hid (Below w6.heap.size w6 w8) := Lib.hid ((H7.out.alloc H7.out.size _).grown hg (by have := H7.out.size; simp; omega) (fun kk hkk => own_base O7.out kk hkk)); clear ho hg)
      | (go_at_call 7; refine (HX.out _ _ _ (own_rd O8.out)).mono ?_; rintro e w9 ⟨rfl, h'⟩; replace hB := on (on hB H8.out) h'; clear h'))
    all_goals
      go_ret
      exact ⟨rfl, hB⟩
set_option maxRecDepth 20000 in
set_option maxHeartbeats 16000000 in
theorem walk_b_3 (A B : Option Addr) (c d : Nat) (p q : List SI) (w : World) (hp : RdX 2 siC w A p) (hq : RdX 2 siC w B q) (kp : ∀ s ∈ p, SiOk s) (kq : ∀ s ∈ q, SiOk s) (h1 : ¬ 40 < p.length) (h2 : ¬ 40 < q.length) (a b S : List UInt8) (ea : pathX deepT (p.map stN) = a) (eb : pathX deepT (q.map stN) = b) (es : pathX deepT ((p ++ q ++ [opS 3]).map stN) = S) (ha : a ≠ []) (hb : b = []) :
    Calls Tryd.prog 5 #[.slice A p.length c, .slice B q.length d, .bool false] w fun e w' => e = .returned (.bool true) ∧ Below w.heap.size w w' := by
  have hB := Below.refl w.heap.size w
  have hmx : p.length ≤ 9223372036854775807 := Nat.le_trans hp.1 (by decide)
  have hmy : q.length ≤ 9223372036854775807 := Nat.le_trans hq.1 (by decide)
  have hga : ¬ (40 : Int) < (p.length : Int) := by omega
  have hgb : ¬ (40 : Int) < (q.length : Int) := by omega
  have hall : ∀ s ∈ p ++ q ++ [opS 3], s.2.size ≤ maxLen := fun s h => by
    rw [List.mem_append, List.mem_append] at h
    rcases h with (h | h) | h
    · exact (kp s h).1
    · exact (kq s h).1
    · exact op_ok _ s h
  have HP : Hid (∀ W, Below w.heap.size w W → Calls Tryd.prog 7 #[.slice A p.length c] W fun e w' => e = .returned (.string (bs a)) ∧ Below W.heap.size W w') := Lib.hid fun W hW => by have h := showPath_any A c p W (hp.on hW) (fun s h => (kp s h).1); rw [ea] at h; exact h
  have HQ : Hid (∀ W, Below w.heap.size w W → Calls Tryd.prog 7 #[.slice B q.length d] W fun e w' => e = .returned (.string (bs b)) ∧ Below W.heap.size W w') := Lib.hid fun W hW => by have h := showPath_any B d q W (hq.on hW) (fun s h => (kq s h).1); rw [eb] at h; exact h
  obtain ⟨m1, hm1⟩ : ∃ m, p ++ q = m := ⟨_, rfl⟩
  obtain ⟨m2, hm2⟩ : ∃ m, m1 ++ [opS 3] = m := ⟨_, rfl⟩
  have hl1 : m1.length ≤ 80 := by rw [← hm1, List.length_append]; omega
  have HM1 := Lib.hid hm1; have HM2 := Lib.hid hm2
  rw [hm1, hm2] at es hall
  clear hm1 hm2
  have HS : Hid (∀ W A' c', RdX 2 siC W A' m2 → Calls Tryd.prog 7 #[.slice A' m2.length c'] W fun e w' => e = .returned (.string (bs S)) ∧ Below W.heap.size W w') := Lib.hid fun W A' c' hW => by have h := showPath_any A' c' _ W hW hall; rw [es] at h; exact h
  have HRp : Hid (∀ W, Below w.heap.size w W → RdX 2 siC W A p) := Lib.hid fun W hW => hp.on hW
  have HRq : Hid (∀ W, Below w.heap.size w W → RdX 2 siC W B q) := Lib.hid fun W hW => hq.on hW
  have hall2 : ∀ s ∈ p ++ [opS 3], s.2.size ≤ maxLen := fun s h => by
    rw [List.mem_append] at h
    rcases h with h | h
    · exact (kp s h).1
    · exact op_ok _ s h
  obtain ⟨X, hX⟩ : ∃ X, pathX deepT ((p ++ [opS 3]).map stN) = X := ⟨_, rfl⟩
  obtain ⟨m3, hm3⟩ : ∃ m, p ++ [opS 3] = m := ⟨_, rfl⟩
  have HM3 := Lib.hid hm3
  have HX : Hid (∀ W A' c', RdX 2 siC W A' m3 → Calls Tryd.prog 7 #[.slice A' m3.length c'] W fun e w' => e = .returned (.string (bs X)) ∧ Below W.heap.size W w') := Lib.hid fun W A' c' hW => by have h := showPath_any A' c' m3 W hW (hm3 ▸ hall2); rw [← hm3, hX, hm3] at h; exact h
  have fa : ((bs a).toList == []) = false := by rw [bsl, beq_eq_false_iff_ne]; exact ha
  have fb : ((bs b).toList == []) = true := by rw [bsl, hb]; rfl
  have fX : ((bs X).toList == []) = true := by
    have h0 : X = [] := by rw [← hX, List.map_append]; exact joins_none (by rw [ea]; exact ha)
    rw [bsl, h0]; rfl
  clear hX ea ha hb
  clear hp hq kp kq hall hall2 es eb hm3
  go_enter Tryd.func5, Tryd.ntmps5
  go_upto_region 7 with (first
    | (go_at_call 6; refine (awake9_any _).mono ?_; rintro e w1 ⟨rfl, h'⟩; replace hB := on hB h'; clear h')
    | (go_at_call 7; with_reducible refine (HP.out _ hB).mono ?_; rintro e w2 ⟨rfl, h'⟩; replace hB := on hB h'; clear h')
    | (go_at_call 7; with_reducible refine (HQ.out _ hB).mono ?_; rintro e w2 ⟨rfl, h'⟩; replace hB := on hB h'; clear h'))
  go_upto_region 8 with (first
    | (at_builtin; refine wpList_appS rfl (.tmp 34) (.tmp 35) rfl w2.heap.size (some ⟨w2.heap.size, 0, none⟩) 0 [] p p rfl rfl (ownS0 w2 (Nat.le_refl _)) A c rfl (HRp.out _ (on hB ((Below.refl _ _).alloc (Nat.le_refl _) _))) (by first | omega | (simp only [List.length_append, List.length_cons, List.length_nil]; omega)) (by simp) ?_; intro A3 c3 w3 ho hg; have O3 := Lib.hid ho; have H3 : Hid (Below w2.heap.size w2 w3) := Lib.hid (((Below.refl w2.heap.size w2).alloc (Nat.le_refl _) _).grown hg (by simp) (fun kk hkk => by simp [Value.ownBlock] at hkk; omega)); clear ho hg)
    | (at_builtin; refine wpList_appS rfl (.tmp 36) (.tmp 37) rfl w2.heap.size A3 c3 p q m1 HM1.out rfl (O3.out) B d rfl (HRq.out _ (on hB H3.out)) (by first | omega | (simp only [List.length_append, List.length_cons, List.length_nil]; omega)) (H3.out.size) ?_; intro A4 c4 w4 ho hg; have O4 := Lib.hid ho; have H4 : Hid (Below w2.heap.size w2 w4) := Lib.hid (H3.out.grown hg H3.out.size (fun kk hkk => own_base O3.out kk hkk)); clear ho hg)
    | (at_builtin; refine wpList_appS rfl (.tmp 38) (.tmp 41) rfl w2.heap.size A4 c4 m1 [opS 3] m2 HM2.out rfl (own_on O4.out ((Below.refl _ _).alloc (Nat.le_refl _) _)) (some ⟨w4.heap.size, 0, none⟩) 1 rfl (rd_op 3 w4) (by first | omega | (simp only [List.length_append, List.length_cons, List.length_nil]; omega)) (by have := H4.out.size; simp; omega) ?_; intro A5 c5 w5 ho hg; have O5 := Lib.hid ho; have H5 : Hid (Below w2.heap.size w2 w5) := Lib.hid ((H4.out.alloc H4.out.size _).grown hg (by have := H4.out.size; simp; omega) (fun kk hkk => own_base O4.out kk hkk)); clear ho hg)
    | (go_at_call 7; refine (HS.out _ _ _ (own_rd O5.out)).mono ?_; rintro e w6 ⟨rfl, h'⟩; replace hB := on (on hB H5.out) h'; clear h'))
  clear HP HQ HS O3 O4 O5 H3 H4 H5
  go_wp2_with (first
    | (at_builtin; refine wpList_appS rfl (.tmp 54) (.tmp 55) rfl w6.heap.size (some ⟨w6.heap.size, 0, none⟩) 0 [] p p rfl rfl (ownS0 w6 (Nat.le_refl _)) A c rfl (HRp.out _ (on hB ((Below.refl _ _).alloc (Nat.le_refl _) _))) (by first | omega | (simp only [List.length_append, List.length_cons, List.length_nil]; omega)) (by simp) ?_; intro A7 c7 w7 ho hg; have O7 := Lib.hid ho; have H7 : Hid (Below w6.heap.size w6 w7) := Lib.hid (((Below.refl w6.heap.size w6).alloc (Nat.le_refl _) _).grown hg (by simp) (fun kk hkk => by simp [Value.ownBlock] at hkk; omega)); clear ho hg)
    | (at_builtin; refine wpList_appS rfl (.tmp 56) (.tmp 58) rfl w6.heap.size A7 c7 p [opS 3] m3 HM3.out rfl (own_on O7.out ((Below.refl _ _).alloc (Nat.le_refl _) _)) (some ⟨w7.heap.size, 0, none⟩) 1 rfl (rd_op 3 w7) (by first | omega | (simp only [List.length_append, List.length_cons, List.length_nil]; omega)) (by have := H7.out.size; simp; omega) ?_; intro A8 c8 w8 ho hg; have O8 := Lib.hid ho; have H8 : Hid (Below w6.heap.size w6 w8) := Lib.hid ((H7.out.alloc H7.out.size _).grown hg (by have := H7.out.size; simp; omega) (fun kk hkk => own_base O7.out kk hkk)); clear ho hg)
    | (go_at_call 7; refine (HX.out _ _ _ (own_rd O8.out)).mono ?_; rintro e w9 ⟨rfl, h'⟩; replace hB := on (on hB H8.out) h'; clear h'))
  all_goals
    go_ret
    exact ⟨rfl, hB⟩
set_option maxRecDepth 20000 in
set_option maxHeartbeats 16000000 in
theorem walk_s_3 (A B : Option Addr) (c d : Nat) (p q : List SI) (w : World) (hp : RdX 2 siC w A p) (hq : RdX 2 siC w B q) (kp : ∀ s ∈ p, SiOk s) (kq : ∀ s ∈ q, SiOk s) (h1 : ¬ 40 < p.length) (h2 : ¬ 40 < q.length) (a b S : List UInt8) (ea : pathX deepT (p.map stN) = a) (eb : pathX deepT (q.map stN) = b) (es : pathX deepT ((p ++ q ++ [opS 3]).map stN) = S) (ha : a ≠ []) (hb : b ≠ []) (hs : S = []) :
    Calls Tryd.prog 5 #[.slice A p.length c, .slice B q.length d, .bool false] w fun e w' => e = .returned (.bool true) ∧ Below w.heap.size w w' := by
  have hB := Below.refl w.heap.size w
  have hmx : p.length ≤ 9223372036854775807 := Nat.le_trans hp.1 (by decide)
  have hmy : q.length ≤ 9223372036854775807 := Nat.le_trans hq.1 (by decide)
  have hga : ¬ (40 : Int) < (p.length : Int) := by omega
  have hgb : ¬ (40 : Int) < (q.length : Int) := by omega
  have hall : ∀ s ∈ p ++ q ++ [opS 3], s.2.size ≤ maxLen := fun s h => by
    rw [List.mem_append, List.mem_append] at h
    rcases h with (h | h) | h
    · exact (kp s h).1
    · exact (kq s h).1
    · exact op_ok _ s h
  have HP : Hid (∀ W, Below w.heap.size w W → Calls Tryd.prog 7 #[.slice A p.length c] W fun e w' => e = .returned (.string (bs a)) ∧ Below W.heap.size W w') := Lib.hid fun W hW => by have h := showPath_any A c p W (hp.on hW) (fun s h => (kp s h).1); rw [ea] at h; exact h
  have HQ : Hid (∀ W, Below w.heap.size w W → Calls Tryd.prog 7 #[.slice B q.length d] W fun e w' => e = .returned (.string (bs b)) ∧ Below W.heap.size W w') := Lib.hid fun W hW => by have h := showPath_any B d q W (hq.on hW) (fun s h => (kq s h).1); rw [eb] at h; exact h
  obtain ⟨m1, hm1⟩ : ∃ m, p ++ q = m := ⟨_, rfl⟩
  obtain ⟨m2, hm2⟩ : ∃ m, m1 ++ [opS 3] = m := ⟨_, rfl⟩
  have hl1 : m1.length ≤ 80 := by rw [← hm1, List.length_append]; omega
  have HM1 := Lib.hid hm1; have HM2 := Lib.hid hm2
  rw [hm1, hm2] at es hall
  clear hm1 hm2
  have HS : Hid (∀ W A' c', RdX 2 siC W A' m2 → Calls Tryd.prog 7 #[.slice A' m2.length c'] W fun e w' => e = .returned (.string (bs S)) ∧ Below W.heap.size W w') := Lib.hid fun W A' c' hW => by have h := showPath_any A' c' _ W hW hall; rw [es] at h; exact h
  have HRp : Hid (∀ W, Below w.heap.size w W → RdX 2 siC W A p) := Lib.hid fun W hW => hp.on hW
  have HRq : Hid (∀ W, Below w.heap.size w W → RdX 2 siC W B q) := Lib.hid fun W hW => hq.on hW
  have hall2 : ∀ s ∈ p ++ [opS 3], s.2.size ≤ maxLen := fun s h => by
    rw [List.mem_append] at h
    rcases h with h | h
    · exact (kp s h).1
    · exact op_ok _ s h
  obtain ⟨X, hX⟩ : ∃ X, pathX deepT ((p ++ [opS 3]).map stN) = X := ⟨_, rfl⟩
  obtain ⟨m3, hm3⟩ : ∃ m, p ++ [opS 3] = m := ⟨_, rfl⟩
  have HM3 := Lib.hid hm3
  have HX : Hid (∀ W A' c', RdX 2 siC W A' m3 → Calls Tryd.prog 7 #[.slice A' m3.length c'] W fun e w' => e = .returned (.string (bs X)) ∧ Below W.heap.size W w') := Lib.hid fun W A' c' hW => by have h := showPath_any A' c' m3 W hW (hm3 ▸ hall2); rw [← hm3, hX, hm3] at h; exact h
  have fa : ((bs a).toList == []) = false := by rw [bsl, beq_eq_false_iff_ne]; exact ha
  have fb : ((bs b).toList == []) = false := by rw [bsl, beq_eq_false_iff_ne]; exact hb
  have fs : ((bs S).toList == []) = true := by rw [bsl, hs]; rfl
  have fX : ((bs X).toList == []) = true := by
    have h0 : X = [] := by rw [← hX, List.map_append]; exact joins_none (by rw [ea]; exact ha)
    rw [bsl, h0]; rfl
  clear hX ea ha hb hs
  clear hp hq kp kq hall hall2 es eb hm3
  go_enter Tryd.func5, Tryd.ntmps5
  go_upto_region 7 with (first
    | (go_at_call 6; refine (awake9_any _).mono ?_; rintro e w1 ⟨rfl, h'⟩; replace hB := on hB h'; clear h')
    | (go_at_call 7; with_reducible refine (HP.out _ hB).mono ?_; rintro e w2 ⟨rfl, h'⟩; replace hB := on hB h'; clear h')
    | (go_at_call 7; with_reducible refine (HQ.out _ hB).mono ?_; rintro e w2 ⟨rfl, h'⟩; replace hB := on hB h'; clear h'))
  go_upto_region 8 with (first
    | (at_builtin; refine wpList_appS rfl (.tmp 34) (.tmp 35) rfl w2.heap.size (some ⟨w2.heap.size, 0, none⟩) 0 [] p p rfl rfl (ownS0 w2 (Nat.le_refl _)) A c rfl (HRp.out _ (on hB ((Below.refl _ _).alloc (Nat.le_refl _) _))) (by first | omega | (simp only [List.length_append, List.length_cons, List.length_nil]; omega)) (by simp) ?_; intro A3 c3 w3 ho hg; have O3 := Lib.hid ho; have H3 : Hid (Below w2.heap.size w2 w3) := Lib.hid (((Below.refl w2.heap.size w2).alloc (Nat.le_refl _) _).grown hg (by simp) (fun kk hkk => by simp [Value.ownBlock] at hkk; omega)); clear ho hg)
    | (at_builtin; refine wpList_appS rfl (.tmp 36) (.tmp 37) rfl w2.heap.size A3 c3 p q m1 HM1.out rfl (O3.out) B d rfl (HRq.out _ (on hB H3.out)) (by first | omega | (simp only [List.length_append, List.length_cons, List.length_nil]; omega)) (H3.out.size) ?_; intro A4 c4 w4 ho hg; have O4 := Lib.hid ho; have H4 : Hid (Below w2.heap.size w2 w4) := Lib.hid (H3.out.grown hg H3.out.size (fun kk hkk => own_base O3.out kk hkk)); clear ho hg)
    | (at_builtin; refine wpList_appS rfl (.tmp 38) (.tmp 41) rfl w2.heap.size A4 c4 m1 [opS 3] m2 HM2.out rfl (own_on O4.out ((Below.refl _ _).alloc (Nat.le_refl _) _)) (some ⟨w4.heap.size, 0, none⟩) 1 rfl (rd_op 3 w4) (by first | omega | (simp only [List.length_append, List.length_cons, List.length_nil]; omega)) (by have := H4.out.size; simp; omega) ?_; intro A5 c5 w5 ho hg; have O5 := Lib.hid ho; have H5 : Hid (Below w2.heap.size w2 w5) := Lib.hid ((H4.out.alloc H4.out.size _).grown hg (by have := H4.out.size; simp; omega) (fun kk hkk => own_base O4.out kk hkk)); clear ho hg)
    | (go_at_call 7; refine (HS.out _ _ _ (own_rd O5.out)).mono ?_; rintro e w6 ⟨rfl, h'⟩; replace hB := on (on hB H5.out) h'; clear h'))
  clear HP HQ HS O3 O4 O5 H3 H4 H5
  go_wp2_with (first
    | (at_builtin; refine wpList_appS rfl (.tmp 54) (.tmp 55) rfl w6.heap.size (some ⟨w6.heap.size, 0, none⟩) 0 [] p p rfl rfl (ownS0 w6 (Nat.le_refl _)) A c rfl (HRp.out _ (on hB ((Below.refl _ _).alloc (Nat.le_refl _) _))) (by first | omega | (simp only [List.length_append, List.length_cons, List.length_nil]; omega)) (by simp) ?_; intro A7 c7 w7 ho hg; have O7 := Lib.hid ho; have H7 : Hid (Below w6.heap.size w6 w7) := Lib.hid (((Below.refl w6.heap.size w6).alloc (Nat.le_refl _) _).grown hg (by simp) (fun kk hkk => by simp [Value.ownBlock] at hkk; omega)); clear ho hg)
    | (at_builtin; refine wpList_appS rfl (.tmp 56) (.tmp 58) rfl w6.heap.size A7 c7 p [opS 3] m3 HM3.out rfl (own_on O7.out ((Below.refl _ _).alloc (Nat.le_refl _) _)) (some ⟨w7.heap.size, 0, none⟩) 1 rfl (rd_op 3 w7) (by first | omega | (simp only [List.length_append, List.length_cons, List.length_nil]; omega)) (by have := H7.out.size; simp; omega) ?_; intro A8 c8 w8 ho hg; have O8 := Lib.hid ho; have H8 : Hid (Below w6.heap.size w6 w8) := Lib.hid ((H7.out.alloc H7.out.size _).grown hg (by have := H7.out.size; simp; omega) (fun kk hkk => own_base O7.out kk hkk)); clear ho hg)
    | (go_at_call 7; refine (HX.out _ _ _ (own_rd O8.out)).mono ?_; rintro e w9 ⟨rfl, h'⟩; replace hB := on (on hB H8.out) h'; clear h'))
  all_goals
    go_ret
    exact ⟨rfl, hB⟩
set_option maxRecDepth 20000 in
set_option maxHeartbeats 16000000 in
theorem walk_a_4 (A B : Option Addr) (c d : Nat) (p q : List SI) (w : World) (hp : RdX 2 siC w A p) (hq : RdX 2 siC w B q) (kp : ∀ s ∈ p, SiOk s) (kq : ∀ s ∈ q, SiOk s) (h1 : ¬ 40 < p.length) (h2 : ¬ 40 < q.length) (a b S : List UInt8) (ea : pathX deepT (p.map stN) = a) (eb : pathX deepT (q.map stN) = b) (es : pathX deepT ((p ++ q ++ [opS 4]).map stN) = S) (ha : a = []) :
    Calls Tryd.prog 5 #[.slice A p.length c, .slice B q.length d, .bool true] w fun e w' => e = .returned (.bool true) ∧ Below w.heap.size w w' := by
  have hB := Below.refl w.heap.size w
  have hmx : p.length ≤ 9223372036854775807 := Nat.le_trans hp.1 (by decide)
  have hmy : q.length ≤ 9223372036854775807 := Nat.le_trans hq.1 (by decide)
  have hga : ¬ (40 : Int) < (p.length : Int) := by omega
  have hgb : ¬ (40 : Int) < (q.length : Int) := by omega
  have hall : ∀ s ∈ p ++ q ++ [opS 4], s.2.size ≤ maxLen := fun s h => by
    rw [List.mem_append, List.mem_append] at h
    rcases h with (h | h) | h
    · exact (kp s h).1
    · exact (kq s h).1
    · exact op_ok _ s h
  have HP : Hid (∀ W, Below w.heap.size w W → Calls Tryd.prog 7 #[.slice A p.length c] W fun e w' => e = .returned (.string (bs a)) ∧ Below W.heap.size W w') := Lib.hid fun W hW => by have h := showPath_any A c p W (hp.on hW) (fun s h => (kp s h).1); rw [ea] at h; exact h
  have HQ : Hid (∀ W, Below w.heap.size w W → Calls Tryd.prog 7 #[.slice B q.length d] W fun e w' => e = .returned (.string (bs b)) ∧ Below W.heap.size W w') := Lib.hid fun W hW => by have h := showPath_any B d q W (hq.on hW) (fun s h => (kq s h).1); rw [eb] at h; exact h
  obtain ⟨m1, hm1⟩ : ∃ m, p ++ q = m := ⟨_, rfl⟩
  obtain ⟨m2, hm2⟩ : ∃ m, m1 ++ [opS 4] = m := ⟨_, rfl⟩
  have hl1 : m1.length ≤ 80 := by rw [← hm1, List.length_append]; omega
  have HM1 := Lib.hid hm1; have HM2 := Lib.hid hm2
  rw [hm1, hm2] at es hall
  clear hm1 hm2
  have HS : Hid (∀ W A' c', RdX 2 siC W A' m2 → Calls Tryd.prog 7 #[.slice A' m2.length c'] W fun e w' => e = .returned (.string (bs S)) ∧ Below W.heap.size W w') := Lib.hid fun W A' c' hW => by have h := showPath_any A' c' _ W hW hall; rw [es] at h; exact h
  have HRp : Hid (∀ W, Below w.heap.size w W → RdX 2 siC W A p) := Lib.hid fun W hW => hp.on hW
  have HRq : Hid (∀ W, Below w.heap.size w W → RdX 2 siC W B q) := Lib.hid fun W hW => hq.on hW
  have hall2 : ∀ s ∈ p ++ [opS 3], s.2.size ≤ maxLen := fun s h => by
    rw [List.mem_append] at h
    rcases h with h | h
    · exact (kp s h).1
    · exact op_ok _ s h
  obtain ⟨X, hX⟩ : ∃ X, pathX deepT ((p ++ [opS 3]).map stN) = X := ⟨_, rfl⟩
  obtain ⟨m3, hm3⟩ : ∃ m, p ++ [opS 3] = m := ⟨_, rfl⟩
  have HM3 := Lib.hid hm3
  have HX : Hid (∀ W A' c', RdX 2 siC W A' m3 → Calls Tryd.prog 7 #[.slice A' m3.length c'] W fun e w' => e = .returned (.string (bs X)) ∧ Below W.heap.size W w') := Lib.hid fun W A' c' hW => by have h := showPath_any A' c' m3 W hW (hm3 ▸ hall2); rw [← hm3, hX, hm3] at h; exact h
  have fa : ((bs a).toList == []) = true := by rw [bsl, ha]; rfl
  clear hX ea ha
  clear hp hq kp kq hall hall2 es eb hm3
  go_enter Tryd.func5, Tryd.ntmps5
  go_upto_region 7 with (first
    | (go_at_call 6; refine (awake9_any _).mono ?_; rintro e w1 ⟨rfl, h'⟩; replace hB := on hB h'; clear h')
    | (go_at_call 7; with_reducible refine (HP.out _ hB).mono ?_; rintro e w2 ⟨rfl, h'⟩; replace hB := on hB h'; clear h')
    | (go_at_call 7; with_reducible refine (HQ.out _ hB).mono ?_; rintro e w2 ⟨rfl, h'⟩; replace hB := on hB h'; clear h'))
  go_upto_region 8 with (first
    | (at_builtin; refine wpList_appS rfl (.tmp 34) (.tmp 35) rfl w2.heap.size (some ⟨w2.heap.size, 0, none⟩) 0 [] p p rfl rfl (ownS0 w2 (Nat.le_refl _)) A c rfl (HRp.out _ (on hB ((Below.refl _ _).alloc (Nat.le_refl _) _))) (by first | omega | (simp only [List.length_append, List.length_cons, List.length_nil]; omega)) (by simp) ?_; intro A3 c3 w3 ho hg; have O3 := Lib.hid ho; have H3 : Hid (Below w2.heap.size w2 w3) := Lib.hid (((Below.refl w2.heap.size w2).alloc (Nat.le_refl _) _).grown hg (by simp) (fun kk hkk => by simp [Value.ownBlock] at hkk; omega)); clear ho hg)
    | (at_builtin; refine wpList_appS rfl (.tmp 36) (.tmp 37) rfl w2.heap.size A3 c3 p q m1 HM1.out rfl (O3.out) B d rfl (HRq.out _ (on hB H3.out)) (by first | omega | (simp only [List.length_append, List.length_cons, List.length_nil]; omega)) (H3.out.size) ?_; intro A4 c4 w4 ho hg; have O4 := Lib.hid ho; have H4 : Hid (Below w2.heap.size w2 w4) := Lib.hid (H3.out.grown hg H3.out.size (fun kk hkk => own_base O3.out kk hkk)); clear ho hg)
    | (at_builtin; refine wpList_appS rfl (.tmp 38) (.tmp 41) rfl w2.heap.size A4 c4 m1 [opS 4] m2 HM2.out rfl (own_on O4.out ((Below.refl _ _).alloc (Nat.le_refl _) _)) (some ⟨w4.heap.size, 0, none⟩) 1 rfl (rd_op 4 w4) (by first | omega | (simp only [List.length_append, List.length_cons, List.length_nil]; omega)) (by have := H4.out.size; simp; omega) ?_; intro A5 c5 w5 ho hg; have O5 := Lib.hid ho; have H5 : Hid (Below w2.heap.size w2 w5) := Lib.hid ((H4.out.alloc H4.out.size _).grown hg (by have := H4.out.size; simp; omega) (fun kk hkk => own_base O4.out kk hkk)); clear ho hg)
    | (go_at_call 7; refine (HS.out _ _ _ (own_rd O5.out)).mono ?_; rintro e w6 ⟨rfl, h'⟩; replace hB := on (on hB H5.out) h'; clear h'))
  by_cases hx : X = []
  · have fX : ((bs X).toList == []) = true := by rw [bsl, hx]; rfl
    clear hx
    clear HP HQ HS O3 O4 O5 H3 H4 H5
    go_wp2_with (first
      | (at_builtin; refine wpList_appS rfl (.tmp 54) (.tmp 55) rfl w6.heap.size (some ⟨w6.heap.size, 0, none⟩) 0 [] p p rfl rfl (ownS0 w6 (Nat.le_refl _)) A c rfl (HRp.out _ (on hB ((Below.refl _ _).alloc (Nat.le_refl _) _))) (by first | omega | (simp only [List.length_append, List.length_cons, List.length_nil]; omega)) (by simp) ?_; intro A7 c7 w7 ho hg; have O7 := Lib.hid ho; have H7 : Hid (Below w6.heap.size w6 w7) := Lib.hid (((Below.refl w6.heap.size w6).alloc (Nat.le_refl _) _).grown hg (by simp) (fun kk hkk => by simp [Value.ownBlock] at hkk; omega)); clear ho hg)
      | (at_builtin; refine wpList_appS rfl (.tmp 56) (.tmp 58) rfl w6.heap.size A7 c7 p [opS 3] m3 HM3.out rfl (own_on O7.out ((Below.refl _ _).alloc (Nat.le_refl _) _)) (some ⟨w7.heap.size, 0, none⟩) 1 rfl (rd_op 3 w7) (by first | omega | (simp only [List.length_append, List.length_cons, List.length_nil]; omega)) (by have := H7.out.size; simp; omega) ?_; intro A8 c8 w8 ho hg; have O8 := Lib.hid ho; have H8 : Hid (Below w6.heap.size w6 w8) := Lib.hid ((H7.out.alloc H7.out.size _).grown hg (by have := H7.out.size; simp; omega) (fun kk hkk => own_base O7.out kk hkk)); clear ho hg)
      | (go_at_call 7; refine (HX.out _ _ _ (own_rd O8.out)).mono ?_; rintro e w9 ⟨rfl, h'⟩; replace hB := on (on hB H8.out) h'; clear h'))
    all_goals
      go_ret
      exact ⟨rfl, hB⟩
  · have fX : ((bs X).toList == []) = false := by rw [bsl, beq_eq_false_iff_ne]; exact hx
    clear hx
    clear HP HQ HS O3 O4 O5 H3 H4 H5
    go_wp2_with (first
      | (at_builtin; refine wpList_appS rfl (.tmp 54) (.tmp 55) rfl w6.heap.size (some ⟨w6.heap.size, 0, none⟩) 0 [] p p rfl rfl (ownS0 w6 (Nat.le_refl _)) A c rfl (HRp.out _ (on hB ((Below.refl _ _).alloc (Nat.le_refl _) _))) (by first | omega | (simp only [List.length_append, List.length_cons, List.length_nil]; omega)) (by simp) ?_; intro A7 c7 w7 ho hg; have O7 := Lib.hid ho; have H7 : Hid (Below w6.heap.size w6 w7) := Lib.hid (((Below.refl w6.heap.size w6).alloc (Nat.le_refl _) _).grown hg (by simp) (fun kk hkk => by simp [Value.ownBlock] at hkk; omega)); clear ho hg)
      | (at_builtin; refine wpList_appS rfl (.tmp 56) (.tmp 58) rfl w6.heap.size A7 c7 p [opS 3] m3 HM3.out rfl (own_on O7.out ((Below.refl _ _).alloc (Nat.le_refl _) _)) (some ⟨w7.heap.size, 0, none⟩) 1 rfl (rd_op 3 w7) (by first | omega | (simp only [List.length_append, List.length_cons, List.length_nil]; omega)) (by have := H7.out.size; simp; omega) ?_; intro A8 c8 w8 ho hg; have O8 := Lib.hid ho; have H8 : Hid (Below w6.heap.size w6 w8) := Lib.hid ((H7.out.alloc H7.out.size _).grown hg (by have := H7.out.size; simp; omega) (fun kk hkk => own_base O7.out kk hkk)); clear ho hg)
      | (go_at_call 7; refine (HX.out _ _ _ (own_rd O8.out)).mono ?_; rintro e w9 ⟨rfl, h'⟩; replace hB := on (on hB H8.out) h'; clear h'))
    all_goals
      go_ret
      exact ⟨rfl, hB⟩
set_option maxRecDepth 20000 in
set_option maxHeartbeats 16000000 in
theorem walk_b_4 (A B : Option Addr) (c d : Nat) (p q : List SI) (w : World) (hp : RdX 2 siC w A p) (hq : RdX 2 siC w B q) (kp : ∀ s ∈ p, SiOk s) (kq : ∀ s ∈ q, SiOk s) (h1 : ¬ 40 < p.length) (h2 : ¬ 40 < q.length) (a b S : List UInt8) (ea : pathX deepT (p.map stN) = a) (eb : pathX deepT (q.map stN) = b) (es : pathX deepT ((p ++ q ++ [opS 4]).map stN) = S) (ha : a ≠ []) (hb : b = []) :
    Calls Tryd.prog 5 #[.slice A p.length c, .slice B q.length d, .bool true] w fun e w' => e = .returned (.bool true) ∧ Below w.heap.size w w' := by
  have hB := Below.refl w.heap.size w
  have hmx : p.length ≤ 9223372036854775807 := Nat.le_trans hp.1 (by decide)
  have hmy : q.length ≤ 9223372036854775807 := Nat.le_trans hq.1 (by decide)
  have hga : ¬ (40 : Int) < (p.length : Int) := by omega
  have hgb : ¬ (40 : Int) < (q.length : Int) := by omega
  have hall : ∀ s ∈ p ++ q ++ [opS 4], s.2.size ≤ maxLen := fun s h => by
    rw [List.mem_append, List.mem_append] at h
    rcases h with (h | h) | h
    · exact (kp s h).1
    · exact (kq s h).1
    · exact op_ok _ s h
  have HP : Hid (∀ W, Below w.heap.size w W → Calls Tryd.prog 7 #[.slice A p.length c] W fun e w' => e = .returned (.string (bs a)) ∧ Below W.heap.size W w') := Lib.hid fun W hW => by have h := showPath_any A c p W (hp.on hW) (fun s h => (kp s h).1); rw [ea] at h; exact h
  have HQ : Hid (∀ W, Below w.heap.size w W → Calls Tryd.prog 7 #[.slice B q.length d] W fun e w' => e = .returned (.string (bs b)) ∧ Below W.heap.size W w') := Lib.hid fun W hW => by have h := showPath_any B d q W (hq.on hW) (fun s h => (kq s h).1); rw [eb] at h; exact h
  obtain ⟨m1, hm1⟩ : ∃ m, p ++ q = m := ⟨_, rfl⟩
  obtain ⟨m2, hm2⟩ : ∃ m, m1 ++ [opS 4] = m := ⟨_, rfl⟩
  have hl1 : m1.length ≤ 80 := by rw [← hm1, List.length_append]; omega
  have HM1 := Lib.hid hm1; have HM2 := Lib.hid hm2
  rw [hm1, hm2] at es hall
  clear hm1 hm2
  have HS : Hid (∀ W A' c', RdX 2 siC W A' m2 → Calls Tryd.prog 7 #[.slice A' m2.length c'] W fun e w' => e = .returned (.string (bs S)) ∧ Below W.heap.size W w') := Lib.hid fun W A' c' hW => by have h := showPath_any A' c' _ W hW hall; rw [es] at h; exact h
  have HRp : Hid (∀ W, Below w.heap.size w W → RdX 2 siC W A p) := Lib.hid fun W hW => hp.on hW
  have HRq : Hid (∀ W, Below w.heap.size w W → RdX 2 siC W B q) := Lib.hid fun W hW => hq.on hW
  have hall2 : ∀ s ∈ p ++ [opS 3], s.2.size ≤ maxLen := fun s h => by
    rw [List.mem_append] at h
    rcases h with h | h
    · exact (kp s h).1
    · exact op_ok _ s h
  obtain ⟨X, hX⟩ : ∃ X, pathX deepT ((p ++ [opS 3]).map stN) = X := ⟨_, rfl⟩
  obtain ⟨m3, hm3⟩ : ∃ m, p ++ [opS 3] = m := ⟨_, rfl⟩
  have HM3 := Lib.hid hm3
  have HX : Hid (∀ W A' c', RdX 2 siC W A' m3 → Calls Tryd.prog 7 #[.slice A' m3.length c'] W fun e w' => e = .returned (.string (bs X)) ∧ Below W.heap.size W w') := Lib.hid fun W A' c' hW => by have h := showPath_any A' c' m3 W hW (hm3 ▸ hall2); rw [← hm3, hX, hm3] at h; exact h
  have fa : ((bs a).toList == []) = false := by rw [bsl, beq_eq_false_iff_ne]; exact ha
  have fb : ((bs b).toList == []) = true := by rw [bsl, hb]; rfl
  have fX : ((bs X).toList == []) = true := by
    have h0 : X = [] := by rw [← hX, List.map_append]; exact joins_none (by rw [ea]; exact ha)
    rw [bsl, h0]; rfl
  clear hX ea ha hb
  clear hp hq kp kq hall hall2 es eb hm3
  go_enter Tryd.func5, Tryd.ntmps5
  go_upto_region 7 with (first
    | (go_at_call 6; refine (awake9_any _).mono ?_; rintro e w1 ⟨rfl, h'⟩; replace hB := on hB h'; clear h')
    | (go_at_call 7; with_reducible refine (HP.out _ hB).mono ?_; rintro e w2 ⟨rfl, h'⟩; replace hB := on hB h'; clear h')
    | (go_at_call 7; with_reducible refine (HQ.out _ hB).mono ?_; rintro e w2 ⟨rfl, h'⟩; replace hB := on hB h'; clear h'))
  go_upto_region 8 with (first
    | (at_builtin; refine wpList_appS rfl (.tmp 34) (.tmp 35) rfl w2.heap.size (some ⟨w2.heap.size, 0, none⟩) 0 [] p p rfl rfl (ownS0 w2 (Nat.le_refl _)) A c rfl (HRp.out _ (on hB ((Below.refl _ _).alloc (Nat.le_refl _) _))) (by first | omega | (simp only [List.length_append, List.length_cons, List.length_nil]; omega)) (by simp) ?_; intro A3 c3 w3 ho hg; have O3 := Lib.hid ho; have H3 : Hid (Below w2.heap.size w2 w3) := Lib.hid (((Below.refl w2.heap.size w2).alloc (Nat.le_refl _) _).grown hg (by simp) (fun kk hkk => by simp [Value.ownBlock] at hkk; omega)); clear ho hg)
    | (at_builtin; refine wpList_appS rfl (.tmp 36) (.tmp 37) rfl w2.heap.size A3 c3 p q m1 HM1.out rfl (O3.out) B d rfl (HRq.out _ (on hB H3.out)) (by first | omega | (simp only [List.length_append, List.length_cons, List.length_nil]; omega)) (H3.out.size) ?_; intro A4 c4 w4 ho hg; have O4 := Lib.hid ho; have H4 : Hid (Below w2.heap.size w2 w4) := Lib.hid (H3.out.grown hg H3.out.size (fun kk hkk => own_base O3.out kk hkk)); clear ho hg)
    | (at_builtin; refine wpList_appS rfl (.tmp 38) (.tmp 41) rfl w2.heap.size A4 c4 m1 [opS 4] m2 HM2.out rfl (own_on O4.out ((Below.refl _ _).alloc (Nat.le_refl _) _)) (some ⟨w4.heap.size, 0, none⟩) 1 rfl (rd_op 4 w4) (by first | omega | (simp only [List.length_append, List.length_cons, List.length_nil]; omega)) (by have := H4.out.size; simp; omega) ?_; intro A5 c5 w5 ho hg; have O5 := Lib.hid ho; have H5 : Hid (Below w2.heap.size w2 w5) := Lib.hid ((H4.out.alloc H4.out.size _).grown hg (by have := H4.out.size; simp; omega) (fun kk hkk => own_base O4.out kk hkk)); clear ho hg)
    | (go_at_call 7; refine (HS.out _ _ _ (own_rd O5.out)).mono ?_; rintro e w6 ⟨rfl, h'⟩; replace hB := on (on hB H5.out) h'; clear h'))
  clear HP HQ HS O3 O4 O5 H3 H4 H5
  go_wp2_with (first
    | (at_builtin; refine wpList_appS rfl (.tmp 54) (.tmp 55) rfl w6.heap.size (some ⟨w6.heap.size, 0, none⟩) 0 [] p p rfl rfl (ownS0 w6 (Nat.le_refl _)) A c rfl (HRp.out _ (on hB ((Below.refl _ _).alloc (Nat.le_refl _) _))) (by first | omega | (simp only [List.length_append, List.length_cons, List.length_nil]; omega)) (by simp) ?_; intro A7 c7 w7 ho hg; have O7 := Lib.hid ho; have H7 : Hid (Below w6.heap.size w6 w7) := Lib.hid (((Below.refl w6.heap.size w6).alloc (Nat.le_refl _) _).grown hg (by simp) (fun kk hkk => by simp [Value.ownBlock] at hkk; omega)); clear ho hg)
    | (at_builtin; refine wpList_appS rfl (.tmp 56) (.tmp 58) rfl w6.heap.size A7 c7 p [opS 3] m3 HM3.out rfl (own_on O7.out ((Below.refl _ _).alloc (Nat.le_refl _) _)) (some ⟨w7.heap.size, 0, none⟩) 1 rfl (rd_op 3 w7) (by first | omega | (simp only [List.length_append, List.length_cons, List.length_nil]; omega)) (by have := H7.out.size; simp; omega) ?_; intro A8 c8 w8 ho hg; have O8 := Lib.hid ho; have H8 : Hid (Below w6.heap.size w6 w8) := Lib.hid ((H7.out.alloc H7.out.size _).grown hg (by have := H7.out.size; simp; omega) (fun kk hkk => own_base O7.out kk hkk)); clear ho hg)
    | (go_at_call 7; refine (HX.out _ _ _ (own_rd O8.out)).mono ?_; rintro e w9 ⟨rfl, h'⟩; replace hB := on (on hB H8.out) h'; clear h'))
  all_goals
    go_ret
    exact ⟨rfl, hB⟩
set_option maxRecDepth 20000 in
set_option maxHeartbeats 16000000 in
theorem walk_s_4 (A B : Option Addr) (c d : Nat) (p q : List SI) (w : World) (hp : RdX 2 siC w A p) (hq : RdX 2 siC w B q) (kp : ∀ s ∈ p, SiOk s) (kq : ∀ s ∈ q, SiOk s) (h1 : ¬ 40 < p.length) (h2 : ¬ 40 < q.length) (a b S : List UInt8) (ea : pathX deepT (p.map stN) = a) (eb : pathX deepT (q.map stN) = b) (es : pathX deepT ((p ++ q ++ [opS 4]).map stN) = S) (ha : a ≠ []) (hb : b ≠ []) (hs : S = []) :
    Calls Tryd.prog 5 #[.slice A p.length c, .slice B q.length d, .bool true] w fun e w' => e = .returned (.bool true) ∧ Below w.heap.size w w' := by
  have hB := Below.refl w.heap.size w
  have hmx : p.length ≤ 9223372036854775807 := Nat.le_trans hp.1 (by decide)
  have hmy : q.length ≤ 9223372036854775807 := Nat.le_trans hq.1 (by decide)
  have hga : ¬ (40 : Int) < (p.length : Int) := by omega
  have hgb : ¬ (40 : Int) < (q.length : Int) := by omega
  have hall : ∀ s ∈ p ++ q ++ [opS 4], s.2.size ≤ maxLen := fun s h => by
    rw [List.mem_append, List.mem_append] at h
    rcases h with (h | h) | h
    · exact (kp s h).1
    · exact (kq s h).1
    · exact op_ok _ s h
  have HP : Hid (∀ W, Below w.heap.size w W → Calls Tryd.prog 7 #[.slice A p.length c] W fun e w' => e = .returned (.string (bs a)) ∧ Below W.heap.size W w') := Lib.hid fun W hW => by have h := showPath_any A c p W (hp.on hW) (fun s h => (kp s h).1); rw [ea] at h; exact h
  have HQ : Hid (∀ W, Below w.heap.size w W → Calls Tryd.prog 7 #[.slice B q.length d] W fun e w' => e = .returned (.string (bs b)) ∧ Below W.heap.size W w') := Lib.hid fun W hW => by have h := showPath_any B d q W (hq.on hW) (fun s h => (kq s h).1); rw [eb] at h; exact h
  obtain ⟨m1, hm1⟩ : ∃ m, p ++ q = m := ⟨_, rfl⟩
  obtain ⟨m2, hm2⟩ : ∃ m, m1 ++ [opS 4] = m := ⟨_, rfl⟩
  have hl1 : m1.length ≤ 80 := by rw [← hm1, List.length_append]; omega
  have HM1 := Lib.hid hm1; have HM2 := Lib.hid hm2
  rw [hm1, hm2] at es hall
  clear hm1 hm2
  have HS : Hid (∀ W A' c', RdX 2 siC W A' m2 → Calls Tryd.prog 7 #[.slice A' m2.length c'] W fun e w' => e = .returned (.string (bs S)) ∧ Below W.heap.size W w') := Lib.hid fun W A' c' hW => by have h := showPath_any A' c' _ W hW hall; rw [es] at h; exact h
  have HRp : Hid (∀ W, Below w.heap.size w W → RdX 2 siC W A p) := Lib.hid fun W hW => hp.on hW
  have HRq : Hid (∀ W, Below w.heap.size w W → RdX 2 siC W B q) := Lib.hid fun W hW => hq.on hW
  have hall2 : ∀ s ∈ p ++ [opS 3], s.2.size ≤ maxLen := fun s h => by
    rw [List.mem_append] at h
    rcases h with h | h
    · exact (kp s h).1
    · exact op_ok _ s h
  obtain ⟨X, hX⟩ : ∃ X, pathX deepT ((p ++ [opS 3]).map stN) = X := ⟨_, rfl⟩
  obtain ⟨m3, hm3⟩ : ∃ m, p ++ [opS 3] = m := ⟨_, rfl⟩
  have HM3 := Lib.hid hm3
  have HX : Hid (∀ W A' c', RdX 2 siC W A' m3 → Calls Tryd.prog 7 #[.slice A' m3.length c'] W fun e w' => e = .returned (.string (bs X)) ∧ Below W.heap.size W w') := Lib.hid fun W A' c' hW => by have h := showPath_any A' c' m3 W hW (hm3 ▸ hall2); rw [← hm3, hX, hm3] at h; exact h
  have fa : ((bs a).toList == []) = false := by rw [bsl, beq_eq_false_iff_ne]; exact ha
  have fb : ((bs b).toList == []) = false := by rw [bsl, beq_eq_false_iff_ne]; exact hb
  have fs : ((bs S).toList == []) = true := by rw [bsl, hs]; rfl
  have fX : ((bs X).toList == []) = true := by
    have h0 : X = [] := by rw [← hX, List.map_append]; exact joins_none (by rw [ea]; exact ha)
    rw [bsl, h0]; rfl
  clear hX ea ha hb hs
  clear hp hq kp kq hall hall2 es eb hm3
  go_enter Tryd.func5, Tryd.ntmps5
  go_upto_region 7 with (first
    | (go_at_call 6; refine (awake9_any _).mono ?_; rintro e w1 ⟨rfl, h'⟩; replace hB := on hB h'; clear h')
    | (go_at_call 7; with_reducible refine (HP.out _ hB).mono ?_; rintro e w2 ⟨rfl, h'⟩; replace hB := on hB h'; clear h')
    | (go_at_call 7; with_reducible refine (HQ.out _ hB).mono ?_; rintro e w2 ⟨rfl, h'⟩; replace hB := on hB h'; clear h'))
  go_upto_region 8 with (first
    | (at_builtin; refine wpList_appS rfl (.tmp 34) (.tmp 35) rfl w2.heap.size (some ⟨w2.heap.size, 0, none⟩) 0 [] p p rfl rfl (ownS0 w2 (Nat.le_refl _)) A c rfl (HRp.out _ (on hB ((Below.refl _ _).alloc (Nat.le_refl _) _))) (by first | omega | (simp only [List.length_append, List.length_cons, List.length_nil]; omega)) (by simp) ?_; intro A3 c3 w3 ho hg; have O3 := Lib.hid ho; have H3 : Hid (Below w2.heap.size w2 w3) := Lib.hid (((Below.refl w2.heap.size w2).alloc (Nat.le_refl _) _).grown hg (by simp) (fun kk hkk => by simp [Value.ownBlock] at hkk; omega)); clear ho hg)
    | (at_builtin; refine wpList_appS rfl (.tmp 36) (.tmp 37) rfl w2.heap.size A3 c3 p q m1 HM1.out rfl (O3.out) B d rfl (HRq.out _ (on hB H3.out)) (by first | omega | (simp only [List.length_append, List.length_cons, List.length_nil]; omega)) (H3.out.size) ?_; intro A4 c4 w4 ho hg; have O4 := Lib.hid ho; have H4 : Hid (Below w2.heap.size w2 w4) := Lib.hid (H3.out.grown hg H3.out.size (fun kk hkk => own_base O3.out kk hkk)); clear ho hg)
    | (at_builtin; refine wpList_appS rfl (.tmp 38) (.tmp 41) rfl w2.heap.size A4 c4 m1 [opS 4] m2 HM2.out rfl (own_on O4.out ((Below.refl _ _).alloc (Nat.le_refl _) _)) (some ⟨w4.heap.size, 0, none⟩) 1 rfl (rd_op 4 w4) (by first | omega | (simp only [List.length_append, List.length_cons, List.length_nil]; omega)) (by have := H4.out.size; simp; omega) ?_; intro A5 c5 w5 ho hg; have O5 := Lib.hid ho; have H5 : Hid (Below w2.heap.size w2 w5) := Lib.hid ((H4.out.alloc H4.out.size _).grown hg (by have := H4.out.size; simp; omega) (fun kk hkk => own_base O4.out kk hkk)); clear ho hg)
    | (go_at_call 7; refine (HS.out _ _ _ (own_rd O5.out)).mono ?_; rintro e w6 ⟨rfl, h'⟩; replace hB := on (on hB H5.out) h'; clear h'))
  clear HP HQ HS O3 O4 O5 H3 H4 H5
  go_wp2_with (first
    | (at_builtin; refine wpList_appS rfl (.tmp 54) (.tmp 55) rfl w6.heap.size (some ⟨w6.heap.size, 0, none⟩) 0 [] p p rfl rfl (ownS0 w6 (Nat.le_refl _)) A c rfl (HRp.out _ (on hB ((Below.refl _ _).alloc (Nat.le_refl _) _))) (by first | omega | (simp only [List.length_append, List.length_cons, List.length_nil]; omega)) (by simp) ?_; intro A7 c7 w7 ho hg; have O7 := Lib.hid ho; have H7 : Hid (Below w6.heap.size w6 w7) := Lib.hid (((Below.refl w6.heap.size w6).alloc (Nat.le_refl _) _).grown hg (by simp) (fun kk hkk => by simp [Value.ownBlock] at hkk; omega)); clear ho hg)
    | (at_builtin; refine wpList_appS rfl (.tmp 56) (.tmp 58) rfl w6.heap.size A7 c7 p [opS 3] m3 HM3.out rfl (own_on O7.out ((Below.refl _ _).alloc (Nat.le_refl _) _)) (some ⟨w7.heap.size, 0, none⟩) 1 rfl (rd_op 3 w7) (by first | omega | (simp only [List.length_append, List.length_cons, List.length_nil]; omega)) (by have := H7.out.size; simp; omega) ?_; intro A8 c8 w8 ho hg; have O8 := Lib.hid ho; have H8 : Hid (Below w6.heap.size w6 w8) := Lib.hid ((H7.out.alloc H7.out.size _).grown hg (by have := H7.out.size; simp; omega) (fun kk hkk => own_base O7.out kk hkk)); clear ho hg)
    | (go_at_call 7; refine (HX.out _ _ _ (own_rd O8.out)).mono ?_; rintro e w9 ⟨rfl, h'⟩; replace hB := on (on hB H8.out) h'; clear h'))
  all_goals
    go_ret
    exact ⟨rfl, hB⟩
set_option maxRecDepth 20000 in
set_option maxHeartbeats 16000000 in
theorem walk_l_3 (A B : Option Addr) (c d : Nat) (p q : List SI) (w : World) (hp : RdX 2 siC w A p) (hq : RdX 2 siC w B q) (kp : ∀ s ∈ p, SiOk s) (kq : ∀ s ∈ q, SiOk s) (h1 : ¬ 40 < p.length) (h2 : ¬ 40 < q.length) (a b S : List UInt8) (ea : pathX deepT (p.map stN) = a) (eb : pathX deepT (q.map stN) = b) (es : pathX deepT ((p ++ q ++ [opS 3]).map stN) = S) (ha : a ≠ []) (hb : b ≠ []) (hs : S ≠ []) (al : a.length ≤ 5000) (bl : b.length ≤ 5000) :
    Calls Tryd.prog 5 #[.slice A p.length c, .slice B q.length d, .bool false] w fun e w' => e = .returned (.bool true) ∧ Below w.heap.size w w' := by
  have hB := Below.refl w.heap.size w
  have hmx : p.length ≤ 9223372036854775807 := Nat.le_trans hp.1 (by decide)
  have hmy : q.length ≤ 9223372036854775807 := Nat.le_trans hq.1 (by decide)
  have hga : ¬ (40 : Int) < (p.length : Int) := by omega
  have hgb : ¬ (40 : Int) < (q.length : Int) := by omega
  have hall : ∀ s ∈ p ++ q ++ [opS 3], s.2.size ≤ maxLen := fun s h => by
    rw [List.mem_append, List.mem_append] at h
    rcases h with (h | h) | h
    · exact (kp s h).1
    · exact (kq s h).1
    · exact op_ok _ s h
  have HP : Hid (∀ W, Below w.heap.size w W → Calls Tryd.prog 7 #[.slice A p.length c] W fun e w' => e = .returned (.string (bs a)) ∧ Below W.heap.size W w') := Lib.hid fun W hW => by have h := showPath_any A c p W (hp.on hW) (fun s h => (kp s h).1); rw [ea] at h; exact h
  have HQ : Hid (∀ W, Below w.heap.size w W → Calls Tryd.prog 7 #[.slice B q.length d] W fun e w' => e = .returned (.string (bs b)) ∧ Below W.heap.size W w') := Lib.hid fun W hW => by have h := showPath_any B d q W (hq.on hW) (fun s h => (kq s h).1); rw [eb] at h; exact h
  obtain ⟨m1, hm1⟩ : ∃ m, p ++ q = m := ⟨_, rfl⟩
  obtain ⟨m2, hm2⟩ : ∃ m, m1 ++ [opS 3] = m := ⟨_, rfl⟩
  have hl1 : m1.length ≤ 80 := by rw [← hm1, List.length_append]; omega
  have HM1 := Lib.hid hm1; have HM2 := Lib.hid hm2
  rw [hm1, hm2] at es hall
  clear hm1 hm2
  have HS : Hid (∀ W A' c', RdX 2 siC W A' m2 → Calls Tryd.prog 7 #[.slice A' m2.length c'] W fun e w' => e = .returned (.string (bs S)) ∧ Below W.heap.size W w') := Lib.hid fun W A' c' hW => by have h := showPath_any A' c' _ W hW hall; rw [es] at h; exact h
  have HRp : Hid (∀ W, Below w.heap.size w W → RdX 2 siC W A p) := Lib.hid fun W hW => hp.on hW
  have HRq : Hid (∀ W, Below w.heap.size w W → RdX 2 siC W B q) := Lib.hid fun W hW => hq.on hW
  have fa : ((bs a).toList == []) = false := by rw [bsl, beq_eq_false_iff_ne]; exact ha
  have fb : ((bs b).toList == []) = false := by rw [bsl, beq_eq_false_iff_ne]; exact hb
  have fs : ((bs S).toList == []) = false := by rw [bsl, beq_eq_false_iff_ne]; exact hs
  have hfour : S = a ++ [47] ++ b ∨ S = a ++ [47] ++ parL b ∨ S = parL a ++ [47] ++ b ∨ S = parL a ++ [47] ++ parL b := by
    have e : (m2.map stN) = p.map stN ++ q.map stN ++ [⟨3, []⟩] := by rw [← HM2.out, ← HM1.out, List.map_append, List.map_append]; rfl
    rw [e] at es
    obtain ⟨x, y, hx, hy, h⟩ := joins_text (k := 3) (by omega) (by rw [ea]; exact ha) (by rw [eb]; exact hb) (by rw [es]; exact hs)
    rw [es, ea, eb] at *
    rcases hx with rfl | rfl <;> rcases hy with rfl | rfl <;> simp only [h] <;> simp
  have k1 := add_bs0 a 40 (by omega)
  have k2 := add_bs1 ([40] ++ a) 41 (by simp; omega)
  have k3 := add_bs0 b 40 (by omega)
  have k4 := add_bs1 ([40] ++ b) 41 (by simp; omega)
  have la : (parL a).length ≤ 5002 := by unfold parL; simp; omega
  have lb : (parL b).length ≤ 5002 := by unfold parL; simp; omega
  have k5 := add_bs1 a 47 (by omega)
  have k6 := add_bs1 (parL a) 47 (by omega)
  have k7 := add_bs (a ++ [47]) b (by simp; omega)
  have k8 := add_bs (a ++ [47]) (parL b) (by simp; omega)
  have k9 := add_bs (parL a ++ [47]) b (by simp; omega)
  have k10 := add_bs (parL a ++ [47]) (parL b) (by simp; omega)
  rw [show [40] ++ a ++ [41] = parL a from rfl] at k2
  rw [show [40] ++ b ++ [41] = parL b from rfl] at k4
  have HF := Lib.hid hfour
  clear hp hq kp kq hall es eb ea hfour la lb al bl ha hb hs
  generalize a ++ [47] ++ b = T1 at *
  generalize a ++ [47] ++ parL b = T2 at *
  generalize parL a ++ [47] ++ b = T3 at *
  generalize parL a ++ [47] ++ parL b = T4 at *
  generalize parL a ++ [47] = SA at *
  generalize a ++ [47] = SX at *
  generalize parL a = AA at *
  generalize parL b = BB at *
  generalize [40] ++ a = PA at *
  generalize [40] ++ b = PB at *
  go_enter Tryd.func5, Tryd.ntmps5
  go_upto_region 7 with (first
    | (go_at_call 6; refine (awake9_any _).mono ?_; rintro e w1 ⟨rfl, h'⟩; replace hB := on hB h'; clear h')
    | (go_at_call 7; with_reducible refine (HP.out _ hB).mono ?_; rintro e w2 ⟨rfl, h'⟩; replace hB := on hB h'; clear h')
    | (go_at_call 7; with_reducible refine (HQ.out _ hB).mono ?_; rintro e w2 ⟨rfl, h'⟩; replace hB := on hB h'; clear h'))
  go_upto_region 8 with (first
    | (at_builtin; refine wpList_appS rfl (.tmp 34) (.tmp 35) rfl w2.heap.size (some ⟨w2.heap.size, 0, none⟩) 0 [] p p rfl rfl (ownS0 w2 (Nat.le_refl _)) A c rfl (HRp.out _ (on hB ((Below.refl _ _).alloc (Nat.le_refl _) _))) (by first | omega | (simp only [List.length_append, List.length_cons, List.length_nil]; omega)) (by simp) ?_; intro A3 c3 w3 ho hg; have O3 := Lib.hid ho; have H3 : Hid (Below w2.heap.size w2 w3) := Lib.hid (((Below.refl w2.heap.size w2).alloc (Nat.le_refl _) _).grown hg (by simp) (fun kk hkk => by simp [Value.ownBlock] at hkk; omega)); clear ho hg)
    | (at_builtin; refine wpList_appS rfl (.tmp 36) (.tmp 37) rfl w2.heap.size A3 c3 p q m1 HM1.out rfl (O3.out) B d rfl (HRq.out _ (on hB H3.out)) (by first | omega | (simp only [List.length_append, List.length_cons, List.length_nil]; omega)) (H3.out.size) ?_; intro A4 c4 w4 ho hg; have O4 := Lib.hid ho; have H4 : Hid (Below w2.heap.size w2 w4) := Lib.hid (H3.out.grown hg H3.out.size (fun kk hkk => own_base O3.out kk hkk)); clear ho hg)
    | (at_builtin; refine wpList_appS rfl (.tmp 38) (.tmp 41) rfl w2.heap.size A4 c4 m1 [opS 3] m2 HM2.out rfl (own_on O4.out ((Below.refl _ _).alloc (Nat.le_refl _) _)) (some ⟨w4.heap.size, 0, none⟩) 1 rfl (rd_op 3 w4) (by first | omega | (simp only [List.length_append, List.length_cons, List.length_nil]; omega)) (by have := H4.out.size; simp; omega) ?_; intro A5 c5 w5 ho hg; have O5 := Lib.hid ho; have H5 : Hid (Below w2.heap.size w2 w5) := Lib.hid ((H4.out.alloc H4.out.size _).grown hg (by have := H4.out.size; simp; omega) (fun kk hkk => own_base O4.out kk hkk)); clear ho hg)
    | (go_at_call 7; refine (HS.out _ _ _ (own_rd O5.out)).mono ?_; rintro e w6 ⟨rfl, h'⟩; replace hB := on (on hB H5.out) h'; clear h'))
  clear HP HQ HS O3 O4 O5 H3 H4 H5 HRp HRq HM1 HM2
  go_wp2
  go_loopw [72] (fun vi wr => ∃ k : Nat, vi = .int .i64 (k : Nat) ∧ k ≤ 2 ∧ Below w.heap.size w wr ∧ Row 9 wr w6.heap.size [.string (bs a), .string (bs AA)] ∧ (1 ≤ k → S ≠ T1 ∧ S ≠ T2) ∧ (2 ≤ k → S ≠ T3 ∧ S ≠ T4)) (fun v _ => 2 - (intOf v).toNat)
  case atStart => exact ⟨0, rfl, by omega, hB.alloc hB.size _, row_new (t := 9) w6 [.string (bs a), .string (bs AA)], fun h => by omega, fun h => by omega⟩
  case round =>
    obtain ⟨k, rfl, hk, hbr, r0, m0, n0⟩ := hrel
    have HBI : Hid (Below w.heap.size w (wr.alloc (.cells #[.string (bs b), .string (bs BB)] 9))) := Lib.hid (hbr.alloc hbr.size _)
    have HRI : Hid (Row 9 (wr.alloc (.cells #[.string (bs b), .string (bs BB)] 9)) w6.heap.size [.string (bs a), .string (bs AA)]) := Lib.hid (r0.alloc _)
    have HR2 : Hid (Row 9 (wr.alloc (.cells #[.string (bs b), .string (bs BB)] 9)) wr.heap.size [.string (bs b), .string (bs BB)]) := Lib.hid (row_new (t := 9) wr [.string (bs b), .string (bs BB)])
    rcases (show k = 0 ∨ k = 1 ∨ k = 2 by omega) with rfl | rfl | rfl
    · have x0 := r0.cell 0
      simp only [List.getElem?_cons_zero] at x0
      clear hbr r0 m0 n0
      go_wp2
      go_loopw [82] (fun vi wq => ∃ j : Nat, vi = .int .i64 (j : Nat) ∧ j ≤ 2 ∧ Below w.heap.size w wq ∧ Row 9 wq w6.heap.size [.string (bs a), .string (bs AA)] ∧ Row 9 wq wr.heap.size [.string (bs b), .string (bs BB)] ∧ (1 ≤ j → S ≠ T1) ∧ (2 ≤ j → S ≠ T2)) (fun v _ => 2 - (intOf v).toNat)
      case atStart => exact ⟨0, rfl, by omega, HBI.out, HRI.out, HR2.out, fun h => by omega, fun h => by omega⟩
      case round =>
        obtain ⟨j, rfl, hj, hbq, r1, r2, n1, n2⟩ := hrel
        have HBQ := Lib.hid hbq; have HQ1 := Lib.hid r1; have HQ2 := Lib.hid r2
        rcases (show j = 0 ∨ j = 1 ∨ j = 2 by omega) with rfl | rfl | rfl
        · have y0 := r2.cell 0
          simp only [List.getElem?_cons_zero] at y0
          clear hbq r1 r2 n1 n2
          by_cases he : S = T1
          · have heq : ((bs S).toList == (bs T1).toList) = true := by rw [bsl, bsl, he]; simp
            clear he
            go_wp2
            go_ret
            exact ⟨rfl, HBQ.out⟩
          · have hne := str_ne he
            have HNE := Lib.hid he
            have hne2 : ((bs S).toList == (bs T1).toList) = false := by rw [bsl, bsl, beq_eq_false_iff_ne]; exact he
            clear he
            go_wp2
            all_goals
              go_roundw
              case rel => exact ⟨1, rfl, by omega, HBQ.out, HQ1.out, HQ2.out, fun _ => HNE.out, fun h => by omega⟩
              case measure => simp [intOf]
        · have y1 := r2.cell 1
          simp only [List.getElem?_cons_zero, List.getElem?_cons_succ] at y1
          have HN1 := Lib.hid (n1 (by omega))
          clear hbq r1 r2 n1 n2
          by_cases he : S = T2
          · have heq : ((bs S).toList == (bs T2).toList) = true := by rw [bsl, bsl, he]; simp
            clear he
            go_wp2
            go_ret
            exact ⟨rfl, HBQ.out⟩
          · have hne := str_ne he
            have HNE := Lib.hid he
            have hne2 : ((bs S).toList == (bs T2).toList) = false := by rw [bsl, bsl, beq_eq_false_iff_ne]; exact he
            clear he
            go_wp2
            all_goals
              go_roundw
              case rel => exact ⟨2, rfl, by omega, HBQ.out, HQ1.out, HQ2.out, fun _ => HN1.out, fun _ => HNE.out⟩
              case measure => simp [intOf]
        · have HN1 := Lib.hid (n1 (by omega)); have HN2 := Lib.hid (n2 (by omega))
          clear hbq r1 r2 n1 n2
          go_wp2
          all_goals
            go_roundw
            case rel => exact ⟨1, rfl, by omega, HBQ.out, HQ1.out, fun _ => ⟨HN1.out, HN2.out⟩, fun h => by omega⟩
            case measure => simp [intOf]
    · have x1 := r0.cell 1
      simp only [List.getElem?_cons_zero, List.getElem?_cons_succ] at x1
      have HM0 := Lib.hid (m0 (by omega))
      clear hbr r0 m0 n0
      go_wp2
      go_loopw [82] (fun vi wq => ∃ j : Nat, vi = .int .i64 (j : Nat) ∧ j ≤ 2 ∧ Below w.heap.size w wq ∧ Row 9 wq w6.heap.size [.string (bs a), .string (bs AA)] ∧ Row 9 wq wr.heap.size [.string (bs b), .string (bs BB)] ∧ (1 ≤ j → S ≠ T3) ∧ (2 ≤ j → S ≠ T4)) (fun v _ => 2 - (intOf v).toNat)
      case atStart => exact ⟨0, rfl, by omega, HBI.out, HRI.out, HR2.out, fun h => by omega, fun h => by omega⟩
      case round =>
        obtain ⟨j, rfl, hj, hbq, r1, r2, n1, n2⟩ := hrel
        have HBQ := Lib.hid hbq; have HQ1 := Lib.hid r1; have HQ2 := Lib.hid r2
        rcases (show j = 0 ∨ j = 1 ∨ j = 2 by omega) with rfl | rfl | rfl
        · have y0 := r2.cell 0
          simp only [List.getElem?_cons_zero] at y0
          clear hbq r1 r2 n1 n2
          by_cases he : S = T3
          · have heq : ((bs S).toList == (bs T3).toList) = true := by rw [bsl, bsl, he]; simp
            clear he
            go_wp2
            go_ret
            exact ⟨rfl, HBQ.out⟩
          · have hne := str_ne he
            have HNE := Lib.hid he
            have hne2 : ((bs S).toList == (bs T3).toList) = false := by rw [bsl, bsl, beq_eq_false_iff_ne]; exact he
            clear he
            go_wp2
            all_goals
              go_roundw
              case rel => exact ⟨1, rfl, by omega, HBQ.out, HQ1.out, HQ2.out, fun _ => HNE.out, fun h => by omega⟩
              case measure => simp [intOf]
        · have y1 := r2.cell 1
          simp only [List.getElem?_cons_zero, List.getElem?_cons_succ] at y1
          have HN1 := Lib.hid (n1 (by omega))
          clear hbq r1 r2 n1 n2
          by_cases he : S = T4
          · have heq : ((bs S).toList == (bs T4).toList) = true := by rw [bsl, bsl, he]; simp
            clear he
            go_wp2
            go_ret
            exact ⟨rfl, HBQ.out⟩
          · have hne := str_ne he
            have HNE := Lib.hid he
            have hne2 : ((bs S).toList == (bs T4).toList) = false := by rw [bsl, bsl, beq_eq_false_iff_ne]; exact he
            clear he
            go_wp2
            all_goals
              go_roundw
              case rel => exact ⟨2, rfl, by omega, HBQ.out, HQ1.out, HQ2.out, fun _ => HN1.out, fun _ => HNE.out⟩
              case measure => simp [intOf]
        · have HN1 := Lib.hid (n1 (by omega)); have HN2 := Lib.hid (n2 (by omega))
          clear hbq r1 r2 n1 n2
          go_wp2
          all_goals
            go_roundw
            case rel => exact ⟨2, rfl, by omega, HBQ.out, HQ1.out, fun _ => HM0.out, fun _ => ⟨HN1.out, HN2.out⟩⟩
            case measure => simp [intOf]
    · exfalso
      obtain ⟨h1, h2⟩ := m0 (by omega)
      obtain ⟨h3, h4⟩ := n0 (by omega)
      rcases HF.out with h | h | h | h
      · exact h1 h
      · exact h2 h
      · exact h3 h
      · exact h4 h
set_option maxRecDepth 20000 in
set_option maxHeartbeats 16000000 in
theorem walk_l_4 (A B : Option Addr) (c d : Nat) (p q : List SI) (w : World) (hp : RdX 2 siC w A p) (hq : RdX 2 siC w B q) (kp : ∀ s ∈ p, SiOk s) (kq : ∀ s ∈ q, SiOk s) (h1 : ¬ 40 < p.length) (h2 : ¬ 40 < q.length) (a b S : List UInt8) (ea : pathX deepT (p.map stN) = a) (eb : pathX deepT (q.map stN) = b) (es : pathX deepT ((p ++ q ++ [opS 4]).map stN) = S) (ha : a ≠ []) (hb : b ≠ []) (hs : S ≠ []) (al : a.length ≤ 5000) (bl : b.length ≤ 5000) :
    Calls Tryd.prog 5 #[.slice A p.length c, .slice B q.length d, .bool true] w fun e w' => e = .returned (.bool true) ∧ Below w.heap.size w w' := by
  have hB := Below.refl w.heap.size w
  have hmx : p.length ≤ 9223372036854775807 := Nat.le_trans hp.1 (by decide)
  have hmy : q.length ≤ 9223372036854775807 := Nat.le_trans hq.1 (by decide)
  have hga : ¬ (40 : Int) < (p.length : Int) := by omega
  have hgb : ¬ (40 : Int) < (q.length : Int) := by omega
  have hall : ∀ s ∈ p ++ q ++ [opS 4], s.2.size ≤ maxLen := fun s h => by
    rw [List.mem_append, List.mem_append] at h
    rcases h with (h | h) | h
    · exact (kp s h).1
    · exact (kq s h).1
    · exact op_ok _ s h
  have HP : Hid (∀ W, Below w.heap.size w W → Calls Tryd.prog 7 #[.slice A p.length c] W fun e w' => e = .returned (.string (bs a)) ∧ Below W.heap.size W w') := Lib.hid fun W hW => by have h := showPath_any A c p W (hp.on hW) (fun s h => (kp s h).1); rw [ea] at h; exact h
  have HQ : Hid (∀ W, Below w.heap.size w W → Calls Tryd.prog 7 #[.slice B q.length d] W fun e w' => e = .returned (.string (bs b)) ∧ Below W.heap.size W w') := Lib.hid fun W hW => by have h := showPath_any B d q W (hq.on hW) (fun s h => (kq s h).1); rw [eb] at h; exact h
  obtain ⟨m1, hm1⟩ : ∃ m, p ++ q = m := ⟨_, rfl⟩
  obtain ⟨m2, hm2⟩ : ∃ m, m1 ++ [opS 4] = m := ⟨_, rfl⟩
  have hl1 : m1.length ≤ 80 := by rw [← hm1, List.length_append]; omega
  have HM1 := Lib.hid hm1; have HM2 := Lib.hid hm2
  rw [hm1, hm2] at es hall
  clear hm1 hm2
  have HS : Hid (∀ W A' c', RdX 2 siC W A' m2 → Calls Tryd.prog 7 #[.slice A' m2.length c'] W fun e w' => e = .returned (.string (bs S)) ∧ Below W.heap.size W w') := Lib.hid fun W A' c' hW => by have h := showPath_any A' c' _ W hW hall; rw [es] at h; exact h
  have HRp : Hid (∀ W, Below w.heap.size w W → RdX 2 siC W A p) := Lib.hid fun W hW => hp.on hW
  have HRq : Hid (∀ W, Below w.heap.size w W → RdX 2 siC W B q) := Lib.hid fun W hW => hq.on hW
  have fa : ((bs a).toList == []) = false := by rw [bsl, beq_eq_false_iff_ne]; exact ha
  have fb : ((bs b).toList == []) = false := by rw [bsl, beq_eq_false_iff_ne]; exact hb
  have fs : ((bs S).toList == []) = false := by rw [bsl, beq_eq_false_iff_ne]; exact hs
  have hfour : S = a ++ [124] ++ b ∨ S = a ++ [124] ++ parL b ∨ S = parL a ++ [124] ++ b ∨ S = parL a ++ [124] ++ parL b := by
    have e : (m2.map stN) = p.map stN ++ q.map stN ++ [⟨4, []⟩] := by rw [← HM2.out, ← HM1.out, List.map_append, List.map_append]; rfl
    rw [e] at es
    obtain ⟨x, y, hx, hy, h⟩ := joins_text (k := 4) (by omega) (by rw [ea]; exact ha) (by rw [eb]; exact hb) (by rw [es]; exact hs)
    rw [es, ea, eb] at *
    rcases hx with rfl | rfl <;> rcases hy with rfl | rfl <;> simp only [h] <;> simp
  have k1 := add_bs0 a 40 (by omega)
  have k2 := add_bs1 ([40] ++ a) 41 (by simp; omega)
  have k3 := add_bs0 b 40 (by omega)
  have k4 := add_bs1 ([40] ++ b) 41 (by simp; omega)
  have la : (parL a).length ≤ 5002 := by unfold parL; simp; omega
  have lb : (parL b).length ≤ 5002 := by unfold parL; simp; omega
  have k5 := add_bs1 a 124 (by omega)
  have k6 := add_bs1 (parL a) 124 (by omega)
  have k7 := add_bs (a ++ [124]) b (by simp; omega)
  have k8 := add_bs (a ++ [124]) (parL b) (by simp; omega)
  have k9 := add_bs (parL a ++ [124]) b (by simp; omega)
  have k10 := add_bs (parL a ++ [124]) (parL b) (by simp; omega)
  rw [show [40] ++ a ++ [41] = parL a from rfl] at k2
  rw [show [40] ++ b ++ [41] = parL b from rfl] at k4
  have HF := Lib.hid hfour
  clear hp hq kp kq hall es eb ea hfour la lb al bl ha hb hs
  generalize a ++ [124] ++ b = T1 at *
  generalize a ++ [124] ++ parL b = T2 at *
  generalize parL a ++ [124] ++ b = T3 at *
  generalize parL a ++ [124] ++ parL b = T4 at *
  generalize parL a ++ [124] = SA at *
  generalize a ++ [124] = SX at *
  generalize parL a = AA at *
  generalize parL b = BB at *
  generalize [40] ++ a = PA at *
  generalize [40] ++ b = PB at *
  go_enter Tryd.func5, Tryd.ntmps5
  go_upto_region 7 with (first
    | (go_at_call 6; refine (awake9_any _).mono ?_; rintro e w1 ⟨rfl, h'⟩; replace hB := on hB h'; clear h')
    | (go_at_call 7; with_reducible refine (HP.out _ hB).mono ?_; rintro e w2 ⟨rfl, h'⟩; replace hB := on hB h'; clear h')
    | (go_at_call 7; with_reducible refine (HQ.out _ hB).mono ?_; rintro e w2 ⟨rfl, h'⟩; replace hB := on hB h'; clear h'))
  go_upto_region 8 with (first
    | (at_builtin; refine wpList_appS rfl (.tmp 34) (.tmp 35) rfl w2.heap.size (some ⟨w2.heap.size, 0, none⟩) 0 [] p p rfl rfl (ownS0 w2 (Nat.le_refl _)) A c rfl (HRp.out _ (on hB ((Below.refl _ _).alloc (Nat.le_refl _) _))) (by first | omega | (simp only [List.length_append, List.length_cons, List.length_nil]; omega)) (by simp) ?_; intro A3 c3 w3 ho hg; have O3 := Lib.hid ho; have H3 : Hid (Below w2.heap.size w2 w3) := Lib.hid (((Below.refl w2.heap.size w2).alloc (Nat.le_refl _) _).grown hg (by simp) (fun kk hkk => by simp [Value.ownBlock] at hkk; omega)); clear ho hg)
    | (at_builtin; refine wpList_appS rfl (.tmp 36) (.tmp 37) rfl w2.heap.size A3 c3 p q m1 HM1.out rfl (O3.out) B d rfl (HRq.out _ (on hB H3.out)) (by first | omega | (simp only [List.length_append, List.length_cons, List.length_nil]; omega)) (H3.out.size) ?_; intro A4 c4 w4 ho hg; have O4 := Lib.hid ho; have H4 : Hid (Below w2.heap.size w2 w4) := Lib.hid (H3.out.grown hg H3.out.size (fun kk hkk => own_base O3.out kk hkk)); clear ho hg)
    | (at_builtin; refine wpList_appS rfl (.tmp 38) (.tmp 41) rfl w2.heap.size A4 c4 m1 [opS 4] m2 HM2.out rfl (own_on O4.out ((Below.refl _ _).alloc (Nat.le_refl _) _)) (some ⟨w4.heap.size, 0, none⟩) 1 rfl (rd_op 4 w4) (by first | omega | (simp only [List.length_append, List.length_cons, List.length_nil]; omega)) (by have := H4.out.size; simp; omega) ?_; intro A5 c5 w5 ho hg; have O5 := Lib.hid ho; have H5 : Hid (Below w2.heap.size w2 w5) := Lib.hid ((H4.out.alloc H4.out.size _).grown hg (by have := H4.out.size; simp; omega) (fun kk hkk => own_base O4.out kk hkk)); clear ho hg)
    | (go_at_call 7; refine (HS.out _ _ _ (own_rd O5.out)).mono ?_; rintro e w6 ⟨rfl, h'⟩; replace hB := on (on hB H5.out) h'; clear h'))
  clear HP HQ HS O3 O4 O5 H3 H4 H5 HRp HRq HM1 HM2
  go_wp2
  go_loopw [72] (fun vi wr => ∃ k : Nat, vi = .int .i64 (k : Nat) ∧ k ≤ 2 ∧ Below w.heap.size w wr ∧ Row 9 wr w6.heap.size [.string (bs a), .string (bs AA)] ∧ (1 ≤ k → S ≠ T1 ∧ S ≠ T2) ∧ (2 ≤ k → S ≠ T3 ∧ S ≠ T4)) (fun v _ => 2 - (intOf v).toNat)
  case atStart => exact ⟨0, rfl, by omega, hB.alloc hB.size _, row_new (t := 9) w6 [.string (bs a), .string (bs AA)], fun h => by omega, fun h => by omega⟩
  case round =>
    obtain ⟨k, rfl, hk, hbr, r0, m0, n0⟩ := hrel
    have HBI : Hid (Below w.heap.size w (wr.alloc (.cells #[.string (bs b), .string (bs BB)] 9))) := Lib.hid (hbr.alloc hbr.size _)
    have HRI : Hid (Row 9 (wr.alloc (.cells #[.string (bs b), .string (bs BB)] 9)) w6.heap.size [.string (bs a), .string (bs AA)]) := Lib.hid (r0.alloc _)
    have HR2 : Hid (Row 9 (wr.alloc (.cells #[.string (bs b), .string (bs BB)] 9)) wr.heap.size [.string (bs b), .string (bs BB)]) := Lib.hid (row_new (t := 9) wr [.string (bs b), .string (bs BB)])
    rcases (show k = 0 ∨ k = 1 ∨ k = 2 by omega) with rfl | rfl | rfl
    · have x0 := r0.cell 0
      simp only [List.getElem?_cons_zero] at x0
      clear hbr r0 m0 n0
      go_wp2
      go_loopw [82] (fun vi wq => ∃ j : Nat, vi = .int .i64 (j : Nat) ∧ j ≤ 2 ∧ Below w.heap.size w wq ∧ Row 9 wq w6.heap.size [.string (bs a), .string (bs AA)] ∧ Row 9 wq wr.heap.size [.string (bs b), .string (bs BB)] ∧ (1 ≤ j → S ≠ T1) ∧ (2 ≤ j → S ≠ T2)) (fun v _ => 2 - (intOf v).toNat)
      case atStart => exact ⟨0, rfl, by omega, HBI.out, HRI.out, HR2.out, fun h => by omega, fun h => by omega⟩
      case round =>
        obtain ⟨j, rfl, hj, hbq, r1, r2, n1, n2⟩ := hrel
        have HBQ := Lib.hid hbq; have HQ1 := Lib.hid r1; have HQ2 := Lib.hid r2
        rcases (show j = 0 ∨ j = 1 ∨ j = 2 by omega) with rfl | rfl | rfl
        · have y0 := r2.cell 0
          simp only [List.getElem?_cons_zero] at y0
          clear hbq r1 r2 n1 n2
          by_cases he : S = T1
          · have heq : ((bs S).toList == (bs T1).toList) = true := by rw [bsl, bsl, he]; simp
            clear he
            go_wp2
            go_ret
            exact ⟨rfl, HBQ.out⟩
          · have hne := str_ne he
            have HNE := Lib.hid he
            have hne2 : ((bs S).toList == (bs T1).toList) = false := by rw [bsl, bsl, beq_eq_false_iff_ne]; exact he
            clear he
            go_wp2
            all_goals
              go_roundw
              case rel => exact ⟨1, rfl, by omega, HBQ.out, HQ1.out, HQ2.out, fun _ => HNE.out, fun h => by omega⟩
              case measure => simp [intOf]
        · have y1 := r2.cell 1
          simp only [List.getElem?_cons_zero, List.getElem?_cons_succ] at y1
          have HN1 := Lib.hid (n1 (by omega))
          clear hbq r1 r2 n1 n2
          by_cases he : S = T2
          · have heq : ((bs S).toList == (bs T2).toList) = true := by rw [bsl, bsl, he]; simp
            clear he
            go_wp2
            go_ret
            exact ⟨rfl, HBQ.out⟩
          · have hne := str_ne he
            have HNE := Lib.hid he
            have hne2 : ((bs S).toList == (bs T2).toList) = false := by rw [bsl, bsl, beq_eq_false_iff_ne]; exact he
            clear he
            go_wp2
            all_goals
              go_roundw
              case rel => exact ⟨2, rfl, by omega, HBQ.out, HQ1.out, HQ2.out, fun _ => HN1.out, fun _ => HNE.out⟩
              case measure => simp [intOf]
        · have HN1 := Lib.hid (n1 (by omega)); have HN2 := Lib.hid (n2 (by omega))
          clear hbq r1 r2 n1 n2
          go_wp2
          all_goals
            go_roundw
            case rel => exact ⟨1, rfl, by omega, HBQ.out, HQ1.out, fun _ => ⟨HN1.out, HN2.out⟩, fun h => by omega⟩
            case measure => simp [intOf]
    · have x1 := r0.cell 1
      simp only [List.getElem?_cons_zero, List.getElem?_cons_succ] at x1
      have HM0 := Lib.hid (m0 (by omega))
      clear hbr r0 m0 n0
      go_wp2
      go_loopw [82] (fun vi wq => ∃ j : Nat, vi = .int .i64 (j : Nat) ∧ j ≤ 2 ∧ Below w.heap.size w wq ∧ Row 9 wq w6.heap.size [.string (bs a), .string (bs AA)] ∧ Row 9 wq wr.heap.size [.string (bs b), .string (bs BB)] ∧ (1 ≤ j → S ≠ T3) ∧ (2 ≤ j → S ≠ T4)) (fun v _ => 2 - (intOf v).toNat)
      case atStart => exact ⟨0, rfl, by omega, HBI.out, HRI.out, HR2.out, fun h => by omega, fun h => by omega⟩
      case round =>
        obtain ⟨j, rfl, hj, hbq, r1, r2, n1, n2⟩ := hrel
        have HBQ := Lib.hid hbq; have HQ1 := Lib.hid r1; have HQ2 := Lib.hid r2
        rcases (show j = 0 ∨ j = 1 ∨ j = 2 by omega) with rfl | rfl | rfl
        · have y0 := r2.cell 0
          simp only [List.getElem?_cons_zero] at y0
          clear hbq r1 r2 n1 n2
          by_cases he : S = T3
          · have heq : ((bs S).toList == (bs T3).toList) = true := by rw [bsl, bsl, he]; simp
            clear he
            go_wp2
            go_ret
            exact ⟨rfl, HBQ.out⟩
          · have hne := str_ne he
            have HNE := Lib.hid he
            have hne2 : ((bs S).toList == (bs T3).toList) = false := by rw [bsl, bsl, beq_eq_false_iff_ne]; exact he
            clear he
            go_wp2
            all_goals
              go_roundw
              case rel => exact ⟨1, rfl, by omega, HBQ.out, HQ1.out, HQ2.out, fun _ => HNE.out, fun h => by omega⟩
              case measure => simp [intOf]
        · have y1 := r2.cell 1
          simp only [List.getElem?_cons_zero, List.getElem?_cons_succ] at y1
          have HN1 := Lib.hid (n1 (by omega))
          clear hbq r1 r2 n1 n2
          by_cases he : S = T4
          · have heq : ((bs S).toList == (bs T4).toList) = true := by rw [bsl, bsl, he]; simp
            clear he
            go_wp2
            go_ret
            exact ⟨rfl, HBQ.out⟩
          · have hne := str_ne he
            have HNE := Lib.hid he
            have hne2 : ((bs S).toList == (bs T4).toList) = false := by rw [bsl, bsl, beq_eq_false_iff_ne]; exact he
            clear he
            go_wp2
            all_goals
              go_roundw
              case rel => exact ⟨2, rfl, by omega, HBQ.out, HQ1.out, HQ2.out, fun _ => HN1.out, fun _ => HNE.out⟩
              case measure => simp [intOf]
        · have HN1 := Lib.hid (n1 (by omega)); have HN2 := Lib.hid (n2 (by omega))
          clear hbq r1 r2 n1 n2
          go_wp2
          all_goals
            go_roundw
            case rel => exact ⟨2, rfl, by omega, HBQ.out, HQ1.out, fun _ => HM0.out, fun _ => ⟨HN1.out, HN2.out⟩⟩
            case measure => simp [intOf]
    · exfalso
      obtain ⟨h1, h2⟩ := m0 (by omega)
      obtain ⟨h3, h4⟩ := n0 (by omega)
      rcases HF.out with h | h | h | h
      · exact h1 h
      · exact h2 h
      · exact h3 h
      · exact h4 h
theorem path_len (l : List St) : (pathX deepT l).length ≤ 5000 := by
  by_cases h : pathX deepT l = []
  · rw [h]; simp
  · obtain ⟨e, hg, he, _, hl, ht⟩ := tree_path h
    have := tree_len hg
    rw [he] at this
    rw [ht]; omega
theorem walk (A : Option Addr) (c : Nat) (p : List SI) (B : Option Addr) (d : Nat) (q : List SI) (z : Bool) (w : World) (hp : RdX 2 siC w A p) (kp : ∀ s ∈ p, SiOk s) (_ : p.length ≤ c) (hq : RdX 2 siC w B q) (kq : ∀ s ∈ q, SiOk s) (_ : q.length ≤ d) :
    Calls Tryd.prog 5 #[.slice A p.length c, .slice B q.length d, .bool z] w fun e w' => e = .returned (.bool true) ∧ Below w.heap.size w w' := by
  by_cases h1 : 40 < p.length
  · exact walk_big A B c d p q z w hp hq (.inl h1)
  by_cases h2 : 40 < q.length
  · exact walk_big A B c d p q z w hp hq (.inr ⟨h1, h2⟩)
  obtain ⟨a, ea⟩ : ∃ a, pathX deepT (p.map stN) = a := ⟨_, rfl⟩
  obtain ⟨b, eb⟩ : ∃ b, pathX deepT (q.map stN) = b := ⟨_, rfl⟩
  have al : a.length ≤ 5000 := ea ▸ path_len _
  have bl : b.length ≤ 5000 := eb ▸ path_len _
  cases z with
  | false =>
    obtain ⟨S, es⟩ : ∃ S, pathX deepT ((p ++ q ++ [opS 3]).map stN) = S := ⟨_, rfl⟩
    by_cases ha : a = []
    · exact walk_a_3 A B c d p q w hp hq kp kq h1 h2 a b S ea eb es ha
    by_cases hb : b = []
    · exact walk_b_3 A B c d p q w hp hq kp kq h1 h2 a b S ea eb es ha hb
    by_cases hs : S = []
    · exact walk_s_3 A B c d p q w hp hq kp kq h1 h2 a b S ea eb es ha hb hs
    exact walk_l_3 A B c d p q w hp hq kp kq h1 h2 a b S ea eb es ha hb hs al bl
  | true =>
    obtain ⟨S, es⟩ : ∃ S, pathX deepT ((p ++ q ++ [opS 4]).map stN) = S := ⟨_, rfl⟩
    by_cases ha : a = []
    · exact walk_a_4 A B c d p q w hp hq kp kq h1 h2 a b S ea eb es ha
    by_cases hb : b = []
    · exact walk_b_4 A B c d p q w hp hq kp kq h1 h2 a b S ea eb es ha hb
    by_cases hs : S = []
    · exact walk_s_4 A B c d p q w hp hq kp kq h1 h2 a b S ea eb es ha hb hs
    exact walk_l_4 A B c d p q w hp hq kp kq h1 h2 a b S ea eb es ha hb hs al bl

theorem own : ownKnob Tryd.prog.godebug = none := by kernel_rfl

set_option maxRecDepth 100000 in
theorem lifted (os : Os) (started : os.Started) (H : Type) (enc : TypeId × Value → H) :
    ReturnsInHanded {} Tryd.checked os 5 .any (fun w args => (Rows.showJoinsSpec.pre enc Tryd.prog Tryd.f5 Rows.showJoinsRow.domain false w args ∧ laidMetH Tryd.prog Rows.showJoinsRow.laid w) ∧ sizedMet enc Tryd.prog Tryd.f5 (OpenSpec.ofChange Rows.showJoinsSpec) false w args) (Rows.showJoinsSpec.post enc Tryd.prog Tryd.f5 false true false false) := by
  refine returnsInHanded_of_change_and (C := Tryd.checked) (X := fun w _ => laidMetH Tryd.prog Rows.showJoinsRow.laid w) (fun _ _ _ hh h => h.of_heap hh) own started (by kernel_rfl) Tryd.func5
    (ChangeSpec.witness_shaped (enc := enc) (C := Tryd.checked) (os := os) (X := fun w _ => laidMetH Tryd.prog Rows.showJoinsRow.laid w) false (World.laidAll Tryd.prog os Rows.showJoinsRow.laid) #[.slice none 0 0, .slice none 0 0, .bool false] 8 (World.laidAll_os _ _ _)
      (World.shaped_of_ZipB (by kernel_rfl) (by kernel_rfl)) (by kernel_rfl) (by kernel_rfl) (by kernel_rfl)
      (by rw [MakeChecks.laidMetH_plain _ _ _ (by kernel_rfl)]; exact laidMet_laidAll _ (by kernel_rfl) (by kernel_rfl))) ?_
  intro W base args ds gs before hval0 hW hcnd _ hL _
  have hval : ∀ (j : Nat) t v, Tryd.f5.params[j]? = some t → args[j]? = some v → Value.okWide Tryd.prog W .any base t v := hval0
  have hW' := hW
  obtain ⟨p, q, hA0, hV, rfl, hfz, hnd⟩ := hW
  have hA : DataW.TrodAll enc Tryd.prog W 0 (fun _ => true) true Tryd.f5.params.toList args.toList ds p := hA0
  have hAk := hA
  rw [Tryd.params5] at hA hval
  obtain ⟨v0, vs0, d0, ds0, p0, q0, hargs, rfl, rfl, h0, r0⟩ := trodAll_cons hA
  obtain ⟨v1, vs1, d1, ds1, p1, q1, rfl, rfl, rfl, h1, r1⟩ := trodAll_cons r0
  obtain ⟨v2, vs2, d2, ds2, p2, q2, rfl, rfl, rfl, h2, r2⟩ := trodAll_cons r1
  obtain ⟨rfl, rfl, rfl⟩ := trodAll_nil r2
  obtain rfl : args = #[v0, v1, v2] := by cases args; simp_all
  obtain ⟨rfl, rfl⟩ := trodVars_none hV
  obtain ⟨A0, c0, l0, rfl, r0', k0', m0'⟩ := open_steps (okWide_slice Tryd.underlying22 (hval 0 22 v0 rfl rfl)) h0
  obtain ⟨A1, c1, l1, rfl, r1', k1', m1'⟩ := open_steps (okWide_slice Tryd.underlying22 (hval 1 22 v1 rfl rfl)) h1
  obtain ⟨a2, rfl, rfl, rfl⟩ := open_bool Tryd.underlying4 (hval 2 4 v2 rfl rfl) h2
  clear hA0 hval0
  refine (walk A0 c0 l0 A1 c1 l1 a2 W r0' k0' m0' r1' k1' m1').mono fun e W' ⟨he, hg⟩ => ?_
  subst he
  refine ⟨_, rfl, post_old hW' (by simpa using hAk) (by rw [Tryd.params5]; decide) (fun _ _ _ => (trodAll_cons_mk (shut_bool Tryd.underlying4 _) trodAll_mk0)) rfl (fun _ => rfl) hg⟩

theorem row_proved : Rows.ShowJoinsSaid :=
  OpenClaim.holds_of_wide 5 Tryd.f5 rfl rfl rfl rfl rfl rfl rfl ⟨rfl, rfl, rfl, rfl, rfl⟩ rfl rfl rfl rfl rfl (by kernel_rfl) Tryd.func5 (by kernel_rfl)
    (of_decide_eq_true (by kernel_rfl)) (by unfold Func.isWrapper; first | (rw [if_pos (by decide +kernel)]; kernel_rfl) | (rw [if_neg (by decide +kernel)]; exact ⟨rfl, rfl⟩))
    (fun os started H enc _ => lifted os started H enc)
theorem proved : Rows.ShowJoinsCardSaid :=
  Claim7.holds_tied_plain_at .later [] Rows.showJoinsCard.laidKinds Rows.showJoinsCard.laidTests Rows.showJoinsCard.stood.harness Rows.showJoinsCard.stood.looks row_proved (fun _ h => by cases h) (by kernel_rfl) (fun _ h => by cases h) showJoins_row_tie rfl ⟨rfl, rfl⟩ (by kernel_rfl) rfl
    (fun f fn hf hfn => by
      obtain rfl : f = 5 := Option.some.inj ((show Tryd.prog.funcNamed "antecedent/antecedentlaw09.ShowJoins" = some 5 by kernel_rfl).symm.trans hf) |>.symm
      obtain rfl : fn = Tryd.f5 := (Option.some.inj (Tryd.func5.symm.trans hfn)).symm
      exact ⟨by kernel_rfl, fun j t ht => by
        rw [Tryd.params5] at ht
        have hm : t ∈ [22, 22, 4] := by simpa using Array.mem_of_getElem? ht
        have hall : ([22, 22, 4].all fun u => !Tryd.prog.wantsStandIn u) = true := by kernel_rfl
        exact (show Tryd.prog.wantsStandIn t = false by simpa using List.all_eq_true.1 hall t hm)⟩)
    (by kernel_rfl)
#print axioms proved
end Go.Proofs.YtdolhlbkhhnpmaaDoor.showJoins

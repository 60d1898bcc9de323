/-
  RelPlays (layer 5, rel): for every arity, perms, l, cols and vals the call returns true: whatever is put, each answer, all tuples in order, those that are found by any columns, and the index that is used, is as the document says. No condition.
-/
import Derived.Test.YtpmkhpbhimmeiaaGreatRows
import Derived.Test.YtpmkhpbhimmeiaaGreatRefRelZ
import Derived.Test.YtpmkhpbhimmeiaaGreatRelB
import Derived.Test.YtpmkhpbhimmeiaaGreatRelB
import Derived.WalkKit
import Derived.ProofKit
import Derived.OpenShut
namespace Go.Proofs.YtpmkhpbhimmeiaaGreat.relPlays
open Go.ChangeShapes Go.WideShapes Go.ChangeAt Go.RowKit FloM ValM
set_option linter.unusedVariables false
set_option linter.unusedSimpArgs false
set_option maxRecDepth 20000 in
set_option maxHeartbeats 8000000 in
theorem walk_no (a0 : Int) (A1 A2 A3 A4 : Option Addr) (c1 c2 c3 c4 : Nat) (ps : List IS) (xs : List Sl) (cols : List Int) (vals : List V) (w : World) (r1 : RdP w A1 ps) (m1 : ps.length ≤ maxLen) (r2 : RdL w A2 xs) (m2 : xs.length ≤ maxLen)
    (h : fewR (ps.map IS.l) (xs.map Sl.l) = false ∨ fewR (ps.map IS.l) (xs.map Sl.l) = true ∧ (12 < cols.length ∨ cols.length ≤ 12 ∧ 12 < vals.length)) :
    Calls Tryz.prog 3 #[.int .i64 a0, .slice A1 ps.length c1, .slice A2 xs.length c2, .slice A3 cols.length c3, .slice A4 vals.length c4] w fun e w' => e = .returned (.bool true) ∧ Below w.heap.size w w' := by
  have hB := Below.refl w.heap.size w
  have R1 := Lib.hid r1; have R2 := Lib.hid r2; clear r1 r2
  have HFW : Hid (∀ W, Below w.heap.size w W → Calls Tryz.prog 7 #[.slice A1 ps.length c1, .slice A2 xs.length c2] W fun e w' => e = .returned (.bool (fewR (ps.map IS.l) (xs.map Sl.l))) ∧ W = w') := Lib.hid fun W hW => fewR_any A1 A2 c1 c2 ps xs W (R1.out.on hW) (R2.out.on hW) m1 m2
  rcases h with h | ⟨h, h8 | ⟨h8, h9⟩⟩
  · rw [h] at HFW
    clear h
    go_enter Tryz.func3, Tryz.ntmps3
    go_wp2_with (first
      | (go_at_call 6; refine (awakeR_any _).mono ?_; rintro e w1 ⟨rfl, h'⟩; replace hB := on hB h'; clear h')
      | (go_at_call 7; refine (HFW.out _ hB).mono ?_; rintro e w2 ⟨rfl, rfl⟩))
    go_ret
    exact ⟨rfl, hB⟩
  · rw [h] at HFW
    have h12 : 12 < (cols.length : Int) := by omega
    clear h h8
    go_enter Tryz.func3, Tryz.ntmps3
    go_wp2_with (first
      | (go_at_call 6; refine (awakeR_any _).mono ?_; rintro e w1 ⟨rfl, h'⟩; replace hB := on hB h'; clear h')
      | (go_at_call 7; refine (HFW.out _ hB).mono ?_; rintro e w2 ⟨rfl, rfl⟩))
    go_ret
    exact ⟨rfl, hB⟩
  · rw [h] at HFW
    have h12 : ¬ 12 < (cols.length : Int) := by omega
    have h13 : 12 < (vals.length : Int) := by omega
    clear h h8 h9
    go_enter Tryz.func3, Tryz.ntmps3
    go_wp2_with (first
      | (go_at_call 6; refine (awakeR_any _).mono ?_; rintro e w1 ⟨rfl, h'⟩; replace hB := on hB h'; clear h')
      | (go_at_call 7; refine (HFW.out _ hB).mono ?_; rintro e w2 ⟨rfl, rfl⟩))
    go_ret
    exact ⟨rfl, hB⟩
set_option maxRecDepth 20000 in
set_option maxHeartbeats 8000000 in
theorem walk_bad (a0 : Int) (A1 A2 A3 A4 : Option Addr) (c1 c2 c3 c4 : Nat) (ps : List IS) (xs : List Sl) (cols : List Int) (vals : List V) (w : World) (r1 : RdP w A1 ps) (m1 : ps.length ≤ maxLen) (r2 : RdL w A2 xs) (m2 : xs.length ≤ maxLen)
    (hf : fewR (ps.map IS.l) (xs.map Sl.l) = true) (h12 : cols.length ≤ 12) (h13 : vals.length ≤ 12) (hg : ¬ ((0 ≤ a0 ∧ a0 ≤ 8) ∧ ∀ p ∈ ps, goodP a0.toNat p.l = true)) :
    Calls Tryz.prog 3 #[.int .i64 a0, .slice A1 ps.length c1, .slice A2 xs.length c2, .slice A3 cols.length c3, .slice A4 vals.length c4] w fun e w' => e = .returned (.bool true) ∧ Below w.heap.size w w' := by
  have hB := Below.refl w.heap.size w
  have R1 := Lib.hid r1; have R2 := Lib.hid r2; clear r1 r2
  obtain ⟨f1, f2, f3, f4⟩ := fewR_yes hf
  rw [List.length_map] at f3 f4
  have HFP : Hid (∀ p ∈ ps, p.l.length ≤ 1000) := Lib.hid fun p hp => by have := f1 p.l (List.mem_map_of_mem hp); omega
  have HG := Lib.hid hg
  have HFW : Hid (∀ W, Below w.heap.size w W → Calls Tryz.prog 7 #[.slice A1 ps.length c1, .slice A2 xs.length c2] W fun e w' => e = .returned (.bool true) ∧ W = w') := Lib.hid fun W hW => by
    have := fewR_any A1 A2 c1 c2 ps xs W (R1.out.on hW) (R2.out.on hW) m1 m2
    rw [hf] at this; exact this
  clear hf f1 f2 hg
  have h12' : ¬ 12 < (cols.length : Int) := by omega
  have h13' : ¬ 12 < (vals.length : Int) := by omega
  have HNG : Hid (∀ W, Below w.heap.size w W → Calls Tryz.prog 8 #[.int .i64 a0, .slice A1 ps.length c1] W fun e w' => e = .returned (.tuple #[.pointer none, .int .i64 1]) ∧ Below W.heap.size W w') := Lib.hid fun W hW => by
    by_cases hn : 0 ≤ a0 ∧ a0 ≤ 8
    · obtain ⟨n, rfl⟩ := Int.eq_ofNat_of_zero_le hn.1
      refine (relNew_any A1 c1 n ps W (by omega) (R1.out.on hW) (by omega)).mono ?_
      rintro e w' (⟨h, _⟩ | ⟨_, h⟩)
      · exact absurd ⟨hn, by rw [Int.toNat_natCast]; exact h⟩ HG.out
      · exact h
    · refine (relNew_out a0 _ W (by omega)).mono ?_
      rintro e w' ⟨rfl, rfl⟩
      exact ⟨rfl, Below.refl _ _⟩
  have HQG : Hid (∀ W, Below w.heap.size w W → Calls Tryz.prog 9 #[.int .i64 a0, .slice A1 ps.length c1] W fun e w' => e = .returned (.pointer none) ∧ Below W.heap.size W w') := Lib.hid fun W hW => by
    by_cases hn : 0 ≤ a0 ∧ a0 ≤ 8
    · obtain ⟨n, rfl⟩ := Int.eq_ofNat_of_zero_le hn.1
      refine (refNewQ_any A1 c1 n ps W (by omega) (R1.out.on hW) (by omega) HFP.out).mono ?_
      rintro e w' (⟨_, h⟩ | ⟨h, _⟩)
      · exact h
      · exact absurd ⟨hn, by rw [Int.toNat_natCast]; exact h⟩ HG.out
    · refine (refNewQ_out a0 _ W (by omega)).mono ?_
      rintro e w' ⟨rfl, rfl⟩
      exact ⟨rfl, Below.refl _ _⟩
  go_enter Tryz.func3, Tryz.ntmps3
  go_wp2_with (first
    | (go_at_call 6; refine (awakeR_any _).mono ?_; rintro e w1 ⟨rfl, h'⟩; replace hB := on hB h'; clear h')
    | (go_at_call 7; refine (HFW.out _ hB).mono ?_; rintro e w2 ⟨rfl, rfl⟩)
    | (go_at_call 8; refine (HNG.out _ hB).mono ?_; rintro e w3 ⟨rfl, hb⟩; replace hB := on hB hb; clear hb)
    | (go_at_call 9; refine (HQG.out _ hB).mono ?_; rintro e w4 ⟨rfl, hb⟩; replace hB := on hB hb; clear hb))
  go_ret
  exact ⟨rfl, hB⟩
set_option maxRecDepth 20000 in
set_option maxHeartbeats 60000000 in
theorem walk_yes (n : Nat) (A1 A2 A3 A4 : Option Addr) (c1 c2 c3 c4 : Nat) (ps : List IS) (xs : List Sl) (cols : List Int) (vals : List V) (w : World) (r1 : RdP w A1 ps) (m1 : ps.length ≤ maxLen) (r2 : RdL w A2 xs) (m2 : xs.length ≤ maxLen) (r3 : RdI w A3 cols) (r4 : RdV w A4 vals)
    (hf : fewR (ps.map IS.l) (xs.map Sl.l) = true) (h12 : cols.length ≤ 12) (h13 : vals.length ≤ 12) (hn8 : n ≤ 8) (hcap : cols.length ≤ c3) (hg : ∀ p ∈ ps, goodP n p.l = true) :
    Calls Tryz.prog 3 #[.int .i64 (n : Int), .slice A1 ps.length c1, .slice A2 xs.length c2, .slice A3 cols.length c3, .slice A4 vals.length c4] w fun e w' => e = .returned (.bool true) ∧ Below w.heap.size w w' := by
  have hB := Below.refl w.heap.size w
  have R1 := Lib.hid r1; have R2 := Lib.hid r2; have R3 := Lib.hid r3; have R4 := Lib.hid r4; clear r1 r2 r3 r4
  obtain ⟨f1, f2, f3, f4⟩ := fewR_yes hf
  rw [List.length_map] at f3 f4
  have HFL := Lib.hid f2
  have HFP : Hid (∀ p ∈ ps, p.l.length ≤ 1000) := Lib.hid fun p hp => by have := f1 p.l (List.mem_map_of_mem hp); omega
  have HG := Lib.hid hg
  have HFW : Hid (∀ W, Below w.heap.size w W → Calls Tryz.prog 7 #[.slice A1 ps.length c1, .slice A2 xs.length c2] W fun e w' => e = .returned (.bool true) ∧ W = w') := Lib.hid fun W hW => by
    have := fewR_any A1 A2 c1 c2 ps xs W (R1.out.on hW) (R2.out.on hW) m1 m2
    rw [hf] at this; exact this
  clear hf f1 f2 hg
  have h12' : ¬ 12 < (cols.length : Int) := by omega
  have h13' : ¬ 12 < (vals.length : Int) := by omega
  have HNG : Hid (∀ W, Below w.heap.size w W → Calls Tryz.prog 8 #[.int .i64 (n : Int), .slice A1 ps.length c1] W fun e w' => ∃ r g0 gs, e = .returned (.tuple #[.pointer (some ⟨r, 0, none⟩), .int .i64 0]) ∧ NewS W n (ps.map IS.l) r g0 gs w') := Lib.hid fun W hW => (relNew_any A1 c1 n ps W hn8 (R1.out.on hW) (by omega)).mono (by
    rintro e w' (⟨_, h⟩ | ⟨⟨x, hx, hg⟩, _⟩)
    · exact h
    · rw [HG.out x hx] at hg; cases hg)
  have HQG : Hid (∀ W, Below w.heap.size w W → Calls Tryz.prog 9 #[.int .i64 (n : Int), .slice A1 ps.length c1] W fun e w' => ∃ rb tb pc PP qs, e = .returned (.pointer (some ⟨rb, 0, none⟩)) ∧ NewQ W n (ps.map IS.l) rb tb pc PP qs w') := Lib.hid fun W hW => (refNewQ_any A1 c1 n ps W hn8 (R1.out.on hW) (by omega) HFP.out).mono (by
    rintro e w' (⟨⟨x, hx, hg⟩, _⟩ | ⟨_, h⟩)
    · rw [HG.out x hx] at hg; cases hg
    · exact h)
  go_enter Tryz.func3, Tryz.ntmps3
  go_wp2_with (first
    | (go_at_call 6; refine (awakeR_any _).mono ?_; rintro e w1 ⟨rfl, h'⟩; replace hB := on hB h'; clear h')
    | (go_at_call 7; refine (HFW.out _ hB).mono ?_; rintro e w2 ⟨rfl, rfl⟩)
    | (go_at_call 8; refine (HNG.out _ hB).mono ?_; rintro e w3 ⟨r, g0, gs, rfl, N1⟩; have HN1 := Lib.hid N1; have hB3 := on hB N1.b; clear N1)
    | (go_at_call 9; refine (HQG.out _ hB3).mono ?_; rintro e w4 ⟨rb, tb, pc, PP, qs, rfl, N2⟩; have HT := Lib.hid (PlayQ.start hB HN1.out N2); have HQL := Lib.hid N2.ls; clear N2))
  go_loopw [68] (fun v wr => ∃ k : Nat, v = .int .i64 (k : Nat) ∧ k ≤ xs.length ∧ PlayQ w r n g0 gs (ps.map IS.l) rb tb pc PP qs ((xs.map Sl.l).take k) (puts (upto n) ((xs.map Sl.l).take k)) wr) (fun v _ => xs.length - (intOf v).toNat)
  case atStart => exact ⟨0, rfl, Nat.zero_le _, HT.out⟩
  case round =>
    clear HT HN1 hB3 hB
    obtain ⟨k, rfl, hk, hD⟩ := hrel
    have HD := Lib.hid hD; clear hD
    by_cases hlt : k < xs.length
    · obtain ⟨a, hy⟩ : ∃ a, xs[k]? = some a := ⟨_, List.getElem?_eq_getElem hlt⟩
      obtain ⟨ab, ao, rfl, hab, ca0⟩ := R2.out.at_ hy
      have HCA : Hid (∀ W, Below w.heap.size w W → W.cell? ⟨ab, ao + k, none⟩ = some (.slice a.A a.l.length a.c)) := Lib.hid fun W hW => (keep hW _ _ hab).trans ca0
      have ca := HCA.out _ HD.out.bw
      have RA := Lib.hid (R2.out.each a (List.mem_of_getElem? hy)).1
      have HA := Lib.hid (show (xs.map Sl.l)[k]? = some a.l by rw [List.getElem?_map, hy]; rfl)
      have hl12 : a.l.length ≤ 12 := HFL.out _ (List.mem_of_getElem? HA.out)
      have hHl : ((xs.map Sl.l).take k).length ≤ 60 := by rw [List.length_take, List.length_map]; omega
      have hNl := puts_len (upto n) ((xs.map Sl.l).take k)
      have HPA := HD.out.put1 (ca := a.c) RA.out (by omega)
      obtain ⟨bp, hbp⟩ : ∃ bp, putB (upto n) a.l (puts (upto n) ((xs.map Sl.l).take k)) = bp := ⟨_, rfl⟩
      obtain ⟨ep, hep⟩ : ∃ ep, putE (upto n) a.l = ep := ⟨_, rfl⟩
      rw [hbp, hep] at HPA
      have HPA := Lib.hid HPA
      have HPB : Hid (∀ W, PlayQ w r n g0 gs (ps.map IS.l) rb tb pc PP qs ((xs.map Sl.l).take k ++ [a.l]) (puts (upto n) ((xs.map Sl.l).take k)) W → Calls Tryz.prog 11 #[.pointer (some ⟨tb, 0, none⟩), .slice a.A a.l.length a.c] W fun e w' => e = .returned (.tuple #[.bool bp, .int .i64 ep]) ∧ PlayQ w r n g0 gs (ps.map IS.l) rb tb pc PP qs ((xs.map Sl.l).take (k + 1)) (puts (upto n) ((xs.map Sl.l).take (k + 1))) w') := Lib.hid fun W hW => by
        have := hW.put2 (ca := a.c) RA.out (by omega)
        rw [hbp, hep] at this
        rwa [← puts_snoc, ← take_snoc' HA.out] at this
      clear hy ca0 hbp hep
      go_wp2_with (go_at_call 10; refine HPA.out.mono ?_; rintro e w5 ⟨rfl, h⟩; have H5 := Lib.hid h; clear h)
      have c5 := HCA.out _ H5.out.bw
      have r5 := H5.out.q.cells.1
      have hrl5 := H5.out.q.lt
      have hab5 : ab < w5.heap.size := Nat.lt_of_lt_of_le hab H5.out.bw.size
      have h4 : Below w5.heap.size w5 w5.drew := (Below.refl _ _).drew
      clear ca
      go_region_held3 (fun u => u.cell? ⟨ab, ao + k, none⟩ = some (.slice a.A a.l.length a.c) ∧ u.cell? ⟨rb, 0, none⟩ = some (.pointer (some ⟨tb, 0, none⟩)))
        (first | exact ⟨c5, r5⟩ | exact ⟨(keep h4 _ _ hab5).trans c5, (keep h4 _ _ hrl5).trans r5⟩ | exact ⟨c6, r6⟩)
        ((go_at_call 11; refine (HPB.out _ (H5.out.on h4)).mono ?_; rintro e w6 ⟨rfl, h⟩; have H6 := Lib.hid h; have c6 := HCA.out _ h.bw; have r6 := h.q.cells.1; clear h))
      all_goals
        obtain ⟨A8, c8, zs, hT8, t6, htl6⟩ := H6.out.q.t.row
        have hrl6 := H6.out.q.lt
        have hab6 : ab < w6.heap.size := Nat.lt_of_lt_of_le hab H6.out.bw.size
        have hNl2 := puts_len (upto n) ((xs.map Sl.l).take (k + 1))
        have hHl2 : ((xs.map Sl.l).take (k + 1)).length ≤ 60 := by rw [List.length_take, List.length_map]; omega
        have HLN : Hid (∀ W, Below w6.heap.size w6 W → Calls Tryz.prog 12 #[.pointer (some ⟨r, 0, none⟩)] W fun e w' => e = .returned (.int .i64 ((puts (upto n) ((xs.map Sl.l).take (k + 1))).length : Nat)) ∧ W = w') := Lib.hid fun W hW => relLen_any W (H6.out.on hW).s
        obtain ⟨bh, hbh⟩ : ∃ bh, hasB (upto n) a.l (puts (upto n) ((xs.map Sl.l).take (k + 1))) = bh := ⟨_, rfl⟩
        have HHA : Hid (∀ W, Below w6.heap.size w6 W → Calls Tryz.prog 13 #[.pointer (some ⟨r, 0, none⟩), .slice a.A a.l.length a.c] W fun e w' => e = .returned (.bool bh) ∧ Below W.heap.size W w') := Lib.hid fun W hW => by
          have := relHas_any a.A a.c a.l W (H6.out.on hW).s (RA.out.on (on H6.out.bw hW))
          rwa [hbh] at this
        have HHB : Hid (∀ W, Below w6.heap.size w6 W → Calls Tryz.prog 14 #[.pointer (some ⟨tb, 0, none⟩), .slice a.A a.l.length a.c] W fun e w' => e = .returned (.bool bh) ∧ Below W.heap.size W w') := Lib.hid fun W hW => by
          have := refHas_any a.A a.c a.l W (H6.out.on hW).q.t (RA.out.on (on H6.out.bw hW)) (by unfold maxLen; omega) (by omega)
          rwa [hbh] at this
        have HK6 := Lib.hid H6.out
        clear hbh hT8 hNl2 hHl2 hNl hHl HPA HPB H5 c5 r5
        generalize (puts (upto n) ((xs.map Sl.l).take (k + 1))).length = ml at HLN t6
        have hee : (ep != ep) = false := by simp
        have hll : ((ml : Int) != (ml : Int)) = false := by simp
        have h6 : Below w6.heap.size w6 w6.drew := (Below.refl _ _).drew
        cases bp <;> cases bh
        all_goals
          go_wp2_with fail
          go_region_held3 (fun u => Below w6.heap.size w6 u ∧ u.cell? ⟨ab, ao + k, none⟩ = some (.slice a.A a.l.length a.c) ∧ u.cell? ⟨rb, 0, none⟩ = some (.pointer (some ⟨tb, 0, none⟩)) ∧ u.cell? ⟨tb, 1, none⟩ = some (.slice A8 ml c8))
            (first | exact ⟨Below.refl _ _, c6, r6, t6⟩ | exact ⟨h6, (keep h6 _ _ hab6).trans c6, (keep h6 _ _ hrl6).trans r6, (keep h6 _ _ htl6).trans t6⟩)
            ((first
              | (go_at_call 12; refine (HLN.out _ h6).mono ?_; rintro e w7 ⟨rfl, rfl⟩)
              | (go_at_call 13; refine (HHA.out _ h6).mono ?_; rintro e w7 ⟨rfl, hb⟩; replace h6 := on h6 hb; clear hb)
              | (go_at_call 14; refine (HHB.out _ h6).mono ?_; rintro e w7 ⟨rfl, hb⟩; replace h6 := on h6 hb; clear hb)))
          all_goals
            go_wp2
            go_roundw
            case rel => exact ⟨k + 1, by go_num, by omega, HK6.out.on h6⟩
            case measure => simp [intOf]; omega
    · obtain rfl : k = xs.length := by omega
      rw [List.take_of_length_le (by simp)] at HD
      have hHl : (xs.map Sl.l).length ≤ 60 := by rw [List.length_map]; omega
      clear hlt hk HFL HNG HQG HFW R2
      generalize xs.map Sl.l = H at HD hHl
      have hQG : ∀ q ∈ qs, goodP n q.l = true := fun q hq => by
        have : q.l ∈ ps.map IS.l := by rw [← HQL.out]; exact List.mem_map_of_mem hq
        obtain ⟨p, hp, e⟩ := List.mem_map.1 this
        rw [← e]; exact HG.out p hp
      have hql : qs.length = ps.length := by have := congrArg List.length HQL.out; simpa using this
      obtain ⟨ku, hku⟩ := uses_some cols (ps.map IS.l)
      obtain ⟨A8, c8, zs, hT8, t1, htl⟩ := HD.out.q.t.row
      have r0 := HD.out.q.cells.1
      have hrl := HD.out.q.lt
      have HT8 := Lib.hid hT8
      have hpl := puts_len (upto n) H
      have hNl : ∀ x ∈ puts (upto n) H, x.length ≤ 1000 := fun x hx => by have := ((puts_mem (upto_perm n) H).1 hx).2; rw [upto_len] at this; omega
      have HUR : Hid (∀ W, Below wr.heap.size wr W → Calls Tryz.prog 20 #[.pointer (some ⟨r, 0, none⟩), .slice A3 cols.length c3] W fun e w' => e = .returned (.int .i64 ku) ∧ Below W.heap.size W w') := Lib.hid fun W hW => (relUses_any A3 c3 cols W (HD.out.on hW).s (R3.out.on (on HD.out.bw hW)) (by omega)).mono (by
        rintro e w' ⟨⟨k, rfl, hk⟩, hb⟩
        rw [uses_one hk hku]; exact ⟨rfl, hb⟩)
      have HUQ : Hid (∀ W, Below wr.heap.size wr W → Calls Tryz.prog 21 #[.pointer (some ⟨rb, 0, none⟩), .slice A3 cols.length c3] W fun e w' => e = .returned (.int .i64 ku) ∧ Below W.heap.size W w') := Lib.hid fun W hW => (refUses_any A3 c3 cols W (HD.out.on hW).q hQG (R3.out.on (on HD.out.bw hW)) (by omega) hcap (by omega) hn8).mono (by
        rintro e w' ⟨⟨k, rfl, hk⟩, hb⟩
        rw [HQL.out] at hk
        rw [uses_one hk hku]; exact ⟨rfl, hb⟩)
      have hoff : cols ≠ [] → ∀ b o, A3 = some ⟨b, o, none⟩ → ¬ ((b = g0 ∨ b ∈ gs) ∨ b = tb) := offI_old R3.out HD.out.x0
      have HFR : Hid (∀ W, Below wr.heap.size wr W → Calls Tryz.prog 18 #[.pointer (some ⟨r, 0, none⟩), .slice A3 cols.length c3, .slice A4 vals.length c4] W (FindQ (findL n cols vals H) W)) := Lib.hid fun W hW => xFind A3 A4 c3 c4 cols vals (HD.out.on hW).s (HD.out.on hW).x1 hn8 (by omega) (R3.out.on (on HD.out.bw hW)) hoff (R4.out.on (on HD.out.bw hW)) (by omega)
      have HFQ : Hid (∀ W, Below wr.heap.size wr W → Calls Tryz.prog 19 #[.pointer (some ⟨rb, 0, none⟩), .slice A3 cols.length c3, .slice A4 vals.length c4] W (FindQ (findL n cols vals H) W)) := Lib.hid fun W hW => refFindQ_any A3 A4 c3 c4 cols vals W (HD.out.on hW).q (R3.out.on (on HD.out.bw hW)) (by omega) hcap (R4.out.on (on HD.out.bw hW)) (by omega) (by omega) hNl
      have HAR : Hid (∀ W, Below wr.heap.size wr W → Calls Tryz.prog 15 #[.pointer (some ⟨r, 0, none⟩)] W fun e w' => e = .returned (.int .i64 (n : Nat)) ∧ W = w') := Lib.hid fun W hW => relArity_any W (HD.out.on hW).s
      have HAX : Hid (∀ W, Below wr.heap.size wr W → Calls Tryz.prog 17 #[.pointer (some ⟨r, 0, none⟩)] W (FindQ (puts (upto n) H) W)) := Lib.hid fun W hW => xAll (HD.out.on hW).s (HD.out.on hW).x1 hn8 (by omega)
      have HSM : Hid (∀ L : List (List V), L.length ≤ 60 → ∀ W B C d c ys zs, RdL W B ys → RdL W C zs → lsOf ys = L → lsOf zs = L → Calls Tryz.prog 16 #[.slice B L.length d, .slice C L.length c] W fun e w' => e = .returned (.bool true) ∧ Below W.heap.size W w') := Lib.hid fun L hL W B C d c ys zs h1 h2 h3 h4 => by
        have e1 : ys.length = L.length := by rw [← h3]; simp [lsOf]
        have e2 : zs.length = L.length := by rw [← h4]; simp [lsOf]
        have := same_yes B C d c ys zs W h1 h2 (by rw [e1]; unfold maxLen; omega) (h3.trans h4.symm)
        rwa [e1, e2] at this
      have hfl : (findL n cols vals H).length ≤ 60 := Nat.le_trans (Nat.le_trans (find_le cols vals) hpl) hHl
      have hpl2 : (puts (upto n) H).length ≤ 60 := Nat.le_trans hpl hHl
      clear hku hT8 hNl hoff hQG hql hpl
      generalize findL n cols vals H = F at HFR HFQ hfl
      generalize puts (upto n) H = M at HAX HT8 t1 hpl2 HD
      have hna : ((n : Int) == (n : Int)) = true := by simp
      have hkk : (ku == ku) = true := by simp
      have h4 : Below wr.heap.size wr wr.drew := (Below.refl _ _).drew
      go_wp2_with fail
      go_region_held3 (fun u => Below wr.heap.size wr u ∧ u.cell? ⟨rb, 0, none⟩ = some (.pointer (some ⟨tb, 0, none⟩)) ∧ u.cell? ⟨tb, 1, none⟩ = some (.slice A8 M.length c8))
        (first | exact ⟨Below.refl _ _, r0, t1⟩ | exact ⟨h4, (keep h4 _ _ hrl).trans r0, (keep h4 _ _ htl).trans t1⟩)
        ((first
          | (go_at_call 15; refine (HAR.out _ h4).mono ?_; rintro e w7 ⟨rfl, rfl⟩)
          | (go_at_call 17; refine (HAX.out _ h4).mono ?_; rintro e w9 ⟨B9, d9, ys9, rfl, hy9, hs9, hb⟩; have HY9 := Lib.hid hy9; have HS9 := Lib.hid hs9; replace h4 := on h4 hb; clear hy9 hs9 hb)
          | (go_at_call 16; first
            | ((with_reducible refine (HSM.out M hpl2 _ B9 A8 d9 c8 ys9 zs HY9.out (HT8.out.rd.on h4) HS9.out HT8.out.e).mono ?_); rintro e w10 ⟨rfl, hb⟩; replace h4 := on h4 hb; clear hb)
            | (refine (HSM.out F hfl _ B11 B12 d11 d12 ys11 ys12 HY11.out HY12.out HS11.out HS12.out).mono ?_; rintro e w13 ⟨rfl, hb⟩; replace h4 := on h4 hb; clear hb))
          | (go_at_call 18; refine (HFR.out _ h4).mono ?_; rintro e w11 ⟨B11, d11, ys11, rfl, hy11, hs11, hb⟩; have HY11' := Lib.hid hy11; have HS11 := Lib.hid hs11; replace h4 := on h4 hb; clear hy11 hs11 hb)
          | (go_at_call 19; refine (HFQ.out _ h4).mono ?_; rintro e w12 ⟨B12, d12, ys12, rfl, hy12, hs12, hb⟩; have HY11 := Lib.hid (HY11'.out.on hb); have HY12 := Lib.hid hy12; have HS12 := Lib.hid hs12; replace h4 := on h4 hb; clear hy12 hs12 hb)
          | (go_at_call 20; refine (HUR.out _ h4).mono ?_; rintro e w14 ⟨rfl, hb⟩; replace h4 := on h4 hb; clear hb)
          | (go_at_call 21; refine (HUQ.out _ h4).mono ?_; rintro e w15 ⟨rfl, hb⟩; replace h4 := on h4 hb; clear hb)))
      all_goals
        go_wp2
        go_ret
        exact ⟨rfl, on HD.out.bw h4⟩
theorem walk (a0 : Int) (A1 : Option Addr) (c1 : Nat) (ps : List IS) (A2 : Option Addr) (c2 : Nat) (xs : List Sl) (A3 : Option Addr) (c3 : Nat) (cols : List Int) (A4 : Option Addr) (c4 : Nat) (vals : List V) (w : World) (w0 : (Lit.int .i64 a0).wf = true) (r1 : RdP w A1 ps) (m1 : ps.length ≤ maxLen) (q1 : ∀ x ∈ ps, x.l.length ≤ x.c) (r2 : RdL w A2 xs) (m2 : xs.length ≤ maxLen) (q2 : xs.length ≤ c2) (k2 : ∀ x ∈ xs, x.l.length ≤ x.c) (r3 : RdI w A3 cols) (q3 : cols.length ≤ c3) (m3 : cols.length ≤ maxLen) (z3 : A3 = none → c3 = 0) (r4 : RdV w A4 vals) (k4 : OkL vals) (m4 : vals.length ≤ maxLen) :
    Calls Tryz.prog 3 #[.int .i64 a0, .slice A1 ps.length c1, .slice A2 xs.length c2, .slice A3 cols.length c3, .slice A4 vals.length c4] w fun e w' => e = .returned (.bool true) ∧ Below w.heap.size w w' := by
  cases hf : fewR (ps.map IS.l) (xs.map Sl.l)
  · exact walk_no a0 A1 A2 A3 A4 c1 c2 c3 c4 ps xs cols vals w r1 m1 r2 m2 (.inl hf)
  · by_cases h12 : cols.length ≤ 12
    · by_cases h13 : vals.length ≤ 12
      · by_cases hg : (0 ≤ a0 ∧ a0 ≤ 8) ∧ ∀ p ∈ ps, goodP a0.toNat p.l = true
        · obtain ⟨n, rfl⟩ := Int.eq_ofNat_of_zero_le hg.1.1
          exact walk_yes n A1 A2 A3 A4 c1 c2 c3 c4 ps xs cols vals w r1 m1 r2 m2 r3 r4 hf h12 h13 (by omega) q3 (by have := hg.2; rwa [Int.toNat_natCast] at this)
        · exact walk_bad a0 A1 A2 A3 A4 c1 c2 c3 c4 ps xs cols vals w r1 m1 r2 m2 hf h12 h13 hg
      · exact walk_no a0 A1 A2 A3 A4 c1 c2 c3 c4 ps xs cols vals w r1 m1 r2 m2 (.inr ⟨hf, .inr ⟨h12, by omega⟩⟩)
    · exact walk_no a0 A1 A2 A3 A4 c1 c2 c3 c4 ps xs cols vals w r1 m1 r2 m2 (.inr ⟨hf, .inl (by omega)⟩)

theorem own : ownKnob Tryz.prog.godebug = none := by kernel_rfl

set_option maxRecDepth 100000 in
theorem lifted (os : Os) (started : os.Started) (H : Type) (enc : TypeId × Value → H) :
    ReturnsInHanded {} Tryz.checked os 3 .any (Rows.relPlaysSpec.pre6 enc Tryz.prog Tryz.f3 Rows.relPlaysRow.domain false) (Rows.relPlaysSpec.post enc Tryz.prog Tryz.f3 false true false false) := by
  refine returnsInHanded_of_change (C := Tryz.checked) own started (by kernel_rfl) Tryz.func3
    (ChangeSpec.witness6 (enc := enc) (C := Tryz.checked) false ⟨#[], #[.int .i64 0, .slice none 0 0, .slice none 0 0, .slice none 0 0, .slice none 0 0], []⟩ 8 (by kernel_rfl) (by kernel_rfl) (by kernel_rfl) (by kernel_rfl)) ?_
  intro W base args ds gs before hval0 hW hcnd _
  have hval : ∀ (j : Nat) t v, Tryz.f3.params[j]? = some t → args[j]? = some v → Value.okWide Tryz.prog W .any base t v := hval0
  have hW' := hW
  obtain ⟨p, q, hA0, hV, rfl, hfz, hnd⟩ := hW
  have hA : DataW.TrodAll enc Tryz.prog W 0 (fun _ => true) true Tryz.f3.params.toList args.toList ds p := hA0
  have hAk := hA
  rw [Tryz.params3] at hA hval
  obtain ⟨v0, vs0, d0, ds0, p0, q0, hargs, rfl, rfl, h0, r0⟩ := trodAll_cons hA
  obtain ⟨v1, vs1, d1, ds1, p1, q1, rfl, rfl, rfl, h1, r1⟩ := trodAll_cons r0
  obtain ⟨v2, vs2, d2, ds2, p2, q2, rfl, rfl, rfl, h2, r2⟩ := trodAll_cons r1
  obtain ⟨v3, vs3, d3, ds3, p3, q3, rfl, rfl, rfl, h3, r3⟩ := trodAll_cons r2
  obtain ⟨v4, vs4, d4, ds4, p4, q4, rfl, rfl, rfl, h4, r4⟩ := trodAll_cons r3
  obtain ⟨rfl, rfl, rfl⟩ := trodAll_nil r4
  obtain rfl : args = #[v0, v1, v2, v3, v4] := by cases args; simp_all
  obtain ⟨rfl, rfl⟩ := trodVars_none hV
  obtain ⟨a0, rfl, rfl, rfl, w0⟩ := open_int Tryz.underlying3 (hval 0 3 v0 rfl rfl) h0
  obtain ⟨A1, c1, l1, rfl, r1', m1', q1'⟩ := open_perms (okWide_slice Tryz.underlying22 (hval 1 22 v1 rfl rfl)) h1
  obtain ⟨A2, c2, l2, rfl, r2', m2', q2', k2'⟩ := open_tupsC (okWide_slice Tryz.underlying23 (hval 2 23 v2 rfl rfl)) h2
  obtain ⟨A3, c3, l3, rfl, r3', q3', m3', z3'⟩ := open_nums (okWide_slice Tryz.underlying24 (hval 3 24 v3 rfl rfl)) h3
  obtain ⟨A4, c4, l4, rfl, r4', k4', m4'⟩ := open_vals (okWide_slice Tryz.underlying25 (hval 4 25 v4 rfl rfl)) h4
  clear hA0 hval0
  refine (walk a0 A1 c1 l1 A2 c2 l2 A3 c3 l3 A4 c4 l4 W w0 r1' m1' q1' r2' m2' q2' k2' r3' q3' m3' z3' r4' k4' m4').mono fun e W' ⟨he, hg⟩ => ?_
  subst he
  refine ⟨_, rfl, post_old hW' (by simpa using hAk) (by rw [Tryz.params3]; decide) (fun _ _ _ => (trodAll_cons_mk (shut_bool Tryz.underlying4 _) trodAll_mk0)) rfl (fun _ => rfl) hg⟩

theorem proved : Rows.RelPlaysSaid :=
  OpenClaim.holds_of_wide 3 Tryz.f3 rfl rfl rfl rfl rfl rfl rfl ⟨rfl, rfl, rfl, rfl, rfl⟩ rfl rfl rfl rfl rfl (by kernel_rfl) Tryz.func3 (by kernel_rfl)
    (of_decide_eq_true (by kernel_rfl)) (by unfold Func.isWrapper; first | (rw [if_pos (by decide +kernel)]; kernel_rfl) | (rw [if_neg (by decide +kernel)]; exact ⟨rfl, rfl⟩))
    (fun os started H enc _ => lifted os started H enc)
#print axioms proved
end Go.Proofs.YtpmkhpbhimmeiaaGreat.relPlays

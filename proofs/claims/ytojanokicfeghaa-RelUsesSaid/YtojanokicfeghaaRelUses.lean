/-
  RelUses (layer 5, rel): for every arity, perms and cols the call returns true: the index that is used begins with the columns, in some order; none that stands ahead of it does. No condition.
-/
import Derived.Test.YtojanokicfeghaaRows
import Derived.Test.YtojanokicfeghaaRelB
import Derived.Test.YtojanokicfeghaaRelB
import Derived.Test.YtojanokicfeghaaRelB
import Derived.WalkKit
import Derived.ProofKit
import Derived.OpenShut
namespace Go.Proofs.Ytojanokicfeghaa.relUses
open Go.ChangeShapes Go.WideShapes Go.ChangeAt Go.RowKit FloM ValM
set_option linter.unusedVariables false
set_option linter.unusedSimpArgs false
/-- Columns that an index begins with are columns, none twice. -/
theorem lead_dist {n : Nat} {cols p : List Int} (hp : goodP n p = true) (h : leadL cols p = cols.length) : distB n cols = true := by
  obtain ⟨h1, h2⟩ := goodP_iff.1 hp
  obtain ⟨q1, q2⟩ := perm_iff.1 h2
  have hl := lead_le cols p
  have hin := lead_all cols p cols.length (by omega)
  have hs := sub_full (p.take cols.length) cols (q2.sublist (List.take_sublist _ _)) hin (by rw [List.length_take]; omega)
  exact distB_iff.2 ⟨fun x hx => by rw [← h1]; exact q1 x (List.mem_of_mem_take (hs.2 x hx)), hs.1⟩
theorem lead_fits {n : Nat} {cols p : List Int} (hp : goodP n p = true) (hl : cols.length ≤ p.length) : leadL cols p = cols.length ↔ ∀ x ∈ p.take cols.length, x ∈ cols := by
  obtain ⟨h1, h2⟩ := goodP_iff.1 hp
  obtain ⟨q1, q2⟩ := perm_iff.1 h2
  constructor
  · intro h; exact lead_all cols p _ (by omega)
  · intro h
    refine lead_stop h hl (fun x hx hc => ?_)
    have hs := sub_full (p.take cols.length) cols (q2.sublist (List.take_sublist _ _)) h (by rw [List.length_take]; omega)
    have hm := hs.2 x hc
    rw [split_take hx, List.nodup_append] at q2
    exact q2.2.2 x hm x (List.mem_cons_self ..) rfl
theorem dist_len {n : Nat} {cols : List Int} (h : distB n cols = true) : cols.length ≤ n := by
  obtain ⟨h1, h2⟩ := distB_iff.1 h
  apply Nat.le_of_not_lt
  intro hlt
  have hs := sub_full (cols.take n) (upto n) (h2.sublist (List.take_sublist _ _)) (fun x hx => upto_mem.2 (h1 x (List.mem_of_mem_take hx))) (by rw [upto_len, List.length_take]; omega)
  have hx := List.getElem?_eq_getElem hlt
  have hm := hs.2 _ (upto_mem.2 (h1 _ (List.mem_of_getElem? hx)))
  rw [split_take hx, List.nodup_append] at h2
  exact h2.2.2 _ hm _ (List.mem_cons_self ..) rfl
theorem dist_snoc {n : Nat} {l : List Int} {x : Int} : distB n (l ++ [x]) = (distB n l && !decide (x ∈ l) && (decide (0 ≤ x) && decide (x < (n : Int)))) := by
  rw [Bool.eq_iff_iff, distB_iff, List.nodup_append]
  simp only [Bool.and_eq_true, distB_iff, Bool.not_eq_true', decide_eq_false_iff_not, decide_eq_true_eq]
  constructor
  · rintro ⟨h1, h2, _, h3⟩
    have hx := inR_iff.1 (h1 x (by simp))
    exact ⟨⟨⟨fun y hy => h1 y (by simp [hy]), h2⟩, fun hm => h3 x hm x (by simp) rfl⟩, hx.1, hx.2⟩
  · rintro ⟨⟨⟨h1, h2⟩, h3⟩, h4, h5⟩
    refine ⟨fun y hy => ?_, h2, by simp, fun a ha b hb e => ?_⟩
    · rw [List.mem_append, List.mem_singleton] at hy
      rcases hy with hy | rfl
      · exact h1 y hy
      · exact inR_iff.2 ⟨h4, h5⟩
    · rw [List.mem_singleton] at hb; subst hb; subst e; exact h3 ha
def SeenB (l : List Int) (x : Int) (j : Nat) : Bool := !decide (x ∈ l.take j)
theorem seen_snoc {l : List Int} {x y : Int} {j : Nat} (h : l[j]? = some y) : SeenB l x (j + 1) = (SeenB l x j && !decide (x = y)) := by
  unfold SeenB
  rw [take_snoc' h, Bool.eq_iff_iff]
  simp [List.mem_append]
set_option maxRecDepth 20000 in
set_option maxHeartbeats 4000000 in
theorem walk_no (a0 : Int) (A1 A2 : Option Addr) (c1 c2 : Nat) (ps : List IS) (cols : List Int) (w : World) (r1 : RdP w A1 ps) (m1 : ps.length ≤ maxLen)
    (h : fewR (ps.map IS.l) [] = false ∨ fewR (ps.map IS.l) [] = true ∧ 12 < cols.length) :
    Calls Try.prog 6 #[.int .u8 a0, .slice A1 ps.length c1, .slice A2 cols.length c2] w fun e w' => e = .returned (.bool true) ∧ Below w.heap.size w w' := by
  have hB := Below.refl w.heap.size w
  have R1 := Lib.hid r1; clear r1
  have HFW : Hid (∀ W, Below w.heap.size w W → Calls Try.prog 24 #[.slice A1 ps.length c1, .slice none 0 0] W fun e w' => e = .returned (.bool (fewR (ps.map IS.l) [])) ∧ W = w') := Lib.hid fun W hW => fewR_any A1 none c1 0 ps [] W (R1.out.on hW) RdL.nil m1 (by simp)
  rcases h with h | ⟨h, h8⟩
  · rw [h] at HFW
    clear h
    go_enter Try.func6, Try.ntmps6
    go_wp2_with (first
      | (go_at_call 23; refine (awakeR_any _).mono ?_; rintro e w1 ⟨rfl, h'⟩; replace hB := on hB h'; clear h')
      | (go_at_call 24; refine (HFW.out _ hB).mono ?_; rintro e w2 ⟨rfl, rfl⟩))
    go_ret
    exact ⟨rfl, hB⟩
  · rw [h] at HFW
    have h8' : 12 < (cols.length : Int) := by omega
    clear h
    go_enter Try.func6, Try.ntmps6
    go_wp2_with (first
      | (go_at_call 23; refine (awakeR_any _).mono ?_; rintro e w1 ⟨rfl, h'⟩; replace hB := on hB h'; clear h')
      | (go_at_call 24; refine (HFW.out _ hB).mono ?_; rintro e w2 ⟨rfl, rfl⟩))
    go_ret
    exact ⟨rfl, hB⟩
theorem uses_bad {n : Nat} {cols : List Int} {ps : List (List Int)} {k : Int} (hg : ∀ p ∈ ps, goodP n p = true) (hd : distB n cols = false) (h : UsesR cols ps k) : k = -1 := by
  rcases h with ⟨rfl, _⟩ | ⟨i, rfl, hi, ⟨p, hp, hl⟩, _⟩
  · rfl
  · have := lead_dist (hg p (List.mem_of_getElem? hp)) hl
    rw [hd] at this; cases this
theorem uses_at {cols : List Int} {ps : List (List Int)} {k : Int} {i : Nat} {p : List Int} (h : UsesR cols ps k) (hp : ps[i]? = some p) (hl : leadL cols p = cols.length) (hn : ∀ q ∈ ps.take i, leadL cols q ≠ cols.length) : k = (i : Int) :=
  uses_one h (.inr ⟨i, rfl, (List.getElem?_eq_some_iff.1 hp).1, ⟨p, hp, hl⟩, hn⟩)
theorem bel_drawN' {B : Nat} {w u : World} (h : Below B w u) (k : Nat) : Below B w (u.drewN k) := ⟨h.os, h.tape, h.output, h.size, h.block⟩
set_option maxRecDepth 20000 in
set_option maxHeartbeats 8000000 in
theorem walk_yes (a0 n : Nat) (A1 A2 : Option Addr) (c1 c2 : Nat) (ps : List IS) (cols : List Int) (w : World) (r1 : RdP w A1 ps) (m1 : ps.length ≤ maxLen) (q1 : ∀ x ∈ ps, x.l.length ≤ x.c) (r2 : RdI w A2 cols)
    (hf : fewR (ps.map IS.l) [] = true) (h12 : cols.length ≤ 12) (hn : a0 % 9 = n) (ha : a0 < 256) :
    Calls Try.prog 6 #[.int .u8 (a0 : Int), .slice A1 ps.length c1, .slice A2 cols.length c2] w fun e w' => e = .returned (.bool true) ∧ Below w.heap.size w w' := by
  have hB := Below.refl w.heap.size w
  have R1 := Lib.hid r1; have R2 := Lib.hid r2; have Q1 := Lib.hid q1; clear r1 r2 q1
  have hps := (fewR_yes hf).2.2.1
  rw [List.length_map] at hps
  have HFW : Hid (∀ W, Below w.heap.size w W → Calls Try.prog 24 #[.slice A1 ps.length c1, .slice none 0 0] W fun e w' => e = .returned (.bool true) ∧ W = w') := Lib.hid fun W hW => by
    have := fewR_any A1 none c1 0 ps [] W (R1.out.on hW) RdL.nil m1 (by simp)
    rw [List.map_nil, hf] at this; exact this
  have h12' : ¬ 12 < (cols.length : Int) := by omega
  have hn8 : n ≤ 8 := by omega
  have hrem : Int.tmod (a0 : Int) 9 = (n : Int) := by rw [Int.tmod_eq_emod_of_nonneg (by omega), ← hn]; rfl
  have HNW : Hid (∀ W, Below w.heap.size w W → Calls Try.prog 25 #[.int .i64 (n : Int), .slice A1 ps.length c1] W fun e w' =>
      ((∀ x ∈ ps, goodP n x.l = true) ∧ ∃ r g0 gs, e = .returned (.tuple #[.pointer (some ⟨r, 0, none⟩), .int .i64 0]) ∧ NewS W n (ps.map IS.l) r g0 gs w') ∨
      ((∃ x ∈ ps, goodP n x.l = false) ∧ e = .returned (.tuple #[.pointer none, .int .i64 1]) ∧ Below W.heap.size W w')) := Lib.hid fun W hW => relNew_any A1 c1 n ps W hn8 (R1.out.on hW) (by omega)
  clear hf
  by_cases hall : ∀ x ∈ ps, goodP n x.l = true
  · have HG := Lib.hid hall
    have HNG : Hid (∀ W, Below w.heap.size w W → Calls Try.prog 25 #[.int .i64 (n : Int), .slice A1 ps.length c1] W fun e w' => ∃ r g0 gs, e = .returned (.tuple #[.pointer (some ⟨r, 0, none⟩), .int .i64 0]) ∧ NewS W n (ps.map IS.l) r g0 gs w') := Lib.hid fun W hW => (HNW.out W hW).mono (by
      rintro e w' (⟨_, h⟩ | ⟨⟨x, hx, hg⟩, _⟩)
      · exact h
      · rw [HG.out x hx] at hg; cases hg)
    clear hall HNW
    go_enter Try.func6, Try.ntmps6
    go_wp2_with (first
      | (go_at_call 23; refine (awakeR_any _).mono ?_; rintro e w1 ⟨rfl, h'⟩; replace hB := on hB h'; clear h')
      | (go_at_call 24; refine (HFW.out _ hB).mono ?_; rintro e w2 ⟨rfl, rfl⟩)
      | (go_at_call 25; refine (HNG.out _ hB).mono ?_; rintro e w3 ⟨r, g0, gs, rfl, hs⟩; have hR := Lib.hid ((OneR.start hs).base hB); clear hs hB)
      | (go_at_call 31; refine (relUses_any A2 c2 cols _ hR.out.s (R2.out.on hR.out.b) (by omega)).mono ?_; rintro e w4 ⟨⟨k, rfl, hu⟩, hb⟩; have hR4 := Lib.hid (hR.out.on hb); have HU := Lib.hid hu; clear hb hu hR))
    have hBB := hR4.out.b
    have HPM : Hid (∀ p ∈ ps.map IS.l, goodP n p = true) := Lib.hid (fun p hp => by obtain ⟨x, hx, rfl⟩ := List.mem_map.1 hp; exact HG.out x hx)
    go_loopw [10, 50] (fun f v wr => ∃ i : Nat, v = .int .i64 (i : Nat) ∧ i ≤ cols.length ∧ f = .bool (distB n (cols.take i)) ∧ Below w.heap.size w wr) (fun _ v _ => cols.length - (intOf v).toNat)
    case atStart => exact ⟨0, rfl, Nat.zero_le _, rfl, hBB⟩
    case round =>
      clear hBB
      obtain ⟨i, rfl, hi, rfl, hBr⟩ := hrel
      by_cases hlt : i < cols.length
      · obtain ⟨cb, co, rfl, hcb, hrow⟩ := R2.out.row (by omega)
        have hx := List.getElem?_eq_getElem hlt
        generalize cols[i] = x at hx
        have HX := Lib.hid hx
        have HROW := Lib.hid hrow
        have hsn := dist_snoc (n := n) (l := cols.take i) (x := x)
        rw [← take_snoc' hx] at hsn
        have HSN := Lib.hid hsn
        have hwl := hBr.size
        generalize distB n (cols.take i) = b0 at HSN ⊢
        clear hx hrow hsn
        go_wp2
        go_loopw [10, 54] (fun f v wr => ∃ j : Nat, v = .int .i64 (j : Nat) ∧ j ≤ i ∧ f = .bool (b0 && SeenB cols x j) ∧ Below w.heap.size w wr) (fun _ v _ => i - (intOf v).toNat)
        case atStart => exact ⟨0, rfl, Nat.zero_le _, by simp [SeenB], hBr⟩
        case round =>
          clear hBr
          obtain ⟨j, rfl, hj, rfl, hBr⟩ := hrel
          by_cases hlj : j < i
          · have hjl : j < cols.length := by omega
            have hy := List.getElem?_eq_getElem hjl
            generalize cols[j] = y at hy
            have cx := (keep hBr _ _ hcb).trans (HROW.out i x HX.out)
            have cy := (keep hBr _ _ hcb).trans (HROW.out j y hy)
            have hq := seen_snoc (x := x) hy
            have HSQ := Lib.hid hq
            generalize SeenB cols x j = b1 at HSQ ⊢
            clear hq hy
            obtain ⟨f, hf⟩ : ∃ f, (b0 && b1) = f := ⟨_, rfl⟩
            have HFF := Lib.hid hf
            rw [hf]
            clear hf
            cases f with
            | true =>
              go_wp2_with fail
              go_region_held3 (fun u => u.cell? ⟨cb, co + i, none⟩ = some (.int .i64 x) ∧ u.cell? ⟨cb, co + j, none⟩ = some (.int .i64 y)) (exact ⟨cx, cy⟩) (fail)
              all_goals
                go_wp2
                go_roundw
                case rel =>
                  refine ⟨j + 1, by go_num, by omega, ?_, hBr.drew⟩
                  rw [HSQ.out, ← Bool.and_assoc, HFF.out, Bool.true_and]
                  cases hxy : decide (x = y) <;> simp at hxy <;> simp [hxy]
                case measure => simp [intOf]; omega
            | false =>
              go_wp2_with fail
              go_quiet (fail)
              all_goals
                go_wp2
                go_roundw
                case rel =>
                  refine ⟨j + 1, by go_num, by omega, ?_, by first | exact hBr.drew | exact bel_drawN' hBr _⟩
                  rw [HSQ.out, ← Bool.and_assoc, HFF.out, Bool.false_and]
                case measure => simp [intOf]; omega
          · obtain rfl : j = i := by omega
            have cx := (keep hBr _ _ hcb).trans (HROW.out j x HX.out)
            obtain ⟨f, hf⟩ : ∃ f, (b0 && SeenB cols x j) = f := ⟨_, rfl⟩
            have HFF := Lib.hid (show (b0 && !decide (x ∈ cols.take j)) = f from hf)
            rw [hf]
            clear hf
            have HDE : Hid (distB n (cols.take (j + 1)) = (f && (decide (0 ≤ x) && decide (x < (n : Int))))) := Lib.hid (by rw [HSN.out, HFF.out])
            cases f with
            | true =>
              go_wp2
              all_goals
                go_roundw
                case rel =>
                  refine ⟨j + 1, by go_num, by omega, ?_, hBr⟩
                  rw [HDE.out]
                  rename_i hx0
                  simp [hx0]
                case measure => simp [intOf]; omega
            | false =>
              go_wp2
              go_roundw
              case rel =>
                refine ⟨j + 1, by go_num, by omega, ?_, hBr⟩
                rw [HDE.out]; rfl
              case measure => simp [intOf]; omega
      · obtain rfl : i = cols.length := by omega
        rw [List.take_of_length_le (Nat.le_refl _)]
        cases hd : distB n cols with
        | false =>
          have hk1 := uses_bad HPM.out hd HU.out
          subst hk1
          clear hd
          go_wp2
          go_ret
          exact ⟨rfl, hBr⟩
        | true =>
          have hcn := dist_len hd
          clear hd
          go_wp2
          go_loopw [95] (fun v wr => ∃ i : Nat, v = .int .i64 (i : Nat) ∧ i ≤ ps.length ∧ Below w.heap.size w wr ∧ ∀ q ∈ (ps.map IS.l).take i, leadL cols q ≠ cols.length) (fun v _ => ps.length - (intOf v).toNat)
          case atStart => exact ⟨0, rfl, Nat.zero_le _, hBr, by simp⟩
          case round =>
            clear hBr
            obtain ⟨i, rfl, hi, hBr, hnone⟩ := hrel
            have HNN := Lib.hid hnone; clear hnone
            by_cases hlt : i < ps.length
            · obtain ⟨pb, po, rfl, hpb, hprow⟩ := R1.out.row (by omega)
              have hx := List.getElem?_eq_getElem hlt
              generalize ps[i] = x at hx
              have cx := (keep hBr _ _ hpb).trans (hprow i x hx)
              have hxm := List.mem_of_getElem? hx
              have hxg := goodP_iff.1 (HG.out x hxm)
              have hxc := Q1.out x hxm
              have hxl : x.l.length = n := hxg.1
              have RX := Lib.hid (R1.out.each x hxm).1
              have HXI := Lib.hid (show (ps.map IS.l)[i]? = some x.l by rw [List.getElem?_map, hx]; rfl)
              have HXG := Lib.hid (HG.out x hxm)
              have hs1 : (cols.length : Int) ≤ (x.c : Int) := by omega
              have hs2 : (0 : Int) ≤ (cols.length : Int) := by omega
              have hcl : cols.length ≤ x.l.length := by omega
              have HXL := Lib.hid hxl
              clear hprow hx hxm hxg hxl
              go_wp2
              go_loopw [14, 106] (fun f v wr => ∃ j : Nat, v = .int .i64 (j : Nat) ∧ j ≤ cols.length ∧ f = .bool ((x.l.take j).all fun y => decide (y ∈ cols)) ∧ Below w.heap.size w wr) (fun _ v _ => cols.length - (intOf v).toNat)
              case atStart => exact ⟨0, rfl, Nat.zero_le _, by simp, hBr⟩
              case round =>
                clear hBr
                obtain ⟨j, rfl, hj, rfl, hBr⟩ := hrel
                by_cases hlj : j < cols.length
                · obtain ⟨xb, xo, hxe, hxb, hxr⟩ := RX.out.row (by omega)
                  have hy := List.getElem?_eq_getElem (show j < x.l.length by omega)
                  generalize x.l[j] = y at hy
                  have cy := (keep hBr _ _ hxb).trans (hxr j y hy)
                  have HY := Lib.hid hy
                  have HE1 : Hid (((x.l.take (j + 1)).all fun y => decide (y ∈ cols)) = (((x.l.take j).all fun y => decide (y ∈ cols)) && decide (y ∈ cols))) := Lib.hid (by
                    rw [take_snoc' HY.out, List.all_append]; simp)
                  generalize ((x.l.take j).all fun y => decide (y ∈ cols)) = b0 at HE1 ⊢
                  rw [hxe]
                  clear hy hxr
                  go_wp2
                  go_loopw [17, 112] (fun f v wr => ∃ m : Nat, v = .int .i64 (m : Nat) ∧ m ≤ cols.length ∧ f = .bool (decide (y ∈ cols.take m)) ∧ Below w.heap.size w wr) (fun _ v _ => cols.length - (intOf v).toNat)
                  case atStart => exact ⟨0, rfl, Nat.zero_le _, by simp, hBr⟩
                  case round =>
                    clear hBr cy
                    obtain ⟨m, rfl, hm, rfl, hBr⟩ := hrel
                    by_cases hlm : m < cols.length
                    · obtain ⟨cb, co, rfl, hcb, hcrow⟩ := R2.out.row (by omega)
                      have hz := List.getElem?_eq_getElem hlm
                      generalize cols[m] = z at hz
                      have cz := (keep hBr _ _ hcb).trans (hcrow m z hz)
                      have HE2 : Hid (decide (y ∈ cols.take (m + 1)) = (decide (y ∈ cols.take m) || decide (y = z))) := Lib.hid (by
                        rw [take_snoc' hz, Bool.eq_iff_iff]
                        simp [List.mem_append])
                      generalize decide (y ∈ cols.take m) = b1 at HE2 ⊢
                      clear hcrow hz
                      cases b1 with
                      | true =>
                        go_wp2
                        go_roundw
                        case rel => exact ⟨m + 1, by go_num, by omega, by rw [HE2.out]; rfl, hBr⟩
                        case measure => simp [intOf]; omega
                      | false =>
                        go_wp2
                        go_roundw
                        case rel =>
                          refine ⟨m + 1, by go_num, by omega, ?_, hBr⟩
                          rw [HE2.out, Bool.false_or]
                          cases hyz : decide (y = z) <;> simp at hyz <;> simp [hyz]
                        case measure => simp [intOf]; omega
                    · obtain rfl : m = cols.length := by omega
                      rw [List.take_of_length_le (Nat.le_refl _)]
                      generalize decide (y ∈ cols) = b1 at HE1 ⊢
                      cases b0 with
                      | true =>
                        go_wp2
                        go_roundw
                        case rel => exact ⟨j + 1, by go_num, by omega, by rw [HE1.out]; simp, hBr⟩
                        case measure => simp [intOf]; omega
                      | false =>
                        go_wp2
                        go_roundw
                        case rel => exact ⟨j + 1, by go_num, by omega, by rw [HE1.out]; simp, hBr⟩
                        case measure => simp [intOf]; omega
                · obtain rfl : j = cols.length := by omega
                  have hft := lead_fits (cols := cols) HXG.out hcl
                  cases hb : ((x.l.take cols.length).all fun y => decide (y ∈ cols)) with
                  | true =>
                    have hk := uses_at HU.out HXI.out (hft.2 (fun z hz => by simpa using List.all_eq_true.1 hb z hz)) HNN.out
                    subst hk
                    clear hft hb
                    go_wp2
                    go_ret
                    exact ⟨rfl, hBr⟩
                  | false =>
                    have HNO : Hid (leadL cols x.l ≠ cols.length) := Lib.hid (fun h => by
                      rw [List.all_eq_true.2 (fun z hz => by simpa using hft.1 h z hz)] at hb; cases hb)
                    clear hft hb
                    go_wp2
                    go_roundw
                    case rel =>
                      refine ⟨i + 1, by go_num, by omega, hBr, fun q hq => ?_⟩
                      rw [take_snoc' HXI.out, List.mem_append, List.mem_singleton] at hq
                      rcases hq with hq | rfl
                      · exact HNN.out q hq
                      · exact HNO.out
                    case measure => simp [intOf]; omega
            · obtain rfl : i = ps.length := by omega
              have hk1 : k = -1 := by
                rcases HU.out with ⟨h, _⟩ | ⟨j, _, _, ⟨p, hp, hl⟩, _⟩
                · exact h
                · have := HNN.out
                  rw [List.take_of_length_le (by simp)] at this
                  exact absurd hl (this p (List.mem_of_getElem? hp))
              subst hk1
              go_wp2
              go_ret
              exact ⟨rfl, hBr⟩
  · have HBAD : Hid (∀ W, Below w.heap.size w W → Calls Try.prog 25 #[.int .i64 (n : Int), .slice A1 ps.length c1] W fun e w' => e = .returned (.tuple #[.pointer none, .int .i64 1]) ∧ Below W.heap.size W w') := Lib.hid fun W hW => (HNW.out W hW).mono (by
      rintro e w' (⟨h, _⟩ | ⟨_, h⟩)
      · exact absurd h hall
      · exact h)
    clear hall HNW
    go_enter Try.func6, Try.ntmps6
    go_wp2_with (first
      | (go_at_call 23; refine (awakeR_any _).mono ?_; rintro e w1 ⟨rfl, h'⟩; replace hB := on hB h'; clear h')
      | (go_at_call 24; refine (HFW.out _ hB).mono ?_; rintro e w2 ⟨rfl, rfl⟩)
      | (go_at_call 25; refine (HBAD.out _ hB).mono ?_; rintro e w3 ⟨rfl, hb⟩; replace hB := on hB hb; clear hb))
    go_ret
    exact ⟨rfl, hB⟩
theorem walk (a0 : Int) (A1 : Option Addr) (c1 : Nat) (ps : List IS) (A2 : Option Addr) (c2 : Nat) (cols : List Int) (w : World) (w0 : (Lit.int .u8 a0).wf = true) (r1 : RdP w A1 ps) (m1 : ps.length ≤ maxLen) (q1 : ∀ x ∈ ps, x.l.length ≤ x.c) (r2 : RdI w A2 cols) (q2 : cols.length ≤ c2) (m2 : cols.length ≤ maxLen) (z2 : A2 = none → c2 = 0) :
    Calls Try.prog 6 #[.int .u8 a0, .slice A1 ps.length c1, .slice A2 cols.length c2] w fun e w' => e = .returned (.bool true) ∧ Below w.heap.size w w' := by
  by_cases h : fewR (ps.map IS.l) [] = true ∧ cols.length ≤ 12
  · have h2 : 0 ≤ a0 ∧ a0 < 256 := by simp [Lit.wf, IntKind.min, IntKind.max, IntKind.bits, IntKind.signed] at w0; omega
    obtain ⟨k, rfl⟩ := Int.eq_ofNat_of_zero_le h2.1
    exact walk_yes k _ A1 A2 c1 c2 ps cols w r1 m1 q1 r2 h.1 h.2 rfl (by omega)
  · refine walk_no a0 A1 A2 c1 c2 ps cols w r1 m1 ?_
    cases hf : fewR (ps.map IS.l) [] <;> simp [hf] at h ⊢ <;> omega

theorem own : ownKnob Try.prog.godebug = none := by kernel_rfl

set_option maxRecDepth 100000 in
theorem lifted (os : Os) (started : os.Started) (H : Type) (enc : TypeId × Value → H) :
    ReturnsInHanded {} Try.checked os 6 .any (Rows.relUsesSpec.pre6 enc Try.prog Try.f6 Rows.relUsesRow.domain false) (Rows.relUsesSpec.post enc Try.prog Try.f6 false true false false) := by
  refine returnsInHanded_of_change (C := Try.checked) own started (by kernel_rfl) Try.func6
    (ChangeSpec.witness6 (enc := enc) (C := Try.checked) false ⟨#[], #[.int .u8 0, .slice none 0 0, .slice none 0 0], []⟩ 8 (by kernel_rfl) (by kernel_rfl) (by kernel_rfl) (by kernel_rfl)) ?_
  intro W base args ds gs before hval0 hW hcnd _
  have hval : ∀ (j : Nat) t v, Try.f6.params[j]? = some t → args[j]? = some v → Value.okWide Try.prog W .any base t v := hval0
  have hW' := hW
  obtain ⟨p, q, hA0, hV, rfl, hfz, hnd⟩ := hW
  have hA : DataW.TrodAll enc Try.prog W 0 (fun _ => true) true Try.f6.params.toList args.toList ds p := hA0
  have hAk := hA
  rw [Try.params6] at hA hval
  obtain ⟨v0, vs0, d0, ds0, p0, q0, hargs, rfl, rfl, h0, r0⟩ := trodAll_cons hA
  obtain ⟨v1, vs1, d1, ds1, p1, q1, rfl, rfl, rfl, h1, r1⟩ := trodAll_cons r0
  obtain ⟨v2, vs2, d2, ds2, p2, q2, rfl, rfl, rfl, h2, r2⟩ := trodAll_cons r1
  obtain ⟨rfl, rfl, rfl⟩ := trodAll_nil r2
  obtain rfl : args = #[v0, v1, v2] := by cases args; simp_all
  obtain ⟨rfl, rfl⟩ := trodVars_none hV
  obtain ⟨a0, rfl, rfl, rfl, w0⟩ := open_int Try.underlying5 (hval 0 5 v0 rfl rfl) h0
  obtain ⟨A1, c1, l1, rfl, r1', m1', q1'⟩ := open_perms (okWide_slice Try.underlying45 (hval 1 45 v1 rfl rfl)) h1
  obtain ⟨A2, c2, l2, rfl, r2', q2', m2', z2'⟩ := open_nums (okWide_slice Try.underlying28 (hval 2 28 v2 rfl rfl)) h2
  clear hA0 hval0
  refine (walk a0 A1 c1 l1 A2 c2 l2 W w0 r1' m1' q1' r2' q2' m2' z2').mono fun e W' ⟨he, hg⟩ => ?_
  subst he
  refine ⟨_, rfl, post_old hW' (by simpa using hAk) (by rw [Try.params6]; decide) (fun _ _ _ => (trodAll_cons_mk (shut_bool Try.underlying4 _) trodAll_mk0)) rfl (fun _ => rfl) hg⟩

theorem proved : Rows.RelUsesSaid :=
  OpenClaim.holds_of_wide 6 Try.f6 rfl rfl rfl rfl rfl rfl rfl ⟨rfl, rfl, rfl, rfl, rfl⟩ rfl rfl rfl rfl rfl (by kernel_rfl) Try.func6 (by kernel_rfl)
    (of_decide_eq_true (by kernel_rfl)) (by unfold Func.isWrapper; first | (rw [if_pos (by decide +kernel)]; kernel_rfl) | (rw [if_neg (by decide +kernel)]; exact ⟨rfl, rfl⟩))
    (fun os started H enc _ => lifted os started H enc)
#print axioms proved
end Go.Proofs.Ytojanokicfeghaa.relUses

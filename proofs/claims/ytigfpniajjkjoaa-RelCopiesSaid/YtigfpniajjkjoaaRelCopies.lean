/-
  RelCopies (layer 5, rel): for every perms, l, m and v the call returns true: a copy goes on by itself; what is put, and told, is memory of its own; of a nil relation there is nothing. No condition.
-/
import Derived.Test.YtigfpniajjkjoaaRows
import Derived.Test.YtigfpniajjkjoaaRelNew
import Derived.Test.YtigfpniajjkjoaaRelB
import Derived.Test.YtigfpniajjkjoaaRelB
import Derived.WalkKit
import Derived.ProofKit
import Derived.OpenShut
namespace Go.Proofs.Ytigfpniajjkjoaa.relCopies
open Go.ChangeShapes Go.WideShapes Go.ChangeAt Go.RowKit FloM ValM
set_option linter.unusedVariables false
set_option linter.unusedSimpArgs false
theorem lsOf_at {ys : List Sl} {k : Nat} {y : Sl} (h : ys[k]? = some y) : (lsOf ys)[k]? = some y.l := by simp [lsOf, h]
theorem bel_drawN' {B : Nat} {w u : World} (h : Below B w u) (k : Nat) : Below B w (u.drewN k) := ⟨h.os, h.tape, h.output, h.size, h.block⟩
/-- The world behind the box of v. -/
def boxV (w : World) (k3 n3 : Int) (s3 : ByteArray) : World := w.alloc (.cells #[.int .i64 k3, .int .i64 n3, .string s3] 25)
theorem boxV_b (w : World) (k3 n3 : Int) (s3 : ByteArray) : Below w.heap.size w (boxV w k3 n3 s3) := (Below.refl _ _).alloc (Nat.le_refl _) _
theorem boxV_s (w : World) (k3 n3 : Int) (s3 : ByteArray) : (boxV w k3 n3 s3).heap.size = w.heap.size + 1 := by simp [boxV]
theorem boxV_v (w : World) (k3 n3 : Int) (s3 : ByteArray) : (boxV w k3 n3 s3).cell? ⟨w.heap.size, 0, none⟩ = some (.int .i64 k3) ∧ (boxV w k3 n3 s3).cell? ⟨w.heap.size, 1, none⟩ = some (.int .i64 n3) ∧ (boxV w k3 n3 s3).cell? ⟨w.heap.size, 2, none⟩ = some (.string s3) := by
  have h := heap_alloc_new w (.cells #[.int .i64 k3, .int .i64 n3, .string s3] 25)
  refine ⟨?_, ?_, ?_⟩ <;> (unfold boxV World.cell?; simp only; rw [h]; rfl)
section
variable (A0 A1 A2 : Option Addr) (c0 c1 c2 : Nat) (ps : List IS) (xs ys : List Sl) (k3 n3 : Int) (s3 : ByteArray) (w : World)
set_option maxRecDepth 20000 in
set_option maxHeartbeats 8000000 in
theorem walk_no (r0 : RdP w A0 ps) (m0 : ps.length ≤ maxLen) (r1 : RdL w A1 xs) (m1 : xs.length ≤ maxLen) (r2 : RdL w A2 ys) (m2 : ys.length ≤ maxLen)
    (h : fewR (ps.map IS.l) (xs.map Sl.l) = false ∨ fewR (ps.map IS.l) (xs.map Sl.l) = true ∧ (fewR (ps.map IS.l) (ys.map Sl.l) = false ∨ fewR (ps.map IS.l) (ys.map Sl.l) = true ∧ xs = [])) :
    Calls Try.prog 3 #[.slice A0 ps.length c0, .slice A1 xs.length c1, .slice A2 ys.length c2, .agg #[.int .i64 k3, .int .i64 n3, .string s3]] w fun e w' => e = .returned (.bool true) ∧ Below w.heap.size w w' := by
  have hB0 := boxV_b w k3 n3 s3
  have R0 := Lib.hid (r0.on hB0); have R1 := Lib.hid (r1.on hB0); have R2 := Lib.hid (r2.on hB0); clear r0 r1 r2
  have HF1 : Hid (∀ W, Below (boxV w k3 n3 s3).heap.size (boxV w k3 n3 s3) W → Calls Try.prog 7 #[.slice A0 ps.length c0, .slice A1 xs.length c1] W fun e w' => e = .returned (.bool (fewR (ps.map IS.l) (xs.map Sl.l))) ∧ W = w') := Lib.hid fun W hW => fewR_any A0 A1 c0 c1 ps xs W (R0.out.on hW) (R1.out.on hW) m0 m1
  have HF2 : Hid (∀ W, Below (boxV w k3 n3 s3).heap.size (boxV w k3 n3 s3) W → Calls Try.prog 7 #[.slice A0 ps.length c0, .slice A2 ys.length c2] W fun e w' => e = .returned (.bool (fewR (ps.map IS.l) (ys.map Sl.l))) ∧ W = w') := Lib.hid fun W hW => fewR_any A0 A2 c0 c2 ps ys W (R0.out.on hW) (R2.out.on hW) m0 m2
  have hb1 := Below.refl (boxV w k3 n3 s3).heap.size (boxV w k3 n3 s3)
  rcases h with h | ⟨h, h2 | ⟨h2, h3⟩⟩
  · rw [h] at HF1
    clear h
    go_enter Try.func3, Try.ntmps3
    go_wp2_with (first
      | (go_at_call 6; refine (awakeR_any _).mono ?_; rintro e w1 ⟨rfl, h'⟩; replace hb1 : Below (boxV w k3 n3 s3).heap.size (boxV w k3 n3 s3) w1 := on hb1 h'; clear h')
      | (go_at_call 7; refine (HF1.out _ hb1).mono ?_; rintro e w2 ⟨rfl, rfl⟩))
    go_ret
    exact ⟨rfl, hB0.trans (hb1.mono hB0.size)⟩
  · rw [h] at HF1; rw [h2] at HF2
    clear h h2
    have HFF := HF1
    go_enter Try.func3, Try.ntmps3
    go_wp2_with (first
      | (go_at_call 6; refine (awakeR_any _).mono ?_; rintro e w1 ⟨rfl, h'⟩; replace hb1 : Below (boxV w k3 n3 s3).heap.size (boxV w k3 n3 s3) w1 := on hb1 h'; clear h')
      | (go_at_call 7; first
        | (refine (HFF.out _ hb1).mono ?_; rintro e w2 ⟨rfl, rfl⟩; clear HFF)
        | (refine (HF2.out _ hb1).mono ?_; rintro e w2 ⟨rfl, rfl⟩)))
    go_ret
    exact ⟨rfl, hB0.trans (hb1.mono hB0.size)⟩
  · subst h3
    rw [h] at HF1; rw [h2] at HF2
    simp only [List.length_nil] at HF1 ⊢
    clear h h2 m1
    have HFF := HF1
    go_enter Try.func3, Try.ntmps3
    go_wp2_with (first
      | (go_at_call 6; refine (awakeR_any _).mono ?_; rintro e w1 ⟨rfl, h'⟩; replace hb1 : Below (boxV w k3 n3 s3).heap.size (boxV w k3 n3 s3) w1 := on hb1 h'; clear h')
      | (go_at_call 7; first
        | (refine (HFF.out _ hb1).mono ?_; rintro e w2 ⟨rfl, rfl⟩; clear HFF)
        | (refine (HF2.out _ hb1).mono ?_; rintro e w2 ⟨rfl, rfl⟩)))
    go_ret
    exact ⟨rfl, hB0.trans (hb1.mono hB0.size)⟩
set_option maxRecDepth 20000 in
set_option maxHeartbeats 60000000 in
theorem walk_yes (x : Sl) (r0 : RdP w A0 ps) (m0 : ps.length ≤ maxLen) (r1 : RdL w A1 xs) (m1 : xs.length ≤ maxLen) (r2 : RdL w A2 ys) (m2 : ys.length ≤ maxLen)
    (hf1 : fewR (ps.map IS.l) (xs.map Sl.l) = true) (hf2 : fewR (ps.map IS.l) (ys.map Sl.l) = true) (hne : 0 < xs.length) (hx : xs[0]? = some x) :
    Calls Try.prog 3 #[.slice A0 ps.length c0, .slice A1 xs.length c1, .slice A2 ys.length c2, .agg #[.int .i64 k3, .int .i64 n3, .string s3]] w fun e w' => e = .returned (.bool true) ∧ Below w.heap.size w w' := by
  have hB0 := boxV_b w k3 n3 s3
  have hv := boxV_v w k3 n3 s3
  have hs := boxV_s w k3 n3 s3
  have R0 := Lib.hid (r0.on hB0); have R1 := Lib.hid (r1.on hB0); have R2 := Lib.hid (r2.on hB0); clear r0 r1 r2
  obtain ⟨_, f2, f3, f4⟩ := fewR_yes hf1
  obtain ⟨_, g2, _, g4⟩ := fewR_yes hf2
  rw [List.length_map] at f3 f4 g4
  have HFL := Lib.hid f2; have HGL := Lib.hid g2; clear f2 g2
  have HF1 : Hid (∀ W, Below (boxV w k3 n3 s3).heap.size (boxV w k3 n3 s3) W → Calls Try.prog 7 #[.slice A0 ps.length c0, .slice A1 xs.length c1] W fun e w' => e = .returned (.bool true) ∧ W = w') := Lib.hid fun W hW => by
    have := fewR_any A0 A1 c0 c1 ps xs W (R0.out.on hW) (R1.out.on hW) m0 m1
    rw [hf1] at this; exact this
  have HF2 : Hid (∀ W, Below (boxV w k3 n3 s3).heap.size (boxV w k3 n3 s3) W → Calls Try.prog 7 #[.slice A0 ps.length c0, .slice A2 ys.length c2] W fun e w' => e = .returned (.bool true) ∧ W = w') := Lib.hid fun W hW => by
    have := fewR_any A0 A2 c0 c2 ps ys W (R0.out.on hW) (R2.out.on hW) m0 m2
    rw [hf2] at this; exact this
  clear hf1 hf2
  have HFF := HF1
  have HV : Hid (∀ W, Below (boxV w k3 n3 s3).heap.size (boxV w k3 n3 s3) W → W.cell? ⟨w.heap.size, 0, none⟩ = some (.int .i64 k3) ∧ W.cell? ⟨w.heap.size, 1, none⟩ = some (.int .i64 n3) ∧ W.cell? ⟨w.heap.size, 2, none⟩ = some (.string s3)) := Lib.hid (fun W hb => ⟨(keep hb _ 0 (by omega)).trans hv.1, (keep hb _ 1 (by omega)).trans hv.2.1, (keep hb _ 2 (by omega)).trans hv.2.2⟩)
  clear hv
  have hne' : ((xs.length : Int) == 0) = false := by rw [beq_eq_false_iff_ne]; omega
  obtain ⟨ab, ao, rfl, hab, hrow⟩ : ∃ b o, A1 = some ⟨b, o, none⟩ ∧ b < (boxV w k3 n3 s3).heap.size ∧ ∀ j y, xs[j]? = some y → (boxV w k3 n3 s3).cell? ⟨b, o + j, none⟩ = some (.slice y.A y.l.length y.c) := by
    obtain ⟨b, o, rfl, hb, _⟩ := R1.out.at_ hx
    refine ⟨b, o, rfl, hb, fun j y hy => ?_⟩
    obtain ⟨b', o', e, _, hc⟩ := R1.out.at_ hy
    injection e with e; injection e with e1 e2 _; subst e1 e2; exact hc
  have HROW := Lib.hid hrow
  have hrow0 : (boxV w k3 n3 s3).cell? ⟨ab, ao, none⟩ = some (.slice x.A x.l.length x.c) := by have := hrow 0 x hx; simpa using this
  have HC0 : Hid (∀ W, Below (boxV w k3 n3 s3).heap.size (boxV w k3 n3 s3) W → W.cell? ⟨ab, ao, none⟩ = some (.slice x.A x.l.length x.c)) := Lib.hid fun W hW => (keep hW _ _ hab).trans hrow0
  have hx12 : x.l.length ≤ 12 := HFL.out _ (List.mem_map.2 ⟨x, List.mem_of_getElem? hx, rfl⟩)
  have hb1 := Below.refl (boxV w k3 n3 s3).heap.size (boxV w k3 n3 s3)
  have RX := Lib.hid (R1.out.each x (List.mem_of_getElem? hx)).1
  clear hrow hrow0 hx
  by_cases hall : x.l.length ≤ 8 ∧ ∀ p ∈ ps, goodP x.l.length p.l = true
  · obtain ⟨hn8, hall⟩ := hall
    have HG := Lib.hid hall
    have HNG : Hid (∀ W, Below (boxV w k3 n3 s3).heap.size (boxV w k3 n3 s3) W → Calls Try.prog 8 #[.int .i64 (x.l.length : Int), .slice A0 ps.length c0] W fun e w' => ∃ r g0 gs, e = .returned (.tuple #[.pointer (some ⟨r, 0, none⟩), .int .i64 0]) ∧ NewS W x.l.length (ps.map IS.l) r g0 gs w') := Lib.hid fun W hW => (relNew_any A0 c0 x.l.length ps W hn8 (R0.out.on hW) (by omega)).mono (by
      rintro e w' (⟨_, h⟩ | ⟨⟨x, hx, hg⟩, _⟩)
      · exact h
      · rw [HG.out x hx] at hg; cases hg)
    clear hall
    go_enter Try.func3, Try.ntmps3
    go_wp2_with (first
      | (go_at_call 6; refine (awakeR_any _).mono ?_; rintro e w1 ⟨rfl, h'⟩; replace hb1 : Below (boxV w k3 n3 s3).heap.size (boxV w k3 n3 s3) w1 := on hb1 h'; have cx := HC0.out _ hb1; clear h')
      | (go_at_call 7; first
        | (refine (HFF.out _ hb1).mono ?_; rintro e w2 ⟨rfl, rfl⟩; clear HFF)
        | (refine (HF2.out _ hb1).mono ?_; rintro e w2 ⟨rfl, rfl⟩))
      | (go_at_call 8; refine (HNG.out _ hb1).mono ?_; rintro e w3 ⟨r, g0, gs, rfl, hs⟩; have hR := Lib.hid ((OneR.start hs).base hb1); clear hs))
    clear cx hb1
    generalize hW0 : boxV w k3 n3 s3 = W0 at *
    go_loopw [59] (fun v wr => ∃ k : Nat, v = .int .i64 (k : Nat) ∧ k ≤ xs.length ∧ OneR W0 r x.l.length g0 gs (ps.map IS.l) ((xs.map Sl.l).take k) wr) (fun v _ => xs.length - (intOf v).toNat)
    case atStart => exact ⟨0, rfl, Nat.zero_le _, hR.out⟩
    case round =>
      clear hR
      obtain ⟨k, rfl, hk, hD⟩ := hrel
      have HD := Lib.hid hD; clear hD
      by_cases hlt : k < xs.length
      · have hy := List.getElem?_eq_getElem hlt
        generalize xs[k] = a at hy
        have ca : ∀ o : Obj, (wr.alloc o).cell? ⟨ab, ao + k, none⟩ = some (.slice a.A a.l.length a.c) := fun o => (keep (on HD.out.b ((Below.refl _ _).alloc (Nat.le_refl _) o)) _ _ hab).trans (HROW.out k a hy)
        have RA := Lib.hid (R1.out.each a (List.mem_of_getElem? hy))
        have HA := Lib.hid (show (xs.map Sl.l)[k]? = some a.l by rw [List.getElem?_map, hy]; rfl)
        have hl12 : a.l.length ≤ 12 := HFL.out _ (List.mem_of_getElem? HA.out)
        have HL1 : Hid (((xs.map Sl.l).take k).length < 100000) := Lib.hid (by rw [List.length_take, List.length_map]; omega)
        clear hy
        go_wp2_with (first
          | (at_builtin; refine wpList_appV rfl (.tmp 62) (.tmp 66) rfl wr.heap.size (some ⟨wr.heap.size, 0, none⟩) 0 [] a.l a.l rfl rfl (own_made0 wr) a.A a.c rfl (RA.out.1.on (on HD.out.b ((Below.refl _ _).alloc (Nat.le_refl _) _))) (by simp; omega) (by simp) ?_; intro Ag cg u1 o1 gr1; have b1 : Below wr.heap.size wr u1 := ((Below.refl wr.heap.size wr).alloc (Nat.le_refl _) (.cells #[] 25)).grown gr1 (by simp) (own_base (own_made0 wr)); have HG := Lib.hid (HD.out.given b1 (GivenAt.own o1 (Nat.le_refl _) (Nat.le_refl _))); have RG := Lib.hid (own_rdV o1); clear o1 gr1 b1)
          | (go_at_call 9; refine (relPutS_any Ag cg a.l u1 HG.out.s RG.out (fun hne ad ha hx => by
              rcases HG.out.giv with e | ⟨g, e, h1, _⟩
              · exact hne (List.length_eq_zero_iff.1 e)
              · rw [ha] at e; cases e
                have := HG.out.xl _ hx
                simp only at this; omega) HG.out.x HL1.out).mono ?_; rintro e w5 ⟨rfl, ht, hF⟩; have HG2 := Lib.hid (HG.out.put ht hF); clear ht hF))
        clear HD HG RG
        generalize wr.heap.size = lo at HG2
        generalize u1.heap.size = hi at HG2
        go_loopw [73] (fun v wr2 => ∃ (j : Nat), v = .int .i64 (j : Nat) ∧ j ≤ a.l.length ∧ RelO W0 r x.l.length g0 gs (ps.map IS.l) ((xs.map Sl.l).take k ++ [a.l]) Ag a.l.length lo hi wr2) (fun v _ => a.l.length - (intOf v).toNat)
        case atStart => exact ⟨0, rfl, Nat.zero_le _, HG2.out⟩
        case round =>
          obtain ⟨j, rfl, hj, hI⟩ := hrel
          clear HG2
          have HI := Lib.hid hI; clear hI
          by_cases hlj : j < a.l.length
          · obtain ⟨gb, rfl, hg1, hg2, m, f, hm, hrow⟩ : ∃ gb, Ag = some ⟨gb, 0, none⟩ ∧ lo ≤ gb ∧ gb < hi ∧ ∃ m f, a.l.length * 3 ≤ m ∧ wr.rowIs gb 25 m f := by
              rcases HI.out.giv with h | h
              · omega
              · exact h
            obtain ⟨x0, x1, x2⟩ := HV.out _ HI.out.b
            have y0 := hrow.cell (i := j * 3) (by omega)
            have y1 := hrow.cell (i := j * 3 + 1) (by omega)
            have y2 := hrow.cell (i := j * 3 + 2) (by omega)
            have z0 := hrow.frozen (j * 3)
            have z1 := hrow.frozen (j * 3 + 1)
            have z2 := hrow.frozen (j * 3 + 2)
            have HRW := Lib.hid hrow; clear hrow
            go_wp2
            refine ⟨⟨j + 1, by go_num, by omega, ?_⟩, by simp [intOf]; omega⟩
            refine RelO.set (RelO.set (RelO.set HI.out hg1 hg2 _ _ (.inr ⟨gb, rfl, hg1, hg2, m, _, hm, HRW.out.set (j * 3) _⟩)) hg1 hg2 _ _ (.inr ⟨gb, rfl, hg1, hg2, m, _, hm, (HRW.out.set (j * 3) _).set (j * 3 + 1) _⟩)) hg1 hg2 _ _ (.inr ⟨gb, rfl, hg1, hg2, m, _, hm, ((HRW.out.set (j * 3) _).set (j * 3 + 1) _).set (j * 3 + 2) _⟩)
          · go_wp2
            go_roundw
            case rel => exact ⟨k + 1, by go_num, by omega, by rw [take_snoc' HA.out]; exact HI.out.back⟩
            case measure => simp [intOf]; omega
      · obtain rfl : k = xs.length := by omega
        rw [List.take_of_length_le (by simp)] at HD
        have hHl : (xs.map Sl.l).length ≤ 60 := by rw [List.length_map]; omega
        have HMH : Hid (∀ a ∈ xs, a.l ∈ xs.map Sl.l) := Lib.hid fun a ha => List.mem_map_of_mem ha
        clear hlt hk HFL HF1 HF2 HNG HG R0 m0 f3
        generalize xs.map Sl.l = H at HD hHl HMH
        obtain ⟨n, hn⟩ : ∃ n, x.l.length = n := ⟨_, rfl⟩
        have HHM : Hid (∀ a ∈ H, a.length = n → ∀ K, hasB (upto n) a (puts (upto n) (H ++ K)) = true) := Lib.hid fun a ha hl K => (hasB_iff (upto_perm _) (puts_fit _ _)).2 ((puts_mem (upto_perm _) _).2 ⟨List.mem_append_left _ ha, by rw [upto_len]; exact hl⟩)
        rw [hn] at HD hn8 HC0
        have HNX := Lib.hid hn
        clear hn hx12
        have hpl : (puts (upto n) H).length ≤ 60 := Nat.le_trans (puts_len _ _) hHl
        have HSM : Hid (∀ L : List (List V), L.length ≤ 60 → ∀ W B C d c ys zs, RdL W B ys → RdL W C zs → lsOf ys = L → lsOf zs = L → Calls Try.prog 12 #[.slice B L.length d, .slice C L.length c] W fun e w' => e = .returned (.bool true) ∧ Below W.heap.size W w') := Lib.hid fun L hL W B C d c ys zs h1 h2 h3 h4 => by
          have e1 : ys.length = L.length := by rw [← h3]; simp [lsOf]
          have e2 : zs.length = L.length := by rw [← h4]; simp [lsOf]
          have := same_yes B C d c ys zs W h1 h2 (by rw [e1]; unfold maxLen; omega) (h3.trans h4.symm)
          rwa [e1, e2] at this
        have HSMX : Hid (∀ x ∈ puts (upto n) H, x.length ≤ 1000) := Lib.hid fun y hy => by
          have := ((puts_mem (upto_perm n) H).1 hy).2
          rw [upto_len] at this; omega
        have hal := oneAll HD.out hn8 (by omega)
        obtain ⟨L, hL⟩ : ∃ L, puts (upto n) H = L := ⟨_, rfl⟩
        rw [hL] at hpl hal
        have HAL := Lib.hid hal
        have HLE := Lib.hid hL
        clear hL hal
        go_wp2_with (first
          | (go_at_call 10; refine HAL.out.mono ?_; rintro e w6 ⟨B6, d6, zs6, rfl, hy, hsL, hb⟩; have HD6 := Lib.hid (HD.out.on hb); have HY6 := Lib.hid hy; have HE6 := Lib.hid hsL; clear hb hy hsL)
          | (go_at_call 11; refine (relCopy_any _ HD6.out.s HD6.out.x1 (by omega)).mono ?_; rintro e w7 ⟨r', g0', gs', rfl, N⟩; have HT := Lib.hid (TwoR.start HD6.out N); have HXC := Lib.hid N.x0; have HB7 := Lib.hid N.b; clear N))
        clear HD HD6 HAL
        obtain ⟨P, hP⟩ : ∃ P, ps.map IS.l = P := ⟨_, rfl⟩
        rw [hP] at HT
        clear hP
        go_loopw [88] (fun v wr => ∃ k : Nat, v = .int .i64 (k : Nat) ∧ k ≤ ys.length ∧ TwoR W0 n ⟨r, g0, gs, P⟩ ⟨r', g0', gs', P⟩ H (H ++ (ys.map Sl.l).take k) wr ∧ Below w6.heap.size w6 wr) (fun v _ => ys.length - (intOf v).toNat)
        case atStart => exact ⟨0, rfl, Nat.zero_le _, by rw [List.take_zero, List.append_nil]; exact HT.out, HB7.out⟩
        case round =>
          clear HT HB7
          obtain ⟨k, rfl, hk, hD, hB6⟩ := hrel
          have HD := Lib.hid hD; have HB6 := Lib.hid hB6; clear hD hB6
          by_cases hlt : k < ys.length
          · have hy := List.getElem?_eq_getElem hlt
            generalize ys[k] = a at hy
            obtain ⟨mb, mo, rfl, hmb, hmc⟩ := R2.out.at_ hy
            have ca := (keep HD.out.bw _ _ hmb).trans hmc
            have RA := Lib.hid (R2.out.each a (List.mem_of_getElem? hy)).1
            have HA := Lib.hid (show (ys.map Sl.l)[k]? = some a.l by rw [List.getElem?_map, hy]; rfl)
            have HPT := Lib.hid (HD.out.put (ca := a.c) RA.out (by rw [List.length_append, List.length_take, List.length_map]; omega))
            clear hy hmc
            go_wp2_with (go_at_call 9; refine HPT.out.mono ?_; rintro e w8 ⟨rfl, h, hF⟩; have HD2 := Lib.hid h; have HF2 := Lib.hid hF; clear h hF)
            go_roundw
            case rel => exact ⟨k + 1, by go_num, by omega, by rw [take_snoc' HA.out, ← List.append_assoc]; exact HD2.out, HB6.out.trans (HF2.out.below HB6.out.size fun i hi hx => by have := HXC.out i hx; omega)⟩
            case measure => simp [intOf]; omega
          · obtain rfl : k = ys.length := by omega
            rw [List.take_of_length_le (by simp)] at HD
            obtain ⟨W3, rfl⟩ : ∃ W3, W3 = wr := ⟨_, rfl⟩
            have hKl : (ys.map Sl.l).length ≤ 60 := by rw [List.length_map]; omega
            generalize ys.map Sl.l = K at HD hKl
            have hge : ((puts (upto n) H).length : Int) ≤ ((puts (upto n) (H ++ K)).length : Int) := by have := puts_ge (p := upto n) K H; omega
            have HLA : Hid (∀ W, TwoR W0 n ⟨r, g0, gs, P⟩ ⟨r', g0', gs', P⟩ H (H ++ K) W → Calls Try.prog 13 #[.pointer (some ⟨r, 0, none⟩)] W fun e w' => e = .returned (.int .i64 ((puts (upto n) H).length : Nat)) ∧ W = w') := Lib.hid fun W hW => relLen_any W hW.sa
            have HLC : Hid (∀ W, TwoR W0 n ⟨r, g0, gs, P⟩ ⟨r', g0', gs', P⟩ H (H ++ K) W → Calls Try.prog 13 #[.pointer (some ⟨r', 0, none⟩)] W fun e w' => e = .returned (.int .i64 ((puts (upto n) (H ++ K)).length : Nat)) ∧ W = w') := Lib.hid fun W hW => relLen_any W hW.sc
            have HRA : Hid (∀ W, TwoR W0 n ⟨r, g0, gs, P⟩ ⟨r', g0', gs', P⟩ H (H ++ K) W → Calls Try.prog 14 #[.pointer (some ⟨r, 0, none⟩)] W fun e w' => e = .returned (.int .i64 (n : Nat)) ∧ W = w') := Lib.hid fun W hW => relArity_any W hW.sa
            have HRC : Hid (∀ W, TwoR W0 n ⟨r, g0, gs, P⟩ ⟨r', g0', gs', P⟩ H (H ++ K) W → Calls Try.prog 14 #[.pointer (some ⟨r', 0, none⟩)] W fun e w' => e = .returned (.int .i64 (n : Nat)) ∧ W = w') := Lib.hid fun W hW => relArity_any W hW.sc
            have HAN := Lib.hid (relAllN_any _ HD.out.sa HD.out.x1 (by rw [HLE.out]; omega) HSMX.out)
            rw [HLE.out] at HLA HAN hge HSMX
            have hgd : decide ((puts (upto n) (H ++ K)).length < L.length) = false := decide_eq_false (by omega)
            go_wp2_with (first
              | (go_at_call 10; refine HAN.out.mono ?_; rintro e w9 ⟨A9, c9, zs, rfl, hs⟩; have HS := Lib.hid hs; have HD9 := Lib.hid (HD.out.on hs.b); have HSB := Lib.hid hs.b; have HY9 := Lib.hid (HY6.out.on (on HB6.out hs.b)); clear hs)
              | (go_at_call 12; refine (HSM.out L hpl _ B6 A9 d6 c9 zs6 zs HY9.out HS.out.rdl HE6.out HS.out.vals).mono ?_; rintro e w10 ⟨rfl, hb⟩; have HD10 := Lib.hid (HD9.out.on hb); have HW10 := Lib.hid (HS.out.wr.on hb); clear hb)
              | (go_at_call 13; first
                | ((with_reducible refine (HLC.out _ HD10.out).mono ?_); rintro e w11 ⟨rfl, rfl⟩)
                | (refine (HLA.out _ HD10.out).mono ?_; rintro e w11 ⟨rfl, rfl⟩))
              | (go_at_call 14; first
                | ((with_reducible refine (HRC.out _ HD10.out).mono ?_); rintro e w11 ⟨rfl, rfl⟩)
                | (refine (HRA.out _ HD10.out).mono ?_; rintro e w11 ⟨rfl, rfl⟩)))
            have hzl : zs.length = L.length := by rw [← HS.out.vals]; simp [lsOf]
            have HZL := Lib.hid hzl
            have HZB : Hid (∀ z ∈ zs, z.l.length ≤ 1000) := Lib.hid fun z hz => HSMX.out z.l (by rw [← HS.out.vals]; exact List.mem_map_of_mem hz)
            clear HLA HLC HRA HRC HAN HD10 hge hzl HS HY9
            go_loopw [120] (fun v wr2 => ∃ i : Nat, v = .int .i64 (i : Nat) ∧ i ≤ L.length ∧ WrN W3 A9 zs wr2) (fun v _ => L.length - (intOf v).toNat)
            case atStart => exact ⟨0, rfl, Nat.zero_le _, HW10.out⟩
            case round =>
              clear HW10
              obtain ⟨i, rfl, hi, hW⟩ := hrel
              have HW := Lib.hid hW; clear hW
              by_cases hli : i < L.length
              · obtain ⟨z, hz⟩ : ∃ z, zs[i]? = some z := ⟨_, List.getElem?_eq_getElem (show i < zs.length by rw [HZL.out]; exact hli)⟩
                obtain ⟨ob, oo, rfl, hob, cz⟩ := HW.out.rd i z.val (by rw [List.getElem?_map, hz]; rfl)
                have hz8 := HZB.out z (List.mem_of_getElem? hz)
                have HZ := Lib.hid hz
                unfold Sl.val at cz
                clear hz
                go_wp2
                go_loopw [128] (fun v wr3 => ∃ j : Nat, v = .int .i64 (j : Nat) ∧ j ≤ z.l.length ∧ WrN W3 (some ⟨ob, oo, none⟩) zs wr3) (fun v _ => z.l.length - (intOf v).toNat)
                case atStart => exact ⟨0, rfl, Nat.zero_le _, HW.out⟩
                case round =>
                  clear HW cz
                  obtain ⟨j, rfl, hj, hW⟩ := hrel
                  have HW := Lib.hid hW; clear hW
                  by_cases hlj : j < z.l.length
                  · obtain ⟨gb, hzA, hg1, hg2, m, f, hm, hrow⟩ := HW.out.at_ HZ.out hlj
                    obtain ⟨ob', oo', e', hob', cz⟩ := HW.out.rd i z.val (by rw [List.getElem?_map, HZ.out]; rfl)
                    injection e' with e'; injection e' with e1 e2 _; subst e1 e2
                    unfold Sl.val at cz
                    rw [hzA] at cz
                    have HZA := Lib.hid hzA
                    obtain ⟨x0, x1, x2⟩ := HV.out _ (on HD.out.bw HW.out.b)
                    have y0 := hrow.cell (i := j * 3) (by omega)
                    have y1 := hrow.cell (i := j * 3 + 1) (by omega)
                    have y2 := hrow.cell (i := j * 3 + 2) (by omega)
                    have z0 := hrow.frozen (j * 3)
                    have z1 := hrow.frozen (j * 3 + 1)
                    have z2 := hrow.frozen (j * 3 + 2)
                    clear hrow hzA
                    go_wp2_with fail
                    go_region
                    have hW3 := WrN.set (v := .string s3) (o := j * 3 + 2) (WrN.set (v := .int .i64 n3) (o := j * 3 + 1) (WrN.set (v := .int .i64 k3) (o := j * 3) HW.out (List.mem_of_getElem? HZ.out) HZA.out (by omega)) (List.mem_of_getElem? HZ.out) HZA.out (by omega)) (List.mem_of_getElem? HZ.out) HZA.out (by omega)
                    have HW3 := Lib.hid (hW3.on (Below.refl _ _).drew)
                    clear hW3
                    all_goals
                      go_wp2
                      first
                        | exact ⟨⟨j + 1, by go_num, by omega, HW3.out⟩, by simp [intOf]; omega⟩
                        | exact ⟨⟨_, _, _, _, _, _, _, _, _, _, _, _, ⟨j + 1, by go_num, by omega, HW3.out⟩, rfl⟩, by simp [intOf]; omega⟩
                  · go_wp2
                    go_roundw
                    case rel => exact ⟨i + 1, by go_num, by omega, HW.out⟩
                    case measure => simp [intOf]; omega
              · obtain rfl : i = L.length := by omega
                have HT := Lib.hid (HD.out.on HW.out.b)
                have HBW := Lib.hid (on HB6.out HW.out.b)
                clear HW HB6 HSB HD
                obtain ⟨W4, rfl⟩ : ∃ W4, W4 = wr := ⟨_, rfl⟩
                go_wp2
                go_loopw [142] (fun v wr4 => ∃ i : Nat, v = .int .i64 (i : Nat) ∧ i ≤ xs.length ∧ Below W4.heap.size W4 wr4) (fun v _ => xs.length - (intOf v).toNat)
                case atStart => exact ⟨0, rfl, Nat.zero_le _, Below.refl _ _⟩
                case round =>
                  obtain ⟨k, rfl, hk, hB⟩ := hrel
                  have HTK := Lib.hid (HT.out.on hB)
                  have cx := HC0.out wr HTK.out.bw
                  by_cases hlt : k < xs.length
                  · obtain ⟨a, hy⟩ : ∃ a, xs[k]? = some a := ⟨_, List.getElem?_eq_getElem hlt⟩
                    have ca := (keep HTK.out.bw _ _ hab).trans (HROW.out k a hy)
                    have RA := Lib.hid (R1.out.each a (List.mem_of_getElem? hy)).1
                    have HM := Lib.hid (HMH.out a (List.mem_of_getElem? hy))
                    have hab2 : ab < wr.heap.size := Nat.lt_of_lt_of_le hab HTK.out.bw.size
                    have h4 : Below wr.heap.size wr wr.drew := (Below.refl _ _).drew
                    clear hy
                    by_cases hl : a.l.length = n
                    · have hlb : ((a.l.length : Int) == (n : Int)) = true := by rw [hl]; simp
                      have HH1 : Hid (∀ W, Below wr.heap.size wr W → Calls Try.prog 15 #[.pointer (some ⟨r, 0, none⟩), .slice a.A a.l.length a.c] W fun e w' => e = .returned (.bool true) ∧ Below W.heap.size W w') := Lib.hid fun W hW => by
                        have h1 := (HTK.out.on hW).has (ca := a.c) RA.out
                        have h2 := HHM.out a.l HM.out hl []
                        rw [List.append_nil] at h2
                        rwa [h2] at h1
                      have HH2 : Hid (∀ W, Below wr.heap.size wr W → Calls Try.prog 15 #[.pointer (some ⟨r', 0, none⟩), .slice a.A a.l.length a.c] W fun e w' => e = .returned (.bool true) ∧ Below W.heap.size W w') := Lib.hid fun W hW => by
                        have h1 := (HTK.out.on hW).hasc (ca := a.c) RA.out
                        rwa [HHM.out a.l HM.out hl K] at h1
                      clear hl
                      go_wp2_with fail
                      go_region_held3 (fun u => Below wr.heap.size wr u ∧ u.cell? ⟨ab, ao + k, none⟩ = some (.slice a.A a.l.length a.c) ∧ u.cell? ⟨ab, ao, none⟩ = some (.slice x.A n x.c))
                        (first | exact ⟨Below.refl _ _, ca, cx⟩ | exact ⟨h4, (keep h4 _ _ hab2).trans ca, (keep h4 _ _ hab2).trans cx⟩)
                        ((go_at_call 15; first
                          | ((with_reducible refine (HH1.out _ h4).mono ?_); rintro e w9 ⟨rfl, hb⟩; replace h4 := on h4 hb; clear hb)
                          | (refine (HH2.out _ h4).mono ?_; rintro e w9 ⟨rfl, hb⟩; replace h4 := on h4 hb; clear hb)))
                      all_goals
                        go_wp2
                        go_roundw
                        case rel => exact ⟨k + 1, by go_num, by omega, on hB h4⟩
                        case measure => simp [intOf]; omega
                    · have hlb : ((a.l.length : Int) == (n : Int)) = false := by rw [beq_eq_false_iff_ne]; omega
                      clear hl
                      go_wp2_with fail
                      go_quiet (fail)
                      all_goals
                        go_wp2
                        go_roundw
                        case rel => exact ⟨k + 1, by go_num, by omega, bel_drawN' hB _⟩
                        case measure => simp [intOf]; omega
                  · obtain rfl : k = xs.length := by omega
                    have HAX := Lib.hid (xAll (n := n) HTK.out.sa HTK.out.x1 hn8 (by omega))
                    have RXW := Lib.hid RX.out
                    rw [HLE.out] at HAX
                    have hBW2 := on HBW.out hB
                    have HBW2 := Lib.hid hBW2
                    have HY7 := Lib.hid (HY6.out.on hBW2)
                    clear hBW2
                    go_wp2_with (first
                      | (go_at_call 9; refine (relPut_nil _ _).mono ?_; rintro e w20 ⟨rfl, rfl⟩)
                      | (go_at_call 10; first
                        | ((with_reducible refine HAX.out.mono ?_); rintro e w21 ⟨B21, d21, zs21, rfl, hy, hsL, hb⟩; have HT21 := Lib.hid (HTK.out.on hb); have HY21 := Lib.hid hy; have HE21 := Lib.hid hsL; have HY22 := Lib.hid (HY7.out.on hb); clear hy hsL hb)
                        | (refine (relAll_nil _).mono ?_; rintro e w20 ⟨rfl, rfl⟩))
                      | (go_at_call 12; refine (HSM.out L hpl _ B21 B6 d21 d6 zs21 zs6 HY21.out HY22.out HE21.out HE6.out).mono ?_; rintro e w22 ⟨rfl, hb⟩; have HT22 := Lib.hid (HT21.out.on hb); have cx22 := HC0.out w22 HT22.out.bw; clear hb)
                      | (go_at_call 15; refine (relHas_nil _ _).mono ?_; rintro e w20 ⟨rfl, rfl⟩)
                      | (go_at_call 13; refine (relLen_nil _).mono ?_; rintro e w20 ⟨rfl, rfl⟩)
                      | (go_at_call 14; refine (relArity_nil _).mono ?_; rintro e w20 ⟨rfl, rfl⟩)
                      | (go_at_call 16; refine (relUses_nil none 0 0 _).mono ?_; rintro e w23 ⟨rfl, hb⟩; have HT23 := Lib.hid (HT22.out.on hb); clear hb)
                      | (go_at_call 17; refine (relFind_nil _ _ _).mono ?_; rintro e w24 ⟨rfl, hb⟩; have HT24 := Lib.hid (HT23.out.on hb); clear hb)
                      | (go_at_call 11; refine (relCopy_nil _).mono ?_; rintro e w20 ⟨rfl, rfl⟩))
                    go_ret
                    exact ⟨rfl, hB0.trans (HT24.out.bw.mono hB0.size)⟩
  · have he : relE (x.l.length : Int) (ps.map IS.l) = 1 := by
      unfold relE
      rw [if_neg (fun e => hall ⟨by have := e.1.2; omega, fun p hp => by have := e.2 p.l (List.mem_map.2 ⟨p, hp, rfl⟩); simpa using this⟩)]
    have HNG : Hid (∀ W, Below (boxV w k3 n3 s3).heap.size (boxV w k3 n3 s3) W → Calls Try.prog 8 #[.int .i64 (x.l.length : Int), .slice A0 ps.length c0] W fun e w' => e = .returned (.tuple #[.pointer none, .int .i64 1]) ∧ Below W.heap.size W w') := Lib.hid fun W hW => (relNewX_any A0 c0 x.l.length ps W (R0.out.on hW) (by omega)).mono (by
      rintro e w' ⟨r, rfl, hr, hb⟩
      rw [he] at hr ⊢
      obtain rfl := hr.2 rfl
      exact ⟨rfl, hb⟩)
    clear hall he
    go_enter Try.func3, Try.ntmps3
    go_wp2_with (first
      | (go_at_call 6; refine (awakeR_any _).mono ?_; rintro e w1 ⟨rfl, h'⟩; replace hb1 : Below (boxV w k3 n3 s3).heap.size (boxV w k3 n3 s3) w1 := on hb1 h'; have cx := HC0.out _ hb1; clear h')
      | (go_at_call 7; first
        | (refine (HFF.out _ hb1).mono ?_; rintro e w2 ⟨rfl, rfl⟩; clear HFF)
        | (refine (HF2.out _ hb1).mono ?_; rintro e w2 ⟨rfl, rfl⟩))
      | (go_at_call 8; refine (HNG.out _ hb1).mono ?_; rintro e w3 ⟨rfl, hb⟩; replace hb1 : Below (boxV w k3 n3 s3).heap.size (boxV w k3 n3 s3) w3 := on hb1 hb; clear hb))
    go_ret
    exact ⟨rfl, hB0.trans (hb1.mono hB0.size)⟩
end
theorem walk (A0 : Option Addr) (c0 : Nat) (ps : List IS) (A1 : Option Addr) (c1 : Nat) (xs : List Sl) (A2 : Option Addr) (c2 : Nat) (ys : List Sl) (k3 n3 : Int) (s3 : ByteArray) (w : World) (r0 : RdP w A0 ps) (m0 : ps.length ≤ maxLen) (q0 : ∀ x ∈ ps, x.l.length ≤ x.c) (r1 : RdL w A1 xs) (m1 : xs.length ≤ maxLen) (q1 : xs.length ≤ c1) (k1 : ∀ x ∈ xs, x.l.length ≤ x.c) (r2 : RdL w A2 ys) (m2 : ys.length ≤ maxLen) (q2 : ys.length ≤ c2) (k2 : ∀ x ∈ ys, x.l.length ≤ x.c)
    (wk : (Lit.int .i64 k3).wf = true) (wn : (Lit.int .i64 n3).wf = true) (ws : s3.size ≤ maxLen) :
    Calls Try.prog 3 #[.slice A0 ps.length c0, .slice A1 xs.length c1, .slice A2 ys.length c2, .agg #[.int .i64 k3, .int .i64 n3, .string s3]] w fun e w' => e = .returned (.bool true) ∧ Below w.heap.size w w' := by
  cases h1 : fewR (ps.map IS.l) (xs.map Sl.l) with
  | false => exact walk_no A0 A1 A2 c0 c1 c2 ps xs ys k3 n3 s3 w r0 m0 r1 m1 r2 m2 (.inl h1)
  | true =>
    cases h2 : fewR (ps.map IS.l) (ys.map Sl.l) with
    | false => exact walk_no A0 A1 A2 c0 c1 c2 ps xs ys k3 n3 s3 w r0 m0 r1 m1 r2 m2 (.inr ⟨h1, .inl h2⟩)
    | true =>
      cases hxs : xs with
      | nil => subst hxs; exact walk_no A0 A1 A2 c0 c1 c2 ps [] ys k3 n3 s3 w r0 m0 r1 m1 r2 m2 (.inr ⟨h1, .inr ⟨h2, rfl⟩⟩)
      | cons x xs' =>
        rw [← hxs]
        exact walk_yes A0 A1 A2 c0 c1 c2 ps xs ys k3 n3 s3 w x r0 m0 r1 m1 r2 m2 h1 h2 (by rw [hxs]; simp) (by rw [hxs]; rfl)

theorem own : ownKnob Try.prog.godebug = none := by kernel_rfl

set_option maxRecDepth 100000 in
theorem lifted (os : Os) (started : os.Started) (H : Type) (enc : TypeId × Value → H) :
    ReturnsInHanded {} Try.checked os 3 .any (Rows.relCopiesSpec.pre6 enc Try.prog Try.f3 Rows.relCopiesRow.domain false) (Rows.relCopiesSpec.post enc Try.prog Try.f3 false true false false) := by
  refine returnsInHanded_of_change (C := Try.checked) own started (by kernel_rfl) Try.func3
    (ChangeSpec.witness6 (enc := enc) (C := Try.checked) false ⟨#[], #[.slice none 0 0, .slice none 0 0, .slice none 0 0, .agg #[.int .i64 0, .int .i64 0, .string ByteArray.empty]], []⟩ 8 (by kernel_rfl) (by kernel_rfl) (by kernel_rfl) (by kernel_rfl)) ?_
  intro W base args ds gs before hval0 hW hcnd _
  have hval : ∀ (j : Nat) t v, Try.f3.params[j]? = some t → args[j]? = some v → Value.okWide Try.prog W .any base t v := hval0
  have hW' := hW
  obtain ⟨p, q, hA0, hV, rfl, hfz, hnd⟩ := hW
  have hA : DataW.TrodAll enc Try.prog W 0 (fun _ => true) true Try.f3.params.toList args.toList ds p := hA0
  have hAk := hA
  rw [Try.params3] at hA hval
  obtain ⟨v0, vs0, d0, ds0, p0, q0, hargs, rfl, rfl, h0, r0⟩ := trodAll_cons hA
  obtain ⟨v1, vs1, d1, ds1, p1, q1, rfl, rfl, rfl, h1, r1⟩ := trodAll_cons r0
  obtain ⟨v2, vs2, d2, ds2, p2, q2, rfl, rfl, rfl, h2, r2⟩ := trodAll_cons r1
  obtain ⟨v3, vs3, d3, ds3, p3, q3, rfl, rfl, rfl, h3, r3⟩ := trodAll_cons r2
  obtain ⟨rfl, rfl, rfl⟩ := trodAll_nil r3
  obtain rfl : args = #[v0, v1, v2, v3] := by cases args; simp_all
  obtain ⟨rfl, rfl⟩ := trodVars_none hV
  obtain ⟨A0, c0, l0, rfl, r0', m0', q0'⟩ := open_perms (okWide_slice Try.underlying22 (hval 0 22 v0 rfl rfl)) h0
  obtain ⟨A1, c1, l1, rfl, r1', m1', q1', k1'⟩ := open_tupsC (okWide_slice Try.underlying23 (hval 1 23 v1 rfl rfl)) h1
  obtain ⟨A2, c2, l2, rfl, r2', m2', q2', k2'⟩ := open_tupsC (okWide_slice Try.underlying23 (hval 2 23 v2 rfl rfl)) h2
  obtain ⟨k3, n3, s3, rfl, rfl, rfl, wk3, wn3, ws3⟩ := open_val (hval 3 25 v3 rfl rfl) h3
  clear hA0 hval0
  refine (walk A0 c0 l0 A1 c1 l1 A2 c2 l2 k3 n3 s3 W r0' m0' q0' r1' m1' q1' k1' r2' m2' q2' k2' wk3 wn3 ws3).mono fun e W' ⟨he, hg⟩ => ?_
  subst he
  refine ⟨_, rfl, post_old hW' (by simpa using hAk) (by rw [Try.params3]; decide) (fun _ _ _ => (trodAll_cons_mk (shut_bool Try.underlying4 _) trodAll_mk0)) rfl (fun _ => rfl) hg⟩

theorem proved : Rows.RelCopiesSaid :=
  OpenClaim.holds_of_wide 3 Try.f3 rfl rfl rfl rfl rfl rfl rfl ⟨rfl, rfl, rfl, rfl, rfl⟩ rfl rfl rfl rfl rfl (by kernel_rfl) Try.func3 (by kernel_rfl)
    (of_decide_eq_true (by kernel_rfl)) (by unfold Func.isWrapper; first | (rw [if_pos (by decide +kernel)]; kernel_rfl) | (rw [if_neg (by decide +kernel)]; exact ⟨rfl, rfl⟩))
    (fun os started H enc _ => lifted os started H enc)
#print axioms proved
end Go.Proofs.Ytigfpniajjkjoaa.relCopies

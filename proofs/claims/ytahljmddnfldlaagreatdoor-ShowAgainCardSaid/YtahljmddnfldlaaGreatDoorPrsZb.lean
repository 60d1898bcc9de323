/-
  Package parse: literal, not1, walk0, walk1. (This text is printed by tools/mklitf.py.)
-/
import Derived.Test.YtahljmddnfldlaaGreatDoorPrsZh
import Derived.RegionTactic
namespace Go.Proofs.YtahljmddnfldlaaGreatDoor
open Go.RowKit FloM ValM Go.Shelf
set_option linter.unusedVariables false
set_option linter.unusedSimpArgs false
section
variable {W W' : World} {rb tb z o : Nat} {ts : List Tk}
set_option maxRecDepth 20000 in
set_option maxHeartbeats 64000000 in
theorem lit_not1 (W : World) (h : RdrAt W rb tb z ts o) (hg : GoodT ts) (hts : ts.length ≤ 20009) (ho : o = 0) (hC : cmpT (hdT z ts.tail) = false) (hV : varT (hdT z ts) = true) (hI : (hdT z ts.tail).t ≠ [105, 115]) (hN : (hdT z ts).t = [110, 111, 116]) : Calls Tryz.prog 85 #[.pointer (some ⟨rb, 0, none⟩)] W (LitQ (litP z ts) rb tb z o W) := by
  obtain ⟨off, c, H⟩ := h.hd
  have r0 := H.r0; have c0 := H.c0; have c1 := H.c1; have c2 := H.c2; have hl := H.lt; have hb := H.bl
  obtain ⟨d0, d1, d2⟩ := hd2 H
  have h0 : (0 : Int) < ((ts.length + 2 : Nat) : Int) := by omega
  have h1 : (1 : Int) < ((ts.length + 2 : Nat) : Int) := by omega
  have HCO : Hid (∀ V, RdrAt V rb tb z ts o → Calls Tryz.prog 107 #[.pointer (some ⟨rb, 0, none⟩)] V (LitQ (compP z ts) rb tb z o V)) := Lib.hid fun V hV => compare_any V hV hg hts ho
  have HLE : Hid (∀ V, RdrAt V rb tb z ts o → Calls Tryz.prog 108 #[.pointer (some ⟨rb, 0, none⟩)] V (LitQ (letP z ts) rb tb z o V)) := Lib.hid fun V hV => let_any V hV hg hts ho
  have HWK : Hid (∀ V, RdrAt V rb tb z ts o → Calls Tryz.prog 109 #[.pointer (some ⟨rb, 0, none⟩)] V (LitQ (walkP z ts) rb tb z o V)) := Lib.hid fun V hV => walk_any V hV hg hts ho
  have HG := Lib.hid hg; have HLN := Lib.hid hts
  have S00 := (LSt.start h).new 52 [.int .i64 0, .string ByteArray.empty, .slice none 0 0, .string ByteArray.empty, .string ByteArray.empty, .int .i64 0, .int .i64 0, .string ByteArray.empty, .string ByteArray.empty, .int .i64 0, .int .i64 0, .string ByteArray.empty, .string ByteArray.empty, .int .i64 0, .int .i64 0, .string ByteArray.empty, .slice none 0 0]
  obtain ⟨R, hR⟩ : ∃ R, litP z ts = R := ⟨_, rfl⟩
  rw [hR]
  unfold litP at hR
  obtain ⟨t0, e0⟩ : ∃ t, hdT z ts = t := ⟨_, rfl⟩
  obtain ⟨t1, e1⟩ : ∃ t, hdT z ts.tail = t := ⟨_, rfl⟩
  rw [e0] at c0 c1 c2 hR hV hN
  rw [e1] at d0 d1 d2 hR hC hI
  have XhN := Lib.hid hN
  clear hN
  have HCM : Hid (∀ V, Calls Tryz.prog 106 #[.agg #[.int .i64 (t1.k : Int), .string (bs t1.t), .int .i64 (t1.a : Int)]] V fun e w' => e = .returned (.bool (cmpT t1)) ∧ Below V.heap.size V w') := Lib.hid fun V => isCmp_any t1 V
  have HVR : Hid (∀ V, Calls Tryz.prog 89 #[.agg #[.int .i64 (t0.k : Int), .string (bs t0.t), .int .i64 (t0.a : Int)]] V fun e w' => e = .returned (.bool (varT t0)) ∧ Below V.heap.size V w') := Lib.hid fun V => isVar_any t0 V
  have HPR : Hid (∀ V, Calls Tryz.prog 55 #[.agg #[.int .i64 (t0.k : Int), .string (bs t0.t), .int .i64 (t0.a : Int)]] V fun e w' => e = .returned (.bool (predT t0)) ∧ Below V.heap.size V w') := Lib.hid fun V => isPred_any t0 V
  clear e0 e1 h hg hts ho H
  go_enter Tryz.func85, Tryz.ntmps85
  go_wp2_with fail
  obtain ⟨U, hU⟩ : ∃ U, W.alloc (.cells #[.int .i64 0, .string ⟨#[]⟩, .slice none 0 0, .string ⟨#[]⟩, .string ⟨#[]⟩, .int .i64 0, .int .i64 0, .string ⟨#[]⟩, .string ⟨#[]⟩, .int .i64 0, .int .i64 0, .string ⟨#[]⟩, .string ⟨#[]⟩, .int .i64 0, .int .i64 0, .string ⟨#[]⟩, .slice none 0 0] 52) = U := ⟨_, rfl⟩
  have hbU : Below W.heap.size W U := by rw [← hU]; exact (Below.refl _ _).alloc (Nat.le_refl _) _
  have hsU : U.heap.size = W.heap.size + 1 := by rw [← hU]; simp
  rw [hU]
  have hB2 : ∀ o1 o2, Below W.heap.size W ((U.alloc o1).alloc o2).drew := fun o1 o2 => ((hbU.alloc (by omega) o1).alloc (by simp; omega) o2).drew
  have hB0 : Below W.heap.size W U.drew := hbU.drew
  have g0 := fun o1 o2 => (keep (hB2 o1 o2) rb 0 hl).trans r0
  have g1 := fun o1 o2 => (keep (hB2 o1 o2) tb off hb).trans c0
  have g2 := fun o1 o2 => (keep (hB2 o1 o2) tb (off + 1) hb).trans c1
  have g3 := fun o1 o2 => (keep (hB2 o1 o2) tb (off + 2) hb).trans c2
  have g4 := fun o1 o2 => (keep (hB2 o1 o2) tb (off + 3) hb).trans d0
  have g5 := fun o1 o2 => (keep (hB2 o1 o2) tb (off + 3 + 1) hb).trans d1
  have g6 := fun o1 o2 => (keep (hB2 o1 o2) tb (off + 3 + 2) hb).trans d2
  have k0 := (keep hB0 rb 0 hl).trans r0
  have k1 := (keep hB0 tb off hb).trans c0
  have k2 := (keep hB0 tb (off + 1) hb).trans c1
  have k3 := (keep hB0 tb (off + 2) hb).trans c2
  have k4 := (keep hB0 tb (off + 3) hb).trans d0
  have k5 := (keep hB0 tb (off + 3 + 1) hb).trans d1
  have k6 := (keep hB0 tb (off + 3 + 2) hb).trans d2
  have hB1 : ∀ o1, Below W.heap.size W (U.alloc o1).drew := fun o1 => (hbU.alloc (by omega) o1).drew
  have j0 := fun o1 => (keep (hB1 o1) rb 0 hl).trans r0
  have j1 := fun o1 => (keep (hB1 o1) tb off hb).trans c0
  have j2 := fun o1 => (keep (hB1 o1) tb (off + 1) hb).trans c1
  have j3 := fun o1 => (keep (hB1 o1) tb (off + 2) hb).trans c2
  have j4 := fun o1 => (keep (hB1 o1) tb (off + 3) hb).trans d0
  have j5 := fun o1 => (keep (hB1 o1) tb (off + 3 + 1) hb).trans d1
  have j6 := fun o1 => (keep (hB1 o1) tb (off + 3 + 2) hb).trans d2
  have l0 := (keep hbU rb 0 hl).trans r0
  have l1 := (keep hbU tb off hb).trans c0
  have l2 := (keep hbU tb (off + 1) hb).trans c1
  have l3 := (keep hbU tb (off + 2) hb).trans c2
  have l4 := (keep hbU tb (off + 3) hb).trans d0
  have l5 := (keep hbU tb (off + 3 + 1) hb).trans d1
  have l6 := (keep hbU tb (off + 3 + 2) hb).trans d2
  have hlU : rb < U.heap.size := by omega
  have hbU2 : tb < U.heap.size := by omega
  have h0' : (0 : Int) < (ts.length : Int) + 2 := by omega
  have h1' : (1 : Int) < (ts.length : Int) + 2 := by omega
  have S0 : Hid (LSt rb tb z o W [(W.heap.size, 52, [.int .i64 0, .string ByteArray.empty, .slice none 0 0, .string ByteArray.empty, .string ByteArray.empty, .int .i64 0, .int .i64 0, .string ByteArray.empty, .string ByteArray.empty, .int .i64 0, .int .i64 0, .string ByteArray.empty, .string ByteArray.empty, .int .i64 0, .int .i64 0, .string ByteArray.empty, .slice none 0 0])] ts U) := Lib.hid (by rw [← hU]; exact S00)
  clear S00
  go_region
  all_goals clear hbU hB2 hB0 g0 g1 g2 g3 g4 g5 g6 k0 k1 k2 k3 k4 k5 k6 hB1 j0 j1 j2 j3 j4 j5 j6 l0 l1 l2 l3 l4 l5 l6 hlU hbU2 h0' h1' r0 c0 c1 c2 d0 d1 d2 h0 h1
  · have S1 : Hid (LSt rb tb z o W [(W.heap.size, 52, [.int .i64 0, .string ByteArray.empty, .slice none 0 0, .string ByteArray.empty, .string ByteArray.empty, .int .i64 0, .int .i64 0, .string ByteArray.empty, .string ByteArray.empty, .int .i64 0, .int .i64 0, .string ByteArray.empty, .string ByteArray.empty, .int .i64 0, .int .i64 0, .string ByteArray.empty, .slice none 0 0]), (W.heap.size + 1, 92, [.int .i64 (t0.k : Int), .string (bs t0.t), .int .i64 (t0.a : Int)]), (W.heap.size + 1 + 1, 92, [.int .i64 (t1.k : Int), .string (bs t1.t), .int .i64 (t1.a : Int)])] ts ((U.alloc (.cells #[.int .i64 (t0.k : Int), .string (bs t0.t), .int .i64 (t0.a : Int)] 92)).alloc (.cells #[.int .i64 (t1.k : Int), .string (bs t1.t), .int .i64 (t1.a : Int)] 92)).drew) := Lib.hid (by
      have h1 := S0.out.new 92 [.int .i64 (t0.k : Int), .string (bs t0.t), .int .i64 (t0.a : Int)]
      rw [hsU] at h1
      have h2 := h1.new 92 [.int .i64 (t1.k : Int), .string (bs t1.t), .int .i64 (t1.a : Int)]
      rw [World.size_alloc, hsU] at h2
      exact h2.on ((Below.refl _ _).drew))
    generalize ((U.alloc (.cells #[.int .i64 (t0.k : Int), .string (bs t0.t), .int .i64 (t0.a : Int)] 92)).alloc (.cells #[.int .i64 (t1.k : Int), .string (bs t1.t), .int .i64 (t1.a : Int)] 92)).drew = w2 at S1 ⊢
    have x0 := (S1.out.row (x := (W.heap.size + 1, 92, [.int .i64 (t0.k : Int), .string (bs t0.t), .int .i64 (t0.a : Int)])) (.tail _ (.head _))).cell 0
    have x1 := (S1.out.row (x := (W.heap.size + 1, 92, [.int .i64 (t0.k : Int), .string (bs t0.t), .int .i64 (t0.a : Int)])) (.tail _ (.head _))).cell 1
    have x2 := (S1.out.row (x := (W.heap.size + 1, 92, [.int .i64 (t0.k : Int), .string (bs t0.t), .int .i64 (t0.a : Int)])) (.tail _ (.head _))).cell 2
    have y0 := (S1.out.row (x := (W.heap.size + 1 + 1, 92, [.int .i64 (t1.k : Int), .string (bs t1.t), .int .i64 (t1.a : Int)])) (.tail _ (.tail _ (.head _)))).cell 0
    have y1 := (S1.out.row (x := (W.heap.size + 1 + 1, 92, [.int .i64 (t1.k : Int), .string (bs t1.t), .int .i64 (t1.a : Int)])) (.tail _ (.tail _ (.head _)))).cell 1
    have y2 := (S1.out.row (x := (W.heap.size + 1 + 1, 92, [.int .i64 (t1.k : Int), .string (bs t1.t), .int .i64 (t1.a : Int)])) (.tail _ (.tail _ (.head _)))).cell 2
    simp only [List.getElem?_cons_zero, List.getElem?_cons_succ] at x0 x1 x2 y0 y1 y2
    clear S0 hsU hU
    have hs1 := S1.out.fr.size
    rw [hC] at HCM hR
    rw [if_neg (by simp)] at hR
    rw [if_neg (fun e => hI e.2)] at hR
    rw [hV] at HVR
    have g1 : ((bs t1.t).toList == [105, 115]) = false := by rw [bsl, beq_eq_false_iff_ne]; exact hI
    have hN := XhN.out
    rw [if_pos hN] at hR
    have g2 : ((bs t0.t).toList == [110, 111, 116]) = true := by rw [bsl, hN]; rfl
    have HWN : Hid (∀ V, RdrAt V rb tb z ts o → _) := Lib.hid fun V hV => want_new ⟨#[110, 111, 116]⟩ V hV (by decide)
    rw [show ls ⟨#[110, 111, 116]⟩ = [110, 111, 116] from rfl] at HWN
    clear hN
    cases hw : wantP [110, 111, 116] z ts with
    | no a k =>
      rw [hw] at HWN hR
      simp only [Ans.bind] at hR
      clear hw
      subst hR
      go_wp2_with (first
        | (go_at_call 106; refine (HCM.out _).mono ?_; rintro e w3 ⟨rfl, hb⟩; have S3 := Lib.hid (S1.out.on hb); clear x0 x1 x2 y0 y1 y2 hb HCM; have x0 := (S3.out.row (x := (W.heap.size + 1, 92, [.int .i64 (t0.k : Int), .string (bs t0.t), .int .i64 (t0.a : Int)])) (.tail _ (.head _))).cell 0; have x1 := (S3.out.row (x := (W.heap.size + 1, 92, [.int .i64 (t0.k : Int), .string (bs t0.t), .int .i64 (t0.a : Int)])) (.tail _ (.head _))).cell 1; have x2 := (S3.out.row (x := (W.heap.size + 1, 92, [.int .i64 (t0.k : Int), .string (bs t0.t), .int .i64 (t0.a : Int)])) (.tail _ (.head _))).cell 2; have y0 := (S3.out.row (x := (W.heap.size + 1 + 1, 92, [.int .i64 (t1.k : Int), .string (bs t1.t), .int .i64 (t1.a : Int)])) (.tail _ (.tail _ (.head _)))).cell 0; have y1 := (S3.out.row (x := (W.heap.size + 1 + 1, 92, [.int .i64 (t1.k : Int), .string (bs t1.t), .int .i64 (t1.a : Int)])) (.tail _ (.tail _ (.head _)))).cell 1; have y2 := (S3.out.row (x := (W.heap.size + 1 + 1, 92, [.int .i64 (t1.k : Int), .string (bs t1.t), .int .i64 (t1.a : Int)])) (.tail _ (.tail _ (.head _)))).cell 2; simp only [List.getElem?_cons_zero, List.getElem?_cons_succ] at x0 x1 x2 y0 y1 y2)
        | (go_at_call 89; refine (HVR.out _).mono ?_; rintro e w4 ⟨rfl, hb⟩; have S4 := Lib.hid (S3.out.on hb); clear x0 x1 x2 y0 y1 y2 hb HVR; have x0 := (S4.out.row (x := (W.heap.size + 1, 92, [.int .i64 (t0.k : Int), .string (bs t0.t), .int .i64 (t0.a : Int)])) (.tail _ (.head _))).cell 0; have x1 := (S4.out.row (x := (W.heap.size + 1, 92, [.int .i64 (t0.k : Int), .string (bs t0.t), .int .i64 (t0.a : Int)])) (.tail _ (.head _))).cell 1; have x2 := (S4.out.row (x := (W.heap.size + 1, 92, [.int .i64 (t0.k : Int), .string (bs t0.t), .int .i64 (t0.a : Int)])) (.tail _ (.head _))).cell 2; have y0 := (S4.out.row (x := (W.heap.size + 1 + 1, 92, [.int .i64 (t1.k : Int), .string (bs t1.t), .int .i64 (t1.a : Int)])) (.tail _ (.tail _ (.head _)))).cell 0; have y1 := (S4.out.row (x := (W.heap.size + 1 + 1, 92, [.int .i64 (t1.k : Int), .string (bs t1.t), .int .i64 (t1.a : Int)])) (.tail _ (.tail _ (.head _)))).cell 1; have y2 := (S4.out.row (x := (W.heap.size + 1 + 1, 92, [.int .i64 (t1.k : Int), .string (bs t1.t), .int .i64 (t1.a : Int)])) (.tail _ (.tail _ (.head _)))).cell 2; simp only [List.getElem?_cons_zero, List.getElem?_cons_succ] at x0 x1 x2 y0 y1 y2)
        | (go_at_call 58; refine (HWN.out _ S4.out.rdr).mono ?_; rintro e w9 ⟨rfl, f⟩))
      exact ⟨rfl, rfl, S4.out.fr.trans (f.mono S4.out.fr.size)⟩
    | ok _t q =>
      rw [hw] at HWN hR
      have hq := ((want_sk _ z ts) _ _ hw).1
      have HAT : Hid (∀ V, RdrAt V rb tb z q o → _) := Lib.hid fun V hV => atm_any V hV (HG.out.suf hq) (Nat.le_trans hq.length_le HLN.out)
      simp only [Ans.bind] at hR
      clear hw hq
      cases hm : atomP z q with
      | no a k =>
        rw [hm] at HAT hR
        simp only [Ans.bind] at hR
        clear hm
        subst hR
        go_wp2_with (first
          | (go_at_call 106; refine (HCM.out _).mono ?_; rintro e w3 ⟨rfl, hb⟩; have S3 := Lib.hid (S1.out.on hb); clear x0 x1 x2 y0 y1 y2 hb HCM; have x0 := (S3.out.row (x := (W.heap.size + 1, 92, [.int .i64 (t0.k : Int), .string (bs t0.t), .int .i64 (t0.a : Int)])) (.tail _ (.head _))).cell 0; have x1 := (S3.out.row (x := (W.heap.size + 1, 92, [.int .i64 (t0.k : Int), .string (bs t0.t), .int .i64 (t0.a : Int)])) (.tail _ (.head _))).cell 1; have x2 := (S3.out.row (x := (W.heap.size + 1, 92, [.int .i64 (t0.k : Int), .string (bs t0.t), .int .i64 (t0.a : Int)])) (.tail _ (.head _))).cell 2; have y0 := (S3.out.row (x := (W.heap.size + 1 + 1, 92, [.int .i64 (t1.k : Int), .string (bs t1.t), .int .i64 (t1.a : Int)])) (.tail _ (.tail _ (.head _)))).cell 0; have y1 := (S3.out.row (x := (W.heap.size + 1 + 1, 92, [.int .i64 (t1.k : Int), .string (bs t1.t), .int .i64 (t1.a : Int)])) (.tail _ (.tail _ (.head _)))).cell 1; have y2 := (S3.out.row (x := (W.heap.size + 1 + 1, 92, [.int .i64 (t1.k : Int), .string (bs t1.t), .int .i64 (t1.a : Int)])) (.tail _ (.tail _ (.head _)))).cell 2; simp only [List.getElem?_cons_zero, List.getElem?_cons_succ] at x0 x1 x2 y0 y1 y2)
          | (go_at_call 89; refine (HVR.out _).mono ?_; rintro e w4 ⟨rfl, hb⟩; have S4 := Lib.hid (S3.out.on hb); clear x0 x1 x2 y0 y1 y2 hb HVR; have x0 := (S4.out.row (x := (W.heap.size + 1, 92, [.int .i64 (t0.k : Int), .string (bs t0.t), .int .i64 (t0.a : Int)])) (.tail _ (.head _))).cell 0; have x1 := (S4.out.row (x := (W.heap.size + 1, 92, [.int .i64 (t0.k : Int), .string (bs t0.t), .int .i64 (t0.a : Int)])) (.tail _ (.head _))).cell 1; have x2 := (S4.out.row (x := (W.heap.size + 1, 92, [.int .i64 (t0.k : Int), .string (bs t0.t), .int .i64 (t0.a : Int)])) (.tail _ (.head _))).cell 2; have y0 := (S4.out.row (x := (W.heap.size + 1 + 1, 92, [.int .i64 (t1.k : Int), .string (bs t1.t), .int .i64 (t1.a : Int)])) (.tail _ (.tail _ (.head _)))).cell 0; have y1 := (S4.out.row (x := (W.heap.size + 1 + 1, 92, [.int .i64 (t1.k : Int), .string (bs t1.t), .int .i64 (t1.a : Int)])) (.tail _ (.tail _ (.head _)))).cell 1; have y2 := (S4.out.row (x := (W.heap.size + 1 + 1, 92, [.int .i64 (t1.k : Int), .string (bs t1.t), .int .i64 (t1.a : Int)])) (.tail _ (.tail _ (.head _)))).cell 2; simp only [List.getElem?_cons_zero, List.getElem?_cons_succ] at x0 x1 x2 y0 y1 y2)
          | (go_at_call 58; refine (HWN.out _ S4.out.rdr).mono ?_; rintro e w6 ⟨rfl, h, f⟩; have S6 := Lib.hid (S4.out.call h f); clear h f HWN)
          | (go_at_call 59; refine (HAT.out _ S6.out.rdr).mono ?_; rintro e w9 ⟨rfl, f⟩))
        exact ⟨rfl, rfl, S6.out.fr.trans (f.mono S6.out.fr.size)⟩
      | ok x r =>
        rw [hm] at HAT hR
        simp only [Ans.bind] at hR
        clear hm
        subst hR
        go_wp2_with (first
          | (go_at_call 106; refine (HCM.out _).mono ?_; rintro e w3 ⟨rfl, hb⟩; have S3 := Lib.hid (S1.out.on hb); clear x0 x1 x2 y0 y1 y2 hb HCM; have x0 := (S3.out.row (x := (W.heap.size + 1, 92, [.int .i64 (t0.k : Int), .string (bs t0.t), .int .i64 (t0.a : Int)])) (.tail _ (.head _))).cell 0; have x1 := (S3.out.row (x := (W.heap.size + 1, 92, [.int .i64 (t0.k : Int), .string (bs t0.t), .int .i64 (t0.a : Int)])) (.tail _ (.head _))).cell 1; have x2 := (S3.out.row (x := (W.heap.size + 1, 92, [.int .i64 (t0.k : Int), .string (bs t0.t), .int .i64 (t0.a : Int)])) (.tail _ (.head _))).cell 2; have y0 := (S3.out.row (x := (W.heap.size + 1 + 1, 92, [.int .i64 (t1.k : Int), .string (bs t1.t), .int .i64 (t1.a : Int)])) (.tail _ (.tail _ (.head _)))).cell 0; have y1 := (S3.out.row (x := (W.heap.size + 1 + 1, 92, [.int .i64 (t1.k : Int), .string (bs t1.t), .int .i64 (t1.a : Int)])) (.tail _ (.tail _ (.head _)))).cell 1; have y2 := (S3.out.row (x := (W.heap.size + 1 + 1, 92, [.int .i64 (t1.k : Int), .string (bs t1.t), .int .i64 (t1.a : Int)])) (.tail _ (.tail _ (.head _)))).cell 2; simp only [List.getElem?_cons_zero, List.getElem?_cons_succ] at x0 x1 x2 y0 y1 y2)
          | (go_at_call 89; refine (HVR.out _).mono ?_; rintro e w4 ⟨rfl, hb⟩; have S4 := Lib.hid (S3.out.on hb); clear x0 x1 x2 y0 y1 y2 hb HVR; have x0 := (S4.out.row (x := (W.heap.size + 1, 92, [.int .i64 (t0.k : Int), .string (bs t0.t), .int .i64 (t0.a : Int)])) (.tail _ (.head _))).cell 0; have x1 := (S4.out.row (x := (W.heap.size + 1, 92, [.int .i64 (t0.k : Int), .string (bs t0.t), .int .i64 (t0.a : Int)])) (.tail _ (.head _))).cell 1; have x2 := (S4.out.row (x := (W.heap.size + 1, 92, [.int .i64 (t0.k : Int), .string (bs t0.t), .int .i64 (t0.a : Int)])) (.tail _ (.head _))).cell 2; have y0 := (S4.out.row (x := (W.heap.size + 1 + 1, 92, [.int .i64 (t1.k : Int), .string (bs t1.t), .int .i64 (t1.a : Int)])) (.tail _ (.tail _ (.head _)))).cell 0; have y1 := (S4.out.row (x := (W.heap.size + 1 + 1, 92, [.int .i64 (t1.k : Int), .string (bs t1.t), .int .i64 (t1.a : Int)])) (.tail _ (.tail _ (.head _)))).cell 1; have y2 := (S4.out.row (x := (W.heap.size + 1 + 1, 92, [.int .i64 (t1.k : Int), .string (bs t1.t), .int .i64 (t1.a : Int)])) (.tail _ (.tail _ (.head _)))).cell 2; simp only [List.getElem?_cons_zero, List.getElem?_cons_succ] at x0 x1 x2 y0 y1 y2)
          | (go_at_call 58; refine (HWN.out _ S4.out.rdr).mono ?_; rintro e w6 ⟨rfl, h, f⟩; have S6 := Lib.hid (S4.out.call h f); clear h f HWN)
          | (go_at_call 59; refine (HAT.out _ S6.out.rdr).mono ?_; rintro e w9 ⟨M, hX, rfl, hok, h, f⟩; have S9 := Lib.hid (S6.out.call h f); have HX := Lib.hid hX; have HOK := Lib.hid hok; have hlt : W.heap.size < w6.heap.size := (S6.out.row (x := (W.heap.size, 52, [.int .i64 0, .string ByteArray.empty, .slice none 0 0, .string ByteArray.empty, .string ByteArray.empty, .int .i64 0, .int .i64 0, .string ByteArray.empty, .string ByteArray.empty, .int .i64 0, .int .i64 0, .string ByteArray.empty, .string ByteArray.empty, .int .i64 0, .int .i64 0, .string ByteArray.empty, .slice none 0 0])) (.head _)).lt; clear hX hok h f)
          | (refine wpList_storeR rfl 52 (.tmp 2) _ rfl W.heap.size 0 rfl (.agg #[.int .i64 2, .string (bs M.p), .slice M.A M.a.length M.c, .string ByteArray.empty, .string ByteArray.empty, .int .i64 0, .int .i64 0, .string ByteArray.empty, .string ByteArray.empty, .int .i64 0, .int .i64 0, .string ByteArray.empty, .string ByteArray.empty, .int .i64 0, .int .i64 0, .string ByteArray.empty, .slice none 0 0]) rfl _ rfl (pre := []) (old := [.int .i64 0, .string ByteArray.empty, .slice none 0 0, .string ByteArray.empty, .string ByteArray.empty, .int .i64 0, .int .i64 0, .string ByteArray.empty, .string ByteArray.empty, .int .i64 0, .int .i64 0, .string ByteArray.empty, .string ByteArray.empty, .int .i64 0, .int .i64 0, .string ByteArray.empty, .slice none 0 0]) (post := []) (S9.out.row (x := (W.heap.size, 52, [.int .i64 0, .string ByteArray.empty, .slice none 0 0, .string ByteArray.empty, .string ByteArray.empty, .int .i64 0, .int .i64 0, .string ByteArray.empty, .string ByteArray.empty, .int .i64 0, .int .i64 0, .string ByteArray.empty, .string ByteArray.empty, .int .i64 0, .int .i64 0, .string ByteArray.empty, .slice none 0 0])) (.head _)) rfl rfl (by kernel_rfl) rfl ?_; intro w100 hR100 hF100 hs100; have S100 := Lib.hid (S9.out.store (pre := []) hR100 hF100)))
        refine bodyPost_ret (results_cell_row rfl _ _ W.heap.size _ _ _ _ rfl hR100 Tryz.underlying52 rfl (by kernel_rfl)) rfl ?_
        exact ⟨⟨2, M, [], tm0, tm0, tm0, none, 0, []⟩, by rw [← HX.out]; rfl, rfl, ⟨AmA.ok.less (AmA.ok.frx HOK.out (fun k (hk : k = W.heap.size) => by omega) (hF100 _)) (by omega), own_nil _ _ _ _⟩, S100.out.rdr, S100.out.fr⟩
  · have S1 : Hid (LSt rb tb z o W [(W.heap.size, 52, [.int .i64 0, .string ByteArray.empty, .slice none 0 0, .string ByteArray.empty, .string ByteArray.empty, .int .i64 0, .int .i64 0, .string ByteArray.empty, .string ByteArray.empty, .int .i64 0, .int .i64 0, .string ByteArray.empty, .string ByteArray.empty, .int .i64 0, .int .i64 0, .string ByteArray.empty, .slice none 0 0]), (W.heap.size + 1, 92, [.int .i64 (t1.k : Int), .string (bs t1.t), .int .i64 (t1.a : Int)]), (W.heap.size + 1 + 1, 92, [.int .i64 (t0.k : Int), .string (bs t0.t), .int .i64 (t0.a : Int)])] ts ((U.alloc (.cells #[.int .i64 (t1.k : Int), .string (bs t1.t), .int .i64 (t1.a : Int)] 92)).alloc (.cells #[.int .i64 (t0.k : Int), .string (bs t0.t), .int .i64 (t0.a : Int)] 92)).drew) := Lib.hid (by
      have h1 := S0.out.new 92 [.int .i64 (t1.k : Int), .string (bs t1.t), .int .i64 (t1.a : Int)]
      rw [hsU] at h1
      have h2 := h1.new 92 [.int .i64 (t0.k : Int), .string (bs t0.t), .int .i64 (t0.a : Int)]
      rw [World.size_alloc, hsU] at h2
      exact h2.on ((Below.refl _ _).drew))
    generalize ((U.alloc (.cells #[.int .i64 (t1.k : Int), .string (bs t1.t), .int .i64 (t1.a : Int)] 92)).alloc (.cells #[.int .i64 (t0.k : Int), .string (bs t0.t), .int .i64 (t0.a : Int)] 92)).drew = w2 at S1 ⊢
    have x0 := (S1.out.row (x := (W.heap.size + 1 + 1, 92, [.int .i64 (t0.k : Int), .string (bs t0.t), .int .i64 (t0.a : Int)])) (.tail _ (.tail _ (.head _)))).cell 0
    have x1 := (S1.out.row (x := (W.heap.size + 1 + 1, 92, [.int .i64 (t0.k : Int), .string (bs t0.t), .int .i64 (t0.a : Int)])) (.tail _ (.tail _ (.head _)))).cell 1
    have x2 := (S1.out.row (x := (W.heap.size + 1 + 1, 92, [.int .i64 (t0.k : Int), .string (bs t0.t), .int .i64 (t0.a : Int)])) (.tail _ (.tail _ (.head _)))).cell 2
    have y0 := (S1.out.row (x := (W.heap.size + 1, 92, [.int .i64 (t1.k : Int), .string (bs t1.t), .int .i64 (t1.a : Int)])) (.tail _ (.head _))).cell 0
    have y1 := (S1.out.row (x := (W.heap.size + 1, 92, [.int .i64 (t1.k : Int), .string (bs t1.t), .int .i64 (t1.a : Int)])) (.tail _ (.head _))).cell 1
    have y2 := (S1.out.row (x := (W.heap.size + 1, 92, [.int .i64 (t1.k : Int), .string (bs t1.t), .int .i64 (t1.a : Int)])) (.tail _ (.head _))).cell 2
    simp only [List.getElem?_cons_zero, List.getElem?_cons_succ] at x0 x1 x2 y0 y1 y2
    clear S0 hsU hU
    have hs1 := S1.out.fr.size
    rw [hC] at HCM hR
    rw [if_neg (by simp)] at hR
    rw [if_neg (fun e => hI e.2)] at hR
    rw [hV] at HVR
    have g1 : ((bs t1.t).toList == [105, 115]) = false := by rw [bsl, beq_eq_false_iff_ne]; exact hI
    have hN := XhN.out
    rw [if_pos hN] at hR
    have g2 : ((bs t0.t).toList == [110, 111, 116]) = true := by rw [bsl, hN]; rfl
    have HWN : Hid (∀ V, RdrAt V rb tb z ts o → _) := Lib.hid fun V hV => want_new ⟨#[110, 111, 116]⟩ V hV (by decide)
    rw [show ls ⟨#[110, 111, 116]⟩ = [110, 111, 116] from rfl] at HWN
    clear hN
    cases hw : wantP [110, 111, 116] z ts with
    | no a k =>
      rw [hw] at HWN hR
      simp only [Ans.bind] at hR
      clear hw
      subst hR
      go_wp2_with (first
        | (go_at_call 106; refine (HCM.out _).mono ?_; rintro e w3 ⟨rfl, hb⟩; have S3 := Lib.hid (S1.out.on hb); clear x0 x1 x2 y0 y1 y2 hb HCM; have x0 := (S3.out.row (x := (W.heap.size + 1 + 1, 92, [.int .i64 (t0.k : Int), .string (bs t0.t), .int .i64 (t0.a : Int)])) (.tail _ (.tail _ (.head _)))).cell 0; have x1 := (S3.out.row (x := (W.heap.size + 1 + 1, 92, [.int .i64 (t0.k : Int), .string (bs t0.t), .int .i64 (t0.a : Int)])) (.tail _ (.tail _ (.head _)))).cell 1; have x2 := (S3.out.row (x := (W.heap.size + 1 + 1, 92, [.int .i64 (t0.k : Int), .string (bs t0.t), .int .i64 (t0.a : Int)])) (.tail _ (.tail _ (.head _)))).cell 2; have y0 := (S3.out.row (x := (W.heap.size + 1, 92, [.int .i64 (t1.k : Int), .string (bs t1.t), .int .i64 (t1.a : Int)])) (.tail _ (.head _))).cell 0; have y1 := (S3.out.row (x := (W.heap.size + 1, 92, [.int .i64 (t1.k : Int), .string (bs t1.t), .int .i64 (t1.a : Int)])) (.tail _ (.head _))).cell 1; have y2 := (S3.out.row (x := (W.heap.size + 1, 92, [.int .i64 (t1.k : Int), .string (bs t1.t), .int .i64 (t1.a : Int)])) (.tail _ (.head _))).cell 2; simp only [List.getElem?_cons_zero, List.getElem?_cons_succ] at x0 x1 x2 y0 y1 y2)
        | (go_at_call 89; refine (HVR.out _).mono ?_; rintro e w4 ⟨rfl, hb⟩; have S4 := Lib.hid (S3.out.on hb); clear x0 x1 x2 y0 y1 y2 hb HVR; have x0 := (S4.out.row (x := (W.heap.size + 1 + 1, 92, [.int .i64 (t0.k : Int), .string (bs t0.t), .int .i64 (t0.a : Int)])) (.tail _ (.tail _ (.head _)))).cell 0; have x1 := (S4.out.row (x := (W.heap.size + 1 + 1, 92, [.int .i64 (t0.k : Int), .string (bs t0.t), .int .i64 (t0.a : Int)])) (.tail _ (.tail _ (.head _)))).cell 1; have x2 := (S4.out.row (x := (W.heap.size + 1 + 1, 92, [.int .i64 (t0.k : Int), .string (bs t0.t), .int .i64 (t0.a : Int)])) (.tail _ (.tail _ (.head _)))).cell 2; have y0 := (S4.out.row (x := (W.heap.size + 1, 92, [.int .i64 (t1.k : Int), .string (bs t1.t), .int .i64 (t1.a : Int)])) (.tail _ (.head _))).cell 0; have y1 := (S4.out.row (x := (W.heap.size + 1, 92, [.int .i64 (t1.k : Int), .string (bs t1.t), .int .i64 (t1.a : Int)])) (.tail _ (.head _))).cell 1; have y2 := (S4.out.row (x := (W.heap.size + 1, 92, [.int .i64 (t1.k : Int), .string (bs t1.t), .int .i64 (t1.a : Int)])) (.tail _ (.head _))).cell 2; simp only [List.getElem?_cons_zero, List.getElem?_cons_succ] at x0 x1 x2 y0 y1 y2)
        | (go_at_call 58; refine (HWN.out _ S4.out.rdr).mono ?_; rintro e w9 ⟨rfl, f⟩))
      exact ⟨rfl, rfl, S4.out.fr.trans (f.mono S4.out.fr.size)⟩
    | ok _t q =>
      rw [hw] at HWN hR
      have hq := ((want_sk _ z ts) _ _ hw).1
      have HAT : Hid (∀ V, RdrAt V rb tb z q o → _) := Lib.hid fun V hV => atm_any V hV (HG.out.suf hq) (Nat.le_trans hq.length_le HLN.out)
      simp only [Ans.bind] at hR
      clear hw hq
      cases hm : atomP z q with
      | no a k =>
        rw [hm] at HAT hR
        simp only [Ans.bind] at hR
        clear hm
        subst hR
        go_wp2_with (first
          | (go_at_call 106; refine (HCM.out _).mono ?_; rintro e w3 ⟨rfl, hb⟩; have S3 := Lib.hid (S1.out.on hb); clear x0 x1 x2 y0 y1 y2 hb HCM; have x0 := (S3.out.row (x := (W.heap.size + 1 + 1, 92, [.int .i64 (t0.k : Int), .string (bs t0.t), .int .i64 (t0.a : Int)])) (.tail _ (.tail _ (.head _)))).cell 0; have x1 := (S3.out.row (x := (W.heap.size + 1 + 1, 92, [.int .i64 (t0.k : Int), .string (bs t0.t), .int .i64 (t0.a : Int)])) (.tail _ (.tail _ (.head _)))).cell 1; have x2 := (S3.out.row (x := (W.heap.size + 1 + 1, 92, [.int .i64 (t0.k : Int), .string (bs t0.t), .int .i64 (t0.a : Int)])) (.tail _ (.tail _ (.head _)))).cell 2; have y0 := (S3.out.row (x := (W.heap.size + 1, 92, [.int .i64 (t1.k : Int), .string (bs t1.t), .int .i64 (t1.a : Int)])) (.tail _ (.head _))).cell 0; have y1 := (S3.out.row (x := (W.heap.size + 1, 92, [.int .i64 (t1.k : Int), .string (bs t1.t), .int .i64 (t1.a : Int)])) (.tail _ (.head _))).cell 1; have y2 := (S3.out.row (x := (W.heap.size + 1, 92, [.int .i64 (t1.k : Int), .string (bs t1.t), .int .i64 (t1.a : Int)])) (.tail _ (.head _))).cell 2; simp only [List.getElem?_cons_zero, List.getElem?_cons_succ] at x0 x1 x2 y0 y1 y2)
          | (go_at_call 89; refine (HVR.out _).mono ?_; rintro e w4 ⟨rfl, hb⟩; have S4 := Lib.hid (S3.out.on hb); clear x0 x1 x2 y0 y1 y2 hb HVR; have x0 := (S4.out.row (x := (W.heap.size + 1 + 1, 92, [.int .i64 (t0.k : Int), .string (bs t0.t), .int .i64 (t0.a : Int)])) (.tail _ (.tail _ (.head _)))).cell 0; have x1 := (S4.out.row (x := (W.heap.size + 1 + 1, 92, [.int .i64 (t0.k : Int), .string (bs t0.t), .int .i64 (t0.a : Int)])) (.tail _ (.tail _ (.head _)))).cell 1; have x2 := (S4.out.row (x := (W.heap.size + 1 + 1, 92, [.int .i64 (t0.k : Int), .string (bs t0.t), .int .i64 (t0.a : Int)])) (.tail _ (.tail _ (.head _)))).cell 2; have y0 := (S4.out.row (x := (W.heap.size + 1, 92, [.int .i64 (t1.k : Int), .string (bs t1.t), .int .i64 (t1.a : Int)])) (.tail _ (.head _))).cell 0; have y1 := (S4.out.row (x := (W.heap.size + 1, 92, [.int .i64 (t1.k : Int), .string (bs t1.t), .int .i64 (t1.a : Int)])) (.tail _ (.head _))).cell 1; have y2 := (S4.out.row (x := (W.heap.size + 1, 92, [.int .i64 (t1.k : Int), .string (bs t1.t), .int .i64 (t1.a : Int)])) (.tail _ (.head _))).cell 2; simp only [List.getElem?_cons_zero, List.getElem?_cons_succ] at x0 x1 x2 y0 y1 y2)
          | (go_at_call 58; refine (HWN.out _ S4.out.rdr).mono ?_; rintro e w6 ⟨rfl, h, f⟩; have S6 := Lib.hid (S4.out.call h f); clear h f HWN)
          | (go_at_call 59; refine (HAT.out _ S6.out.rdr).mono ?_; rintro e w9 ⟨rfl, f⟩))
        exact ⟨rfl, rfl, S6.out.fr.trans (f.mono S6.out.fr.size)⟩
      | ok x r =>
        rw [hm] at HAT hR
        simp only [Ans.bind] at hR
        clear hm
        subst hR
        go_wp2_with (first
          | (go_at_call 106; refine (HCM.out _).mono ?_; rintro e w3 ⟨rfl, hb⟩; have S3 := Lib.hid (S1.out.on hb); clear x0 x1 x2 y0 y1 y2 hb HCM; have x0 := (S3.out.row (x := (W.heap.size + 1 + 1, 92, [.int .i64 (t0.k : Int), .string (bs t0.t), .int .i64 (t0.a : Int)])) (.tail _ (.tail _ (.head _)))).cell 0; have x1 := (S3.out.row (x := (W.heap.size + 1 + 1, 92, [.int .i64 (t0.k : Int), .string (bs t0.t), .int .i64 (t0.a : Int)])) (.tail _ (.tail _ (.head _)))).cell 1; have x2 := (S3.out.row (x := (W.heap.size + 1 + 1, 92, [.int .i64 (t0.k : Int), .string (bs t0.t), .int .i64 (t0.a : Int)])) (.tail _ (.tail _ (.head _)))).cell 2; have y0 := (S3.out.row (x := (W.heap.size + 1, 92, [.int .i64 (t1.k : Int), .string (bs t1.t), .int .i64 (t1.a : Int)])) (.tail _ (.head _))).cell 0; have y1 := (S3.out.row (x := (W.heap.size + 1, 92, [.int .i64 (t1.k : Int), .string (bs t1.t), .int .i64 (t1.a : Int)])) (.tail _ (.head _))).cell 1; have y2 := (S3.out.row (x := (W.heap.size + 1, 92, [.int .i64 (t1.k : Int), .string (bs t1.t), .int .i64 (t1.a : Int)])) (.tail _ (.head _))).cell 2; simp only [List.getElem?_cons_zero, List.getElem?_cons_succ] at x0 x1 x2 y0 y1 y2)
          | (go_at_call 89; refine (HVR.out _).mono ?_; rintro e w4 ⟨rfl, hb⟩; have S4 := Lib.hid (S3.out.on hb); clear x0 x1 x2 y0 y1 y2 hb HVR; have x0 := (S4.out.row (x := (W.heap.size + 1 + 1, 92, [.int .i64 (t0.k : Int), .string (bs t0.t), .int .i64 (t0.a : Int)])) (.tail _ (.tail _ (.head _)))).cell 0; have x1 := (S4.out.row (x := (W.heap.size + 1 + 1, 92, [.int .i64 (t0.k : Int), .string (bs t0.t), .int .i64 (t0.a : Int)])) (.tail _ (.tail _ (.head _)))).cell 1; have x2 := (S4.out.row (x := (W.heap.size + 1 + 1, 92, [.int .i64 (t0.k : Int), .string (bs t0.t), .int .i64 (t0.a : Int)])) (.tail _ (.tail _ (.head _)))).cell 2; have y0 := (S4.out.row (x := (W.heap.size + 1, 92, [.int .i64 (t1.k : Int), .string (bs t1.t), .int .i64 (t1.a : Int)])) (.tail _ (.head _))).cell 0; have y1 := (S4.out.row (x := (W.heap.size + 1, 92, [.int .i64 (t1.k : Int), .string (bs t1.t), .int .i64 (t1.a : Int)])) (.tail _ (.head _))).cell 1; have y2 := (S4.out.row (x := (W.heap.size + 1, 92, [.int .i64 (t1.k : Int), .string (bs t1.t), .int .i64 (t1.a : Int)])) (.tail _ (.head _))).cell 2; simp only [List.getElem?_cons_zero, List.getElem?_cons_succ] at x0 x1 x2 y0 y1 y2)
          | (go_at_call 58; refine (HWN.out _ S4.out.rdr).mono ?_; rintro e w6 ⟨rfl, h, f⟩; have S6 := Lib.hid (S4.out.call h f); clear h f HWN)
          | (go_at_call 59; refine (HAT.out _ S6.out.rdr).mono ?_; rintro e w9 ⟨M, hX, rfl, hok, h, f⟩; have S9 := Lib.hid (S6.out.call h f); have HX := Lib.hid hX; have HOK := Lib.hid hok; have hlt : W.heap.size < w6.heap.size := (S6.out.row (x := (W.heap.size, 52, [.int .i64 0, .string ByteArray.empty, .slice none 0 0, .string ByteArray.empty, .string ByteArray.empty, .int .i64 0, .int .i64 0, .string ByteArray.empty, .string ByteArray.empty, .int .i64 0, .int .i64 0, .string ByteArray.empty, .string ByteArray.empty, .int .i64 0, .int .i64 0, .string ByteArray.empty, .slice none 0 0])) (.head _)).lt; clear hX hok h f)
          | (refine wpList_storeR rfl 52 (.tmp 2) _ rfl W.heap.size 0 rfl (.agg #[.int .i64 2, .string (bs M.p), .slice M.A M.a.length M.c, .string ByteArray.empty, .string ByteArray.empty, .int .i64 0, .int .i64 0, .string ByteArray.empty, .string ByteArray.empty, .int .i64 0, .int .i64 0, .string ByteArray.empty, .string ByteArray.empty, .int .i64 0, .int .i64 0, .string ByteArray.empty, .slice none 0 0]) rfl _ rfl (pre := []) (old := [.int .i64 0, .string ByteArray.empty, .slice none 0 0, .string ByteArray.empty, .string ByteArray.empty, .int .i64 0, .int .i64 0, .string ByteArray.empty, .string ByteArray.empty, .int .i64 0, .int .i64 0, .string ByteArray.empty, .string ByteArray.empty, .int .i64 0, .int .i64 0, .string ByteArray.empty, .slice none 0 0]) (post := []) (S9.out.row (x := (W.heap.size, 52, [.int .i64 0, .string ByteArray.empty, .slice none 0 0, .string ByteArray.empty, .string ByteArray.empty, .int .i64 0, .int .i64 0, .string ByteArray.empty, .string ByteArray.empty, .int .i64 0, .int .i64 0, .string ByteArray.empty, .string ByteArray.empty, .int .i64 0, .int .i64 0, .string ByteArray.empty, .slice none 0 0])) (.head _)) rfl rfl (by kernel_rfl) rfl ?_; intro w100 hR100 hF100 hs100; have S100 := Lib.hid (S9.out.store (pre := []) hR100 hF100)))
        refine bodyPost_ret (results_cell_row rfl _ _ W.heap.size _ _ _ _ rfl hR100 Tryz.underlying52 rfl (by kernel_rfl)) rfl ?_
        exact ⟨⟨2, M, [], tm0, tm0, tm0, none, 0, []⟩, by rw [← HX.out]; rfl, rfl, ⟨AmA.ok.less (AmA.ok.frx HOK.out (fun k (hk : k = W.heap.size) => by omega) (hF100 _)) (by omega), own_nil _ _ _ _⟩, S100.out.rdr, S100.out.fr⟩
set_option maxRecDepth 20000 in
set_option maxHeartbeats 64000000 in
theorem lit_walk0 (W : World) (h : RdrAt W rb tb z ts o) (hg : GoodT ts) (hts : ts.length ≤ 20009) (ho : o = 0) (hC : cmpT (hdT z ts.tail) = false) (hV : varT (hdT z ts) = false) (hN : (hdT z ts).t ≠ [110, 111, 116]) (hW : (hdT z ts).t = [119, 97, 108, 107]) : Calls Tryz.prog 85 #[.pointer (some ⟨rb, 0, none⟩)] W (LitQ (litP z ts) rb tb z o W) := by
  obtain ⟨off, c, H⟩ := h.hd
  have r0 := H.r0; have c0 := H.c0; have c1 := H.c1; have c2 := H.c2; have hl := H.lt; have hb := H.bl
  obtain ⟨d0, d1, d2⟩ := hd2 H
  have h0 : (0 : Int) < ((ts.length + 2 : Nat) : Int) := by omega
  have h1 : (1 : Int) < ((ts.length + 2 : Nat) : Int) := by omega
  have HCO : Hid (∀ V, RdrAt V rb tb z ts o → Calls Tryz.prog 107 #[.pointer (some ⟨rb, 0, none⟩)] V (LitQ (compP z ts) rb tb z o V)) := Lib.hid fun V hV => compare_any V hV hg hts ho
  have HLE : Hid (∀ V, RdrAt V rb tb z ts o → Calls Tryz.prog 108 #[.pointer (some ⟨rb, 0, none⟩)] V (LitQ (letP z ts) rb tb z o V)) := Lib.hid fun V hV => let_any V hV hg hts ho
  have HWK : Hid (∀ V, RdrAt V rb tb z ts o → Calls Tryz.prog 109 #[.pointer (some ⟨rb, 0, none⟩)] V (LitQ (walkP z ts) rb tb z o V)) := Lib.hid fun V hV => walk_any V hV hg hts ho
  have HG := Lib.hid hg; have HLN := Lib.hid hts
  have S00 := (LSt.start h).new 52 [.int .i64 0, .string ByteArray.empty, .slice none 0 0, .string ByteArray.empty, .string ByteArray.empty, .int .i64 0, .int .i64 0, .string ByteArray.empty, .string ByteArray.empty, .int .i64 0, .int .i64 0, .string ByteArray.empty, .string ByteArray.empty, .int .i64 0, .int .i64 0, .string ByteArray.empty, .slice none 0 0]
  obtain ⟨R, hR⟩ : ∃ R, litP z ts = R := ⟨_, rfl⟩
  rw [hR]
  unfold litP at hR
  obtain ⟨t0, e0⟩ : ∃ t, hdT z ts = t := ⟨_, rfl⟩
  obtain ⟨t1, e1⟩ : ∃ t, hdT z ts.tail = t := ⟨_, rfl⟩
  rw [e0] at c0 c1 c2 hR hV hN hW
  rw [e1] at d0 d1 d2 hR hC
  have XhW := Lib.hid hW
  clear hW
  have HCM : Hid (∀ V, Calls Tryz.prog 106 #[.agg #[.int .i64 (t1.k : Int), .string (bs t1.t), .int .i64 (t1.a : Int)]] V fun e w' => e = .returned (.bool (cmpT t1)) ∧ Below V.heap.size V w') := Lib.hid fun V => isCmp_any t1 V
  have HVR : Hid (∀ V, Calls Tryz.prog 89 #[.agg #[.int .i64 (t0.k : Int), .string (bs t0.t), .int .i64 (t0.a : Int)]] V fun e w' => e = .returned (.bool (varT t0)) ∧ Below V.heap.size V w') := Lib.hid fun V => isVar_any t0 V
  have HPR : Hid (∀ V, Calls Tryz.prog 55 #[.agg #[.int .i64 (t0.k : Int), .string (bs t0.t), .int .i64 (t0.a : Int)]] V fun e w' => e = .returned (.bool (predT t0)) ∧ Below V.heap.size V w') := Lib.hid fun V => isPred_any t0 V
  clear e0 e1 h hg hts ho H
  go_enter Tryz.func85, Tryz.ntmps85
  go_wp2_with fail
  obtain ⟨U, hU⟩ : ∃ U, W.alloc (.cells #[.int .i64 0, .string ⟨#[]⟩, .slice none 0 0, .string ⟨#[]⟩, .string ⟨#[]⟩, .int .i64 0, .int .i64 0, .string ⟨#[]⟩, .string ⟨#[]⟩, .int .i64 0, .int .i64 0, .string ⟨#[]⟩, .string ⟨#[]⟩, .int .i64 0, .int .i64 0, .string ⟨#[]⟩, .slice none 0 0] 52) = U := ⟨_, rfl⟩
  have hbU : Below W.heap.size W U := by rw [← hU]; exact (Below.refl _ _).alloc (Nat.le_refl _) _
  have hsU : U.heap.size = W.heap.size + 1 := by rw [← hU]; simp
  rw [hU]
  have hB2 : ∀ o1 o2, Below W.heap.size W ((U.alloc o1).alloc o2).drew := fun o1 o2 => ((hbU.alloc (by omega) o1).alloc (by simp; omega) o2).drew
  have hB0 : Below W.heap.size W U.drew := hbU.drew
  have g0 := fun o1 o2 => (keep (hB2 o1 o2) rb 0 hl).trans r0
  have g1 := fun o1 o2 => (keep (hB2 o1 o2) tb off hb).trans c0
  have g2 := fun o1 o2 => (keep (hB2 o1 o2) tb (off + 1) hb).trans c1
  have g3 := fun o1 o2 => (keep (hB2 o1 o2) tb (off + 2) hb).trans c2
  have g4 := fun o1 o2 => (keep (hB2 o1 o2) tb (off + 3) hb).trans d0
  have g5 := fun o1 o2 => (keep (hB2 o1 o2) tb (off + 3 + 1) hb).trans d1
  have g6 := fun o1 o2 => (keep (hB2 o1 o2) tb (off + 3 + 2) hb).trans d2
  have k0 := (keep hB0 rb 0 hl).trans r0
  have k1 := (keep hB0 tb off hb).trans c0
  have k2 := (keep hB0 tb (off + 1) hb).trans c1
  have k3 := (keep hB0 tb (off + 2) hb).trans c2
  have k4 := (keep hB0 tb (off + 3) hb).trans d0
  have k5 := (keep hB0 tb (off + 3 + 1) hb).trans d1
  have k6 := (keep hB0 tb (off + 3 + 2) hb).trans d2
  have hB1 : ∀ o1, Below W.heap.size W (U.alloc o1).drew := fun o1 => (hbU.alloc (by omega) o1).drew
  have j0 := fun o1 => (keep (hB1 o1) rb 0 hl).trans r0
  have j1 := fun o1 => (keep (hB1 o1) tb off hb).trans c0
  have j2 := fun o1 => (keep (hB1 o1) tb (off + 1) hb).trans c1
  have j3 := fun o1 => (keep (hB1 o1) tb (off + 2) hb).trans c2
  have j4 := fun o1 => (keep (hB1 o1) tb (off + 3) hb).trans d0
  have j5 := fun o1 => (keep (hB1 o1) tb (off + 3 + 1) hb).trans d1
  have j6 := fun o1 => (keep (hB1 o1) tb (off + 3 + 2) hb).trans d2
  have l0 := (keep hbU rb 0 hl).trans r0
  have l1 := (keep hbU tb off hb).trans c0
  have l2 := (keep hbU tb (off + 1) hb).trans c1
  have l3 := (keep hbU tb (off + 2) hb).trans c2
  have l4 := (keep hbU tb (off + 3) hb).trans d0
  have l5 := (keep hbU tb (off + 3 + 1) hb).trans d1
  have l6 := (keep hbU tb (off + 3 + 2) hb).trans d2
  have hlU : rb < U.heap.size := by omega
  have hbU2 : tb < U.heap.size := by omega
  have h0' : (0 : Int) < (ts.length : Int) + 2 := by omega
  have h1' : (1 : Int) < (ts.length : Int) + 2 := by omega
  have S0 : Hid (LSt rb tb z o W [(W.heap.size, 52, [.int .i64 0, .string ByteArray.empty, .slice none 0 0, .string ByteArray.empty, .string ByteArray.empty, .int .i64 0, .int .i64 0, .string ByteArray.empty, .string ByteArray.empty, .int .i64 0, .int .i64 0, .string ByteArray.empty, .string ByteArray.empty, .int .i64 0, .int .i64 0, .string ByteArray.empty, .slice none 0 0])] ts U) := Lib.hid (by rw [← hU]; exact S00)
  clear S00
  go_region
  all_goals clear hbU hB2 hB0 g0 g1 g2 g3 g4 g5 g6 k0 k1 k2 k3 k4 k5 k6 hB1 j0 j1 j2 j3 j4 j5 j6 l0 l1 l2 l3 l4 l5 l6 hlU hbU2 h0' h1' r0 c0 c1 c2 d0 d1 d2 h0 h1
  · have S1 : Hid (LSt rb tb z o W [(W.heap.size, 52, [.int .i64 0, .string ByteArray.empty, .slice none 0 0, .string ByteArray.empty, .string ByteArray.empty, .int .i64 0, .int .i64 0, .string ByteArray.empty, .string ByteArray.empty, .int .i64 0, .int .i64 0, .string ByteArray.empty, .string ByteArray.empty, .int .i64 0, .int .i64 0, .string ByteArray.empty, .slice none 0 0]), (W.heap.size + 1, 92, [.int .i64 (t0.k : Int), .string (bs t0.t), .int .i64 (t0.a : Int)]), (W.heap.size + 1 + 1, 92, [.int .i64 (t1.k : Int), .string (bs t1.t), .int .i64 (t1.a : Int)])] ts ((U.alloc (.cells #[.int .i64 (t0.k : Int), .string (bs t0.t), .int .i64 (t0.a : Int)] 92)).alloc (.cells #[.int .i64 (t1.k : Int), .string (bs t1.t), .int .i64 (t1.a : Int)] 92)).drew) := Lib.hid (by
      have h1 := S0.out.new 92 [.int .i64 (t0.k : Int), .string (bs t0.t), .int .i64 (t0.a : Int)]
      rw [hsU] at h1
      have h2 := h1.new 92 [.int .i64 (t1.k : Int), .string (bs t1.t), .int .i64 (t1.a : Int)]
      rw [World.size_alloc, hsU] at h2
      exact h2.on ((Below.refl _ _).drew))
    generalize ((U.alloc (.cells #[.int .i64 (t0.k : Int), .string (bs t0.t), .int .i64 (t0.a : Int)] 92)).alloc (.cells #[.int .i64 (t1.k : Int), .string (bs t1.t), .int .i64 (t1.a : Int)] 92)).drew = w2 at S1 ⊢
    have x0 := (S1.out.row (x := (W.heap.size + 1, 92, [.int .i64 (t0.k : Int), .string (bs t0.t), .int .i64 (t0.a : Int)])) (.tail _ (.head _))).cell 0
    have x1 := (S1.out.row (x := (W.heap.size + 1, 92, [.int .i64 (t0.k : Int), .string (bs t0.t), .int .i64 (t0.a : Int)])) (.tail _ (.head _))).cell 1
    have x2 := (S1.out.row (x := (W.heap.size + 1, 92, [.int .i64 (t0.k : Int), .string (bs t0.t), .int .i64 (t0.a : Int)])) (.tail _ (.head _))).cell 2
    have y0 := (S1.out.row (x := (W.heap.size + 1 + 1, 92, [.int .i64 (t1.k : Int), .string (bs t1.t), .int .i64 (t1.a : Int)])) (.tail _ (.tail _ (.head _)))).cell 0
    have y1 := (S1.out.row (x := (W.heap.size + 1 + 1, 92, [.int .i64 (t1.k : Int), .string (bs t1.t), .int .i64 (t1.a : Int)])) (.tail _ (.tail _ (.head _)))).cell 1
    have y2 := (S1.out.row (x := (W.heap.size + 1 + 1, 92, [.int .i64 (t1.k : Int), .string (bs t1.t), .int .i64 (t1.a : Int)])) (.tail _ (.tail _ (.head _)))).cell 2
    simp only [List.getElem?_cons_zero, List.getElem?_cons_succ] at x0 x1 x2 y0 y1 y2
    clear S0 hsU hU
    have hs1 := S1.out.fr.size
    rw [hC] at HCM hR
    rw [if_neg (by simp)] at hR
    rw [if_neg (fun e => by rw [hV] at e; exact absurd e.1 (by simp))] at hR
    rw [hV] at HVR
    rw [if_neg hN] at hR
    have g2 : ((bs t0.t).toList == [110, 111, 116]) = false := by rw [bsl, beq_eq_false_iff_ne]; exact hN
    have hW := XhW.out
    rw [if_pos hW] at hR
    have g3 : ((bs t0.t).toList == [119, 97, 108, 107]) = true := by rw [bsl, hW]; rfl
    clear hW
    rw [hR] at HWK
    clear hR
    cases R with
    | no a k =>
      go_wp2_with (first
        | (go_at_call 106; refine (HCM.out _).mono ?_; rintro e w3 ⟨rfl, hb⟩; have S3 := Lib.hid (S1.out.on hb); clear x0 x1 x2 y0 y1 y2 hb HCM; have x0 := (S3.out.row (x := (W.heap.size + 1, 92, [.int .i64 (t0.k : Int), .string (bs t0.t), .int .i64 (t0.a : Int)])) (.tail _ (.head _))).cell 0; have x1 := (S3.out.row (x := (W.heap.size + 1, 92, [.int .i64 (t0.k : Int), .string (bs t0.t), .int .i64 (t0.a : Int)])) (.tail _ (.head _))).cell 1; have x2 := (S3.out.row (x := (W.heap.size + 1, 92, [.int .i64 (t0.k : Int), .string (bs t0.t), .int .i64 (t0.a : Int)])) (.tail _ (.head _))).cell 2; have y0 := (S3.out.row (x := (W.heap.size + 1 + 1, 92, [.int .i64 (t1.k : Int), .string (bs t1.t), .int .i64 (t1.a : Int)])) (.tail _ (.tail _ (.head _)))).cell 0; have y1 := (S3.out.row (x := (W.heap.size + 1 + 1, 92, [.int .i64 (t1.k : Int), .string (bs t1.t), .int .i64 (t1.a : Int)])) (.tail _ (.tail _ (.head _)))).cell 1; have y2 := (S3.out.row (x := (W.heap.size + 1 + 1, 92, [.int .i64 (t1.k : Int), .string (bs t1.t), .int .i64 (t1.a : Int)])) (.tail _ (.tail _ (.head _)))).cell 2; simp only [List.getElem?_cons_zero, List.getElem?_cons_succ] at x0 x1 x2 y0 y1 y2)
        | (go_at_call 89; refine (HVR.out _).mono ?_; rintro e w4 ⟨rfl, hb⟩; have S4 := Lib.hid (S3.out.on hb); clear x0 x1 x2 y0 y1 y2 hb HVR; have x0 := (S4.out.row (x := (W.heap.size + 1, 92, [.int .i64 (t0.k : Int), .string (bs t0.t), .int .i64 (t0.a : Int)])) (.tail _ (.head _))).cell 0; have x1 := (S4.out.row (x := (W.heap.size + 1, 92, [.int .i64 (t0.k : Int), .string (bs t0.t), .int .i64 (t0.a : Int)])) (.tail _ (.head _))).cell 1; have x2 := (S4.out.row (x := (W.heap.size + 1, 92, [.int .i64 (t0.k : Int), .string (bs t0.t), .int .i64 (t0.a : Int)])) (.tail _ (.head _))).cell 2; have y0 := (S4.out.row (x := (W.heap.size + 1 + 1, 92, [.int .i64 (t1.k : Int), .string (bs t1.t), .int .i64 (t1.a : Int)])) (.tail _ (.tail _ (.head _)))).cell 0; have y1 := (S4.out.row (x := (W.heap.size + 1 + 1, 92, [.int .i64 (t1.k : Int), .string (bs t1.t), .int .i64 (t1.a : Int)])) (.tail _ (.tail _ (.head _)))).cell 1; have y2 := (S4.out.row (x := (W.heap.size + 1 + 1, 92, [.int .i64 (t1.k : Int), .string (bs t1.t), .int .i64 (t1.a : Int)])) (.tail _ (.tail _ (.head _)))).cell 2; simp only [List.getElem?_cons_zero, List.getElem?_cons_succ] at x0 x1 x2 y0 y1 y2)
        | (go_at_call 109; refine (HWK.out _ S4.out.rdr).mono ?_; rintro e w9 ⟨rfl, f⟩))
      exact ⟨rfl, rfl, S4.out.fr.trans (f.mono S4.out.fr.size)⟩
    | ok x r =>
      go_wp2_with (first
        | (go_at_call 106; refine (HCM.out _).mono ?_; rintro e w3 ⟨rfl, hb⟩; have S3 := Lib.hid (S1.out.on hb); clear x0 x1 x2 y0 y1 y2 hb HCM; have x0 := (S3.out.row (x := (W.heap.size + 1, 92, [.int .i64 (t0.k : Int), .string (bs t0.t), .int .i64 (t0.a : Int)])) (.tail _ (.head _))).cell 0; have x1 := (S3.out.row (x := (W.heap.size + 1, 92, [.int .i64 (t0.k : Int), .string (bs t0.t), .int .i64 (t0.a : Int)])) (.tail _ (.head _))).cell 1; have x2 := (S3.out.row (x := (W.heap.size + 1, 92, [.int .i64 (t0.k : Int), .string (bs t0.t), .int .i64 (t0.a : Int)])) (.tail _ (.head _))).cell 2; have y0 := (S3.out.row (x := (W.heap.size + 1 + 1, 92, [.int .i64 (t1.k : Int), .string (bs t1.t), .int .i64 (t1.a : Int)])) (.tail _ (.tail _ (.head _)))).cell 0; have y1 := (S3.out.row (x := (W.heap.size + 1 + 1, 92, [.int .i64 (t1.k : Int), .string (bs t1.t), .int .i64 (t1.a : Int)])) (.tail _ (.tail _ (.head _)))).cell 1; have y2 := (S3.out.row (x := (W.heap.size + 1 + 1, 92, [.int .i64 (t1.k : Int), .string (bs t1.t), .int .i64 (t1.a : Int)])) (.tail _ (.tail _ (.head _)))).cell 2; simp only [List.getElem?_cons_zero, List.getElem?_cons_succ] at x0 x1 x2 y0 y1 y2)
        | (go_at_call 89; refine (HVR.out _).mono ?_; rintro e w4 ⟨rfl, hb⟩; have S4 := Lib.hid (S3.out.on hb); clear x0 x1 x2 y0 y1 y2 hb HVR; have x0 := (S4.out.row (x := (W.heap.size + 1, 92, [.int .i64 (t0.k : Int), .string (bs t0.t), .int .i64 (t0.a : Int)])) (.tail _ (.head _))).cell 0; have x1 := (S4.out.row (x := (W.heap.size + 1, 92, [.int .i64 (t0.k : Int), .string (bs t0.t), .int .i64 (t0.a : Int)])) (.tail _ (.head _))).cell 1; have x2 := (S4.out.row (x := (W.heap.size + 1, 92, [.int .i64 (t0.k : Int), .string (bs t0.t), .int .i64 (t0.a : Int)])) (.tail _ (.head _))).cell 2; have y0 := (S4.out.row (x := (W.heap.size + 1 + 1, 92, [.int .i64 (t1.k : Int), .string (bs t1.t), .int .i64 (t1.a : Int)])) (.tail _ (.tail _ (.head _)))).cell 0; have y1 := (S4.out.row (x := (W.heap.size + 1 + 1, 92, [.int .i64 (t1.k : Int), .string (bs t1.t), .int .i64 (t1.a : Int)])) (.tail _ (.tail _ (.head _)))).cell 1; have y2 := (S4.out.row (x := (W.heap.size + 1 + 1, 92, [.int .i64 (t1.k : Int), .string (bs t1.t), .int .i64 (t1.a : Int)])) (.tail _ (.tail _ (.head _)))).cell 2; simp only [List.getElem?_cons_zero, List.getElem?_cons_succ] at x0 x1 x2 y0 y1 y2)
        | (go_at_call 109; refine (HWK.out _ S4.out.rdr).mono ?_; rintro e w9 ⟨X, hX, rfl, hok, h, f⟩; have S9 := Lib.hid (S4.out.call h f); have HX := Lib.hid hX; have HOK := Lib.hid hok; have hlt : W.heap.size < w4.heap.size := (S4.out.row (x := (W.heap.size, 52, [.int .i64 0, .string ByteArray.empty, .slice none 0 0, .string ByteArray.empty, .string ByteArray.empty, .int .i64 0, .int .i64 0, .string ByteArray.empty, .string ByteArray.empty, .int .i64 0, .int .i64 0, .string ByteArray.empty, .string ByteArray.empty, .int .i64 0, .int .i64 0, .string ByteArray.empty, .slice none 0 0])) (.head _)).lt; clear hX hok h f)
        | (refine wpList_storeR rfl 52 (.tmp 2) _ rfl W.heap.size 0 rfl (.agg (litC X).toArray) rfl (litC X) rfl (pre := []) (old := [.int .i64 0, .string ByteArray.empty, .slice none 0 0, .string ByteArray.empty, .string ByteArray.empty, .int .i64 0, .int .i64 0, .string ByteArray.empty, .string ByteArray.empty, .int .i64 0, .int .i64 0, .string ByteArray.empty, .string ByteArray.empty, .int .i64 0, .int .i64 0, .string ByteArray.empty, .slice none 0 0]) (post := []) (S9.out.row (x := (W.heap.size, 52, [.int .i64 0, .string ByteArray.empty, .slice none 0 0, .string ByteArray.empty, .string ByteArray.empty, .int .i64 0, .int .i64 0, .string ByteArray.empty, .string ByteArray.empty, .int .i64 0, .int .i64 0, .string ByteArray.empty, .string ByteArray.empty, .int .i64 0, .int .i64 0, .string ByteArray.empty, .slice none 0 0])) (.head _)) rfl rfl (by kernel_rfl) rfl ?_; intro w100 hR100 hF100 hs100; have S100 := Lib.hid (S9.out.store (pre := []) hR100 hF100)))
      refine bodyPost_ret (results_cell_row rfl _ _ W.heap.size _ _ _ _ rfl hR100 Tryz.underlying52 rfl (by kernel_rfl)) rfl ?_
      exact ⟨X, HX.out, rfl, LtA.ok.less (LtA.ok.frx HOK.out (fun k (hk : k = W.heap.size) => by omega) (hF100 _)) (by omega), S100.out.rdr, S100.out.fr⟩
  · have S1 : Hid (LSt rb tb z o W [(W.heap.size, 52, [.int .i64 0, .string ByteArray.empty, .slice none 0 0, .string ByteArray.empty, .string ByteArray.empty, .int .i64 0, .int .i64 0, .string ByteArray.empty, .string ByteArray.empty, .int .i64 0, .int .i64 0, .string ByteArray.empty, .string ByteArray.empty, .int .i64 0, .int .i64 0, .string ByteArray.empty, .slice none 0 0]), (W.heap.size + 1, 92, [.int .i64 (t1.k : Int), .string (bs t1.t), .int .i64 (t1.a : Int)]), (W.heap.size + 1 + 1, 92, [.int .i64 (t0.k : Int), .string (bs t0.t), .int .i64 (t0.a : Int)])] ts ((U.alloc (.cells #[.int .i64 (t1.k : Int), .string (bs t1.t), .int .i64 (t1.a : Int)] 92)).alloc (.cells #[.int .i64 (t0.k : Int), .string (bs t0.t), .int .i64 (t0.a : Int)] 92)).drew) := Lib.hid (by
      have h1 := S0.out.new 92 [.int .i64 (t1.k : Int), .string (bs t1.t), .int .i64 (t1.a : Int)]
      rw [hsU] at h1
      have h2 := h1.new 92 [.int .i64 (t0.k : Int), .string (bs t0.t), .int .i64 (t0.a : Int)]
      rw [World.size_alloc, hsU] at h2
      exact h2.on ((Below.refl _ _).drew))
    generalize ((U.alloc (.cells #[.int .i64 (t1.k : Int), .string (bs t1.t), .int .i64 (t1.a : Int)] 92)).alloc (.cells #[.int .i64 (t0.k : Int), .string (bs t0.t), .int .i64 (t0.a : Int)] 92)).drew = w2 at S1 ⊢
    have x0 := (S1.out.row (x := (W.heap.size + 1 + 1, 92, [.int .i64 (t0.k : Int), .string (bs t0.t), .int .i64 (t0.a : Int)])) (.tail _ (.tail _ (.head _)))).cell 0
    have x1 := (S1.out.row (x := (W.heap.size + 1 + 1, 92, [.int .i64 (t0.k : Int), .string (bs t0.t), .int .i64 (t0.a : Int)])) (.tail _ (.tail _ (.head _)))).cell 1
    have x2 := (S1.out.row (x := (W.heap.size + 1 + 1, 92, [.int .i64 (t0.k : Int), .string (bs t0.t), .int .i64 (t0.a : Int)])) (.tail _ (.tail _ (.head _)))).cell 2
    have y0 := (S1.out.row (x := (W.heap.size + 1, 92, [.int .i64 (t1.k : Int), .string (bs t1.t), .int .i64 (t1.a : Int)])) (.tail _ (.head _))).cell 0
    have y1 := (S1.out.row (x := (W.heap.size + 1, 92, [.int .i64 (t1.k : Int), .string (bs t1.t), .int .i64 (t1.a : Int)])) (.tail _ (.head _))).cell 1
    have y2 := (S1.out.row (x := (W.heap.size + 1, 92, [.int .i64 (t1.k : Int), .string (bs t1.t), .int .i64 (t1.a : Int)])) (.tail _ (.head _))).cell 2
    simp only [List.getElem?_cons_zero, List.getElem?_cons_succ] at x0 x1 x2 y0 y1 y2
    clear S0 hsU hU
    have hs1 := S1.out.fr.size
    rw [hC] at HCM hR
    rw [if_neg (by simp)] at hR
    rw [if_neg (fun e => by rw [hV] at e; exact absurd e.1 (by simp))] at hR
    rw [hV] at HVR
    rw [if_neg hN] at hR
    have g2 : ((bs t0.t).toList == [110, 111, 116]) = false := by rw [bsl, beq_eq_false_iff_ne]; exact hN
    have hW := XhW.out
    rw [if_pos hW] at hR
    have g3 : ((bs t0.t).toList == [119, 97, 108, 107]) = true := by rw [bsl, hW]; rfl
    clear hW
    rw [hR] at HWK
    clear hR
    cases R with
    | no a k =>
      go_wp2_with (first
        | (go_at_call 106; refine (HCM.out _).mono ?_; rintro e w3 ⟨rfl, hb⟩; have S3 := Lib.hid (S1.out.on hb); clear x0 x1 x2 y0 y1 y2 hb HCM; have x0 := (S3.out.row (x := (W.heap.size + 1 + 1, 92, [.int .i64 (t0.k : Int), .string (bs t0.t), .int .i64 (t0.a : Int)])) (.tail _ (.tail _ (.head _)))).cell 0; have x1 := (S3.out.row (x := (W.heap.size + 1 + 1, 92, [.int .i64 (t0.k : Int), .string (bs t0.t), .int .i64 (t0.a : Int)])) (.tail _ (.tail _ (.head _)))).cell 1; have x2 := (S3.out.row (x := (W.heap.size + 1 + 1, 92, [.int .i64 (t0.k : Int), .string (bs t0.t), .int .i64 (t0.a : Int)])) (.tail _ (.tail _ (.head _)))).cell 2; have y0 := (S3.out.row (x := (W.heap.size + 1, 92, [.int .i64 (t1.k : Int), .string (bs t1.t), .int .i64 (t1.a : Int)])) (.tail _ (.head _))).cell 0; have y1 := (S3.out.row (x := (W.heap.size + 1, 92, [.int .i64 (t1.k : Int), .string (bs t1.t), .int .i64 (t1.a : Int)])) (.tail _ (.head _))).cell 1; have y2 := (S3.out.row (x := (W.heap.size + 1, 92, [.int .i64 (t1.k : Int), .string (bs t1.t), .int .i64 (t1.a : Int)])) (.tail _ (.head _))).cell 2; simp only [List.getElem?_cons_zero, List.getElem?_cons_succ] at x0 x1 x2 y0 y1 y2)
        | (go_at_call 89; refine (HVR.out _).mono ?_; rintro e w4 ⟨rfl, hb⟩; have S4 := Lib.hid (S3.out.on hb); clear x0 x1 x2 y0 y1 y2 hb HVR; have x0 := (S4.out.row (x := (W.heap.size + 1 + 1, 92, [.int .i64 (t0.k : Int), .string (bs t0.t), .int .i64 (t0.a : Int)])) (.tail _ (.tail _ (.head _)))).cell 0; have x1 := (S4.out.row (x := (W.heap.size + 1 + 1, 92, [.int .i64 (t0.k : Int), .string (bs t0.t), .int .i64 (t0.a : Int)])) (.tail _ (.tail _ (.head _)))).cell 1; have x2 := (S4.out.row (x := (W.heap.size + 1 + 1, 92, [.int .i64 (t0.k : Int), .string (bs t0.t), .int .i64 (t0.a : Int)])) (.tail _ (.tail _ (.head _)))).cell 2; have y0 := (S4.out.row (x := (W.heap.size + 1, 92, [.int .i64 (t1.k : Int), .string (bs t1.t), .int .i64 (t1.a : Int)])) (.tail _ (.head _))).cell 0; have y1 := (S4.out.row (x := (W.heap.size + 1, 92, [.int .i64 (t1.k : Int), .string (bs t1.t), .int .i64 (t1.a : Int)])) (.tail _ (.head _))).cell 1; have y2 := (S4.out.row (x := (W.heap.size + 1, 92, [.int .i64 (t1.k : Int), .string (bs t1.t), .int .i64 (t1.a : Int)])) (.tail _ (.head _))).cell 2; simp only [List.getElem?_cons_zero, List.getElem?_cons_succ] at x0 x1 x2 y0 y1 y2)
        | (go_at_call 109; refine (HWK.out _ S4.out.rdr).mono ?_; rintro e w9 ⟨rfl, f⟩))
      exact ⟨rfl, rfl, S4.out.fr.trans (f.mono S4.out.fr.size)⟩
    | ok x r =>
      go_wp2_with (first
        | (go_at_call 106; refine (HCM.out _).mono ?_; rintro e w3 ⟨rfl, hb⟩; have S3 := Lib.hid (S1.out.on hb); clear x0 x1 x2 y0 y1 y2 hb HCM; have x0 := (S3.out.row (x := (W.heap.size + 1 + 1, 92, [.int .i64 (t0.k : Int), .string (bs t0.t), .int .i64 (t0.a : Int)])) (.tail _ (.tail _ (.head _)))).cell 0; have x1 := (S3.out.row (x := (W.heap.size + 1 + 1, 92, [.int .i64 (t0.k : Int), .string (bs t0.t), .int .i64 (t0.a : Int)])) (.tail _ (.tail _ (.head _)))).cell 1; have x2 := (S3.out.row (x := (W.heap.size + 1 + 1, 92, [.int .i64 (t0.k : Int), .string (bs t0.t), .int .i64 (t0.a : Int)])) (.tail _ (.tail _ (.head _)))).cell 2; have y0 := (S3.out.row (x := (W.heap.size + 1, 92, [.int .i64 (t1.k : Int), .string (bs t1.t), .int .i64 (t1.a : Int)])) (.tail _ (.head _))).cell 0; have y1 := (S3.out.row (x := (W.heap.size + 1, 92, [.int .i64 (t1.k : Int), .string (bs t1.t), .int .i64 (t1.a : Int)])) (.tail _ (.head _))).cell 1; have y2 := (S3.out.row (x := (W.heap.size + 1, 92, [.int .i64 (t1.k : Int), .string (bs t1.t), .int .i64 (t1.a : Int)])) (.tail _ (.head _))).cell 2; simp only [List.getElem?_cons_zero, List.getElem?_cons_succ] at x0 x1 x2 y0 y1 y2)
        | (go_at_call 89; refine (HVR.out _).mono ?_; rintro e w4 ⟨rfl, hb⟩; have S4 := Lib.hid (S3.out.on hb); clear x0 x1 x2 y0 y1 y2 hb HVR; have x0 := (S4.out.row (x := (W.heap.size + 1 + 1, 92, [.int .i64 (t0.k : Int), .string (bs t0.t), .int .i64 (t0.a : Int)])) (.tail _ (.tail _ (.head _)))).cell 0; have x1 := (S4.out.row (x := (W.heap.size + 1 + 1, 92, [.int .i64 (t0.k : Int), .string (bs t0.t), .int .i64 (t0.a : Int)])) (.tail _ (.tail _ (.head _)))).cell 1; have x2 := (S4.out.row (x := (W.heap.size + 1 + 1, 92, [.int .i64 (t0.k : Int), .string (bs t0.t), .int .i64 (t0.a : Int)])) (.tail _ (.tail _ (.head _)))).cell 2; have y0 := (S4.out.row (x := (W.heap.size + 1, 92, [.int .i64 (t1.k : Int), .string (bs t1.t), .int .i64 (t1.a : Int)])) (.tail _ (.head _))).cell 0; have y1 := (S4.out.row (x := (W.heap.size + 1, 92, [.int .i64 (t1.k : Int), .string (bs t1.t), .int .i64 (t1.a : Int)])) (.tail _ (.head _))).cell 1; have y2 := (S4.out.row (x := (W.heap.size + 1, 92, [.int .i64 (t1.k : Int), .string (bs t1.t), .int .i64 (t1.a : Int)])) (.tail _ (.head _))).cell 2; simp only [List.getElem?_cons_zero, List.getElem?_cons_succ] at x0 x1 x2 y0 y1 y2)
        | (go_at_call 109; refine (HWK.out _ S4.out.rdr).mono ?_; rintro e w9 ⟨X, hX, rfl, hok, h, f⟩; have S9 := Lib.hid (S4.out.call h f); have HX := Lib.hid hX; have HOK := Lib.hid hok; have hlt : W.heap.size < w4.heap.size := (S4.out.row (x := (W.heap.size, 52, [.int .i64 0, .string ByteArray.empty, .slice none 0 0, .string ByteArray.empty, .string ByteArray.empty, .int .i64 0, .int .i64 0, .string ByteArray.empty, .string ByteArray.empty, .int .i64 0, .int .i64 0, .string ByteArray.empty, .string ByteArray.empty, .int .i64 0, .int .i64 0, .string ByteArray.empty, .slice none 0 0])) (.head _)).lt; clear hX hok h f)
        | (refine wpList_storeR rfl 52 (.tmp 2) _ rfl W.heap.size 0 rfl (.agg (litC X).toArray) rfl (litC X) rfl (pre := []) (old := [.int .i64 0, .string ByteArray.empty, .slice none 0 0, .string ByteArray.empty, .string ByteArray.empty, .int .i64 0, .int .i64 0, .string ByteArray.empty, .string ByteArray.empty, .int .i64 0, .int .i64 0, .string ByteArray.empty, .string ByteArray.empty, .int .i64 0, .int .i64 0, .string ByteArray.empty, .slice none 0 0]) (post := []) (S9.out.row (x := (W.heap.size, 52, [.int .i64 0, .string ByteArray.empty, .slice none 0 0, .string ByteArray.empty, .string ByteArray.empty, .int .i64 0, .int .i64 0, .string ByteArray.empty, .string ByteArray.empty, .int .i64 0, .int .i64 0, .string ByteArray.empty, .string ByteArray.empty, .int .i64 0, .int .i64 0, .string ByteArray.empty, .slice none 0 0])) (.head _)) rfl rfl (by kernel_rfl) rfl ?_; intro w100 hR100 hF100 hs100; have S100 := Lib.hid (S9.out.store (pre := []) hR100 hF100)))
      refine bodyPost_ret (results_cell_row rfl _ _ W.heap.size _ _ _ _ rfl hR100 Tryz.underlying52 rfl (by kernel_rfl)) rfl ?_
      exact ⟨X, HX.out, rfl, LtA.ok.less (LtA.ok.frx HOK.out (fun k (hk : k = W.heap.size) => by omega) (hF100 _)) (by omega), S100.out.rdr, S100.out.fr⟩
set_option maxRecDepth 20000 in
set_option maxHeartbeats 64000000 in
theorem lit_walk1 (W : World) (h : RdrAt W rb tb z ts o) (hg : GoodT ts) (hts : ts.length ≤ 20009) (ho : o = 0) (hC : cmpT (hdT z ts.tail) = false) (hV : varT (hdT z ts) = true) (hI : (hdT z ts.tail).t ≠ [105, 115]) (hN : (hdT z ts).t ≠ [110, 111, 116]) (hW : (hdT z ts).t = [119, 97, 108, 107]) : Calls Tryz.prog 85 #[.pointer (some ⟨rb, 0, none⟩)] W (LitQ (litP z ts) rb tb z o W) := by
  obtain ⟨off, c, H⟩ := h.hd
  have r0 := H.r0; have c0 := H.c0; have c1 := H.c1; have c2 := H.c2; have hl := H.lt; have hb := H.bl
  obtain ⟨d0, d1, d2⟩ := hd2 H
  have h0 : (0 : Int) < ((ts.length + 2 : Nat) : Int) := by omega
  have h1 : (1 : Int) < ((ts.length + 2 : Nat) : Int) := by omega
  have HCO : Hid (∀ V, RdrAt V rb tb z ts o → Calls Tryz.prog 107 #[.pointer (some ⟨rb, 0, none⟩)] V (LitQ (compP z ts) rb tb z o V)) := Lib.hid fun V hV => compare_any V hV hg hts ho
  have HLE : Hid (∀ V, RdrAt V rb tb z ts o → Calls Tryz.prog 108 #[.pointer (some ⟨rb, 0, none⟩)] V (LitQ (letP z ts) rb tb z o V)) := Lib.hid fun V hV => let_any V hV hg hts ho
  have HWK : Hid (∀ V, RdrAt V rb tb z ts o → Calls Tryz.prog 109 #[.pointer (some ⟨rb, 0, none⟩)] V (LitQ (walkP z ts) rb tb z o V)) := Lib.hid fun V hV => walk_any V hV hg hts ho
  have HG := Lib.hid hg; have HLN := Lib.hid hts
  have S00 := (LSt.start h).new 52 [.int .i64 0, .string ByteArray.empty, .slice none 0 0, .string ByteArray.empty, .string ByteArray.empty, .int .i64 0, .int .i64 0, .string ByteArray.empty, .string ByteArray.empty, .int .i64 0, .int .i64 0, .string ByteArray.empty, .string ByteArray.empty, .int .i64 0, .int .i64 0, .string ByteArray.empty, .slice none 0 0]
  obtain ⟨R, hR⟩ : ∃ R, litP z ts = R := ⟨_, rfl⟩
  rw [hR]
  unfold litP at hR
  obtain ⟨t0, e0⟩ : ∃ t, hdT z ts = t := ⟨_, rfl⟩
  obtain ⟨t1, e1⟩ : ∃ t, hdT z ts.tail = t := ⟨_, rfl⟩
  rw [e0] at c0 c1 c2 hR hV hN hW
  rw [e1] at d0 d1 d2 hR hC hI
  have XhW := Lib.hid hW
  clear hW
  have HCM : Hid (∀ V, Calls Tryz.prog 106 #[.agg #[.int .i64 (t1.k : Int), .string (bs t1.t), .int .i64 (t1.a : Int)]] V fun e w' => e = .returned (.bool (cmpT t1)) ∧ Below V.heap.size V w') := Lib.hid fun V => isCmp_any t1 V
  have HVR : Hid (∀ V, Calls Tryz.prog 89 #[.agg #[.int .i64 (t0.k : Int), .string (bs t0.t), .int .i64 (t0.a : Int)]] V fun e w' => e = .returned (.bool (varT t0)) ∧ Below V.heap.size V w') := Lib.hid fun V => isVar_any t0 V
  have HPR : Hid (∀ V, Calls Tryz.prog 55 #[.agg #[.int .i64 (t0.k : Int), .string (bs t0.t), .int .i64 (t0.a : Int)]] V fun e w' => e = .returned (.bool (predT t0)) ∧ Below V.heap.size V w') := Lib.hid fun V => isPred_any t0 V
  clear e0 e1 h hg hts ho H
  go_enter Tryz.func85, Tryz.ntmps85
  go_wp2_with fail
  obtain ⟨U, hU⟩ : ∃ U, W.alloc (.cells #[.int .i64 0, .string ⟨#[]⟩, .slice none 0 0, .string ⟨#[]⟩, .string ⟨#[]⟩, .int .i64 0, .int .i64 0, .string ⟨#[]⟩, .string ⟨#[]⟩, .int .i64 0, .int .i64 0, .string ⟨#[]⟩, .string ⟨#[]⟩, .int .i64 0, .int .i64 0, .string ⟨#[]⟩, .slice none 0 0] 52) = U := ⟨_, rfl⟩
  have hbU : Below W.heap.size W U := by rw [← hU]; exact (Below.refl _ _).alloc (Nat.le_refl _) _
  have hsU : U.heap.size = W.heap.size + 1 := by rw [← hU]; simp
  rw [hU]
  have hB2 : ∀ o1 o2, Below W.heap.size W ((U.alloc o1).alloc o2).drew := fun o1 o2 => ((hbU.alloc (by omega) o1).alloc (by simp; omega) o2).drew
  have hB0 : Below W.heap.size W U.drew := hbU.drew
  have g0 := fun o1 o2 => (keep (hB2 o1 o2) rb 0 hl).trans r0
  have g1 := fun o1 o2 => (keep (hB2 o1 o2) tb off hb).trans c0
  have g2 := fun o1 o2 => (keep (hB2 o1 o2) tb (off + 1) hb).trans c1
  have g3 := fun o1 o2 => (keep (hB2 o1 o2) tb (off + 2) hb).trans c2
  have g4 := fun o1 o2 => (keep (hB2 o1 o2) tb (off + 3) hb).trans d0
  have g5 := fun o1 o2 => (keep (hB2 o1 o2) tb (off + 3 + 1) hb).trans d1
  have g6 := fun o1 o2 => (keep (hB2 o1 o2) tb (off + 3 + 2) hb).trans d2
  have k0 := (keep hB0 rb 0 hl).trans r0
  have k1 := (keep hB0 tb off hb).trans c0
  have k2 := (keep hB0 tb (off + 1) hb).trans c1
  have k3 := (keep hB0 tb (off + 2) hb).trans c2
  have k4 := (keep hB0 tb (off + 3) hb).trans d0
  have k5 := (keep hB0 tb (off + 3 + 1) hb).trans d1
  have k6 := (keep hB0 tb (off + 3 + 2) hb).trans d2
  have hB1 : ∀ o1, Below W.heap.size W (U.alloc o1).drew := fun o1 => (hbU.alloc (by omega) o1).drew
  have j0 := fun o1 => (keep (hB1 o1) rb 0 hl).trans r0
  have j1 := fun o1 => (keep (hB1 o1) tb off hb).trans c0
  have j2 := fun o1 => (keep (hB1 o1) tb (off + 1) hb).trans c1
  have j3 := fun o1 => (keep (hB1 o1) tb (off + 2) hb).trans c2
  have j4 := fun o1 => (keep (hB1 o1) tb (off + 3) hb).trans d0
  have j5 := fun o1 => (keep (hB1 o1) tb (off + 3 + 1) hb).trans d1
  have j6 := fun o1 => (keep (hB1 o1) tb (off + 3 + 2) hb).trans d2
  have l0 := (keep hbU rb 0 hl).trans r0
  have l1 := (keep hbU tb off hb).trans c0
  have l2 := (keep hbU tb (off + 1) hb).trans c1
  have l3 := (keep hbU tb (off + 2) hb).trans c2
  have l4 := (keep hbU tb (off + 3) hb).trans d0
  have l5 := (keep hbU tb (off + 3 + 1) hb).trans d1
  have l6 := (keep hbU tb (off + 3 + 2) hb).trans d2
  have hlU : rb < U.heap.size := by omega
  have hbU2 : tb < U.heap.size := by omega
  have h0' : (0 : Int) < (ts.length : Int) + 2 := by omega
  have h1' : (1 : Int) < (ts.length : Int) + 2 := by omega
  have S0 : Hid (LSt rb tb z o W [(W.heap.size, 52, [.int .i64 0, .string ByteArray.empty, .slice none 0 0, .string ByteArray.empty, .string ByteArray.empty, .int .i64 0, .int .i64 0, .string ByteArray.empty, .string ByteArray.empty, .int .i64 0, .int .i64 0, .string ByteArray.empty, .string ByteArray.empty, .int .i64 0, .int .i64 0, .string ByteArray.empty, .slice none 0 0])] ts U) := Lib.hid (by rw [← hU]; exact S00)
  clear S00
  go_region
  all_goals clear hbU hB2 hB0 g0 g1 g2 g3 g4 g5 g6 k0 k1 k2 k3 k4 k5 k6 hB1 j0 j1 j2 j3 j4 j5 j6 l0 l1 l2 l3 l4 l5 l6 hlU hbU2 h0' h1' r0 c0 c1 c2 d0 d1 d2 h0 h1
  · have S1 : Hid (LSt rb tb z o W [(W.heap.size, 52, [.int .i64 0, .string ByteArray.empty, .slice none 0 0, .string ByteArray.empty, .string ByteArray.empty, .int .i64 0, .int .i64 0, .string ByteArray.empty, .string ByteArray.empty, .int .i64 0, .int .i64 0, .string ByteArray.empty, .string ByteArray.empty, .int .i64 0, .int .i64 0, .string ByteArray.empty, .slice none 0 0]), (W.heap.size + 1, 92, [.int .i64 (t0.k : Int), .string (bs t0.t), .int .i64 (t0.a : Int)]), (W.heap.size + 1 + 1, 92, [.int .i64 (t1.k : Int), .string (bs t1.t), .int .i64 (t1.a : Int)])] ts ((U.alloc (.cells #[.int .i64 (t0.k : Int), .string (bs t0.t), .int .i64 (t0.a : Int)] 92)).alloc (.cells #[.int .i64 (t1.k : Int), .string (bs t1.t), .int .i64 (t1.a : Int)] 92)).drew) := Lib.hid (by
      have h1 := S0.out.new 92 [.int .i64 (t0.k : Int), .string (bs t0.t), .int .i64 (t0.a : Int)]
      rw [hsU] at h1
      have h2 := h1.new 92 [.int .i64 (t1.k : Int), .string (bs t1.t), .int .i64 (t1.a : Int)]
      rw [World.size_alloc, hsU] at h2
      exact h2.on ((Below.refl _ _).drew))
    generalize ((U.alloc (.cells #[.int .i64 (t0.k : Int), .string (bs t0.t), .int .i64 (t0.a : Int)] 92)).alloc (.cells #[.int .i64 (t1.k : Int), .string (bs t1.t), .int .i64 (t1.a : Int)] 92)).drew = w2 at S1 ⊢
    have x0 := (S1.out.row (x := (W.heap.size + 1, 92, [.int .i64 (t0.k : Int), .string (bs t0.t), .int .i64 (t0.a : Int)])) (.tail _ (.head _))).cell 0
    have x1 := (S1.out.row (x := (W.heap.size + 1, 92, [.int .i64 (t0.k : Int), .string (bs t0.t), .int .i64 (t0.a : Int)])) (.tail _ (.head _))).cell 1
    have x2 := (S1.out.row (x := (W.heap.size + 1, 92, [.int .i64 (t0.k : Int), .string (bs t0.t), .int .i64 (t0.a : Int)])) (.tail _ (.head _))).cell 2
    have y0 := (S1.out.row (x := (W.heap.size + 1 + 1, 92, [.int .i64 (t1.k : Int), .string (bs t1.t), .int .i64 (t1.a : Int)])) (.tail _ (.tail _ (.head _)))).cell 0
    have y1 := (S1.out.row (x := (W.heap.size + 1 + 1, 92, [.int .i64 (t1.k : Int), .string (bs t1.t), .int .i64 (t1.a : Int)])) (.tail _ (.tail _ (.head _)))).cell 1
    have y2 := (S1.out.row (x := (W.heap.size + 1 + 1, 92, [.int .i64 (t1.k : Int), .string (bs t1.t), .int .i64 (t1.a : Int)])) (.tail _ (.tail _ (.head _)))).cell 2
    simp only [List.getElem?_cons_zero, List.getElem?_cons_succ] at x0 x1 x2 y0 y1 y2
    clear S0 hsU hU
    have hs1 := S1.out.fr.size
    rw [hC] at HCM hR
    rw [if_neg (by simp)] at hR
    rw [if_neg (fun e => hI e.2)] at hR
    rw [hV] at HVR
    have g1 : ((bs t1.t).toList == [105, 115]) = false := by rw [bsl, beq_eq_false_iff_ne]; exact hI
    rw [if_neg hN] at hR
    have g2 : ((bs t0.t).toList == [110, 111, 116]) = false := by rw [bsl, beq_eq_false_iff_ne]; exact hN
    have hW := XhW.out
    rw [if_pos hW] at hR
    have g3 : ((bs t0.t).toList == [119, 97, 108, 107]) = true := by rw [bsl, hW]; rfl
    clear hW
    rw [hR] at HWK
    clear hR
    cases R with
    | no a k =>
      go_wp2_with (first
        | (go_at_call 106; refine (HCM.out _).mono ?_; rintro e w3 ⟨rfl, hb⟩; have S3 := Lib.hid (S1.out.on hb); clear x0 x1 x2 y0 y1 y2 hb HCM; have x0 := (S3.out.row (x := (W.heap.size + 1, 92, [.int .i64 (t0.k : Int), .string (bs t0.t), .int .i64 (t0.a : Int)])) (.tail _ (.head _))).cell 0; have x1 := (S3.out.row (x := (W.heap.size + 1, 92, [.int .i64 (t0.k : Int), .string (bs t0.t), .int .i64 (t0.a : Int)])) (.tail _ (.head _))).cell 1; have x2 := (S3.out.row (x := (W.heap.size + 1, 92, [.int .i64 (t0.k : Int), .string (bs t0.t), .int .i64 (t0.a : Int)])) (.tail _ (.head _))).cell 2; have y0 := (S3.out.row (x := (W.heap.size + 1 + 1, 92, [.int .i64 (t1.k : Int), .string (bs t1.t), .int .i64 (t1.a : Int)])) (.tail _ (.tail _ (.head _)))).cell 0; have y1 := (S3.out.row (x := (W.heap.size + 1 + 1, 92, [.int .i64 (t1.k : Int), .string (bs t1.t), .int .i64 (t1.a : Int)])) (.tail _ (.tail _ (.head _)))).cell 1; have y2 := (S3.out.row (x := (W.heap.size + 1 + 1, 92, [.int .i64 (t1.k : Int), .string (bs t1.t), .int .i64 (t1.a : Int)])) (.tail _ (.tail _ (.head _)))).cell 2; simp only [List.getElem?_cons_zero, List.getElem?_cons_succ] at x0 x1 x2 y0 y1 y2)
        | (go_at_call 89; refine (HVR.out _).mono ?_; rintro e w4 ⟨rfl, hb⟩; have S4 := Lib.hid (S3.out.on hb); clear x0 x1 x2 y0 y1 y2 hb HVR; have x0 := (S4.out.row (x := (W.heap.size + 1, 92, [.int .i64 (t0.k : Int), .string (bs t0.t), .int .i64 (t0.a : Int)])) (.tail _ (.head _))).cell 0; have x1 := (S4.out.row (x := (W.heap.size + 1, 92, [.int .i64 (t0.k : Int), .string (bs t0.t), .int .i64 (t0.a : Int)])) (.tail _ (.head _))).cell 1; have x2 := (S4.out.row (x := (W.heap.size + 1, 92, [.int .i64 (t0.k : Int), .string (bs t0.t), .int .i64 (t0.a : Int)])) (.tail _ (.head _))).cell 2; have y0 := (S4.out.row (x := (W.heap.size + 1 + 1, 92, [.int .i64 (t1.k : Int), .string (bs t1.t), .int .i64 (t1.a : Int)])) (.tail _ (.tail _ (.head _)))).cell 0; have y1 := (S4.out.row (x := (W.heap.size + 1 + 1, 92, [.int .i64 (t1.k : Int), .string (bs t1.t), .int .i64 (t1.a : Int)])) (.tail _ (.tail _ (.head _)))).cell 1; have y2 := (S4.out.row (x := (W.heap.size + 1 + 1, 92, [.int .i64 (t1.k : Int), .string (bs t1.t), .int .i64 (t1.a : Int)])) (.tail _ (.tail _ (.head _)))).cell 2; simp only [List.getElem?_cons_zero, List.getElem?_cons_succ] at x0 x1 x2 y0 y1 y2)
        | (go_at_call 109; refine (HWK.out _ S4.out.rdr).mono ?_; rintro e w9 ⟨rfl, f⟩))
      exact ⟨rfl, rfl, S4.out.fr.trans (f.mono S4.out.fr.size)⟩
    | ok x r =>
      go_wp2_with (first
        | (go_at_call 106; refine (HCM.out _).mono ?_; rintro e w3 ⟨rfl, hb⟩; have S3 := Lib.hid (S1.out.on hb); clear x0 x1 x2 y0 y1 y2 hb HCM; have x0 := (S3.out.row (x := (W.heap.size + 1, 92, [.int .i64 (t0.k : Int), .string (bs t0.t), .int .i64 (t0.a : Int)])) (.tail _ (.head _))).cell 0; have x1 := (S3.out.row (x := (W.heap.size + 1, 92, [.int .i64 (t0.k : Int), .string (bs t0.t), .int .i64 (t0.a : Int)])) (.tail _ (.head _))).cell 1; have x2 := (S3.out.row (x := (W.heap.size + 1, 92, [.int .i64 (t0.k : Int), .string (bs t0.t), .int .i64 (t0.a : Int)])) (.tail _ (.head _))).cell 2; have y0 := (S3.out.row (x := (W.heap.size + 1 + 1, 92, [.int .i64 (t1.k : Int), .string (bs t1.t), .int .i64 (t1.a : Int)])) (.tail _ (.tail _ (.head _)))).cell 0; have y1 := (S3.out.row (x := (W.heap.size + 1 + 1, 92, [.int .i64 (t1.k : Int), .string (bs t1.t), .int .i64 (t1.a : Int)])) (.tail _ (.tail _ (.head _)))).cell 1; have y2 := (S3.out.row (x := (W.heap.size + 1 + 1, 92, [.int .i64 (t1.k : Int), .string (bs t1.t), .int .i64 (t1.a : Int)])) (.tail _ (.tail _ (.head _)))).cell 2; simp only [List.getElem?_cons_zero, List.getElem?_cons_succ] at x0 x1 x2 y0 y1 y2)
        | (go_at_call 89; refine (HVR.out _).mono ?_; rintro e w4 ⟨rfl, hb⟩; have S4 := Lib.hid (S3.out.on hb); clear x0 x1 x2 y0 y1 y2 hb HVR; have x0 := (S4.out.row (x := (W.heap.size + 1, 92, [.int .i64 (t0.k : Int), .string (bs t0.t), .int .i64 (t0.a : Int)])) (.tail _ (.head _))).cell 0; have x1 := (S4.out.row (x := (W.heap.size + 1, 92, [.int .i64 (t0.k : Int), .string (bs t0.t), .int .i64 (t0.a : Int)])) (.tail _ (.head _))).cell 1; have x2 := (S4.out.row (x := (W.heap.size + 1, 92, [.int .i64 (t0.k : Int), .string (bs t0.t), .int .i64 (t0.a : Int)])) (.tail _ (.head _))).cell 2; have y0 := (S4.out.row (x := (W.heap.size + 1 + 1, 92, [.int .i64 (t1.k : Int), .string (bs t1.t), .int .i64 (t1.a : Int)])) (.tail _ (.tail _ (.head _)))).cell 0; have y1 := (S4.out.row (x := (W.heap.size + 1 + 1, 92, [.int .i64 (t1.k : Int), .string (bs t1.t), .int .i64 (t1.a : Int)])) (.tail _ (.tail _ (.head _)))).cell 1; have y2 := (S4.out.row (x := (W.heap.size + 1 + 1, 92, [.int .i64 (t1.k : Int), .string (bs t1.t), .int .i64 (t1.a : Int)])) (.tail _ (.tail _ (.head _)))).cell 2; simp only [List.getElem?_cons_zero, List.getElem?_cons_succ] at x0 x1 x2 y0 y1 y2)
        | (go_at_call 109; refine (HWK.out _ S4.out.rdr).mono ?_; rintro e w9 ⟨X, hX, rfl, hok, h, f⟩; have S9 := Lib.hid (S4.out.call h f); have HX := Lib.hid hX; have HOK := Lib.hid hok; have hlt : W.heap.size < w4.heap.size := (S4.out.row (x := (W.heap.size, 52, [.int .i64 0, .string ByteArray.empty, .slice none 0 0, .string ByteArray.empty, .string ByteArray.empty, .int .i64 0, .int .i64 0, .string ByteArray.empty, .string ByteArray.empty, .int .i64 0, .int .i64 0, .string ByteArray.empty, .string ByteArray.empty, .int .i64 0, .int .i64 0, .string ByteArray.empty, .slice none 0 0])) (.head _)).lt; clear hX hok h f)
        | (refine wpList_storeR rfl 52 (.tmp 2) _ rfl W.heap.size 0 rfl (.agg (litC X).toArray) rfl (litC X) rfl (pre := []) (old := [.int .i64 0, .string ByteArray.empty, .slice none 0 0, .string ByteArray.empty, .string ByteArray.empty, .int .i64 0, .int .i64 0, .string ByteArray.empty, .string ByteArray.empty, .int .i64 0, .int .i64 0, .string ByteArray.empty, .string ByteArray.empty, .int .i64 0, .int .i64 0, .string ByteArray.empty, .slice none 0 0]) (post := []) (S9.out.row (x := (W.heap.size, 52, [.int .i64 0, .string ByteArray.empty, .slice none 0 0, .string ByteArray.empty, .string ByteArray.empty, .int .i64 0, .int .i64 0, .string ByteArray.empty, .string ByteArray.empty, .int .i64 0, .int .i64 0, .string ByteArray.empty, .string ByteArray.empty, .int .i64 0, .int .i64 0, .string ByteArray.empty, .slice none 0 0])) (.head _)) rfl rfl (by kernel_rfl) rfl ?_; intro w100 hR100 hF100 hs100; have S100 := Lib.hid (S9.out.store (pre := []) hR100 hF100)))
      refine bodyPost_ret (results_cell_row rfl _ _ W.heap.size _ _ _ _ rfl hR100 Tryz.underlying52 rfl (by kernel_rfl)) rfl ?_
      exact ⟨X, HX.out, rfl, LtA.ok.less (LtA.ok.frx HOK.out (fun k (hk : k = W.heap.size) => by omega) (hF100 _)) (by omega), S100.out.rdr, S100.out.fr⟩
  · have S1 : Hid (LSt rb tb z o W [(W.heap.size, 52, [.int .i64 0, .string ByteArray.empty, .slice none 0 0, .string ByteArray.empty, .string ByteArray.empty, .int .i64 0, .int .i64 0, .string ByteArray.empty, .string ByteArray.empty, .int .i64 0, .int .i64 0, .string ByteArray.empty, .string ByteArray.empty, .int .i64 0, .int .i64 0, .string ByteArray.empty, .slice none 0 0]), (W.heap.size + 1, 92, [.int .i64 (t1.k : Int), .string (bs t1.t), .int .i64 (t1.a : Int)]), (W.heap.size + 1 + 1, 92, [.int .i64 (t0.k : Int), .string (bs t0.t), .int .i64 (t0.a : Int)])] ts ((U.alloc (.cells #[.int .i64 (t1.k : Int), .string (bs t1.t), .int .i64 (t1.a : Int)] 92)).alloc (.cells #[.int .i64 (t0.k : Int), .string (bs t0.t), .int .i64 (t0.a : Int)] 92)).drew) := Lib.hid (by
      have h1 := S0.out.new 92 [.int .i64 (t1.k : Int), .string (bs t1.t), .int .i64 (t1.a : Int)]
      rw [hsU] at h1
      have h2 := h1.new 92 [.int .i64 (t0.k : Int), .string (bs t0.t), .int .i64 (t0.a : Int)]
      rw [World.size_alloc, hsU] at h2
      exact h2.on ((Below.refl _ _).drew))
    generalize ((U.alloc (.cells #[.int .i64 (t1.k : Int), .string (bs t1.t), .int .i64 (t1.a : Int)] 92)).alloc (.cells #[.int .i64 (t0.k : Int), .string (bs t0.t), .int .i64 (t0.a : Int)] 92)).drew = w2 at S1 ⊢
    have x0 := (S1.out.row (x := (W.heap.size + 1 + 1, 92, [.int .i64 (t0.k : Int), .string (bs t0.t), .int .i64 (t0.a : Int)])) (.tail _ (.tail _ (.head _)))).cell 0
    have x1 := (S1.out.row (x := (W.heap.size + 1 + 1, 92, [.int .i64 (t0.k : Int), .string (bs t0.t), .int .i64 (t0.a : Int)])) (.tail _ (.tail _ (.head _)))).cell 1
    have x2 := (S1.out.row (x := (W.heap.size + 1 + 1, 92, [.int .i64 (t0.k : Int), .string (bs t0.t), .int .i64 (t0.a : Int)])) (.tail _ (.tail _ (.head _)))).cell 2
    have y0 := (S1.out.row (x := (W.heap.size + 1, 92, [.int .i64 (t1.k : Int), .string (bs t1.t), .int .i64 (t1.a : Int)])) (.tail _ (.head _))).cell 0
    have y1 := (S1.out.row (x := (W.heap.size + 1, 92, [.int .i64 (t1.k : Int), .string (bs t1.t), .int .i64 (t1.a : Int)])) (.tail _ (.head _))).cell 1
    have y2 := (S1.out.row (x := (W.heap.size + 1, 92, [.int .i64 (t1.k : Int), .string (bs t1.t), .int .i64 (t1.a : Int)])) (.tail _ (.head _))).cell 2
    simp only [List.getElem?_cons_zero, List.getElem?_cons_succ] at x0 x1 x2 y0 y1 y2
    clear S0 hsU hU
    have hs1 := S1.out.fr.size
    rw [hC] at HCM hR
    rw [if_neg (by simp)] at hR
    rw [if_neg (fun e => hI e.2)] at hR
    rw [hV] at HVR
    have g1 : ((bs t1.t).toList == [105, 115]) = false := by rw [bsl, beq_eq_false_iff_ne]; exact hI
    rw [if_neg hN] at hR
    have g2 : ((bs t0.t).toList == [110, 111, 116]) = false := by rw [bsl, beq_eq_false_iff_ne]; exact hN
    have hW := XhW.out
    rw [if_pos hW] at hR
    have g3 : ((bs t0.t).toList == [119, 97, 108, 107]) = true := by rw [bsl, hW]; rfl
    clear hW
    rw [hR] at HWK
    clear hR
    cases R with
    | no a k =>
      go_wp2_with (first
        | (go_at_call 106; refine (HCM.out _).mono ?_; rintro e w3 ⟨rfl, hb⟩; have S3 := Lib.hid (S1.out.on hb); clear x0 x1 x2 y0 y1 y2 hb HCM; have x0 := (S3.out.row (x := (W.heap.size + 1 + 1, 92, [.int .i64 (t0.k : Int), .string (bs t0.t), .int .i64 (t0.a : Int)])) (.tail _ (.tail _ (.head _)))).cell 0; have x1 := (S3.out.row (x := (W.heap.size + 1 + 1, 92, [.int .i64 (t0.k : Int), .string (bs t0.t), .int .i64 (t0.a : Int)])) (.tail _ (.tail _ (.head _)))).cell 1; have x2 := (S3.out.row (x := (W.heap.size + 1 + 1, 92, [.int .i64 (t0.k : Int), .string (bs t0.t), .int .i64 (t0.a : Int)])) (.tail _ (.tail _ (.head _)))).cell 2; have y0 := (S3.out.row (x := (W.heap.size + 1, 92, [.int .i64 (t1.k : Int), .string (bs t1.t), .int .i64 (t1.a : Int)])) (.tail _ (.head _))).cell 0; have y1 := (S3.out.row (x := (W.heap.size + 1, 92, [.int .i64 (t1.k : Int), .string (bs t1.t), .int .i64 (t1.a : Int)])) (.tail _ (.head _))).cell 1; have y2 := (S3.out.row (x := (W.heap.size + 1, 92, [.int .i64 (t1.k : Int), .string (bs t1.t), .int .i64 (t1.a : Int)])) (.tail _ (.head _))).cell 2; simp only [List.getElem?_cons_zero, List.getElem?_cons_succ] at x0 x1 x2 y0 y1 y2)
        | (go_at_call 89; refine (HVR.out _).mono ?_; rintro e w4 ⟨rfl, hb⟩; have S4 := Lib.hid (S3.out.on hb); clear x0 x1 x2 y0 y1 y2 hb HVR; have x0 := (S4.out.row (x := (W.heap.size + 1 + 1, 92, [.int .i64 (t0.k : Int), .string (bs t0.t), .int .i64 (t0.a : Int)])) (.tail _ (.tail _ (.head _)))).cell 0; have x1 := (S4.out.row (x := (W.heap.size + 1 + 1, 92, [.int .i64 (t0.k : Int), .string (bs t0.t), .int .i64 (t0.a : Int)])) (.tail _ (.tail _ (.head _)))).cell 1; have x2 := (S4.out.row (x := (W.heap.size + 1 + 1, 92, [.int .i64 (t0.k : Int), .string (bs t0.t), .int .i64 (t0.a : Int)])) (.tail _ (.tail _ (.head _)))).cell 2; have y0 := (S4.out.row (x := (W.heap.size + 1, 92, [.int .i64 (t1.k : Int), .string (bs t1.t), .int .i64 (t1.a : Int)])) (.tail _ (.head _))).cell 0; have y1 := (S4.out.row (x := (W.heap.size + 1, 92, [.int .i64 (t1.k : Int), .string (bs t1.t), .int .i64 (t1.a : Int)])) (.tail _ (.head _))).cell 1; have y2 := (S4.out.row (x := (W.heap.size + 1, 92, [.int .i64 (t1.k : Int), .string (bs t1.t), .int .i64 (t1.a : Int)])) (.tail _ (.head _))).cell 2; simp only [List.getElem?_cons_zero, List.getElem?_cons_succ] at x0 x1 x2 y0 y1 y2)
        | (go_at_call 109; refine (HWK.out _ S4.out.rdr).mono ?_; rintro e w9 ⟨rfl, f⟩))
      exact ⟨rfl, rfl, S4.out.fr.trans (f.mono S4.out.fr.size)⟩
    | ok x r =>
      go_wp2_with (first
        | (go_at_call 106; refine (HCM.out _).mono ?_; rintro e w3 ⟨rfl, hb⟩; have S3 := Lib.hid (S1.out.on hb); clear x0 x1 x2 y0 y1 y2 hb HCM; have x0 := (S3.out.row (x := (W.heap.size + 1 + 1, 92, [.int .i64 (t0.k : Int), .string (bs t0.t), .int .i64 (t0.a : Int)])) (.tail _ (.tail _ (.head _)))).cell 0; have x1 := (S3.out.row (x := (W.heap.size + 1 + 1, 92, [.int .i64 (t0.k : Int), .string (bs t0.t), .int .i64 (t0.a : Int)])) (.tail _ (.tail _ (.head _)))).cell 1; have x2 := (S3.out.row (x := (W.heap.size + 1 + 1, 92, [.int .i64 (t0.k : Int), .string (bs t0.t), .int .i64 (t0.a : Int)])) (.tail _ (.tail _ (.head _)))).cell 2; have y0 := (S3.out.row (x := (W.heap.size + 1, 92, [.int .i64 (t1.k : Int), .string (bs t1.t), .int .i64 (t1.a : Int)])) (.tail _ (.head _))).cell 0; have y1 := (S3.out.row (x := (W.heap.size + 1, 92, [.int .i64 (t1.k : Int), .string (bs t1.t), .int .i64 (t1.a : Int)])) (.tail _ (.head _))).cell 1; have y2 := (S3.out.row (x := (W.heap.size + 1, 92, [.int .i64 (t1.k : Int), .string (bs t1.t), .int .i64 (t1.a : Int)])) (.tail _ (.head _))).cell 2; simp only [List.getElem?_cons_zero, List.getElem?_cons_succ] at x0 x1 x2 y0 y1 y2)
        | (go_at_call 89; refine (HVR.out _).mono ?_; rintro e w4 ⟨rfl, hb⟩; have S4 := Lib.hid (S3.out.on hb); clear x0 x1 x2 y0 y1 y2 hb HVR; have x0 := (S4.out.row (x := (W.heap.size + 1 + 1, 92, [.int .i64 (t0.k : Int), .string (bs t0.t), .int .i64 (t0.a : Int)])) (.tail _ (.tail _ (.head _)))).cell 0; have x1 := (S4.out.row (x := (W.heap.size + 1 + 1, 92, [.int .i64 (t0.k : Int), .string (bs t0.t), .int .i64 (t0.a : Int)])) (.tail _ (.tail _ (.head _)))).cell 1; have x2 := (S4.out.row (x := (W.heap.size + 1 + 1, 92, [.int .i64 (t0.k : Int), .string (bs t0.t), .int .i64 (t0.a : Int)])) (.tail _ (.tail _ (.head _)))).cell 2; have y0 := (S4.out.row (x := (W.heap.size + 1, 92, [.int .i64 (t1.k : Int), .string (bs t1.t), .int .i64 (t1.a : Int)])) (.tail _ (.head _))).cell 0; have y1 := (S4.out.row (x := (W.heap.size + 1, 92, [.int .i64 (t1.k : Int), .string (bs t1.t), .int .i64 (t1.a : Int)])) (.tail _ (.head _))).cell 1; have y2 := (S4.out.row (x := (W.heap.size + 1, 92, [.int .i64 (t1.k : Int), .string (bs t1.t), .int .i64 (t1.a : Int)])) (.tail _ (.head _))).cell 2; simp only [List.getElem?_cons_zero, List.getElem?_cons_succ] at x0 x1 x2 y0 y1 y2)
        | (go_at_call 109; refine (HWK.out _ S4.out.rdr).mono ?_; rintro e w9 ⟨X, hX, rfl, hok, h, f⟩; have S9 := Lib.hid (S4.out.call h f); have HX := Lib.hid hX; have HOK := Lib.hid hok; have hlt : W.heap.size < w4.heap.size := (S4.out.row (x := (W.heap.size, 52, [.int .i64 0, .string ByteArray.empty, .slice none 0 0, .string ByteArray.empty, .string ByteArray.empty, .int .i64 0, .int .i64 0, .string ByteArray.empty, .string ByteArray.empty, .int .i64 0, .int .i64 0, .string ByteArray.empty, .string ByteArray.empty, .int .i64 0, .int .i64 0, .string ByteArray.empty, .slice none 0 0])) (.head _)).lt; clear hX hok h f)
        | (refine wpList_storeR rfl 52 (.tmp 2) _ rfl W.heap.size 0 rfl (.agg (litC X).toArray) rfl (litC X) rfl (pre := []) (old := [.int .i64 0, .string ByteArray.empty, .slice none 0 0, .string ByteArray.empty, .string ByteArray.empty, .int .i64 0, .int .i64 0, .string ByteArray.empty, .string ByteArray.empty, .int .i64 0, .int .i64 0, .string ByteArray.empty, .string ByteArray.empty, .int .i64 0, .int .i64 0, .string ByteArray.empty, .slice none 0 0]) (post := []) (S9.out.row (x := (W.heap.size, 52, [.int .i64 0, .string ByteArray.empty, .slice none 0 0, .string ByteArray.empty, .string ByteArray.empty, .int .i64 0, .int .i64 0, .string ByteArray.empty, .string ByteArray.empty, .int .i64 0, .int .i64 0, .string ByteArray.empty, .string ByteArray.empty, .int .i64 0, .int .i64 0, .string ByteArray.empty, .slice none 0 0])) (.head _)) rfl rfl (by kernel_rfl) rfl ?_; intro w100 hR100 hF100 hs100; have S100 := Lib.hid (S9.out.store (pre := []) hR100 hF100)))
      refine bodyPost_ret (results_cell_row rfl _ _ W.heap.size _ _ _ _ rfl hR100 Tryz.underlying52 rfl (by kernel_rfl)) rfl ?_
      exact ⟨X, HX.out, rfl, LtA.ok.less (LtA.ok.frx HOK.out (fun k (hk : k = W.heap.size) => by omega) (hF100 _)) (by omega), S100.out.rdr, S100.out.fr⟩
end
end Go.Proofs.YtahljmddnfldlaaGreatDoor

/-
  BtreeFrom (layer 4, btree): for every p, l, which, many and stop the call returns true: what begins with a tuple's first values is told, and nothing else; of no values that is all; of all of them that tuple alone; as many as one wants. No condition.
-/
import Derived.Test.YtdpflmbnomeaaaaRows
import Derived.Test.YtdpflmbnomeaaaaBtSeq0
import Derived.Test.YtdpflmbnomeaaaaBtPick
import Derived.Test.YtdpflmbnomeaaaaBtRefT
import Derived.Test.YtdpflmbnomeaaaaBtOpen
import Derived.Test.YtdpflmbnomeaaaaBtAwake
import Derived.WalkKit
import Derived.ProofKit
import Derived.OpenShut
namespace Go.Proofs.Ytdpflmbnomeaaaa.btreeFrom
open Go.ChangeShapes Go.WideShapes Go.ChangeAt Go.RowKit FloM ValM
set_option linter.unusedVariables false
set_option linter.unusedSimpArgs false
attribute [local go_sem] Oper.semAt_some
set_option maxRecDepth 20000 in
set_option maxHeartbeats 4000000 in
theorem walk_off (A0 A1 : Option Addr) (c0 c1 : Nat) (p : List Int) (xs : List Sl) (a2 a3 a4 : Int) (w : World) (r0 : RdI w A0 p) (r1 : RdL w A1 xs) (m1 : xs.length ≤ maxLen)
    (h : fewB (lsOf xs) = false ∨ fewB (lsOf xs) = true ∧ (8 < p.length ∨ p.length ≤ 8 ∧ permB p = false)) :
    Calls Try.prog 6 #[.slice A0 p.length c0, .slice A1 xs.length c1, .int .u8 a2, .int .u8 a3, .int .u8 a4] w fun e w' => e = .returned (.bool true) ∧ Below w.heap.size w w' := by
  have hB : Below w.heap.size w (w.alloc (.cells #[.int .u8 a4] 5)) := (Below.refl _ _).alloc (Nat.le_refl _) _
  have R0 := Lib.hid r0; have R1 := Lib.hid r1; clear r0 r1
  have hdd : ∀ k : Nat, (Fence.wide.depth.isSome = true → 1 ≤ k) := fun k h => by cases h
  rcases h with h | ⟨h1, h | ⟨h2, h⟩⟩
  · have HF := Lib.hid h; clear h
    refine (callsIn_wide (n := 3)).1 ?_
    refine callsIn_of_wp_marks Try.func6 rfl trivial ?_ rfl
    simp only [Try.ntmps6, List.size_toArray, List.length_cons, List.length_nil, Nat.reduceAdd, Nat.reduceSub, Array.replicate_succ, Array.replicate_zero, List.push_toArray, List.append_toArray, List.nil_append, List.cons_append]
    gi_wp2_with (first
      | ((first | refine ⟨trivial, hdd _, ?_⟩ | refine ⟨trivial, ?_⟩ | skip); gi_at_call 15; refine (callsIn_wide.2 (awake_any _)).mono ?_; rintro e w1 ⟨rfl, h'⟩; replace hB := on hB h'; clear h')
      | ((first | refine ⟨trivial, hdd _, ?_⟩ | refine ⟨trivial, ?_⟩ | skip); gi_at_call 16; refine (callsIn_wide.2 (few_any A1 c1 xs _ (R1.out.on hB) m1)).mono ?_; rintro e w2 ⟨rfl, rfl⟩; rw [HF.out])
      | (refine ⟨trivial, ?_⟩))
    refine ⟨_, results_tmp rfl _ _ _, ?_⟩
    exact ⟨rfl, hB⟩
  · have HF := Lib.hid h1; clear h1
    have h' : 8 < (p.length : Int) := by omega
    refine (callsIn_wide (n := 3)).1 ?_
    refine callsIn_of_wp_marks Try.func6 rfl trivial ?_ rfl
    simp only [Try.ntmps6, List.size_toArray, List.length_cons, List.length_nil, Nat.reduceAdd, Nat.reduceSub, Array.replicate_succ, Array.replicate_zero, List.push_toArray, List.append_toArray, List.nil_append, List.cons_append]
    gi_wp2_with (first
      | ((first | refine ⟨trivial, hdd _, ?_⟩ | refine ⟨trivial, ?_⟩ | skip); gi_at_call 15; refine (callsIn_wide.2 (awake_any _)).mono ?_; rintro e w1 ⟨rfl, h'⟩; replace hB := on hB h'; clear h')
      | ((first | refine ⟨trivial, hdd _, ?_⟩ | refine ⟨trivial, ?_⟩ | skip); gi_at_call 16; refine (callsIn_wide.2 (few_any A1 c1 xs _ (R1.out.on hB) m1)).mono ?_; rintro e w2 ⟨rfl, rfl⟩; rw [HF.out])
      | (refine ⟨trivial, ?_⟩))
    refine ⟨_, results_tmp rfl _ _ _, ?_⟩
    exact ⟨rfl, hB⟩
  · have HF := Lib.hid h1; have HP := Lib.hid h; clear h1 h
    have h' : ¬ 8 < (p.length : Int) := by omega
    refine (callsIn_wide (n := 3)).1 ?_
    refine callsIn_of_wp_marks Try.func6 rfl trivial ?_ rfl
    simp only [Try.ntmps6, List.size_toArray, List.length_cons, List.length_nil, Nat.reduceAdd, Nat.reduceSub, Array.replicate_succ, Array.replicate_zero, List.push_toArray, List.append_toArray, List.nil_append, List.cons_append]
    gi_wp2_with (first
      | ((first | refine ⟨trivial, hdd _, ?_⟩ | refine ⟨trivial, ?_⟩ | skip); gi_at_call 15; refine (callsIn_wide.2 (awake_any _)).mono ?_; rintro e w1 ⟨rfl, h'⟩; replace hB := on hB h'; clear h')
      | ((first | refine ⟨trivial, hdd _, ?_⟩ | refine ⟨trivial, ?_⟩ | skip); gi_at_call 16; refine (callsIn_wide.2 (few_any A1 c1 xs _ (R1.out.on hB) m1)).mono ?_; rintro e w2 ⟨rfl, rfl⟩; rw [HF.out])
      | ((first | refine ⟨trivial, hdd _, ?_⟩ | refine ⟨trivial, ?_⟩ | skip); gi_at_call 32; refine (callsIn_wide.2 (refPerm_any A0 c0 p _ (R0.out.on hB) (by omega))).mono ?_; rintro e w2 ⟨rfl, rfl⟩; rw [HP.out])
      | (refine ⟨trivial, ?_⟩))
    refine ⟨_, results_tmp rfl _ _ _, ?_⟩
    exact ⟨rfl, hB⟩
set_option maxRecDepth 20000 in
set_option maxHeartbeats 16000000 in
theorem walk_yes (A0 A1 : Option Addr) (c0 c1 : Nat) (p : List Int) (xs : List Sl) (r2 r3 r4 : Nat) (w : World) (r0 : RdI w A0 p) (r1 : RdL w A1 xs) (m1 : xs.length ≤ maxLen) (h2 : r2 < 256) (h3 : r3 < 256) (h4 : r4 < 256)
    (hf : fewB (lsOf xs) = true) (h8 : p.length ≤ 8) (hp : permB p = true) :
    Calls Try.prog 6 #[.slice A0 p.length c0, .slice A1 xs.length c1, .int .u8 (r2 : Int), .int .u8 (r3 : Int), .int .u8 (r4 : Int)] w fun e w' => e = .returned (.bool true) ∧ Below w.heap.size w w' := by
  have hB0 : Below w.heap.size w (w.alloc (.cells #[.int .u8 (r4 : Int)] 5)) := (Below.refl _ _).alloc (Nat.le_refl _) _
  have hB := Below.refl (w.alloc (.cells #[.int .u8 (r4 : Int)] 5)).heap.size (w.alloc (.cells #[.int .u8 (r4 : Int)] 5))
  have hbox : (w.alloc (.cells #[.int .u8 (r4 : Int)] 5)).cell? ⟨w.heap.size, 0, none⟩ = some (.int .u8 (r4 : Int)) := cell_box' (heap_alloc_new _ _)
  have hbl : w.heap.size < (w.alloc (.cells #[.int .u8 (r4 : Int)] 5)).heap.size := by simp
  have R0 := Lib.hid (r0.on hB0); have R1 := Lib.hid (r1.on hB0); clear r0 r1
  have hdd : ∀ k : Nat, (Fence.wide.depth.isSome = true → 1 ≤ k) := fun k h => by cases h
  have hf2 := (fewB_yes hf).2
  have hlen : (lsOf xs).length = xs.length := by simp [lsOf]
  rw [hlen] at hf2
  have HF := Lib.hid hf; have HP := Lib.hid hp; clear hf hp
  have h' : ¬ 8 < (p.length : Int) := by omega
  refine (callsIn_wide (n := 3)).1 ?_
  refine callsIn_of_wp_marks Try.func6 rfl trivial ?_ rfl
  simp only [Try.ntmps6, List.size_toArray, List.length_cons, List.length_nil, Nat.reduceAdd, Nat.reduceSub, Array.replicate_succ, Array.replicate_zero, List.push_toArray, List.append_toArray, List.nil_append, List.cons_append]
  gi_wp2_with (first
    | ((first | refine ⟨trivial, hdd _, ?_⟩ | refine ⟨trivial, ?_⟩ | skip); gi_at_call 15; refine (callsIn_wide.2 (awake_any _)).mono ?_; rintro e w1 ⟨rfl, h'⟩; replace hB := on hB h'; clear h')
    | ((first | refine ⟨trivial, hdd _, ?_⟩ | refine ⟨trivial, ?_⟩ | skip); gi_at_call 16; refine (callsIn_wide.2 (few_any A1 c1 xs _ (R1.out.on hB) m1)).mono ?_; rintro e w2 ⟨rfl, rfl⟩; rw [HF.out])
    | ((first | refine ⟨trivial, hdd _, ?_⟩ | refine ⟨trivial, ?_⟩ | skip); gi_at_call 32; refine (callsIn_wide.2 (refPerm_any A0 c0 p _ (R0.out.on hB) (by omega))).mono ?_; rintro e w2 ⟨rfl, rfl⟩; rw [HP.out])
    | ((first | refine ⟨trivial, hdd _, ?_⟩ | refine ⟨trivial, ?_⟩ | skip); gi_at_call 17; refine (callsIn_wide.2 (new_any A0 c0 p _ h8 (R0.out.on hB) HP.out)).mono ?_; rintro e w3 ⟨g, P1, cp1, rfl, N1⟩; have hT := Lib.hid (OneT.start N1 hB HP.out h8); clear N1 hB))
  gi_loopw [46] (fun v wr => ∃ (k : Nat), v = .int .i64 (k : Nat) ∧ k ≤ xs.length ∧ OneT (w.alloc (.cells #[.int .u8 (r4 : Int)] 5)) g p (puts p ((lsOf xs).take k)) wr) (fun v _ => xs.length - (intOf v).toNat)
  case atStart => exact ⟨0, rfl, Nat.zero_le _, hT.out⟩
  case round =>
    obtain ⟨k, rfl, hk, hD⟩ := hrel
    clear hT
    have HD := Lib.hid hD; clear hD
    by_cases hlt : k < xs.length
    · obtain ⟨ab, ao, rfl, hab, hrow⟩ := R1.out.row (by omega)
      have hx := List.getElem?_eq_getElem hlt
      generalize xs[k] = x at hx
      have cx := (keep HD.out.b _ _ hab).trans (hrow k x hx)
      have HX := Lib.hid (lsOf_at hx)
      have rx := Lib.hid (R1.out.each x (List.mem_of_getElem? hx))
      have hl1 : (puts p ((lsOf xs).take k)).length < 100000 := by have := puts_len p ((lsOf xs).take k); rw [List.length_take] at this; omega
      have HL1 := Lib.hid hl1
      clear hrow hx hl1
      gi_wp2_with ((first | refine ⟨trivial, hdd _, ?_⟩ | refine ⟨trivial, ?_⟩ | skip); gi_at_call 19; refine (callsIn_wide.2 (putS_any x.A x.c x.l _ HD.out.t (rx.out.1.on HD.out.b) HL1.out HD.out.x)).mono ?_; rintro e w5 ⟨rfl, ht, hF⟩; rw [← puts_next HX.out] at ht; have hE := Lib.hid (HD.out.put ht hF); clear HD ht)
      go_roundw
      case rel => exact ⟨k + 1, by go_num, by omega, hE.out⟩
      case measure => simp [intOf]; omega
    · obtain rfl : k = xs.length := by omega
      rw [List.take_of_length_le (by omega)] at HD
      have hpl := puts_len p (lsOf xs)
      rw [hlen] at hpl
      have HFS := Lib.hid ((puts_fit p (lsOf xs)).short (by omega))
      generalize puts p (lsOf xs) = M at HD hpl HFS
      by_cases hM0 : M.length = 0
      · obtain rfl : M = [] := List.eq_nil_of_length_eq_zero hM0
        clear hM0
        gi_wp2_with (first
          | ((first | refine ⟨trivial, hdd _, ?_⟩ | refine ⟨trivial, ?_⟩ | skip); gi_at_call 26; refine (callsIn_wide.2 (allS_any _ HD.out.t HD.out.x)).mono ?_; rintro e w5 ⟨gf, lb, rfl, hen, hq, hb⟩; replace HD := Lib.hid (HD.out.on hb); have hq1 := Lib.hid hq; have hen1 := Lib.hid hen; clear hb hq hen)
          | ((first | refine ⟨trivial, hdd _, ?_⟩ | refine ⟨trivial, ?_⟩ | skip); gi_at_call 25; refine (callsIn_wide.2 (toldS_any _ hen1.out hq1.out HD.out.x (by omega) HFS.out)).mono ?_; rintro e w6 ⟨A8, c8, zs, rfl, hz, hb, _, _⟩; replace HD := Lib.hid (HD.out.on hb); have HZ := Lib.hid hz; clear hb hz hq1 hen1))
        gi_wp2_with (first
          | ((first | refine ⟨trivial, hdd _, ?_⟩ | refine ⟨trivial, ?_⟩ | skip); gi_at_call 27; refine (callsIn_wide.2 (fromS_any none 0 [] _ HD.out.t RdV.nil (Nat.zero_le _) HD.out.x)).mono ?_; rintro e w7 ⟨gf, lb, rfl, hen, hq, hb⟩; replace HD := Lib.hid (HD.out.on hb); have hq2 := Lib.hid hq; have hen2 := Lib.hid hen; clear hb hq hen)
          | ((first | refine ⟨trivial, hdd _, ?_⟩ | refine ⟨trivial, ?_⟩ | skip); gi_at_call 25; refine (callsIn_wide.2 (toldS_any _ hen2.out hq2.out HD.out.x (by simp [beg]) (fun x hx => by simp [beg] at hx))).mono ?_; rintro e w8 ⟨A9, c9, zs9, rfl, hz, hb, _, _⟩; replace HD := Lib.hid (HD.out.on hb); clear hb hz hq2 hen2))
        refine ⟨_, results_tmp rfl _ _ _, ?_⟩
        exact ⟨rfl, on hB0 HD.out.b⟩
      · have hj0 : r2 % M.length < M.length := Nat.mod_lt _ (by omega)
        obtain ⟨j, hj⟩ : ∃ j, r2 % M.length = j := ⟨_, rfl⟩
        have hq12 : Int.tmod (r2 : Int) (M.length : Int) = (j : Int) := by rw [Int.tmod_eq_emod_of_nonneg (by omega), ← hj]; rfl
        rw [hj] at hj0
        obtain ⟨m, hm⟩ : ∃ m, r3 % (p.length + 1) = m := ⟨_, rfl⟩
        have hm0 : m ≤ p.length := by have := Nat.mod_lt r3 (show 0 < p.length + 1 by omega); omega
        have hq13 : Int.tmod (r3 : Int) ((p.length : Int) + 1) = (m : Int) := by rw [Int.tmod_eq_emod_of_nonneg (by omega), ← hm]; push_cast; rfl
        clear hj hm
        have hmi : (0 : Int) ≤ (m : Int) := by omega
        have hne0 : ¬ ((M.length : Int) = 0) := by omega
        have HPK : Hid (∀ (x : Sl) (W : World), x.l ∈ M → RdV W x.A x.l → RdI W A0 p → Calls Try.prog 33 #[.slice x.A x.l.length x.c, .slice A0 p.length c0] W fun e w' => ∃ A c, e = .returned (.slice A p.length c) ∧ RdV w' A (pickL x.l p) ∧ p.length ≤ c ∧ c ≤ maxLen ∧ Below W.heap.size W w') := Lib.hid (fun x W hx hr hpp => by
          have hpl := pick_perm_len (perm_in HP.out (HD.out.t.fit.lens x.l hx))
          refine (refPickC_any x.A A0 x.c c0 x.l p W hr hpp (HFS.out _ hx) (by omega)).mono ?_
          rintro e w' ⟨A, c, rfl, h1, h2, h3, h4⟩
          rw [hpl] at h2 ⊢
          exact ⟨A, c, rfl, h1, h2, h3, h4⟩)
        gi_wp2_with (first
          | ((first | refine ⟨trivial, hdd _, ?_⟩ | refine ⟨trivial, ?_⟩ | skip); gi_at_call 26; refine (callsIn_wide.2 (allS_any _ HD.out.t HD.out.x)).mono ?_; rintro e w5 ⟨gf, lb, rfl, hen, hq, hb⟩; replace HD := Lib.hid (HD.out.on hb); have hq1 := Lib.hid hq; have hen1 := Lib.hid hen; clear hb hq hen)
          | ((first | refine ⟨trivial, hdd _, ?_⟩ | refine ⟨trivial, ?_⟩ | skip); gi_at_call 25; refine (callsIn_wide.2 (toldS_any _ hen1.out hq1.out HD.out.x (by omega) HFS.out)).mono ?_; rintro e w6 ⟨A8, c8, zs, rfl, hz, hb, _, _⟩; replace HD := Lib.hid (HD.out.on hb); obtain ⟨zb, zo, rfl, hzb, hrow⟩ := hz.rd.row (by rw [hz.len]; omega); obtain ⟨x, hx⟩ : ∃ x, zs[j]? = some x := ⟨_, List.getElem?_eq_getElem (by rw [hz.len]; exact hj0)⟩; have cx := hrow _ x hx; have HXM := Lib.hid (List.mem_of_getElem? (hz.at_ hx)); have RX := Lib.hid (hz.rd.each x (List.mem_of_getElem? hx)).1; have HZ := Lib.hid hz; clear hb hz hq1 hen1 hrow hx)
          | ((first | refine ⟨trivial, hdd _, ?_⟩ | refine ⟨trivial, ?_⟩ | skip); gi_at_call 33; refine (callsIn_wide.2 (HPK.out x _ HXM.out RX.out (R0.out.on HD.out.b))).mono ?_; rintro e w7 ⟨A15, c15, rfl, r15, k15, k15m, hb⟩; have hmc : (m : Int) ≤ (c15 : Int) := (by omega); have hmc2 : m ≤ c15 := (by omega); have hcm : c15 ≤ 9223372036854775807 := (by unfold maxLen at k15m; omega); replace HD := Lib.hid (HD.out.on hb); replace HZ := Lib.hid (HZ.out.on hb); have R15 := Lib.hid r15; clear r15 hb))
        have hd15 : (pickL x.l p).length = p.length := pick_perm_len (perm_in HP.out (HD.out.t.fit.lens x.l HXM.out))
        obtain ⟨hd, hhd⟩ : ∃ hd, (pickL x.l p).take m = hd := ⟨_, rfl⟩
        have hdl : hd.length = m := by rw [← hhd, List.length_take]; omega
        have HRH := Lib.hid (show RdV w7 A15 hd by rw [← hhd]; exact R15.out.take m)
        have HRX := Lib.hid R15.out; have HDX := Lib.hid hd15; have HDL := Lib.hid hdl; clear hhd hd15 R15 hdl
        have HOR : Hid (∀ (y : Sl) (A4 : Option Addr) (c4 : Nat) (W : World), y.l ∈ M → RdV W A4 (pickL y.l p) → RdV W A15 hd → Calls Try.prog 34 #[.slice A4 m c4, .slice A15 m c15] W (SaysI (ordV (pickL y.l (p.take hd.length)) hd) W)) := Lib.hid (fun y A4 c4 W hy h1 h2 => by
          have hin := perm_in HP.out (HD.out.t.fit.lens y.l hy)
          have e1 : ((pickL y.l p).take m).length = m := by rw [List.length_take, pick_perm_len hin]; omega
          have := refOrder_any A4 A15 c4 c15 ((pickL y.l p).take m) hd W (h1.take m) h2 (by rw [e1]; unfold maxLen; omega) (by rw [HDL.out]; unfold maxLen; omega)
          rw [e1, HDL.out, pick_take hin m hm0] at this
          rw [HDL.out]
          exact this)
        have HFM : Hid (∀ (X : Nat → Prop) (W : World), TreeS X W g p M → RdV W A15 hd → (∀ k, X k → k < W.heap.size) → Calls Try.prog 27 #[.pointer (some ⟨g, 0, none⟩), .slice A15 m c15] W (SaysQ X (beg p hd M) W)) := Lib.hid (fun X W ht hr hX => by
          have := fromS_any A15 c15 hd W ht hr (by rw [HDL.out]; exact hm0) hX
          rw [HDL.out] at this; exact this)
        gi_loopw [17, 87] (fun u v wr => ∃ (k : Nat), v = .int .i64 (k : Nat) ∧ k ≤ M.length ∧ u = .int .i64 ((beg p hd (M.take k)).length : Nat) ∧ Below w7.heap.size w7 wr) (fun _ v _ => M.length - (intOf v).toNat)
        case atStart => exact ⟨0, rfl, Nat.zero_le _, rfl, Below.refl _ _⟩
        case round =>
          obtain ⟨k, rfl, hk, rfl, hBr⟩ := hrel
          have hnb := beg_len p hd (M.take k)
          rw [List.length_take] at hnb
          have HZR := Lib.hid (HZ.out.on hBr)
          have hzl := HZR.out.len
          have HDR := Lib.hid (HD.out.on hBr)
          by_cases hlk : k < M.length
          · obtain ⟨yb, yo, hye, hyb, hrow2⟩ := HZR.out.rd.row (by omega)
            cases hye
            have hy := List.getElem?_eq_getElem (show k < zs.length by omega)
            generalize zs[k] = y at hy
            have cy := hrow2 k y hy
            have HY := Lib.hid (HZR.out.at_ hy)
            have HYM := Lib.hid (List.mem_of_getElem? HY.out)
            have RY := Lib.hid (HZR.out.rd.each y (List.mem_of_getElem? hy)).1
            have HSN := Lib.hid (beg_snoc (p := p) (hd := hd) HY.out)
            clear hrow2 hy hzl
            obtain ⟨r, hr⟩ : ∃ r, ordV (pickL y.l (p.take hd.length)) hd = r := ⟨_, rfl⟩
            have HR := Lib.hid hr; clear hr
            have hlk' : (k : Int) < (M.length : Int) := by omega
            by_cases h0 : r = 0
            · subst h0
              gi_wp2_with (first
                | ((first | refine ⟨trivial, hdd _, ?_⟩ | refine ⟨trivial, ?_⟩ | skip); gi_at_call 33; refine (callsIn_wide.2 (HPK.out y _ HYM.out RY.out (R0.out.on HDR.out.b))).mono ?_; rintro e w8 ⟨A4, c4, rfl, r4', k4, k4m, hp4⟩; have hm4 : (m : Int) ≤ (c4 : Int) := (by omega); have hm42 : m ≤ c4 := (by omega); have R4 := Lib.hid r4'; clear r4')
                | ((first | refine ⟨trivial, hdd _, ?_⟩ | refine ⟨trivial, ?_⟩ | skip); gi_at_call 34; refine (callsIn_wide.2 (HOR.out y A4 c4 _ HYM.out R4.out (HRH.out.on (on hBr hp4)))).mono ?_; rw [HR.out]; rintro e w9 ⟨rfl, ho5⟩))
              go_roundw
              case rel => exact ⟨k + 1, by go_num, by omega, by rw [HSN.out, if_pos HR.out, List.length_append]; go_num, on (on hBr hp4) ho5⟩
              case measure => simp [intOf]; omega
            · have h0' : (r == 0) = false := by simpa using h0
              gi_wp2_with (first
                | ((first | refine ⟨trivial, hdd _, ?_⟩ | refine ⟨trivial, ?_⟩ | skip); gi_at_call 33; refine (callsIn_wide.2 (HPK.out y _ HYM.out RY.out (R0.out.on HDR.out.b))).mono ?_; rintro e w8 ⟨A4, c4, rfl, r4', k4, k4m, hp4⟩; have hm4 : (m : Int) ≤ (c4 : Int) := (by omega); have hm42 : m ≤ c4 := (by omega); have R4 := Lib.hid r4'; clear r4')
                | ((first | refine ⟨trivial, hdd _, ?_⟩ | refine ⟨trivial, ?_⟩ | skip); gi_at_call 34; refine (callsIn_wide.2 (HOR.out y A4 c4 _ HYM.out R4.out (HRH.out.on (on hBr hp4)))).mono ?_; rw [HR.out]; rintro e w9 ⟨rfl, ho5⟩))
              go_roundw
              case rel => exact ⟨k + 1, by go_num, by omega, by rw [HSN.out, if_neg (by rw [HR.out]; exact h0), List.append_nil], on (on hBr hp4) ho5⟩
              case measure => simp [intOf]; omega
          · obtain rfl : k = M.length := by omega
            have hlk' : ¬ (M.length : Int) < (M.length : Int) := by omega
            rw [List.take_of_length_le (Nat.le_refl _)] at hnb ⊢
            have HBS := Lib.hid (beg_short (p := p) (hd := hd) HFS.out)
            obtain ⟨L, hL⟩ : ∃ L, beg p hd M = L := ⟨_, rfl⟩
            rw [hL] at hnb HBS HFM ⊢
            clear hL
            clear HD HZ HOR
            have HRH2 := Lib.hid (HRH.out.on hBr); have HRX2 := Lib.hid (HRX.out.on hBr)
            clear HRH HRX
            gi_wp2_with (first
              | ((first | refine ⟨trivial, hdd _, ?_⟩ | refine ⟨trivial, ?_⟩ | skip); gi_at_call 27; refine (callsIn_wide.2 (HFM.out _ _ HDR.out.t HRH2.out HDR.out.x)).mono ?_; rintro e w10 ⟨gf, lb, rfl, hen, hq, hb⟩; replace HDR := Lib.hid (HDR.out.on hb); replace HZR := Lib.hid (HZR.out.on hb); have HRH3 := Lib.hid (HRH2.out.on hb); replace HRX2 := Lib.hid (HRX2.out.on hb); have hq2 := Lib.hid hq; have hen2 := Lib.hid hen; clear hb hq hen HRH2)
              | ((first | refine ⟨trivial, hdd _, ?_⟩ | refine ⟨trivial, ?_⟩ | skip); gi_at_call 25; refine (callsIn_wide.2 (toldS_any _ hen2.out hq2.out HDR.out.x (by omega) HBS.out)).mono ?_; rintro e w11 ⟨A9, c9, zs9, rfl, hz, hb, _, _⟩; replace HDR := Lib.hid (HDR.out.on hb); replace HZR := Lib.hid (HZR.out.on hb); have HRH4 := Lib.hid (HRH3.out.on hb); replace HRX2 := Lib.hid (HRX2.out.on hb); clear hb hz hq2 hen2 HRH3)
              | ((first | refine ⟨trivial, hdd _, ?_⟩ | refine ⟨trivial, ?_⟩ | skip); gi_at_call 27; refine (callsIn_wide.2 (HFM.out (fun k => k = g ∨ k = w11.heap.size) _ ((HDR.out.t.more (Y := fun k => k = g ∨ k = w11.heap.size) (fun k h => .inl h) (fun k h => h.imp_right fun e => by omega)).on ((Below.refl _ _).alloc (Nat.le_refl _) _)) (HRH4.out.on ((Below.refl _ _).alloc (Nat.le_refl _) _)) (fun k hk => by rcases hk with rfl | rfl; (have := HDR.out.t.lt; simp; omega); (simp)))).mono ?_; rintro e w12 ⟨gf, lb, rfl, hen, hq, hb⟩; have HQ := Lib.hid hq; have HEN := Lib.hid hen; have HB12 := Lib.hid hb; clear hb hq hen))
            have hb12 : Below w11.heap.size w11 w12 := ((Below.refl _ _).alloc (Nat.le_refl _) _).trans (HB12.out.mono (by simp))
            have hst : CountI w11 w11.heap.size w12.heap.size 0 w12 := ⟨hb12, (HB12.out.block _ (by simp)).trans (heap_alloc_new _ _), Nat.le_refl _⟩
            have HST := Lib.hid hst; clear hst
            have HFX : Hid (∀ (X : Nat → Prop) (W : World), TreeS X W g p M → RdV W A15 (pickL x.l p) → (∀ k, X k → k < W.heap.size) → Calls Try.prog 27 #[.pointer (some ⟨g, 0, none⟩), .slice A15 p.length c15] W (SaysQ X [x.l] W)) := Lib.hid (fun X W ht hr hX => by
              have := fromS_any A15 c15 (pickL x.l p) W ht hr (by rw [HDX.out]; exact Nat.le_refl _) hX
              rw [HDX.out, beg_self HP.out ht.fit HXM.out] at this; exact this)
            have HFN : Hid (∀ (X : Nat → Prop) (W : World), TreeS X W g p M → (∀ k, X k → k < W.heap.size) → Calls Try.prog 27 #[.pointer (some ⟨g, 0, none⟩), .slice none 0 0] W (SaysQ X M W)) := Lib.hid (fun X W ht hX => by
              have := fromS_any none 0 [] W ht RdV.nil (Nat.zero_le _) hX
              rw [beg_nil] at this; exact this)
            have hsz : w11.heap.size ≤ w12.heap.size := hb12.size
            have hx1000 := HFS.out x.l HXM.out
            refine wpIn_seq0 (gf := gf) (lb := lb) rfl HEN.out HQ.out (Below.refl _ _) (Nat.le_refl _) rfl
              (fun pre W => CountI w11 w11.heap.size w12.heap.size pre.length W ∧ pre.length ≤ r4)
              (fun c pre W => c = .exit 4 ∧ CountI w11 w11.heap.size w12.heap.size pre.length W ∧ pre.length = r4 + 1)
              (fun s A B h hc => ⟨h.1.calm hsz hc, h.2⟩) (fun c s A B h hc => ⟨h.1, h.2.1.calm hsz hc, h.2.2⟩) ⟨HST.out, Nat.zero_le _⟩ ?body ?done ?stop
            case body =>
              rintro l2 pre z W hl ⟨hI, hle⟩ hpre hok
              have hn : pre.length + 1 ≤ L.length := by have := hpre.length_le; simpa using this
              obtain ⟨n1, n2, n3, n4⟩ := hI.next (X := fun k => k = g ∨ k = w11.heap.size) (n₀ := w12.heap.size) (B := w12.heap.size) (Nat.le_refl _) (.inr rfl) (Nat.le_refl _)
              have cc := cell_box' hI.c
              have fz : W.frozen? ⟨w11.heap.size, 0, none⟩ = false := by simp [World.frozen?, hI.c]
              have c9 := (keep (on HDR.out.b hI.b) _ 0 hbl).trans hbox
              have d9 := (keep (on HDR.out.b n4.b) _ 0 hbl).trans hbox
              have dd := cell_box' n4.c
              have N1 := Lib.hid n1; have N2 := Lib.hid n2; have N3 := Lib.hid n3; have N4 := Lib.hid n4
              clear n1 n2 n3 n4 hI hpre hok
              by_cases hgt : r4 < pre.length + 1
              · have hgt' : (r4 : Int) < (pre.length : Int) + 1 := by omega
                gi_wp2
                exact ⟨N1.out, rfl, by rw [List.length_append]; exact N4.out, by rw [List.length_append]; simp; omega⟩
              · have hgt' : ¬ (r4 : Int) < (pre.length : Int) + 1 := by omega
                gi_wp2
                exact ⟨N1.out, N2.out, N3.out, by rw [List.length_append]; exact N4.out, by rw [List.length_append]; simp; omega⟩
            case done =>
              rintro D xs' W hD hxs ⟨hI, hle⟩ hK
              have hxl : xs'.length = L.length := by rw [← hxs]; simp
              rw [hxl] at hI hle
              have hmin : min (L.length : Int) ((r4 : Int) + 1) = (L.length : Int) := by omega
              have HDW := Lib.hid (HDR.out.on hI.b); have HZW := Lib.hid (HZR.out.on hI.b); have HRW := Lib.hid (HRX2.out.on hI.b)
              have cc := cell_box' hI.c
              have c9 := (keep HDW.out.b _ 0 hbl).trans hbox
              have hDl : D < W.heap.size := (Array.getElem?_eq_some_iff.1 hK).1
              have HKK := Lib.hid hK; clear hK hI
              have hB2 := Below.refl W.heap.size W
              have HD9 := Lib.hid hD
              have hb00 := HDW.out.b.size
              gi_wp2_with (first
                | ((first | refine ⟨trivial, hdd _, ?_⟩ | refine ⟨trivial, ?_⟩ | skip); gi_at_call 27; first | ((with_reducible refine (callsIn_wide.2 (HFX.out _ _ HDW.out.t HRW.out HDW.out.x)).mono ?_); rintro e w13 ⟨gf3, lb3, rfl, hen, hq, hb⟩; replace HDW := Lib.hid (HDW.out.on hb); replace HZW := Lib.hid (HZW.out.on hb); replace hB2 := on hB2 hb; have hq3 := Lib.hid hq; have hen3 := Lib.hid hen; clear hb hq hen) | ((with_reducible refine (callsIn_wide.2 (HFN.out _ _ HDW.out.t HDW.out.x)).mono ?_); rintro e w14 ⟨gf4, lb4, rfl, hen, hq, hb⟩; replace HDW := Lib.hid (HDW.out.on hb); replace HZW := Lib.hid (HZW.out.on hb); replace hB2 := on hB2 hb; have hq4 := Lib.hid hq; have hen4 := Lib.hid hen; clear hb hq hen))
                | ((first | refine ⟨trivial, hdd _, ?_⟩ | refine ⟨trivial, ?_⟩ | skip); gi_at_call 25; first | (refine (callsIn_wide.2 (toldS_any _ hen3.out hq3.out HDW.out.x (by simp) (fun y hy => by rw [List.mem_singleton] at hy; rw [hy]; exact hx1000))).mono ?_; rintro e w15 ⟨A10, c10, zs10, rfl, hz, hb, _, _⟩; replace HDW := Lib.hid (HDW.out.on hb); replace HZW := Lib.hid (HZW.out.on hb); replace hB2 := on hB2 hb; clear hb hz hq3 hen3) | (refine (callsIn_wide.2 (toldS_any _ hen4.out hq4.out HDW.out.x (by omega) HFS.out)).mono ?_; rintro e w16 ⟨A11, c11, zs11, rfl, hz, hb, _, _⟩; replace HDW := Lib.hid (HDW.out.on hb); replace HZW := Lib.hid (HZW.out.on hb); replace hB2 := on hB2 hb; have HZ11 := Lib.hid hz; clear hb hz hq4 hen4))
                | ((first | refine ⟨trivial, hdd _, ?_⟩ | refine ⟨trivial, ?_⟩ | skip); gi_at_call 24; refine (callsIn_wide.2 (sameR_any HZ11.out HZW.out (by unfold maxLen; omega))).mono ?_; rintro e w17 ⟨rfl, hb⟩; replace HDW := Lib.hid (HDW.out.on hb); replace hB2 := on hB2 hb; clear hb))
              all_goals have hk2 := (hB2.block _ hDl).trans HKK.out
              all_goals refine ⟨by simp, .inl ⟨_, _, rfl, run_takeDeferred hk2, ?_⟩⟩
              all_goals refine ⟨_, results_tmp rfl _ _ _, ?_⟩
              all_goals have hDw : (w.alloc (.cells #[.int .u8 (r4 : Int)] 5)).heap.size ≤ D := by have := HDR.out.b.size; omega
              all_goals exact ⟨rfl, on hB0 (HDW.out.b.trans ((Calm.put (n := (w.alloc (.cells #[.int .u8 (r4 : Int)] 5)).heap.size) hk2 rfl hDw).below HDW.out.b.size))⟩
            case stop =>
              rintro D c pre W hD hpre ⟨rfl, hI, hle⟩ hK
              have hxl : pre.length ≤ L.length := by have := hpre.length_le; simpa using this
              rw [hle] at hI
              have hmin : min (L.length : Int) ((r4 : Int) + 1) = ((r4 + 1 : Nat) : Int) := by omega
              have hcast : ((r4 + 1 : Nat) : Int) = (r4 : Int) + 1 := by omega
              have HDW := Lib.hid (HDR.out.on hI.b); have HZW := Lib.hid (HZR.out.on hI.b); have HRW := Lib.hid (HRX2.out.on hI.b)
              have cc := cell_box' hI.c
              have c9 := (keep HDW.out.b _ 0 hbl).trans hbox
              have hDl : D < W.heap.size := (Array.getElem?_eq_some_iff.1 hK).1
              have HKK := Lib.hid hK; clear hK hI
              have hB2 := Below.refl W.heap.size W
              have HD9 := Lib.hid hD
              have hb00 := HDW.out.b.size
              gi_wp2_with (first
                | ((first | refine ⟨trivial, hdd _, ?_⟩ | refine ⟨trivial, ?_⟩ | skip); gi_at_call 27; first | ((with_reducible refine (callsIn_wide.2 (HFX.out _ _ HDW.out.t HRW.out HDW.out.x)).mono ?_); rintro e w13 ⟨gf3, lb3, rfl, hen, hq, hb⟩; replace HDW := Lib.hid (HDW.out.on hb); replace HZW := Lib.hid (HZW.out.on hb); replace hB2 := on hB2 hb; have hq3 := Lib.hid hq; have hen3 := Lib.hid hen; clear hb hq hen) | ((with_reducible refine (callsIn_wide.2 (HFN.out _ _ HDW.out.t HDW.out.x)).mono ?_); rintro e w14 ⟨gf4, lb4, rfl, hen, hq, hb⟩; replace HDW := Lib.hid (HDW.out.on hb); replace HZW := Lib.hid (HZW.out.on hb); replace hB2 := on hB2 hb; have hq4 := Lib.hid hq; have hen4 := Lib.hid hen; clear hb hq hen))
                | ((first | refine ⟨trivial, hdd _, ?_⟩ | refine ⟨trivial, ?_⟩ | skip); gi_at_call 25; first | (refine (callsIn_wide.2 (toldS_any _ hen3.out hq3.out HDW.out.x (by simp) (fun y hy => by rw [List.mem_singleton] at hy; rw [hy]; exact hx1000))).mono ?_; rintro e w15 ⟨A10, c10, zs10, rfl, hz, hb, _, _⟩; replace HDW := Lib.hid (HDW.out.on hb); replace HZW := Lib.hid (HZW.out.on hb); replace hB2 := on hB2 hb; clear hb hz hq3 hen3) | (refine (callsIn_wide.2 (toldS_any _ hen4.out hq4.out HDW.out.x (by omega) HFS.out)).mono ?_; rintro e w16 ⟨A11, c11, zs11, rfl, hz, hb, _, _⟩; replace HDW := Lib.hid (HDW.out.on hb); replace HZW := Lib.hid (HZW.out.on hb); replace hB2 := on hB2 hb; have HZ11 := Lib.hid hz; clear hb hz hq4 hen4))
                | ((first | refine ⟨trivial, hdd _, ?_⟩ | refine ⟨trivial, ?_⟩ | skip); gi_at_call 24; refine (callsIn_wide.2 (sameR_any HZ11.out HZW.out (by unfold maxLen; omega))).mono ?_; rintro e w17 ⟨rfl, hb⟩; replace HDW := Lib.hid (HDW.out.on hb); replace hB2 := on hB2 hb; clear hb))
              all_goals have hk2 := (hB2.block _ hDl).trans HKK.out
              all_goals refine ⟨by simp, .inl ⟨_, _, rfl, run_takeDeferred hk2, ?_⟩⟩
              all_goals refine ⟨_, results_tmp rfl _ _ _, ?_⟩
              all_goals have hDw : (w.alloc (.cells #[.int .u8 (r4 : Int)] 5)).heap.size ≤ D := by have := HDR.out.b.size; omega
              all_goals exact ⟨rfl, on hB0 (HDW.out.b.trans ((Calm.put (n := (w.alloc (.cells #[.int .u8 (r4 : Int)] 5)).heap.size) hk2 rfl hDw).below HDW.out.b.size))⟩
theorem walk (A0 : Option Addr) (c0 : Nat) (p : List Int) (A1 : Option Addr) (c1 : Nat) (xs : List Sl) (a2 a3 a4 : Int) (w : World) (r0 : RdI w A0 p) (q0 : p.length ≤ c0) (m0 : p.length ≤ maxLen) (z0 : A0 = none → c0 = 0) (r1 : RdL w A1 xs) (m1 : xs.length ≤ maxLen) (q1 : xs.length ≤ c1) (w2 : (Lit.int .u8 a2).wf = true) (w3 : (Lit.int .u8 a3).wf = true) (w4 : (Lit.int .u8 a4).wf = true) :
    Calls Try.prog 6 #[.slice A0 p.length c0, .slice A1 xs.length c1, .int .u8 a2, .int .u8 a3, .int .u8 a4] w fun e w' => e = .returned (.bool true) ∧ Below w.heap.size w w' := by
  by_cases h : fewB (lsOf xs) = true ∧ p.length ≤ 8 ∧ permB p = true
  · have h2 : 0 ≤ a2 ∧ a2 < 256 := by simp [Lit.wf, IntKind.min, IntKind.max, IntKind.bits, IntKind.signed] at w2; omega
    have h3 : 0 ≤ a3 ∧ a3 < 256 := by simp [Lit.wf, IntKind.min, IntKind.max, IntKind.bits, IntKind.signed] at w3; omega
    have h4 : 0 ≤ a4 ∧ a4 < 256 := by simp [Lit.wf, IntKind.min, IntKind.max, IntKind.bits, IntKind.signed] at w4; omega
    obtain ⟨r2, rfl⟩ := Int.eq_ofNat_of_zero_le h2.1
    obtain ⟨r3, rfl⟩ := Int.eq_ofNat_of_zero_le h3.1
    obtain ⟨r4, rfl⟩ := Int.eq_ofNat_of_zero_le h4.1
    exact walk_yes A0 A1 c0 c1 p xs r2 r3 r4 w r0 r1 m1 (by omega) (by omega) (by omega) h.1 h.2.1 h.2.2
  · refine walk_off A0 A1 c0 c1 p xs a2 a3 a4 w r0 r1 m1 ?_
    cases hf : fewB (lsOf xs) <;> cases hb : permB p <;> simp [hf, hb] at h ⊢ <;> omega

theorem own : ownKnob Try.prog.godebug = none := by kernel_rfl

set_option maxRecDepth 100000 in
theorem lifted (os : Os) (started : os.Started) (H : Type) (enc : TypeId × Value → H) :
    ReturnsInHanded {} Try.checked os 6 .any (Rows.btreeFromSpec.pre6 enc Try.prog Try.f6 Rows.btreeFromRow.domain false) (Rows.btreeFromSpec.post enc Try.prog Try.f6 false true false false) := by
  refine returnsInHanded_of_change (C := Try.checked) own started (by kernel_rfl) Try.func6
    (ChangeSpec.witness6 (enc := enc) (C := Try.checked) false ⟨#[], #[.slice none 0 0, .slice none 0 0, .int .u8 0, .int .u8 0, .int .u8 0], []⟩ 8 (by kernel_rfl) (by kernel_rfl) (by kernel_rfl) (by kernel_rfl)) ?_
  intro W base args ds gs before hval0 hW hcnd _
  have hval : ∀ (j : Nat) t v, Try.f6.params[j]? = some t → args[j]? = some v → Value.okWide Try.prog W .any base t v := hval0
  have hW' := hW
  obtain ⟨p, q, hA0, hV, rfl, hfz, hnd⟩ := hW
  have hA : DataW.TrodAll enc Try.prog W 0 (fun _ => true) true Try.f6.params.toList args.toList ds p := hA0
  have hAk := hA
  rw [Try.params6] at hA hval
  obtain ⟨v0, vs0, d0, ds0, p0, q0, hargs, rfl, rfl, h0, r0⟩ := trodAll_cons hA
  obtain ⟨v1, vs1, d1, ds1, p1, q1, rfl, rfl, rfl, h1, r1⟩ := trodAll_cons r0
  obtain ⟨v2, vs2, d2, ds2, p2, q2, rfl, rfl, rfl, h2, r2⟩ := trodAll_cons r1
  obtain ⟨v3, vs3, d3, ds3, p3, q3, rfl, rfl, rfl, h3, r3⟩ := trodAll_cons r2
  obtain ⟨v4, vs4, d4, ds4, p4, q4, rfl, rfl, rfl, h4, r4⟩ := trodAll_cons r3
  obtain ⟨rfl, rfl, rfl⟩ := trodAll_nil r4
  obtain rfl : args = #[v0, v1, v2, v3, v4] := by cases args; simp_all
  obtain ⟨rfl, rfl⟩ := trodVars_none hV
  obtain ⟨A0, c0, l0, rfl, r0', q0', m0', z0'⟩ := open_nums (okWide_slice Try.underlying22 (hval 0 22 v0 rfl rfl)) h0
  obtain ⟨A1, c1, l1, rfl, r1', m1', q1'⟩ := open_tups (okWide_slice Try.underlying23 (hval 1 23 v1 rfl rfl)) h1
  obtain ⟨a2, rfl, rfl, rfl, w2⟩ := open_int Try.underlying5 (hval 2 5 v2 rfl rfl) h2
  obtain ⟨a3, rfl, rfl, rfl, w3⟩ := open_int Try.underlying5 (hval 3 5 v3 rfl rfl) h3
  obtain ⟨a4, rfl, rfl, rfl, w4⟩ := open_int Try.underlying5 (hval 4 5 v4 rfl rfl) h4
  clear hA0 hval0
  refine (walk A0 c0 l0 A1 c1 l1 a2 a3 a4 W r0' q0' m0' z0' r1' m1' q1' w2 w3 w4).mono fun e W' ⟨he, hg⟩ => ?_
  subst he
  refine ⟨_, rfl, post_old hW' (by simpa using hAk) (by rw [Try.params6]; decide) (fun _ _ _ => (trodAll_cons_mk (shut_bool Try.underlying4 _) trodAll_mk0)) rfl (fun _ => rfl) hg⟩

theorem proved : Rows.BtreeFromSaid :=
  OpenClaim.holds_of_wide 6 Try.f6 rfl rfl rfl rfl rfl rfl rfl ⟨rfl, rfl, rfl, rfl, rfl⟩ rfl rfl rfl rfl rfl (by kernel_rfl) Try.func6 (by kernel_rfl)
    (of_decide_eq_true (by kernel_rfl)) (by unfold Func.isWrapper; first | (rw [if_pos (by decide +kernel)]; kernel_rfl) | (rw [if_neg (by decide +kernel)]; exact ⟨rfl, rfl⟩))
    (fun os started H enc _ => lifted os started H enc)
#print axioms proved
end Go.Proofs.Ytdpflmbnomeaaaa.btreeFrom

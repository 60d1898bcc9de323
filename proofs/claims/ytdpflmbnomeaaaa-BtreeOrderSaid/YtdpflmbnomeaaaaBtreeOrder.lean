/-
  BtreeOrder (layer 4, btree): for every p, l and by the call returns true: in whatever order tuples are put, the tree tells the same, in order, each once. No condition.
-/
import Derived.Test.YtdpflmbnomeaaaaRows
import Derived.Test.YtdpflmbnomeaaaaBtTwo
import Derived.Test.YtdpflmbnomeaaaaBtOpen
import Derived.Test.YtdpflmbnomeaaaaBtAwake
import Derived.WalkKit
import Derived.ProofKit
import Derived.OpenShut
namespace Go.Proofs.Ytdpflmbnomeaaaa.btreeOrder
open Go.ChangeShapes Go.WideShapes Go.ChangeAt Go.RowKit FloM ValM
set_option linter.unusedVariables false
set_option linter.unusedSimpArgs false
def rot (l : List (List V)) (r : Nat) : List (List V) := (List.range l.length).map fun i => l.getD ((i + r) % l.length) []
theorem rot_at {l : List (List V)} {r k : Nat} {a : List V} (hk : k < l.length) (h : l[(k + r) % l.length]? = some a) : (rot l r)[k]? = some a := by
  unfold rot; rw [List.getElem?_map, List.getElem?_range hk]; simp [List.getD, h]
theorem rot_mem {l : List (List V)} {r : Nat} {x : List V} : x ∈ rot l r ↔ x ∈ l := by
  unfold rot
  rw [List.mem_map]
  constructor
  · rintro ⟨i, hi, rfl⟩
    have hl : 0 < l.length := by have := List.mem_range.1 hi; omega
    have hlt := Nat.mod_lt (i + r) hl
    rw [List.getD, List.getElem?_eq_getElem hlt]; exact List.getElem_mem hlt
  · intro hx
    obtain ⟨j, hj, rfl⟩ := List.getElem_of_mem hx
    have hr := Nat.mod_lt r (show 0 < l.length by omega)
    refine ⟨(j + (l.length - r % l.length)) % l.length, List.mem_range.2 (Nat.mod_lt _ (by omega)), ?_⟩
    have e : ((j + (l.length - r % l.length)) % l.length + r) % l.length = j := by
      rw [Nat.mod_add_mod]
      have h1 := Nat.div_add_mod r l.length
      rw [show j + (l.length - r % l.length) + r = j + l.length * (1 + r / l.length) by rw [Nat.mul_add]; omega, Nat.add_mul_mod_self_left, Nat.mod_eq_of_lt hj]
    rw [e, List.getD, List.getElem?_eq_getElem hj]; rfl
theorem rot_puts {p : List Int} (hp : permB p = true) (l : List (List V)) (r : Nat) : puts p (rot l r) = puts p l := sort_ext (puts_fit _ _).sort (puts_fit _ _).sort fun x => by rw [puts_mem hp, puts_mem hp, rot_mem]
set_option maxHeartbeats 4000000 in
theorem walk_no (A0 A1 : Option Addr) (c0 c1 : Nat) (p : List Int) (xs : List Sl) (a2 : Int) (w : World) (r0 : RdI w A0 p) (r1 : RdL w A1 xs) (m0 : p.length ≤ maxLen) (m1 : xs.length ≤ maxLen)
    (h : fewB (lsOf xs) = false ∨ fewB (lsOf xs) = true ∧ (8 < p.length ∨ p.length ≤ 8 ∧ permB p = false)) :
    Calls Try.prog 5 #[.slice A0 p.length c0, .slice A1 xs.length c1, .int .u8 a2] w fun e w' => e = .returned (.bool true) ∧ Below w.heap.size w w' := by
  have hB := Below.refl w.heap.size w
  have R0 := Lib.hid r0; have R1 := Lib.hid r1; clear r0 r1
  rcases h with h | ⟨h1, h | ⟨h, hp⟩⟩
  · have HF := Lib.hid h; clear h
    go_enter Try.func5, Try.ntmps5
    go_wp2_with (first
      | (go_at_call 15; refine (awake_any _).mono ?_; rintro e w1 ⟨rfl, h'⟩; replace hB := on hB h'; clear h')
      | (go_at_call 16; refine (few_any A1 c1 xs _ (R1.out.on hB) m1).mono ?_; rintro e w2 ⟨rfl, rfl⟩; rw [HF.out]))
    go_ret
    exact ⟨rfl, hB⟩
  · have HF := Lib.hid h1; clear h1
    have h' : 8 < (p.length : Int) := by omega
    go_enter Try.func5, Try.ntmps5
    go_wp2_with (first
      | (go_at_call 15; refine (awake_any _).mono ?_; rintro e w1 ⟨rfl, h'⟩; replace hB := on hB h'; clear h')
      | (go_at_call 16; refine (few_any A1 c1 xs _ (R1.out.on hB) m1).mono ?_; rintro e w2 ⟨rfl, rfl⟩; rw [HF.out]))
    go_ret
    exact ⟨rfl, hB⟩
  · have HF := Lib.hid h1; clear h1
    have h' : ¬ 8 < (p.length : Int) := by omega
    have HP := Lib.hid hp; clear hp
    go_enter Try.func5, Try.ntmps5
    go_wp2_with (first
      | (go_at_call 15; refine (awake_any _).mono ?_; rintro e w1 ⟨rfl, h'⟩; replace hB := on hB h'; clear h')
      | (go_at_call 16; refine (few_any A1 c1 xs _ (R1.out.on hB) m1).mono ?_; rintro e w2 ⟨rfl, rfl⟩; rw [HF.out])
      | (go_at_call 17; refine (new_bad A0 c0 p _ h (R0.out.on hB) HP.out).mono ?_; rintro e w2 ⟨rfl, h'⟩; replace hB := on hB h'; clear h'))
    go_ret
    exact ⟨rfl, hB⟩
set_option maxRecDepth 20000 in
set_option maxHeartbeats 8000000 in
theorem walk_yes (A0 A1 : Option Addr) (c0 c1 : Nat) (p : List Int) (xs : List Sl) (r : Nat) (w : World) (r0 : RdI w A0 p) (r1 : RdL w A1 xs) (m0 : p.length ≤ maxLen) (m1 : xs.length ≤ maxLen) (hr : r < 256)
    (hf : fewB (lsOf xs) = true) (h8 : p.length ≤ 8) (hp : permB p = true) :
    Calls Try.prog 5 #[.slice A0 p.length c0, .slice A1 xs.length c1, .int .u8 (r : Int)] w fun e w' => e = .returned (.bool true) ∧ Below w.heap.size w w' := by
  have hB := Below.refl w.heap.size w
  have R0 := Lib.hid r0; have R1 := Lib.hid r1; clear r0 r1
  obtain ⟨hf1, hf2⟩ := fewB_yes hf
  rw [lsOf, List.length_map] at hf2
  have HF := Lib.hid hf; have HF1 := Lib.hid hf1; clear hf hf1
  have h' : ¬ 8 < (p.length : Int) := by omega
  have HP := Lib.hid hp; clear hp
  go_enter Try.func5, Try.ntmps5
  go_wp2_with (first
    | (go_at_call 15; refine (awake_any _).mono ?_; rintro e w1 ⟨rfl, h'⟩; replace hB := on hB h'; clear h')
    | (go_at_call 16; refine (few_any A1 c1 xs _ (R1.out.on hB) m1).mono ?_; rintro e w2 ⟨rfl, rfl⟩; rw [HF.out])
    | (go_at_call 17; first
      | (refine (new_any A0 c0 p _ h8 (R0.out.on hN1.2) HP.out).mono ?_; rintro e w4 ⟨g2, P2, cp2, rfl, N2⟩; have hT := Lib.hid (TwoT.start hN1.1.out N2 hB (Below.refl _ _) HP.out h8 HP.out h8); clear hN1 hB N2)
      | (refine (new_any A0 c0 p _ h8 (R0.out.on hB) HP.out).mono ?_; rintro e w3 ⟨g1, P1, cp1, rfl, N1⟩; have hN1 := And.intro (Lib.hid N1) (hB.trans (N1.b.mono hB.size)); clear N1)))
  have hlen : (lsOf xs).length = xs.length := by simp [lsOf]
  go_loopw [43] (fun v wr => ∃ (k : Nat), v = .int .i64 (k : Nat) ∧ k ≤ xs.length ∧ TwoT w g1 g2 p p (puts p ((lsOf xs).take k)) (puts p ((rot (lsOf xs) r).take k)) wr) (fun v _ => xs.length - (intOf v).toNat)
  case atStart => exact ⟨0, rfl, Nat.zero_le _, hT.out⟩
  case round =>
    obtain ⟨k, rfl, hk, hD⟩ := hrel
    clear hT
    have HD := Lib.hid hD; clear hD
    by_cases hlt : k < xs.length
    · obtain ⟨b, o, rfl, hb, hrow⟩ := R1.out.row (by omega)
      have hx := List.getElem?_eq_getElem hlt
      generalize xs[k] = x at hx
      have hm : (k + r) % xs.length < xs.length := Nat.mod_lt _ (by omega)
      have hy := List.getElem?_eq_getElem hm
      generalize xs[(k + r) % xs.length] = y at hy
      have cx := (keep HD.out.b _ _ hb).trans (hrow k x hx)
      have cy0 := hrow _ y hy
      have HX := Lib.hid (lsOf_at hx)
      have HY := Lib.hid (rot_at (l := lsOf xs) (r := r) (by rw [hlen]; exact hlt) (by rw [hlen]; exact lsOf_at hy))
      have rx := Lib.hid (R1.out.each x (List.mem_of_getElem? hx)).1
      have ry := Lib.hid (R1.out.each y (List.mem_of_getElem? hy)).1
      have hq : Int.tmod ((k : Int) + (r : Int)) (xs.length : Int) = (((k + r) % xs.length : Nat) : Int) := by rw [Int.tmod_eq_emod_of_nonneg (by omega)]; push_cast; rfl
      have hl1 : (puts p ((lsOf xs).take k)).length < 100000 := by have := puts_len p ((lsOf xs).take k); rw [List.length_take] at this; omega
      have hl2 : (puts p ((rot (lsOf xs) r).take k)).length < 100000 := by have := puts_len p ((rot (lsOf xs) r).take k); rw [List.length_take] at this; omega
      have HL1 := Lib.hid hl1; have HL2 := Lib.hid hl2
      clear hrow hx hy hl1 hl2
      generalize (k + r) % xs.length = m at hq hm cy0
      have CY := Lib.hid cy0; clear cy0
      go_wp2_with (go_at_call 19; first
        | (refine (putS_any x.A x.c x.l _ HD.out.t (rx.out.on HD.out.b) HL1.out HD.out.x).mono ?_; rintro e w5 ⟨rfl, ht, hF⟩; rw [← puts_next HX.out] at ht; have hE := Lib.hid (HD.out.put1 ht hF); have cy2 := (keep hE.out.b _ _ hb).trans CY.out; clear HD ht)
        | (refine (putS_any y.A y.c y.l _ hE.out.u (ry.out.on hE.out.b) HL2.out hE.out.x).mono ?_; rintro e w6 ⟨rfl, ht, hF2⟩; rw [← puts_next HY.out] at ht; have hE2 := Lib.hid (hE.out.put2 ht hF2); clear hE ht))
      go_roundw
      case rel => exact ⟨k + 1, by go_num, by omega, hE2.out⟩
      case measure => simp [intOf]; omega
    · obtain rfl : k = xs.length := by omega
      rw [List.take_of_length_le (by omega), List.take_of_length_le (by simp [rot, lsOf]), rot_puts HP.out] at HD
      have hpl := puts_len p (lsOf xs)
      rw [hlen] at hpl
      have HF3 := Lib.hid ((puts_fit p (lsOf xs)).short (by omega))
      have HST := Lib.hid (puts_fit p (lsOf xs)).sort
      have HE : Hid (lsOf xs = lsOf xs) := rfl
      clear HE
      generalize puts p (lsOf xs) = M at HD hpl HF3 HST
      go_wp2_with (first
        | (go_at_call 26; refine (allS_any _ HD.out.t HD.out.x).mono ?_; rintro e w5 ⟨gf, lb, rfl, hen, hq, hb⟩; have h4 := Lib.hid (HD.out.on hb); replace hq := Lib.hid hq; replace hen := Lib.hid hen; clear HD hb)
        | (go_at_call 25; refine (toldS_any _ hen.out hq.out h4.out.x (by omega) HF3.out).mono ?_; rintro e w6 ⟨A, c, ys, rfl, hy, hb, _, _⟩; have h5 := Lib.hid (h4.out.on hb); have HY := Lib.hid hy; clear h4 hq hen hb hy))
      have hs6 := h5.out.b.size
      go_loopw [13] (fun v wr => ∃ (j : Nat), v = .int .i64 ((j : Int) + 1) ∧ (j + 1 ≤ M.length ∨ j = 0) ∧ Below w6.heap.size w6 wr) (fun v _ => M.length + 1 - (intOf v).toNat)
      case atStart => exact ⟨0, rfl, .inr rfl, Below.refl _ _⟩
      case round =>
        obtain ⟨j, rfl, hj, hBr⟩ := hrel
        have h6 := Lib.hid (h5.out.on hBr); have HY2 := Lib.hid (HY.out.on hBr)
        have hyl := HY2.out.len
        by_cases hlt : j + 1 < M.length
        · obtain ⟨b, o, rfl, hb, hrow⟩ := HY2.out.rd.row (by omega)
          have hx := List.getElem?_eq_getElem (show j < ys.length by omega)
          have hy := List.getElem?_eq_getElem (show j + 1 < ys.length by omega)
          generalize ys[j] = x at hx
          generalize ys[j + 1] = y at hy
          have cx := hrow _ _ hx
          have cy := hrow _ _ hy
          have HC := Lib.hid (sort_at HST.out (HY2.out.at_ hx) (HY2.out.at_ hy))
          have lx := HF3.out _ (List.mem_of_getElem? (HY2.out.at_ hx)); have ly := HF3.out _ (List.mem_of_getElem? (HY2.out.at_ hy))
          have RX := Lib.hid (HY2.out.rd.each x (List.mem_of_getElem? hx)).1; have RY := Lib.hid (HY2.out.rd.each y (List.mem_of_getElem? hy)).1
          have RP := Lib.hid (R0.out.on h6.out.b)
          have hlt' : (j : Int) + 1 < (M.length : Int) := by omega
          have hi1 : (0 : Int) ≤ (j : Int) := by omega
          have hi2 : (j : Int) < (M.length : Int) := by omega
          have hi3 : (0 : Int) ≤ (j : Int) + 1 := by omega
          have hi4 : ((j : Int) + 1).toNat = j + 1 := by omega
          have hi7 : IntKind.i64.wrap (j : Int) = (j : Int) := by rw [IntKind.wrap_i64]; omega
          clear hrow hx hy hyl
          go_wp2_with fail
          go_region_held3 (fun u => Below wr.heap.size wr u ∧ u.cell? ⟨b, o + j, none⟩ = some (.slice x.A x.l.length x.c) ∧ u.cell? ⟨b, o + (j + 1), none⟩ = some (.slice y.A y.l.length y.c))
            (first | exact ⟨Below.refl _ _, cx, cy⟩ | exact ⟨(Below.refl _ _).drew, cx, cy⟩ | exact ⟨h4, (k4 _ _ hb).trans cx, (k4 _ _ hb).trans cy⟩)
            ((go_at_call 31; refine (refCompareT_any x.A y.A A0 x.c y.c c0 x.l y.l p _ (RX.out.on (Below.refl _ _).drew) (RY.out.on (Below.refl _ _).drew) (RP.out.on (Below.refl _ _).drew) lx ly (by omega)).mono ?_; rintro e w8 ⟨rfl, h4⟩; rw [show ordV (pickL x.l p) (pickL y.l p) = -1 from HC.out]; replace h4 : Below wr.heap.size wr w8 := (Below.refl wr.heap.size wr).drew.trans h4; have k4 := keep h4))
          all_goals
            clear hi7 hi1 hi3 hi4
            go_wp2
            go_roundw
            case rel => exact ⟨j + 1, by go_num, .inl (by omega), on hBr h4⟩
            case measure => simp [intOf]; omega
        · have hlt' : ¬ ((j : Int) + 1 < (M.length : Int)) := by omega
          go_wp2_with (first
            | (go_at_call 26; refine (allS_any _ h6.out.u h6.out.x).mono ?_; rintro e w8 ⟨gf2, lb2, rfl, hen, hq, hb⟩; have h7 := Lib.hid (h6.out.on hb); replace HY2 := Lib.hid (HY2.out.on hb); replace hq := Lib.hid hq; replace hen := Lib.hid hen; clear h6 hb)
            | (go_at_call 25; refine (toldS_any _ hen.out hq.out h7.out.x (by omega) HF3.out).mono ?_; rintro e w9 ⟨A9, c9, zs, rfl, hz, hb, _, _⟩; have h8 := Lib.hid (h7.out.on hb); replace HY2 := Lib.hid (HY2.out.on hb); have HZ := Lib.hid hz; clear h7 hq hen hb hz)
            | (go_at_call 24; refine (sameR_any HY2.out HZ.out (by unfold maxLen; omega)).mono ?_; rintro e w10 ⟨rfl, hb⟩; have h9 := Lib.hid (h8.out.on hb); clear h8 hb)
            | (go_at_call 21; refine (lenS_any _ h9.out.t).mono ?_; rintro e w11 ⟨rfl, rfl⟩))
          go_ret
          exact ⟨rfl, h9.out.b⟩
theorem walk (A0 : Option Addr) (c0 : Nat) (p : List Int) (A1 : Option Addr) (c1 : Nat) (xs : List Sl) (a2 : Int) (w : World) (r0 : RdI w A0 p) (q0 : p.length ≤ c0) (m0 : p.length ≤ maxLen) (z0 : A0 = none → c0 = 0) (r1 : RdL w A1 xs) (m1 : xs.length ≤ maxLen) (q1 : xs.length ≤ c1) (w2 : (Lit.int .u8 a2).wf = true) :
    Calls Try.prog 5 #[.slice A0 p.length c0, .slice A1 xs.length c1, .int .u8 a2] w fun e w' => e = .returned (.bool true) ∧ Below w.heap.size w w' := by
  by_cases h : fewB (lsOf xs) = true ∧ p.length ≤ 8 ∧ permB p = true
  · have h2 : 0 ≤ a2 ∧ a2 < 256 := by simp [Lit.wf, IntKind.min, IntKind.max, IntKind.bits, IntKind.signed] at w2; omega
    obtain ⟨r, rfl⟩ := Int.eq_ofNat_of_zero_le h2.1
    exact walk_yes A0 A1 c0 c1 p xs r w r0 r1 m0 m1 (by omega) h.1 h.2.1 h.2.2
  · refine walk_no A0 A1 c0 c1 p xs a2 w r0 r1 m0 m1 ?_
    cases hf : fewB (lsOf xs) <;> cases hb : permB p <;> simp [hf, hb] at h ⊢ <;> omega

theorem own : ownKnob Try.prog.godebug = none := by kernel_rfl

set_option maxRecDepth 100000 in
theorem lifted (os : Os) (started : os.Started) (H : Type) (enc : TypeId × Value → H) :
    ReturnsInHanded {} Try.checked os 5 .any (Rows.btreeOrderSpec.pre6 enc Try.prog Try.f5 Rows.btreeOrderRow.domain false) (Rows.btreeOrderSpec.post enc Try.prog Try.f5 false true false false) := by
  refine returnsInHanded_of_change (C := Try.checked) own started (by kernel_rfl) Try.func5
    (ChangeSpec.witness6 (enc := enc) (C := Try.checked) false ⟨#[], #[.slice none 0 0, .slice none 0 0, .int .u8 0], []⟩ 8 (by kernel_rfl) (by kernel_rfl) (by kernel_rfl) (by kernel_rfl)) ?_
  intro W base args ds gs before hval0 hW hcnd _
  have hval : ∀ (j : Nat) t v, Try.f5.params[j]? = some t → args[j]? = some v → Value.okWide Try.prog W .any base t v := hval0
  have hW' := hW
  obtain ⟨p, q, hA0, hV, rfl, hfz, hnd⟩ := hW
  have hA : DataW.TrodAll enc Try.prog W 0 (fun _ => true) true Try.f5.params.toList args.toList ds p := hA0
  have hAk := hA
  rw [Try.params5] at hA hval
  obtain ⟨v0, vs0, d0, ds0, p0, q0, hargs, rfl, rfl, h0, r0⟩ := trodAll_cons hA
  obtain ⟨v1, vs1, d1, ds1, p1, q1, rfl, rfl, rfl, h1, r1⟩ := trodAll_cons r0
  obtain ⟨v2, vs2, d2, ds2, p2, q2, rfl, rfl, rfl, h2, r2⟩ := trodAll_cons r1
  obtain ⟨rfl, rfl, rfl⟩ := trodAll_nil r2
  obtain rfl : args = #[v0, v1, v2] := by cases args; simp_all
  obtain ⟨rfl, rfl⟩ := trodVars_none hV
  obtain ⟨A0, c0, l0, rfl, r0', q0', m0', z0'⟩ := open_nums (okWide_slice Try.underlying22 (hval 0 22 v0 rfl rfl)) h0
  obtain ⟨A1, c1, l1, rfl, r1', m1', q1'⟩ := open_tups (okWide_slice Try.underlying23 (hval 1 23 v1 rfl rfl)) h1
  obtain ⟨a2, rfl, rfl, rfl, w2⟩ := open_int Try.underlying5 (hval 2 5 v2 rfl rfl) h2
  clear hA0 hval0
  refine (walk A0 c0 l0 A1 c1 l1 a2 W r0' q0' m0' z0' r1' m1' q1' w2).mono fun e W' ⟨he, hg⟩ => ?_
  subst he
  refine ⟨_, rfl, post_old hW' (by simpa using hAk) (by rw [Try.params5]; decide) (fun _ _ _ => (trodAll_cons_mk (shut_bool Try.underlying4 _) trodAll_mk0)) rfl (fun _ => rfl) hg⟩

theorem proved : Rows.BtreeOrderSaid :=
  OpenClaim.holds_of_wide 5 Try.f5 rfl rfl rfl rfl rfl rfl rfl ⟨rfl, rfl, rfl, rfl, rfl⟩ rfl rfl rfl rfl rfl (by kernel_rfl) Try.func5 (by kernel_rfl)
    (of_decide_eq_true (by kernel_rfl)) (by unfold Func.isWrapper; first | (rw [if_pos (by decide +kernel)]; kernel_rfl) | (rw [if_neg (by decide +kernel)]; exact ⟨rfl, rfl⟩))
    (fun os started H enc _ => lifted os started H enc)
#print axioms proved
end Go.Proofs.Ytdpflmbnomeaaaa.btreeOrder

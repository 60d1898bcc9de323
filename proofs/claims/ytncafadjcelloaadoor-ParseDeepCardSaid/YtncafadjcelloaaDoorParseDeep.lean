/-
  ParseDeep (layer 8, parse): for every label and more the call returns true: as many ( as may be open at once are read, around any path that has none; one more isn't, and is told where it stands. No condition.
-/
import Derived.Test.YtncafadjcelloaaDoorRows
import Derived.Test.YtncafadjcelloaaDoorCards
import Derived.Test.YtncafadjcelloaaDoorTie
import Derived.Test.YtncafadjcelloaaDoorPrsTop
import Derived.WalkKit
import Derived.ProofKit
import Derived.OpenShut
import Derived.LaidMore
import Derived.Lay
import Derived.SevenTiedAt
import Derived.Stop.Joined
import Derived.RegionTactic
import Derived.BigQuiet
import Derived.Lib.QuietBelow
namespace Go.Proofs.YtncafadjcelloaaDoor.parseDeep
open Go.ChangeShapes Go.WideShapes Go.ChangeAt Go.RowKit FloM ValM Go.Shelf
set_option linter.unusedVariables false
set_option linter.unusedSimpArgs false
theorem u8_of {n : Int} (h : (Lit.int .u8 n).wf = true) : 0 ≤ n ∧ n < 256 := by
  simp [Lit.wf, IntKind.min, IntKind.max, IntKind.bits, IntKind.signed] at h; omega
def nestL (c : UInt8) (k : Nat) : List UInt8 := List.replicate k 40 ++ c :: List.replicate k 41
theorem nest_len (c : UInt8) (k : Nat) : (nestL c k).length = k + 1 + k := by simp [nestL]; omega
theorem nest_step (c : UInt8) (k : Nat) : ⟨#[40]⟩ ++ bs (nestL c k) ++ ⟨#[41]⟩ = bs (nestL c (k + 1)) := by
  apply ls_inj
  rw [ls_append, ls_append, ls_bs, ls_bs]
  show [40] ++ nestL c k ++ [41] = nestL c (k + 1)
  unfold nestL
  rw [List.replicate_succ, List.replicate_succ']
  simp
theorem slice_abc (r : Nat) (hr : r = 0 ∨ r = 1 ∨ r = 2) : ((ByteArray.mk #[97, 98, 99]).extract r 3).extract 0 1 = bs [UInt8.ofNat (97 + r)] ∧ 1 ≤ ((ByteArray.mk #[97, 98, 99]).extract r 3).size := by
  rcases hr with rfl | rfl | rfl <;> exact ⟨by apply ls_inj; rw [ls_extract, ls_extract]; rfl, by rw [← ls_len, ls_extract]; decide⟩
theorem abc_of (r : Nat) (hr : r = 0 ∨ r = 1 ∨ r = 2) : UInt8.ofNat (97 + r) = 97 ∨ UInt8.ofNat (97 + r) = 98 ∨ UInt8.ofNat (97 + r) = 99 := by
  rcases hr with rfl | rfl | rfl
  · exact .inl rfl
  · exact .inr (.inl rfl)
  · exact .inr (.inr rfl)
/-- What Path tells of such a text. -/
theorem path_nest8 {c : UInt8} (hc : c = 97 ∨ c = 98 ∨ c = 99) (n : Nat) : (n ≤ 32 → pathS (bs (nestL c n)).size (toksL 0 (ls (bs (nestL c n)))) = .ok [⟨1, [c]⟩] []) ∧ (32 < n → pathS (bs (nestL c n)).size (toksL 0 (ls (bs (nestL c n)))) = .no 32 3) ∧ deepL (toksL 0 (ls (bs (nestL c n)))).ts = n := by
  rw [ls_bs]
  have ht := toks_nest hc n n 0
  change toksL 0 (nestL c n) = _ at ht
  rw [ht]
  refine ⟨fun h => ?_, fun h => ?_, deep_in hc n 0 _ _⟩
  · show (pathP 32 _ _).bind _ = _
    have := path_in hc (bs (nestL c n)).size n 32 0 (0 + n) (0 + n + 1) [] h ⟨rfl, by simp [hdT], by simp [hdT]⟩
    rw [List.append_nil] at this
    rw [this]; rfl
  · show (pathP 32 _ _).bind _ = _
    rw [path_out n 32 0 _ h]; rfl
set_option maxRecDepth 20000 in
set_option maxHeartbeats 4000000 in
theorem walkA (a0 a1 : Int) (n r : Nat) (c : UInt8) (w : World) (hc : c = 97 ∨ c = 98 ∨ c = 99) (h0 : 0 ≤ a0) (h1 : 0 ≤ a1) (h2 : a0 < 256) (h3 : a1 < 256) (hn : a1.tmod 40 = (n : Int)) (hn40 : n < 40) (hr : a0.tmod 3 = (r : Int)) (hr3 : r < 3) (hs : ((ByteArray.mk #[97, 98, 99]).extract r 3).extract 0 1 = bs [c]) (hs1 : 1 ≤ ((ByteArray.mk #[97, 98, 99]).extract r 3).size) (hle : n ≤ 32) :
    Calls Tryd.prog 6 #[.int .u8 a0, .int .u8 a1] w fun e w' => e = .returned (.bool true) ∧ Below w.heap.size w w' := by
  have hB := Below.refl w.heap.size w
  have hsz : (bs (nestL c n)).size ≤ 20000 := by rw [bs_size, nest_len]; omega
  have HP : Hid (∀ V, Calls Tryd.prog 14 #[.string (bs (nestL c n))] V (PathR (.ok [⟨1, [c]⟩] []) V)) := Lib.hid fun V => by
    have h := parsePath_any (bs (nestL c n)) V hsz
    rwa [(path_nest8 hc n).1 hle] at h
  have HD : Hid (∀ V, Calls Tryd.prog 15 #[.string (bs (nestL c n))] V fun e w' => e = .returned (.int .i64 (n : Nat)) ∧ Below V.heap.size V w') := Lib.hid fun V => by
    have h := deep_any (bs (nestL c n)) V hsz
    rwa [(path_nest8 hc n).2.2] at h
  have HS := Lib.hid (And.intro hs hc)
  have hle' : ¬ 32 < (n : Int) := by omega
  clear hsz hc
  go_enter Tryd.func6, Tryd.ntmps6
  go_wp2_with (go_at_call 10; refine (awake8_any _).mono ?_; rintro e w1 ⟨rfl, h'⟩; replace hB := on hB h'; clear h')
  go_loopw [7, 22] (fun vs vi wr => ∃ k : Nat, vi = .int .i64 (k : Nat) ∧ k ≤ n ∧ vs = .string (bs (nestL c k)) ∧ Below w.heap.size w wr) (fun _ vi _ => n - (intOf vi).toNat)
  case atStart => exact ⟨0, rfl, Nat.zero_le _, by first | rfl | (rw [hs]; rfl), hB⟩
  case round =>
    clear hB
    obtain ⟨k, rfl, hk, rfl, hB⟩ := hrel
    by_cases hlt : k < n
    · have hst := nest_step c k
      have hz : (bs (nestL c k)).size = k + 1 + k := by rw [bs_size, nest_len]
      have z1 : (ByteArray.mk #[40]).size = 1 := rfl
      have z2 : (ByteArray.mk #[41]).size = 1 := rfl
      have z3 : (ByteArray.mk #[40] ++ bs (nestL c k)).size = 1 + (k + 1 + k) := by rw [← ls_len, ls_append, List.length_append, ls_len, ls_len, z1, hz]
      have g1 : ¬ 9223372036854775807 < (ByteArray.mk #[40]).size + (bs (nestL c k)).size := by rw [z1, hz]; omega
      have g2 : ¬ 9223372036854775807 < (ByteArray.mk #[40] ++ bs (nestL c k)).size + (ByteArray.mk #[41]).size := by rw [z2, z3]; omega
      go_wp2
      go_roundw
      case rel => exact ⟨k + 1, by go_num, by omega, by rw [← hst], hB⟩
      case measure => simp [intOf]; omega
    · obtain rfl : k = n := by omega
      have hc40 : (k : Int) < 40 := by omega
      go_wp2_with (first
        | (go_at_call 14; refine (HP.out _).mono ?_; rintro e w2 ⟨A, ca, rfl, hown, hb⟩; obtain ⟨g, rfl, _, hg, hcells⟩ := own_cells hown (by simp); have y0 : w2.cell? ⟨g, 0, none⟩ = some (.int .i64 1) := hcells 0 _ rfl; have y1 : w2.cell? ⟨g, 1, none⟩ = some (.string (bs [c])) := hcells 1 _ rfl; replace hB := on hB hb; clear hown hb hcells)
        | (go_at_call 15; refine (HD.out _).mono ?_; rintro e w3 ⟨rfl, hb⟩; replace hB := on hB hb; clear hb))
      go_ret
      exact ⟨rfl, hB⟩
set_option maxRecDepth 20000 in
set_option maxHeartbeats 4000000 in
theorem walkB (a0 a1 : Int) (n r : Nat) (c : UInt8) (w : World) (hc : c = 97 ∨ c = 98 ∨ c = 99) (h0 : 0 ≤ a0) (h1 : 0 ≤ a1) (h2 : a0 < 256) (h3 : a1 < 256) (hn : a1.tmod 40 = (n : Int)) (hn40 : n < 40) (hr : a0.tmod 3 = (r : Int)) (hr3 : r < 3) (hs : ((ByteArray.mk #[97, 98, 99]).extract r 3).extract 0 1 = bs [c]) (hs1 : 1 ≤ ((ByteArray.mk #[97, 98, 99]).extract r 3).size) (hle : 32 < n) :
    Calls Tryd.prog 6 #[.int .u8 a0, .int .u8 a1] w fun e w' => e = .returned (.bool true) ∧ Below w.heap.size w w' := by
  have hB := Below.refl w.heap.size w
  have hsz : (bs (nestL c n)).size ≤ 20000 := by rw [bs_size, nest_len]; omega
  have HP : Hid (∀ V, Calls Tryd.prog 14 #[.string (bs (nestL c n))] V (PathR (.no 32 3) V)) := Lib.hid fun V => by
    have h := parsePath_any (bs (nestL c n)) V hsz
    rwa [(path_nest8 hc n).2.1 hle] at h
  have HD : Hid (∀ V, Calls Tryd.prog 15 #[.string (bs (nestL c n))] V fun e w' => e = .returned (.int .i64 (n : Nat)) ∧ Below V.heap.size V w') := Lib.hid fun V => by
    have h := deep_any (bs (nestL c n)) V hsz
    rwa [(path_nest8 hc n).2.2] at h
  have HS := Lib.hid (And.intro hs hc)
  have hle' : 32 < (n : Int) := by omega
  clear hsz hc
  go_enter Tryd.func6, Tryd.ntmps6
  go_wp2_with (go_at_call 10; refine (awake8_any _).mono ?_; rintro e w1 ⟨rfl, h'⟩; replace hB := on hB h'; clear h')
  go_loopw [7, 22] (fun vs vi wr => ∃ k : Nat, vi = .int .i64 (k : Nat) ∧ k ≤ n ∧ vs = .string (bs (nestL c k)) ∧ Below w.heap.size w wr) (fun _ vi _ => n - (intOf vi).toNat)
  case atStart => exact ⟨0, rfl, Nat.zero_le _, by first | rfl | (rw [hs]; rfl), hB⟩
  case round =>
    clear hB
    obtain ⟨k, rfl, hk, rfl, hB⟩ := hrel
    by_cases hlt : k < n
    · have hst := nest_step c k
      have hz : (bs (nestL c k)).size = k + 1 + k := by rw [bs_size, nest_len]
      have z1 : (ByteArray.mk #[40]).size = 1 := rfl
      have z2 : (ByteArray.mk #[41]).size = 1 := rfl
      have z3 : (ByteArray.mk #[40] ++ bs (nestL c k)).size = 1 + (k + 1 + k) := by rw [← ls_len, ls_append, List.length_append, ls_len, ls_len, z1, hz]
      have g1 : ¬ 9223372036854775807 < (ByteArray.mk #[40]).size + (bs (nestL c k)).size := by rw [z1, hz]; omega
      have g2 : ¬ 9223372036854775807 < (ByteArray.mk #[40] ++ bs (nestL c k)).size + (ByteArray.mk #[41]).size := by rw [z2, z3]; omega
      go_wp2
      go_roundw
      case rel => exact ⟨k + 1, by go_num, by omega, by rw [← hst], hB⟩
      case measure => simp [intOf]; omega
    · obtain rfl : k = n := by omega
      have hc40 : (k : Int) < 40 := by omega
      go_wp2_with (first
        | (go_at_call 14; refine (HP.out _).mono ?_; rintro e w2 ⟨rfl, hb⟩; replace hB := on hB hb; clear hb)
        | (go_at_call 15; refine (HD.out _).mono ?_; rintro e w3 ⟨rfl, hb⟩; replace hB := on hB hb; clear hb))
      go_ret
      exact ⟨rfl, hB⟩
theorem walk (a0 a1 : Int) (w0 : (Lit.int .u8 a0).wf = true) (w1 : (Lit.int .u8 a1).wf = true) (w : World) :
    Calls Tryd.prog 6 #[.int .u8 a0, .int .u8 a1] w fun e w' => e = .returned (.bool true) ∧ Below w.heap.size w w' := by
  obtain ⟨u1, u2⟩ := u8_of w0
  obtain ⟨v1, v2⟩ := u8_of w1
  obtain ⟨r, hr⟩ : ∃ r : Nat, a0 % 3 = r := ⟨(a0 % 3).toNat, by omega⟩
  obtain ⟨n, hn⟩ : ∃ n : Nat, a1 % 40 = n := ⟨(a1 % 40).toNat, by omega⟩
  have hr3 : r = 0 ∨ r = 1 ∨ r = 2 := by omega
  obtain ⟨s1, s2⟩ := slice_abc r hr3
  by_cases h : n ≤ 32
  · exact walkA a0 a1 n r _ w (abc_of r hr3) u1 v1 u2 v2 (by rw [Int.tmod_eq_emod_of_nonneg v1, hn]) (by omega) (by rw [Int.tmod_eq_emod_of_nonneg u1, hr]) (by omega) s1 s2 h
  · exact walkB a0 a1 n r _ w (abc_of r hr3) u1 v1 u2 v2 (by rw [Int.tmod_eq_emod_of_nonneg v1, hn]) (by omega) (by rw [Int.tmod_eq_emod_of_nonneg u1, hr]) (by omega) s1 s2 (by omega)

theorem own : ownKnob Tryd.prog.godebug = none := by kernel_rfl

set_option maxRecDepth 100000 in
theorem lifted (os : Os) (started : os.Started) (H : Type) (enc : TypeId × Value → H) :
    ReturnsInHanded {} Tryd.checked os 6 .any (fun w args => (Rows.parseDeepSpec.pre enc Tryd.prog Tryd.f6 Rows.parseDeepRow.domain false w args ∧ laidMetH Tryd.prog Rows.parseDeepRow.laid w) ∧ sizedMet enc Tryd.prog Tryd.f6 (OpenSpec.ofChange Rows.parseDeepSpec) false w args) (Rows.parseDeepSpec.post enc Tryd.prog Tryd.f6 false true false false) := by
  refine returnsInHanded_of_change_and (C := Tryd.checked) (X := fun w _ => laidMetH Tryd.prog Rows.parseDeepRow.laid w) (fun _ _ _ hh h => h.of_heap hh) own started (by kernel_rfl) Tryd.func6
    (ChangeSpec.witness_shaped (enc := enc) (C := Tryd.checked) (os := os) (X := fun w _ => laidMetH Tryd.prog Rows.parseDeepRow.laid w) false (World.laidAll Tryd.prog os Rows.parseDeepRow.laid) #[.int .u8 0, .int .u8 0] 8 (World.laidAll_os _ _ _)
      (World.shaped_of_ZipB (by kernel_rfl) (by kernel_rfl)) (by kernel_rfl) (by kernel_rfl) (by kernel_rfl)
      (by rw [MakeChecks.laidMetH_plain _ _ _ (by kernel_rfl)]; exact laidMet_laidAll _ (by kernel_rfl) (by kernel_rfl))) ?_
  intro W base args ds gs before hval0 hW hcnd _ hL _
  have hval : ∀ (j : Nat) t v, Tryd.f6.params[j]? = some t → args[j]? = some v → Value.okWide Tryd.prog W .any base t v := hval0
  have hW' := hW
  obtain ⟨p, q, hA0, hV, rfl, hfz, hnd⟩ := hW
  have hA : DataW.TrodAll enc Tryd.prog W 0 (fun _ => true) true Tryd.f6.params.toList args.toList ds p := hA0
  rw [Tryd.params6] at hA hval
  obtain ⟨v0, vs0, d0, ds0, p0, q0, hargs, rfl, rfl, h0, r0⟩ := trodAll_cons hA
  obtain ⟨v1, vs1, d1, ds1, p1, q1, rfl, rfl, rfl, h1, r1⟩ := trodAll_cons r0
  obtain ⟨rfl, rfl, rfl⟩ := trodAll_nil r1
  obtain rfl : args = #[v0, v1] := by cases args; simp_all
  obtain ⟨rfl, rfl⟩ := trodVars_none hV
  obtain ⟨a0, rfl, rfl, rfl, w0⟩ := open_int Tryd.underlying5 (hval 0 5 v0 rfl rfl) h0
  obtain ⟨a1, rfl, rfl, rfl, w1⟩ := open_int Tryd.underlying5 (hval 1 5 v1 rfl rfl) h1
  clear hA0 hval0
  simp only [List.append_nil] at hW'
  refine (walk a0 a1 w0 w1 W).mono fun e W' ⟨he, hg⟩ => ?_
  subst he
  exact ⟨_, rfl, post_plain hW' (fun _ _ _ => (trodAll_cons_mk (shut_bool Tryd.underlying4 _) trodAll_mk0)) (fun sp => (trodAll_cons_mk (shut_int Tryd.underlying5 w0) (trodAll_cons_mk (shut_int Tryd.underlying5 w1) trodAll_mk0))) (fun _ => rfl) hg (ok_one (by kernel_rfl) rfl (okWide_bool_mk Tryd.underlying4 _))⟩

theorem row_proved : Rows.ParseDeepSaid :=
  OpenClaim.holds_of_wide 6 Tryd.f6 rfl rfl rfl rfl rfl rfl rfl ⟨rfl, rfl, rfl, rfl, rfl⟩ rfl rfl rfl rfl rfl (by kernel_rfl) Tryd.func6 (by kernel_rfl)
    (of_decide_eq_true (by kernel_rfl)) (by unfold Func.isWrapper; first | (rw [if_pos (by decide +kernel)]; kernel_rfl) | (rw [if_neg (by decide +kernel)]; exact ⟨rfl, rfl⟩))
    (fun os started H enc _ => lifted os started H enc)
theorem proved : Rows.ParseDeepCardSaid :=
  Claim7.holds_tied_plain_at .later [] Rows.parseDeepCard.laidKinds Rows.parseDeepCard.laidTests Rows.parseDeepCard.stood.harness Rows.parseDeepCard.stood.looks row_proved (fun _ h => by cases h) (by kernel_rfl) (fun _ h => by cases h) parseDeep_row_tie rfl ⟨rfl, rfl⟩ (by kernel_rfl) rfl
    (fun f fn hf hfn => by
      obtain rfl : f = 6 := Option.some.inj ((show Tryd.prog.funcNamed "antecedent/antecedentlaw08.ParseDeep" = some 6 by kernel_rfl).symm.trans hf) |>.symm
      obtain rfl : fn = Tryd.f6 := (Option.some.inj (Tryd.func6.symm.trans hfn)).symm
      exact ⟨by kernel_rfl, fun j t ht => by
        rw [Tryd.params6] at ht
        have hm : t ∈ [5, 5] := by simpa using Array.mem_of_getElem? ht
        have hall : ([5, 5].all fun u => !Tryd.prog.wantsStandIn u) = true := by kernel_rfl
        exact (show Tryd.prog.wantsStandIn t = false by simpa using List.all_eq_true.1 hall t hm)⟩)
    (by kernel_rfl)
#print axioms proved
end Go.Proofs.YtncafadjcelloaaDoor.parseDeep

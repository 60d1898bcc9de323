/-
  BtreeOwn (layer 4, btree): for every l, x and v the call returns true: what is put, and told, is memory of its own; what is put while all are told plays no part; of a nil tree there is nothing. No condition.
-/
import Derived.Test.YtojanokicfeghaaRows
import Derived.Test.YtojanokicfeghaaBtOwn
import Derived.Test.YtojanokicfeghaaBtOpenT
import Derived.Test.YtojanokicfeghaaBtAwake
import Derived.WalkKit
import Derived.ProofKit
import Derived.OpenShut
namespace Go.Proofs.Ytojanokicfeghaa.btreeOwn
open Go.ChangeShapes Go.WideShapes Go.ChangeAt Go.RowKit FloM ValM
set_option linter.unusedVariables false
set_option linter.unusedSimpArgs false
attribute [local go_sem] Oper.semAt_some
/-- The world behind the three boxes: x, v and the result. -/
def boxW (w : World) (A1 : Option Addr) (n c1 : Nat) (k2 n2 : Int) (s2 : ByteArray) : World := ((w.alloc (.cells #[.slice A1 n c1] 23)).alloc (.cells #[.int .i64 k2, .int .i64 n2, .string s2] 25)).alloc (.cells #[.bool false] 4)
theorem boxW_b (w : World) (A1 : Option Addr) (n c1 : Nat) (k2 n2 : Int) (s2 : ByteArray) : Below w.heap.size w (boxW w A1 n c1 k2 n2 s2) := (((Below.refl _ _).alloc (Nat.le_refl _) _).alloc (by simp) _).alloc (by simp; omega) _
theorem boxW_s (w : World) (A1 : Option Addr) (n c1 : Nat) (k2 n2 : Int) (s2 : ByteArray) : (boxW w A1 n c1 k2 n2 s2).heap.size = w.heap.size + 3 := by simp [boxW]
theorem heap3 (w : World) (A B C : Obj) : (((w.alloc A).alloc B).alloc C).heap[w.heap.size]? = some A ∧ (((w.alloc A).alloc B).alloc C).heap[w.heap.size + 1]? = some B ∧ (((w.alloc A).alloc B).alloc C).heap[w.heap.size + 2]? = some C :=
  ⟨by rw [heap_alloc_old _ _ (by simp; omega), heap_alloc_old _ _ (by simp), heap_alloc_new], by rw [heap_alloc_old _ _ (by simp)]; exact heap_alloc2_new w A B, by have := heap_alloc_new ((w.alloc A).alloc B) C; simpa using this⟩
theorem boxW_x (w : World) (A1 : Option Addr) (n c1 : Nat) (k2 n2 : Int) (s2 : ByteArray) : (boxW w A1 n c1 k2 n2 s2).cell? ⟨w.heap.size, 0, none⟩ = some (.slice A1 n c1) := cell_box' (heap3 w _ _ _).1
theorem boxW_v (w : World) (A1 : Option Addr) (n c1 : Nat) (k2 n2 : Int) (s2 : ByteArray) : (boxW w A1 n c1 k2 n2 s2).cell? ⟨w.heap.size + 1, 0, none⟩ = some (.int .i64 k2) ∧ (boxW w A1 n c1 k2 n2 s2).cell? ⟨w.heap.size + 1, 1, none⟩ = some (.int .i64 n2) ∧ (boxW w A1 n c1 k2 n2 s2).cell? ⟨w.heap.size + 1, 2, none⟩ = some (.string s2) := by
  have h := (heap3 w (.cells #[.slice A1 n c1] 23) (.cells #[.int .i64 k2, .int .i64 n2, .string s2] 25) (.cells #[.bool false] 4)).2.1
  refine ⟨?_, ?_, ?_⟩ <;> (unfold boxW World.cell?; simp only; rw [h]; rfl)
theorem boxW_r (w : World) (A1 : Option Addr) (n c1 : Nat) (k2 n2 : Int) (s2 : ByteArray) : (boxW w A1 n c1 k2 n2 s2).heap[w.heap.size + 2]? = some (.cells #[.bool false] 4 (0, 0)) := (heap3 w _ _ _).2.2
set_option maxRecDepth 20000 in
set_option maxHeartbeats 4000000 in
theorem walk_no (A0 A1 : Option Addr) (c0 c1 : Nat) (xs : List Sl) (x : List V) (k2 n2 : Int) (s2 : ByteArray) (w : World) (r0 : RdL w A0 xs) (m0 : xs.length ≤ maxLen)
    (h : fewB (lsOf xs) = false ∨ fewB (lsOf xs) = true ∧ 8 < x.length) :
    Calls Try.prog 3 #[.slice A0 xs.length c0, .slice A1 x.length c1, .agg #[.int .i64 k2, .int .i64 n2, .string s2]] w fun e w' => e = .returned (.bool true) ∧ Below w.heap.size w w' := by
  have hB := boxW_b w A1 x.length c1 k2 n2 s2
  have hx := boxW_x w A1 x.length c1 k2 n2 s2
  have hr := boxW_r w A1 x.length c1 k2 n2 s2
  have hs := boxW_s w A1 x.length c1 k2 n2 s2
  have R0 := Lib.hid (r0.on hB); clear r0
  refine (callsIn_wide (n := 3)).1 ?_
  refine callsIn_of_wp_marks Try.func3 rfl trivial ?_ rfl
  simp only [Try.ntmps3, List.size_toArray, List.length_cons, List.length_nil, Nat.reduceAdd, Nat.reduceSub, Array.replicate_succ, Array.replicate_zero, List.push_toArray, List.append_toArray, List.nil_append, List.cons_append]
  refine wpIn_wide.2 ?_
  have HR : ∀ W, Below (boxW w A1 x.length c1 k2 n2 s2).heap.size (boxW w A1 x.length c1 k2 n2 s2) W → W.cell? ⟨w.heap.size + 1 + 1, 0, none⟩ = some (.bool false) ∧ W.frozen? ⟨w.heap.size + 1 + 1, 0, none⟩ = false := fun W hb => by
    have hq : W.heap[w.heap.size + 1 + 1]? = _ := (hb.block _ (by omega)).trans hr
    exact ⟨cell_box' hq, by simp [World.frozen?, hq]⟩
  have HR := Lib.hid HR
  clear hr
  rcases h with h | ⟨h, h8⟩
  · have HF := Lib.hid h; clear h
    have hb1 := Below.refl (boxW w A1 x.length c1 k2 n2 s2).heap.size (boxW w A1 x.length c1 k2 n2 s2)
    go_wp2_with (first
      | (go_at_call 11; refine (awake_any _).mono ?_; rintro e w1 ⟨rfl, h'⟩; replace hb1 : Below (boxW w A1 x.length c1 k2 n2 s2).heap.size (boxW w A1 x.length c1 k2 n2 s2) w1 := on hb1 h'; have hq1 := (HR.out w1 hb1).1; have hq2 := (HR.out w1 hb1).2; clear h')
      | (go_at_call 12; refine (few_any A0 c0 xs _ (R0.out.on hb1) m0).mono ?_; rintro e w2 ⟨rfl, rfl⟩; rw [HF.out]))
    refine ⟨_, results_cellB rfl _ _ _ _ rfl (World.cell?_setCell_same _ _ _ hq1), ?_⟩
    exact ⟨rfl, (hB.trans (hb1.mono hB.size)).setCell (by simp; omega) _⟩
  · have HF := Lib.hid h; clear h
    have h8' : 8 < (x.length : Int) := by omega
    have hb1 := Below.refl (boxW w A1 x.length c1 k2 n2 s2).heap.size (boxW w A1 x.length c1 k2 n2 s2)
    go_wp2_with (first
      | (go_at_call 11; refine (awake_any _).mono ?_; rintro e w1 ⟨rfl, h'⟩; replace hb1 : Below (boxW w A1 x.length c1 k2 n2 s2).heap.size (boxW w A1 x.length c1 k2 n2 s2) w1 := on hb1 h'; have hq1 := (HR.out w1 hb1).1; have hq2 := (HR.out w1 hb1).2; have cx := (keep hb1 _ 0 (by omega)).trans hx; clear h')
      | (go_at_call 12; refine (few_any A0 c0 xs _ (R0.out.on hb1) m0).mono ?_; rintro e w2 ⟨rfl, rfl⟩; rw [HF.out]))
    refine ⟨_, results_cellB rfl _ _ _ _ rfl (World.cell?_setCell_same _ _ _ hq1), ?_⟩
    exact ⟨rfl, (hB.trans (hb1.mono hB.size)).setCell (by simp; omega) _⟩
def UptoRel (w0 : World) (n : Nat) (out i : Value) (wr : World) : Prop := ∃ k : Nat, i = .int .i64 (k : Nat) ∧ k ≤ n ∧ Below w0.heap.size w0 wr ∧ ∃ A c, out = .slice A k c ∧ wr.ownsRow w0.heap.size 3 1 (.slice A k c) k (icells (upto k))
set_option maxRecDepth 20000 in
set_option maxHeartbeats 16000000 in
theorem walk_yes (A0 A1 : Option Addr) (c0 c1 : Nat) (xs : List Sl) (x : List V) (k2 n2 : Int) (s2 : ByteArray) (w : World) (r0 : RdL w A0 xs) (m0 : xs.length ≤ maxLen) (r1 : RdV w A1 x)
    (hf : fewB (lsOf xs) = true) (h8 : x.length ≤ 8) :
    Calls Try.prog 3 #[.slice A0 xs.length c0, .slice A1 x.length c1, .agg #[.int .i64 k2, .int .i64 n2, .string s2]] w fun e w' => e = .returned (.bool true) ∧ Below w.heap.size w w' := by
  have hB0 := boxW_b w A1 x.length c1 k2 n2 s2
  have hx := boxW_x w A1 x.length c1 k2 n2 s2
  have hv := boxW_v w A1 x.length c1 k2 n2 s2
  have hr := boxW_r w A1 x.length c1 k2 n2 s2
  have hs := boxW_s w A1 x.length c1 k2 n2 s2
  have R0 := Lib.hid (r0.on hB0); have R1 := Lib.hid (r1.on hB0); clear r0 r1
  have HF := Lib.hid hf
  have hf2 := (fewB_yes hf).2
  have hlen : (lsOf xs).length = xs.length := by simp [lsOf]
  rw [hlen] at hf2
  have HFL := Lib.hid (fewB_yes hf).1
  clear hf
  have h8' : ¬ 8 < (x.length : Int) := by omega
  obtain ⟨i0, hi0, hz0, hz1, hz2⟩ := info_parts info_int
  have HI0 := Lib.hid hi0; have HZ0 := Lib.hid hz0; have HZ1 := Lib.hid hz1; have HZ2 := Lib.hid hz2
  clear hi0 hz0 hz1 hz2
  have HX : Hid (∀ W, Below (boxW w A1 x.length c1 k2 n2 s2).heap.size (boxW w A1 x.length c1 k2 n2 s2) W → W.cell? ⟨w.heap.size, 0, none⟩ = some (.slice A1 x.length c1)) := Lib.hid (fun W hb => (keep hb _ 0 (by omega)).trans hx)
  have HV : Hid (∀ W, Below (boxW w A1 x.length c1 k2 n2 s2).heap.size (boxW w A1 x.length c1 k2 n2 s2) W → W.cell? ⟨w.heap.size + 1, 0, none⟩ = some (.int .i64 k2) ∧ W.cell? ⟨w.heap.size + 1, 1, none⟩ = some (.int .i64 n2) ∧ W.cell? ⟨w.heap.size + 1, 2, none⟩ = some (.string s2)) := Lib.hid (fun W hb => ⟨(keep hb _ 0 (by omega)).trans hv.1, (keep hb _ 1 (by omega)).trans hv.2.1, (keep hb _ 2 (by omega)).trans hv.2.2⟩)
  have HR : Hid (∀ W, Below (boxW w A1 x.length c1 k2 n2 s2).heap.size (boxW w A1 x.length c1 k2 n2 s2) W → W.cell? ⟨w.heap.size + 1 + 1, 0, none⟩ = some (.bool false) ∧ W.frozen? ⟨w.heap.size + 1 + 1, 0, none⟩ = false) := Lib.hid (fun W hb => by
    have hq : W.heap[w.heap.size + 1 + 1]? = _ := (hb.block _ (by omega)).trans hr
    exact ⟨cell_box' hq, by simp [World.frozen?, hq]⟩)
  clear hx hv hr
  refine (callsIn_wide (n := 3)).1 ?_
  refine callsIn_of_wp_marks Try.func3 rfl trivial ?_ rfl
  simp only [Try.ntmps3, List.size_toArray, List.length_cons, List.length_nil, Nat.reduceAdd, Nat.reduceSub, Array.replicate_succ, Array.replicate_zero, List.push_toArray, List.append_toArray, List.nil_append, List.cons_append]
  refine wpIn_wide.2 ?_
  have hb1 := Below.refl (boxW w A1 x.length c1 k2 n2 s2).heap.size (boxW w A1 x.length c1 k2 n2 s2)
  go_wp2_with (first
    | (go_at_call 11; refine (awake_any _).mono ?_; rintro e w1 ⟨rfl, h'⟩; replace hb1 : Below (boxW w A1 x.length c1 k2 n2 s2).heap.size (boxW w A1 x.length c1 k2 n2 s2) w1 := on hb1 h'; have cx := HX.out w1 hb1; clear h')
    | (go_at_call 12; refine (few_any A0 c0 xs _ (R0.out.on hb1) m0).mono ?_; rintro e w2 ⟨rfl, rfl⟩; rw [HF.out]))
  clear cx
  go_loopw [7, 36] (fun out i wr => UptoRel w1 x.length out i wr) (fun _ i _ => x.length - (intOf i).toNat)
  case atStart => exact ⟨0, rfl, Nat.zero_le _, Below.refl _ _, none, 0, rfl, own_nil w1 _ _ _⟩
  case round =>
    obtain ⟨k, rfl, hk, hB, Ap, cp, rfl, hown⟩ := hrel
    have HO := Lib.hid hown; clear hown
    by_cases hlt : k < x.length
    · go_wp2_with (first | (at_builtin; refine wpList_append_own _ rfl (.tmp 39) (.tmp 41) _ rfl w1.heap.size 3 i0 (.int .i64 0) 1 8 Try.underlying28 HI0.out HZ0.out HZ1.out HZ2.out rfl (by omega) (.slice Ap k cp) k (icells (upto k)) rfl (own_on HO.out ((Below.refl _ _).alloc (Nat.le_refl _) _)) ⟨wr.heap.size, 0, none⟩ 1 1 [.int .i64 (k : Int)] rfl (by simp) (news_one wr #[.int .i64 (k : Int)] _) (by simp [Value.oneCell']) (by unfold maxLen; omega) (by omega) (by have := hB.size; simp; omega) ?_; intro v' w' ho' hg' _; obtain ⟨A2, c2, rfl⟩ := own_form ho'))
      go_roundw
      case rel =>
        have hb3 : Below w1.heap.size w1 (wr.alloc (.cells #[.int .i64 (k : Int)] 3)) := on hB ((Below.refl _ _).alloc (Nat.le_refl _) _)
        refine ⟨k + 1, by go_num, by omega, hb3.grown hg' hb3.size (own_base HO.out), A2, c2, rfl, ?_⟩
        rw [upto_snoc]
        simpa [icells] using ho'
      case measure => simp [intOf]; omega
    · obtain rfl : k = x.length := by omega
      have hbW : Below (boxW w A1 x.length c1 k2 n2 s2).heap.size (boxW w A1 x.length c1 k2 n2 s2) wr := hb1.trans (hB.mono hb1.size)
      clear hB hb1
      have hnew := new_any Ap cp (upto x.length) wr (by rw [upto_len]; exact h8) (own_rdI HO.out) (upto_perm _)
      rw [upto_len] at hnew
      have HNEW := Lib.hid hnew; clear hnew HO
      go_wp2_with (go_at_call 13; refine HNEW.out.mono ?_; rintro e w3 ⟨g, P1, cp1, rfl, N1⟩; have hT := Lib.hid (OneT.start N1 hbW (upto_perm _) (by rw [upto_len]; exact h8)); clear N1 hbW HNEW)
      have hbt : (w3.alloc (.cells #[.pointer (some ⟨g, 0, none⟩)] 29)).heap[w3.heap.size]? = some (.cells #[.pointer (some ⟨g, 0, none⟩)] 29 (0, 0)) := heap_alloc_new _ _
      have hO : OwnT (boxW w A1 x.length c1 k2 n2 s2) g w3.heap.size (upto x.length) [] (w3.alloc (.cells #[.pointer (some ⟨g, 0, none⟩)] 29)) := ⟨hT.out.on ((Below.refl _ _).alloc (Nat.le_refl _) _), hbt⟩
      have hO := Lib.hid hO
      clear hT hbt
      generalize w3.heap.size = bt at hO ⊢
      go_loopw [53] (fun v wr => ∃ (k : Nat), v = .int .i64 (k : Nat) ∧ k ≤ xs.length ∧ OwnT (boxW w A1 x.length c1 k2 n2 s2) g bt (upto x.length) (puts (upto x.length) ((lsOf xs).take k)) wr) (fun v _ => xs.length - (intOf v).toNat)
      case atStart => exact ⟨0, rfl, Nat.zero_le _, hO.out⟩
      case round =>
        obtain ⟨k, rfl, hk, hD⟩ := hrel
        clear hO
        have HD := Lib.hid hD; clear hD
        by_cases hlt : k < xs.length
        · obtain ⟨ab, ao, rfl, hab, hrow⟩ := R0.out.row (by omega)
          have hx := List.getElem?_eq_getElem hlt
          generalize xs[k] = a at hx
          have ca : ∀ o : Obj, (wr.alloc o).cell? ⟨ab, ao + k, none⟩ = some (.slice a.A a.l.length a.c) := fun o => (keep (on HD.out.t.b ((Below.refl _ _).alloc (Nat.le_refl _) o)) _ _ hab).trans (hrow k a hx)
          have HA := Lib.hid (lsOf_at hx)
          have RA := Lib.hid (R0.out.each a (List.mem_of_getElem? hx))
          have hl12 : a.l.length ≤ 12 := HFL.out _ (List.mem_of_getElem? HA.out)
          have hl1 : (puts (upto x.length) ((lsOf xs).take k)).length < 100000 := by have := puts_len (upto x.length) ((lsOf xs).take k); rw [List.length_take] at this; omega
          have HL1 := Lib.hid hl1
          clear hrow hx hl1
          go_wp2_with (first
            | (at_builtin; refine wpList_appV rfl (.tmp 56) (.tmp 60) rfl wr.heap.size (some ⟨wr.heap.size, 0, none⟩) 0 [] a.l a.l rfl rfl (own_made0 wr) a.A a.c rfl (RA.out.1.on (on HD.out.t.b ((Below.refl _ _).alloc (Nat.le_refl _) _))) (by simp; omega) (by simp) ?_; intro Ag cg u1 o1 gr1; have b1 : Below wr.heap.size wr u1 := ((Below.refl wr.heap.size wr).alloc (Nat.le_refl _) (.cells #[] 25)).grown gr1 (by simp) (own_base (own_made0 wr)); have HG := Lib.hid (HD.out.given b1 (GivenAt.own o1 (Nat.le_refl _) (Nat.le_refl _))); have RG := Lib.hid (own_rdV o1); have ct := cell_box' HG.out.box; clear o1 gr1 b1)
            | (go_at_call 14; refine (putS_any Ag cg a.l u1 HG.out.t RG.out HL1.out HG.out.x).mono ?_; rintro e w5 ⟨rfl, ht, hF⟩; rw [← puts_next HA.out] at ht; have HG2 := Lib.hid (HG.out.put ht hF); clear ht hF))
          clear ct HD HG RG
          generalize wr.heap.size = lo at HG2
          generalize u1.heap.size = hi at HG2
          go_loopw [67] (fun v wr2 => ∃ (j : Nat), v = .int .i64 (j : Nat) ∧ j ≤ a.l.length ∧ OwnG (boxW w A1 x.length c1 k2 n2 s2) g bt lo hi (upto x.length) (puts (upto x.length) ((lsOf xs).take (k + 1))) Ag a.l.length wr2) (fun v _ => a.l.length - (intOf v).toNat)
          case atStart => exact ⟨0, rfl, Nat.zero_le _, HG2.out⟩
          case round =>
            obtain ⟨j, rfl, hj, hI⟩ := hrel
            clear HG2
            have HI := Lib.hid hI; clear hI
            by_cases hlj : j < a.l.length
            · obtain ⟨gb, rfl, hg1, hg2, m, f, hm, hrow⟩ : ∃ gb, Ag = some ⟨gb, 0, none⟩ ∧ lo ≤ gb ∧ gb < hi ∧ ∃ m f, a.l.length * 3 ≤ m ∧ wr.rowIs gb 25 m f := by
                rcases HI.out.giv with h | h
                · omega
                · exact h
              obtain ⟨x0, x1, x2⟩ := HV.out _ HI.out.b
              have y0 := hrow.cell (i := j * 3) (by omega)
              have y1 := hrow.cell (i := j * 3 + 1) (by omega)
              have y2 := hrow.cell (i := j * 3 + 2) (by omega)
              have z0 := hrow.frozen (j * 3)
              have z1 := hrow.frozen (j * 3 + 1)
              have z2 := hrow.frozen (j * 3 + 2)
              have HRW := Lib.hid hrow; clear hrow
              go_wp2
              refine ⟨⟨j + 1, by go_num, by omega, ?_⟩, by simp [intOf]; omega⟩
              refine OwnG.set (OwnG.set (OwnG.set HI.out hg1 hg2 _ _ (.inr ⟨gb, rfl, hg1, hg2, m, _, hm, HRW.out.set (j * 3) _⟩)) hg1 hg2 _ _ (.inr ⟨gb, rfl, hg1, hg2, m, _, hm, (HRW.out.set (j * 3) _).set (j * 3 + 1) _⟩)) hg1 hg2 _ _ (.inr ⟨gb, rfl, hg1, hg2, m, _, hm, ((HRW.out.set (j * 3) _).set (j * 3 + 1) _).set (j * 3 + 2) _⟩)
            · go_wp2
              go_roundw
              case rel => exact ⟨k + 1, by go_num, by omega, HI.out.back⟩
              case measure => simp [intOf]; omega
        · obtain rfl : k = xs.length := by omega
          rw [List.take_of_length_le (by omega)] at HD
          have hpl := puts_len (upto x.length) (lsOf xs)
          rw [hlen] at hpl
          have hft := puts_fit (upto x.length) (lsOf xs)
          have HFT := Lib.hid hft
          have HFS := Lib.hid (hft.short (by rw [upto_len]; omega))
          have HMM : Hid (∀ a ∈ lsOf xs, a.length = x.length → a ∈ puts (upto x.length) (lsOf xs)) := Lib.hid (fun a ha hl => (puts_mem (upto_perm _) _).2 ⟨ha, by rw [upto_len]; exact hl⟩)
          clear hft
          generalize puts (upto x.length) (lsOf xs) = M at HD hpl HFS HFT HMM
          have ct := HD.out.cell
          go_wp2_with (first
            | (go_at_call 16; first | ((with_reducible refine (allS_any _ HD.out.t.t HD.out.t.x).mono ?_); rintro e w5 ⟨gf, lb, rfl, hen, hq, hb⟩; replace HD := Lib.hid (HD.out.on hb); have HQ1 := Lib.hid hq; have HEN1 := Lib.hid hen; clear hb hq hen) | ((with_reducible refine (HAL2.out _ HBX.out (by simp)).mono ?_); rintro e w7 ⟨gf, lb, rfl, hen, hq, hb⟩; have HQ2 := Lib.hid hq; have HEN2 := Lib.hid hen; have HB12 := Lib.hid hb; clear hb hq hen))
            | (go_at_call 15; refine (toldS_any _ HEN1.out HQ1.out HD.out.t.x (by omega) HFS.out).mono ?_; rintro e w6 ⟨A8, c8, zs, rfl, hz, hb, _, hrt⟩; replace HD := Lib.hid (HD.out.on hb); have HZ := Lib.hid hz; have HRT := Lib.hid hrt; have ct2 : ∀ o1 o2 : Obj, ((w6.alloc o1).alloc o2).cell? ⟨bt, 0, none⟩ = some (.pointer (some ⟨g, 0, none⟩)) := (fun o1 o2 => (keep (((Below.refl _ _).alloc (Nat.le_refl _) o1).alloc (by simp) o2) _ 0 HD.out.lt).trans HD.out.cell); have HBX : Hid (∀ o1 o2 : Obj, Below w6.heap.size w6 ((w6.alloc o1).alloc o2)) := Lib.hid (fun o1 o2 => ((Below.refl _ _).alloc (Nat.le_refl _) o1).alloc (by simp) o2); replace HBX := Lib.hid (HBX.out (.cells #[.slice A8 M.length c8] 22) (.cells #[.int .i64 0] 3)); have HAL2 : Hid (∀ W, Below w6.heap.size w6 W → w6.heap.size + 1 < W.heap.size → Calls Try.prog 16 #[.pointer (some ⟨g, 0, none⟩)] W (SaysQ (fun k => k = g ∨ k = w6.heap.size + 1) M W)) := Lib.hid (fun W hW hs2 => allS_any W ((HD.out.t.t.more (Y := fun k => k = g ∨ k = w6.heap.size + 1) (fun k h => .inl h) (fun k h => h.imp_right fun e => by omega)).on hW) (fun k hk => by rcases hk with rfl | rfl; (have := HD.out.t.t.lt; have := hW.size; omega); exact hs2)); clear hb hz hrt HQ1 HEN1 ct))
          have hb12 : Below w6.heap.size w6 w7 := HBX.out.trans (HB12.out.mono (by simp; omega))
          have hHD7 := HD.out.on hb12
          have hnb : w7.heap[w6.heap.size + 1]? = some (.cells #[.int .i64 0] 3 (0, 0)) := (HB12.out.block _ (by simp)).trans (by have := World.alloc_heap_new (w6.alloc (.cells #[.slice A8 M.length c8] 22)) (.cells #[.int .i64 0] 3); rw [World.size_alloc] at this; exact this)
          have hwb : w7.heap[w6.heap.size]? = some (.cells #[.slice A8 M.length c8] 22 (0, 0)) := (HB12.out.block _ (by simp; omega)).trans ((Below.heap_alloc _ _ _ (by simp)).trans (heap_alloc_new _ _))
          have hgl := HD.out.t.t.lt
          have hbl := HD.out.lt
          have hg0 := HD.out.t.g0
          have hbs := HD.out.t.b.size
          have hs7 : w6.heap.size + 1 < w7.heap.size := (Array.getElem?_eq_some_iff.1 hnb).1
          have hbne := HD.out.ne
          have ht7 : TreeS (fun k => k = g ∨ k = w6.heap.size + 1) w7 g (upto x.length) M := (HD.out.t.t.more (Y := fun k => k = g ∨ k = w6.heap.size + 1) (fun k h => .inl h) (fun k h => h.imp_right fun e => by omega)).on hb12
          have h0 : GrowI w7 g (w6.heap.size + 1) (upto x.length) M x 0 w7 := ⟨ht7, Fr.refl _ _ _, hnb⟩
          have hrx : zs ≠ [] → RdT (fun k => k = g ∨ k = w6.heap.size + 1) w7 A8 zs := fun hne => (HRT.out.more (Y := fun k => k = g ∨ k = w6.heap.size + 1) (fun k h => h.imp_right fun e => by omega) hne).on hb12
          have HRX := Lib.hid hrx; have HO7 := Lib.hid hHD7; have HNB := Lib.hid hnb; have HWB := Lib.hid hwb; have H0 := Lib.hid h0
          have hze := HZ.out.e
          have hzl := HZ.out.len
          have HZE := Lib.hid hze
          clear hrx hHD7 hnb hwb h0 ht7 hze HZ HRT HAL2 HBX ct2 hb12 HB12
          refine (wpIn_wide (n := 3)).1 ?_
          refine wpIn_seq1 16 (n := 3) rfl HEN2.out HQ2.out (Below.refl _ _) (Nat.le_refl _) rfl (fun pre W => GrowI w7 g (w6.heap.size + 1) (upto x.length) M x pre.length W) (fun s A B h hc => h.calm hc) H0.out ?assign ?body ?done
          case assign =>
            intro l y W K hK
            gi_wp2
            simpa using hK
          case body =>
            rintro l pre y W hl hI hpre hok
            have hlp : pre.length < M.length := by have := hpre.length_le; rw [List.length_append, List.length_map, List.length_singleton] at this; omega
            have hMy : M[pre.length]? = some y.l := by
              obtain ⟨t, ht⟩ := hpre
              rw [← ht, List.append_assoc, List.getElem?_append_right (by simp), List.length_map, Nat.sub_self]; rfl
            obtain ⟨z, hz⟩ : ∃ z, zs[pre.length]? = some z := ⟨_, List.getElem?_eq_getElem (by omega)⟩
            have hzy : z.l = y.l := by
              have h1 := lsOf_at hz
              rw [HZE.out, hMy] at h1
              exact (Option.some.inj h1).symm
            have hrt := (HRX.out (fun e => by subst e; simp at hz)).onF hI.fr
            obtain ⟨zb, zo, rfl, hzb, hzc⟩ := hrt.at_ hz
            have hzr := (hrt.each z (List.mem_of_getElem? hz)).rd
            have hBW : Below (boxW w A1 x.length c1 k2 n2 s2).heap.size (boxW w A1 x.length c1 k2 n2 s2) W := HO7.out.t.b.trans (hI.fr.below HO7.out.t.b.size fun k hk e => by omega)
            have hnW : w6.heap.size + 1 < W.heap.size := (Array.getElem?_eq_some_iff.1 hI.cnt).1
            have ct := cell_box' ((hI.fr.block bt (by omega) (by omega)).trans HO7.out.box)
            have cx := HX.out W hBW
            have hxW : ∀ i, (i = g ∨ i = w6.heap.size + 1) → i < W.heap.size := fun i hi => by omega
            have hml : (if pre.length = 0 then M else putM (upto x.length) x M).length < 100000 := by
              split
              · omega
              · have := mergeM_len (upto x.length) M [x]
                simp [mergeM] at this; omega
            obtain ⟨Mk, hMk⟩ : ∃ Mk, (if pre.length = 0 then M else putM (upto x.length) x M) = Mk := ⟨_, rfl⟩
            have hIt := hI.t
            rw [hMk] at hml hIt
            obtain ⟨bq, hbq⟩ : ∃ bq, putB (upto x.length) x Mk = bq := ⟨_, rfl⟩
            have hP := putS_any A1 c1 x W hIt (R1.out.on hBW) hml hxW
            rw [hbq] at hP
            have HP := Lib.hid hP
            have HMK := Lib.hid hMk
            clear hIt hMk hbq hP
            have HI := Lib.hid hI
            have HZC := Lib.hid (hrt.off _ rfl)
            have HZO := Lib.hid ((hrt.each z (List.mem_of_getElem? hz)).off)
            have HZR := Lib.hid hzr; have HZCC := Lib.hid hzc; have HZY := Lib.hid hzy; have HOK := Lib.hid hok
            have hyl : y.l.length ≤ 1000 := HFS.out _ (List.mem_of_getElem? hMy)
            have HMY := Lib.hid hMy
            clear hI hpre hok hMy hz hrt hzr hzc hzy hml
            gi_wp2_with (first
              | ((first | refine ⟨trivial, rfl, ?_⟩ | refine ⟨rfl, ?_⟩ | skip); gi_at_call 14; refine (CallsIn.inRound l (callsIn_wide.2 HP.out)).mono ?_; rintro e w8 ⟨rfl, ht, hF⟩; have ca := cell_box' ((hF.block (w6.heap.size + 1) (by omega) (by omega)).trans HI.out.cnt); have cb := cell_box' ((hF.block w6.heap.size (by omega) (by omega)).trans ((HI.out.fr.block w6.heap.size (by omega) (by omega)).trans HWB.out)); have cz : w8.cell? ⟨zb, zo + pre.length, none⟩ = some (.slice z.A z.l.length z.c) := (hF.cell (by omega) (fun e => HZC.out (.inl e))).trans HZCC.out; rw [HZY.out] at cz; have HT := Lib.hid ht; have HFF := Lib.hid hF; clear ht hF)
              | ((first | refine ⟨trivial, rfl, ?_⟩ | refine ⟨rfl, ?_⟩ | skip); gi_at_call 17; refine (CallsIn.inRound l (callsIn_wide.2 (refOrder_any y.A z.A y.c z.c y.l y.l w8 (HOK.out.rd.onF (fun a ha e => HOK.out.off a ha (.inl e)) HFF.out) ((HZY.out ▸ HZR.out).onF (fun a ha e => HZO.out a ha (.inl e)) HFF.out) (by unfold maxLen; omega) (by unfold maxLen; omega)))).mono ?_; rw [ord_self]; rintro e w9 ⟨rfl, hb⟩; have hc9 := (hb.block _ (Nat.lt_of_lt_of_le hnW HFF.out.size)).trans ((HFF.out.block (w6.heap.size + 1) (by omega) (by omega)).trans HI.out.cnt); have cc9 := cell_box' hc9; have f9 : w9.frozen? ⟨w6.heap.size + 1, 0, none⟩ = false := (by simp [World.frozen?, hc9]); have HB9 := Lib.hid hb; clear hb hc9))
            have ht9 := HT.out.on HB9.out
            rw [← HMK.out] at ht9
            obtain ⟨n1, n2⟩ := HI.out.next (upto_perm _) HFT.out (by omega) (by omega) hs7 ht9 (HFF.out.trans (Fr.of (HB9.out.mono HFF.out.size)))
            obtain ⟨q1, q2⟩ := round_keeps (B := w7.heap.size) HI.out.t.obj HI.out.cnt n2.size (fun k hk h1 h2 => n2.block k hk (fun e => e.elim h1 h2))
            exact ⟨q1, n2.mono HI.out.fr.size, q2, by simpa using n1⟩
          case done =>
            rintro D xs' W hD hxs hI hK
            have hDl : D < W.heap.size := (Array.getElem?_eq_some_iff.1 hK).1
            have hxl : xs'.length = M.length := by rw [← hxs]; simp
            rw [hxl] at hI
            obtain ⟨Mk, hMk⟩ : ∃ Mk, (if M.length = 0 then M else putM (upto x.length) x M) = Mk := ⟨_, rfl⟩
            have hIt := hI.t
            rw [hMk] at hIt
            have hHB : ∀ a ∈ lsOf xs, hasB (upto x.length) a Mk = decide (a.length = x.length) := fun a ha => by
              have hfk := hIt.fit
              by_cases hl : a.length = x.length
              · rw [decide_eq_true hl]
                refine (hasB_iff (upto_perm _) hfk).2 ?_
                have hm := HMM.out a ha hl
                rw [← hMk]; split
                · exact hm
                · exact (put_mem (upto_perm _) HFT.out).2 (.inr hm)
              · rw [decide_eq_false hl]; unfold hasB; rw [upto_len, decide_eq_false hl]; rfl
            have hBW : Below (boxW w A1 x.length c1 k2 n2 s2).heap.size (boxW w A1 x.length c1 k2 n2 s2) W := HO7.out.t.b.trans (hI.fr.below HO7.out.t.b.size fun k hk e => by omega)
            have hnW : w6.heap.size + 1 < W.heap.size := (Array.getElem?_eq_some_iff.1 hI.cnt).1
            have hct := cell_box' ((hI.fr.block bt (by omega) (by omega)).trans HO7.out.box)
            have hcx := HX.out W hBW
            have hcn := cell_box' hI.cnt
            have hcw := cell_box' ((hI.fr.block w6.heap.size (by omega) (by omega)).trans HWB.out)
            have hcr := (HR.out W hBW).1
            have hfr := (HR.out W hBW).2
            have HCT := Lib.hid hct; have HCX := Lib.hid hcx; have HCN := Lib.hid hcn; have HCW := Lib.hid hcw; have HCR := Lib.hid hcr; have HFR := Lib.hid hfr
            have HIT := Lib.hid hIt; have HHB := Lib.hid hHB; have HBW := Lib.hid hBW; have HKK := Lib.hid hK
            clear hct hcx hcn hcw hcr hfr hIt hHB hBW hK hxs hI hMk H0 HRX HZE HQ2 HEN2 HO7 HNB HWB
            go_wp2
            go_loopw [102] (fun v wr => ∃ (k : Nat), v = .int .i64 (k : Nat) ∧ k ≤ xs.length ∧ Below W.heap.size W wr) (fun v _ => xs.length - (intOf v).toNat)
            case atStart => exact ⟨0, rfl, Nat.zero_le _, Below.refl _ _⟩
            case round =>
              obtain ⟨k, rfl, hk, hB⟩ := hrel
              have hwr := hB.size
              have hbs3 := HBW.out.size
              have d1 := (keep hB bt 0 (by omega)).trans HCT.out
              have d2 := (keep hB w.heap.size 0 (by omega)).trans HCX.out
              by_cases hlt : k < xs.length
              · obtain ⟨ab, ao, rfl, hab, hrow⟩ := R0.out.row (by omega)
                have hx := List.getElem?_eq_getElem hlt
                generalize xs[k] = a at hx
                have hab2 : ab < wr.heap.size := by omega
                have ca := (keep (HBW.out.trans (hB.mono HBW.out.size)) _ _ hab).trans (hrow k a hx)
                have ra := Lib.hid ((R0.out.each a (List.mem_of_getElem? hx)).1.on (HBW.out.trans (hB.mono HBW.out.size)))
                have hh := HHB.out a.l (List.mem_of_getElem? (lsOf_at hx))
                have HIR := Lib.hid (HIT.out.on hB)
                have hb1 : bt < wr.heap.size := by omega
                have hb2 : w.heap.size < wr.heap.size := by omega
                clear hrow hx
                by_cases hl : a.l.length = x.length
                · rw [decide_eq_true hl] at hh
                  have HH := Lib.hid hh; clear hh
                  have hl' : (a.l.length : Int) = (x.length : Int) := by omega
                  clear hl
                  have h4 : Below wr.heap.size wr wr.drew := (Below.refl _ _).drew
                  go_wp2_with fail
                  go_region_held3 (fun u => Below wr.heap.size wr u ∧ u.cell? ⟨bt, 0, none⟩ = some (.pointer (some ⟨g, 0, none⟩)) ∧ u.cell? ⟨ab, ao + k, none⟩ = some (.slice a.A a.l.length a.c) ∧ u.cell? ⟨w.heap.size, 0, none⟩ = some (.slice A1 x.length c1))
                    (first | exact ⟨Below.refl _ _, d1, ca, d2⟩ | exact ⟨h4, (keep h4 _ _ hb1).trans d1, (keep h4 _ _ hab2).trans ca, (keep h4 _ _ hb2).trans d2⟩)
                    ((go_at_call 18; refine (hasS_any a.A a.c a.l _ (HIR.out.on h4) (ra.out.on h4)).mono ?_; rw [HH.out]; rintro e w9 ⟨rfl, hb⟩; replace h4 := on h4 hb))
                  all_goals
                    go_wp2
                    go_roundw
                    case rel => exact ⟨k + 1, by go_num, by omega, on hB h4⟩
                    case measure => simp [intOf]; omega
                · rw [decide_eq_false hl] at hh
                  have HH := Lib.hid hh; clear hh
                  have hl' : ¬ (a.l.length : Int) = (x.length : Int) := by omega
                  clear hl
                  have h4 : Below wr.heap.size wr wr.drew := (Below.refl _ _).drew
                  go_wp2_with fail
                  go_region_held3 (fun u => Below wr.heap.size wr u ∧ u.cell? ⟨bt, 0, none⟩ = some (.pointer (some ⟨g, 0, none⟩)) ∧ u.cell? ⟨ab, ao + k, none⟩ = some (.slice a.A a.l.length a.c) ∧ u.cell? ⟨w.heap.size, 0, none⟩ = some (.slice A1 x.length c1))
                    (first | exact ⟨Below.refl _ _, d1, ca, d2⟩ | exact ⟨h4, (keep h4 _ _ hb1).trans d1, (keep h4 _ _ hab2).trans ca, (keep h4 _ _ hb2).trans d2⟩)
                    ((go_at_call 18; refine (hasS_any a.A a.c a.l _ (HIR.out.on h4) (ra.out.on h4)).mono ?_; rw [HH.out]; rintro e w9 ⟨rfl, hb⟩; replace h4 := on h4 hb))
                  all_goals
                    go_wp2
                    go_roundw
                    case rel => exact ⟨k + 1, by go_num, by omega, on hB h4⟩
                    case measure => simp [intOf]; omega
              · obtain rfl : k = xs.length := by omega
                have e1 := (keep hB (w6.heap.size + 1) 0 hnW).trans HCN.out
                have e2 := (keep hB w6.heap.size 0 (by omega)).trans HCW.out
                have HE3 := Lib.hid ((keep hB (w.heap.size + 1 + 1) 0 (by omega)).trans HCR.out)
                have HE4 : Hid (wr.frozen? ⟨w.heap.size + 1 + 1, 0, none⟩ = false) := Lib.hid (by rw [frozen_of_block (hB.block (w.heap.size + 1 + 1) (by omega))]; exact HFR.out)
                have hb1 : bt < wr.heap.size := by omega
                have hb2 : w.heap.size < wr.heap.size := by omega
                have hb3 : w6.heap.size < wr.heap.size := by omega
                have hb4 : w6.heap.size + 1 < wr.heap.size := by omega
                have hb5 : w.heap.size + 1 + 1 < wr.heap.size := by omega
                have hgw : g < wr.heap.size := by omega
                have HMG : Hid (∀ W9, Below wr.heap.size wr W9 → Calls Try.prog 21 #[.pointer none, .pointer (some ⟨g, 0, none⟩)] W9 fun e w' => e = .returned (.int .i64 0) ∧ Below W9.heap.size W9 w') := Lib.hid (fun W9 h9 => merge_nil (X := fun k => k = g ∨ k = w6.heap.size + 1) (M2 := Mk) (some ⟨g, 0, none⟩) W9 (fun W2 hW2 _ => allS_any W2 (((HIT.out.on hB).on h9).on hW2) (fun i hi => by have h8 := h9.size; have h10 := hW2.size; omega)))
                have hn1 : bt ≠ w.heap.size + 1 + 1 := fun e => by have h3 := HE3.out; rw [← e, d1] at h3; cases h3
                have hn2 : w6.heap.size + 1 ≠ w.heap.size + 1 + 1 := by omega
                have hn3 : w.heap.size ≠ w.heap.size + 1 + 1 := by omega
                have hn4 : w6.heap.size ≠ w.heap.size + 1 + 1 := by omega
                go_wp2_with (go_at_call 14; refine (put_nil _ _).mono ?_; rintro e w9 ⟨rfl, rfl⟩)
                have h4 : Below wr.heap.size wr wr.drew := (Below.refl _ _).drew
                go_region_held3 (fun u => u.cell? ⟨bt, 0, none⟩ = some (.pointer (some ⟨g, 0, none⟩)) ∧ u.cell? ⟨w6.heap.size + 1, 0, none⟩ = some (.int .i64 (M.length : Nat)) ∧ u.cell? ⟨w.heap.size, 0, none⟩ = some (.slice A1 x.length c1) ∧ u.cell? ⟨w6.heap.size, 0, none⟩ = some (.slice A8 M.length c8))
                  (first | exact ⟨d1, e1, d2, e2⟩ | exact ⟨(keep h4 _ _ hb1).trans d1, (keep h4 _ _ hb4).trans e1, (keep h4 _ _ hb2).trans d2, (keep h4 _ _ hb3).trans e2⟩ | exact ⟨(cell_set_block _ _ _ _ hn1).trans ((keep h4 _ _ hb1).trans d1), (cell_set_block _ _ _ _ hn2).trans ((keep h4 _ _ hb4).trans e1), (cell_set_block _ _ _ _ hn3).trans ((keep h4 _ _ hb2).trans d2), (cell_set_block _ _ _ _ hn4).trans ((keep h4 _ _ hb3).trans e2)⟩)
                  ((first
                    | (go_at_call 18; refine (hasT_nil _ _).mono ?_; rintro e w9 ⟨rfl, rfl⟩)
                    | (go_at_call 19; refine (len_nil _).mono ?_; rintro e w9 ⟨rfl, rfl⟩)
                    | (go_at_call 20; refine (deep_nil _).mono ?_; rintro e w9 ⟨rfl, rfl⟩)
                    | (go_at_call 21; refine (HMG.out _ h4).mono ?_; rintro e w9 ⟨rfl, hb⟩; replace h4 := on h4 hb; clear hb)
                    | (go_at_call 16; refine (all_nil (fun _ => False) _).mono ?_; rintro e w9 ⟨gf, lb, rfl, hen, hq, hb⟩; have HQ1 := Lib.hid hq; have HEN1 := Lib.hid hen; replace h4 := on h4 hb; clear hq hen hb)
                    | (go_at_call 22; refine (from_nil (fun _ => False) _ _).mono ?_; rintro e w9 ⟨gf, lb, rfl, hen, hq, hb⟩; have HQ1 := Lib.hid hq; have HEN1 := Lib.hid hen; replace h4 := on h4 hb; clear hq hen hb)
                    | (go_at_call 15; refine (toldS_any _ HEN1.out HQ1.out (fun _ h => h.elim) (by simp) (fun _ h => by cases h)).mono ?_; rintro e w9 ⟨A9, c9, zs9, rfl, hz, hb, _, hrt⟩; replace h4 := on h4 hb; have e3 := (keep h4 _ _ hb5).trans HE3.out; have e4 := (frozen_of_block (o := 0) (h4.block _ hb5)).trans HE4.out; clear hz hb hrt HQ1 HEN1)))
                all_goals go_wp2
                all_goals have hDr : D ≠ w.heap.size + 1 + 1 := by omega
                all_goals have hk2 : (w9.setCell ⟨w.heap.size + 1 + 1, 0, none⟩ (.bool true)).heap[D]? = some (.deferred (some [])) := (Below.heap_setCell w9 ⟨w.heap.size + 1 + 1, 0, none⟩ _ D hDr).trans ((h4.block _ (by omega)).trans ((hB.block _ hDl).trans HKK.out))
                all_goals have hb9 : Below W.heap.size W w9 := on hB h4
                all_goals have hb10 : Below w.heap.size w w9 := hB0.trans ((HBW.out.trans (hb9.mono HBW.out.size)).mono hB0.size)
                all_goals refine ⟨by simp, .inl ⟨_, _, rfl, run_takeDeferred hk2, ?_⟩⟩
                all_goals refine ⟨_, results_cellB rfl _ _ _ _ rfl ((World.cell?_of_block (World.putObj_heap_other (fun e => hDr e.symm))).trans (World.cell?_setCell_same _ _ _ e3)), ?_⟩
                all_goals have hb11 : Below w.heap.size w (w9.setCell ⟨w.heap.size + 1 + 1, 0, none⟩ (.bool true)) := hb10.setCell (by simp; omega) _
                all_goals exact ⟨rfl, hb11.trans ((Calm.put (n := w.heap.size) hk2 rfl (by omega)).below hb11.size)⟩
theorem walk (A0 : Option Addr) (c0 : Nat) (xs : List Sl) (A1 : Option Addr) (c1 : Nat) (l1 : List V) (k2 n2 : Int) (s2 : ByteArray) (w : World) (r0 : RdL w A0 xs) (m0 : xs.length ≤ maxLen) (q0 : xs.length ≤ c0) (r1 : RdV w A1 l1) (k1 : OkL l1) (m1 : l1.length ≤ maxLen) (wk2 : (Lit.int .i64 k2).wf = true) (wn2 : (Lit.int .i64 n2).wf = true) (ws2 : s2.size ≤ maxLen) :
    Calls Try.prog 3 #[.slice A0 xs.length c0, .slice A1 l1.length c1, .agg #[.int .i64 k2, .int .i64 n2, .string s2]] w fun e w' => e = .returned (.bool true) ∧ Below w.heap.size w w' := by
  by_cases h : fewB (lsOf xs) = true ∧ l1.length ≤ 8
  · exact walk_yes A0 A1 c0 c1 xs l1 k2 n2 s2 w r0 m0 r1 h.1 h.2
  · refine walk_no A0 A1 c0 c1 xs l1 k2 n2 s2 w r0 m0 ?_
    cases hf : fewB (lsOf xs) <;> simp [hf] at h ⊢ <;> omega

theorem own : ownKnob Try.prog.godebug = none := by kernel_rfl

set_option maxRecDepth 100000 in
theorem lifted (os : Os) (started : os.Started) (H : Type) (enc : TypeId × Value → H) :
    ReturnsInHanded {} Try.checked os 3 .any (Rows.btreeOwnSpec.pre6 enc Try.prog Try.f3 Rows.btreeOwnRow.domain false) (Rows.btreeOwnSpec.post enc Try.prog Try.f3 false true false false) := by
  refine returnsInHanded_of_change (C := Try.checked) own started (by kernel_rfl) Try.func3
    (ChangeSpec.witness6 (enc := enc) (C := Try.checked) false ⟨#[], #[.slice none 0 0, .slice none 0 0, .agg #[.int .i64 0, .int .i64 0, .string ByteArray.empty]], []⟩ 8 (by kernel_rfl) (by kernel_rfl) (by kernel_rfl) (by kernel_rfl)) ?_
  intro W base args ds gs before hval0 hW hcnd _
  have hval : ∀ (j : Nat) t v, Try.f3.params[j]? = some t → args[j]? = some v → Value.okWide Try.prog W .any base t v := hval0
  have hW' := hW
  obtain ⟨p, q, hA0, hV, rfl, hfz, hnd⟩ := hW
  have hA : DataW.TrodAll enc Try.prog W 0 (fun _ => true) true Try.f3.params.toList args.toList ds p := hA0
  have hAk := hA
  rw [Try.params3] at hA hval
  obtain ⟨v0, vs0, d0, ds0, p0, q0, hargs, rfl, rfl, h0, r0⟩ := trodAll_cons hA
  obtain ⟨v1, vs1, d1, ds1, p1, q1, rfl, rfl, rfl, h1, r1⟩ := trodAll_cons r0
  obtain ⟨v2, vs2, d2, ds2, p2, q2, rfl, rfl, rfl, h2, r2⟩ := trodAll_cons r1
  obtain ⟨rfl, rfl, rfl⟩ := trodAll_nil r2
  obtain rfl : args = #[v0, v1, v2] := by cases args; simp_all
  obtain ⟨rfl, rfl⟩ := trodVars_none hV
  obtain ⟨A0, c0, l0, rfl, r0', m0', q0'⟩ := open_tups (okWide_slice Try.underlying22 (hval 0 22 v0 rfl rfl)) h0
  obtain ⟨A1, c1, l1, rfl, r1', k1', m1'⟩ := open_vals (okWide_slice Try.underlying23 (hval 1 23 v1 rfl rfl)) h1
  obtain ⟨k2, n2, s2, rfl, rfl, rfl, wk2, wn2, ws2⟩ := open_val (hval 2 25 v2 rfl rfl) h2
  clear hA0 hval0
  refine (walk A0 c0 l0 A1 c1 l1 k2 n2 s2 W r0' m0' q0' r1' k1' m1' wk2 wn2 ws2).mono fun e W' ⟨he, hg⟩ => ?_
  subst he
  refine ⟨_, rfl, post_old hW' (by simpa using hAk) (by rw [Try.params3]; decide) (fun _ _ _ => (trodAll_cons_mk (shut_bool Try.underlying4 _) trodAll_mk0)) rfl (fun _ => rfl) hg⟩

theorem proved : Rows.BtreeOwnSaid :=
  OpenClaim.holds_of_wide 3 Try.f3 rfl rfl rfl rfl rfl rfl rfl ⟨rfl, rfl, rfl, rfl, rfl⟩ rfl rfl rfl rfl rfl (by kernel_rfl) Try.func3 (by kernel_rfl)
    (of_decide_eq_true (by kernel_rfl)) (by unfold Func.isWrapper; first | (rw [if_pos (by decide +kernel)]; kernel_rfl) | (rw [if_neg (by decide +kernel)]; exact ⟨rfl, rfl⟩))
    (fun os started H enc _ => lifted os started H enc)
#print axioms proved
end Go.Proofs.Ytojanokicfeghaa.btreeOwn

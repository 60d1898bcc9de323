/-
  Package safe: whether terms are bound, and literals ready.
-/
import Derived.Test.YtahljmddnfldlaaSafD
namespace Go.Proofs.Ytahljmddnfldlaa
open Go.RowKit FloM ValM Go.Shelf Go.Maps
set_option linter.unusedVariables false
set_option linter.unusedSimpArgs false
def inS (t : Tm) (S : List Nm) : Bool := decide (t.v = [] ∨ t.v ∈ S)
def allS (l : List Tm) (S : List Nm) : Bool := l.all fun t => inS t S
def Have1 (ts : List Tm) (S : List Nm) (W : World) (i : Value) (wr : World) : Prop := ∃ k : Nat, i = .int .i64 (k : Nat) ∧ k ≤ ts.length ∧ Below W.heap.size W wr ∧ allS (ts.take k) S = true
set_option maxRecDepth 20000 in
set_option maxHeartbeats 8000000 in
theorem have_any (b n : Nat) (S : List Nm) (A : Option Addr) (c : Nat) (ts : List Tm) (W : World) (h : SetAt W b n S) (hr : RdX 4 tmC W A ts) (hok : ∀ t ∈ ts, TmOk t) :
    Calls Try.prog 35 #[.map (some b), .slice A ts.length c] W fun e w' => e = .returned (.bool (allS ts S)) ∧ Below W.heap.size W w' := by
  have hm9 : ts.length ≤ 9223372036854775807 := Nat.le_trans hr.1 (by decide)
  have HS := Lib.hid h; have HR := Lib.hid hr; have HOK := Lib.hid hok
  clear h hr hok
  go_enter Try.func35, Try.ntmps35
  go_wp2
  go_loopw [11] (fun i wr => Have1 ts S W i wr) (fun i _ => ts.length - (intOf i).toNat)
  case atStart => exact ⟨0, rfl, Nat.zero_le _, Below.refl _ _, rfl⟩
  case round =>
    obtain ⟨k, rfl, hk, hB, hA⟩ := hrel
    have HB := Lib.hid hB; have HA := Lib.hid hA
    by_cases hlt : k < ts.length
    · obtain ⟨t, ht⟩ : ∃ t, ts[k]? = some t := ⟨_, List.getElem?_eq_getElem hlt⟩
      obtain ⟨g, o, rfl, hg, hc⟩ := (HR.out.on hB).2 k t ht
      have x0 := hc 0 _ rfl; have x1 := hc 1 _ rfl; have x2 := hc 2 _ rfl; have x3 := hc 3 _ rfl
      rw [Nat.add_zero] at x0
      have hkey := key_of (HOK.out t (List.mem_of_getElem? ht)).1
      obtain ⟨D, hD, hE⟩ := HS.out.on hB
      have HTK := Lib.hid ht; have HD := Lib.hid hD
      have hE1 := hE t.v
      have HB2 : Hid (Below W.heap.size W ((wr.alloc (.cells #[.string (bs t.v), .int .i64 t.x.k, .int .i64 t.x.n, .string t.x.s] 40)).alloc (.cells #[] 82))) := Lib.hid ((HB.out.alloc HB.out.size _).alloc (by have := HB.out.size; simp; omega) _)
      clear hc ht hE hD hA hB
      have estep : ∀ q : Bool, inS t S = q → q = true → allS (ts.take (k + 1)) S = true := fun q h1 h2 => by
        subst h2
        have e : ts.take (k + 1) = ts.take k ++ [t] := by rw [List.take_add_one, HTK.out]; rfl
        rw [e]; unfold allS at HA ⊢; rw [List.all_append, HA.out]; simp [h1]
      have ebad : inS t S = false → allS ts S = false := fun h1 => by
        unfold allS; rw [List.all_eq_false]; exact ⟨t, List.mem_of_getElem? HTK.out, by simp [h1]⟩
      have HES := Lib.hid estep; have HEB := Lib.hid ebad; clear estep ebad
      by_cases hv : t.v = []
      · have f1 : ((bs t.v).toList == []) = true := by rw [bsl, hv]; rfl
        have HQ : Hid (inS t S = true) := Lib.hid (by unfold inS; simp [hv])
        clear hv hE1
        go_wp2_with (first
          | (at_lookup; refine wpList_lookup_own_unit _ rfl _ _ 70 rfl 9 82 keyLaw Try.underlying70 (zeroUnit _) b n _ rfl (HD.out.alloc _) _ _ rfl hkey ?_))
        go_roundw
        case rel => exact ⟨k + 1, by go_num, by omega, HB2.out, HES.out _ HQ.out rfl⟩
        case measure => simp [intOf]; omega
      · have f1 : ((bs t.v).toList == []) = false := by rw [bsl, beq_eq_false_iff_ne]; exact hv
        by_cases hs : t.v ∈ S
        · have HQ : Hid (inS t S = true) := Lib.hid (by unfold inS; simp [hs])
          have f2 : Maps.has D (.string t.v) = true := by rw [hE1]; simp [hs]
          clear hv hE1 hs
          go_wp2_with (first
            | (at_lookup; refine wpList_lookup_own_unit _ rfl _ _ 70 rfl 9 82 keyLaw Try.underlying70 (zeroUnit _) b n _ rfl (HD.out.alloc _) _ _ rfl hkey ?_))
          go_roundw
          case rel => exact ⟨k + 1, by go_num, by omega, HB2.out, HES.out _ HQ.out rfl⟩
          case measure => simp [intOf]; omega
        · have HQ : Hid (inS t S = false) := Lib.hid (by unfold inS; simp [hs, hv])
          have f2 : Maps.has D (.string t.v) = false := by rw [hE1]; simp [hs]
          clear hv hE1 hs
          go_wp2_with (first
            | (at_lookup; refine wpList_lookup_own_unit _ rfl _ _ 70 rfl 9 82 keyLaw Try.underlying70 (zeroUnit _) b n _ rfl (HD.out.alloc _) _ _ rfl hkey ?_))
          go_ret
          exact ⟨by rw [HEB.out HQ.out]; rfl, HB2.out⟩
    · obtain rfl : k = ts.length := by omega
      rw [List.take_length] at hA
      have HA2 := Lib.hid hA; clear hA
      go_wp2
      go_ret
      exact ⟨by rw [HA2.out]; rfl, HB.out⟩
end Go.Proofs.Ytahljmddnfldlaa

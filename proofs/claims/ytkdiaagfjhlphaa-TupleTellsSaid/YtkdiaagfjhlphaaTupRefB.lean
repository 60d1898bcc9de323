/-
  Contracts of the document's own way for layer 3 (package antecedentref03): at, Perm, Inverse, Text.
-/
import Derived.Test.YtkdiaagfjhlphaaTupOwn
import Derived.Test.YtkdiaagfjhlphaaTupPerm
import Derived.Test.YtkdiaagfjhlphaaTupText
import Derived.Test.YtkdiaagfjhlphaaValRefR
namespace Go.Proofs.Ytkdiaagfjhlphaa
open Go.RowKit FloM ValM
set_option linter.unusedVariables false

/-! ### at -/
def atL (p : List Int) (x : Int) : Int := if x ∈ p then ((p.idxOf x : Nat) : Int) else -1
theorem at_here {p : List Int} {k : Nat} {x : Int} (h : p[k]? = some x) (hn : x ∉ p.take k) : atL p x = k := by
  unfold atL
  rw [if_pos (List.mem_of_getElem? h)]
  have e := split_take h
  have hl : (p.take k).length = k := by rw [List.length_take]; have := (List.getElem?_eq_some_iff.1 h).1; omega
  conv => lhs; rw [e]
  rw [List.idxOf_append, if_neg hn, List.idxOf_cons_self, hl]; simp
theorem at_nowhere {p : List Int} {k : Nat} {x : Int} (hk : p.length ≤ k) (hn : x ∉ p.take k) : atL p x = -1 := by
  rw [List.take_of_length_le hk] at hn; unfold atL; rw [if_neg hn]
def AtRel (p : List Int) (x : Int) (i : Value) : Prop := ∃ k : Nat, i = .int .i64 (k : Nat) ∧ k ≤ p.length ∧ x ∉ p.take k
set_option maxHeartbeats 1000000 in
theorem at_any (A : Option Addr) (c : Nat) (p : List Int) (x : Int) (w : World) (hp : RdI w A p) (hl : p.length ≤ 1000) :
    Calls Try.prog 26 #[.slice A p.length c, .int .i64 x] w fun e w' => e = .returned (.int .i64 (atL p x)) ∧ w = w' := by
  have HP := Lib.hid hp; clear hp
  go_enter Try.func26, Try.ntmps26
  go_wp2
  go_loop [8] (fun i => AtRel p x i) (fun i => p.length - (intOf i).toNat)
  case atStart => exact ⟨0, rfl, Nat.zero_le _, by simp⟩
  case round =>
    obtain ⟨k, rfl, hk, hn⟩ := hrel
    have HN := Lib.hid hn; clear hn
    by_cases hlt : k < p.length
    · have hx := List.getElem?_eq_getElem hlt
      obtain ⟨b, o, rfl, hb, hc⟩ := HP.out k _ hx
      have HX := Lib.hid hx; clear hx
      generalize p[k] = y at HX hc
      by_cases he : y = x
      · subst he
        go_wp2
        go_ret
        exact ⟨ret_int (by rw [at_here HX.out HN.out]), rfl⟩
      · have he' : (y == x) = false := by simpa using he
        have HU := Lib.hid he; clear he
        go_wp2
        go_round
        case rel => exact ⟨k + 1, by go_num, by omega, by rw [take_snoc' HX.out, List.mem_append, List.mem_singleton]; exact fun h => h.elim HN.out fun e => HU.out e.symm⟩
        case measure => simp [intOf]; omega
    · go_wp2
      go_ret
      exact ⟨ret_int (by rw [at_nowhere (by omega) HN.out]), rfl⟩

/-! ### Perm -/
theorem atL_neg {p : List Int} {x : Int} : atL p x < 0 ↔ x ∉ p := by
  unfold atL; split
  · rename_i h; constructor
    · intro h'; omega
    · intro h'; exact absurd h h'
  · rename_i h; exact ⟨fun _ => h, fun _ => by omega⟩
def RPermRel (p : List Int) (i : Value) : Prop := ∃ k : Nat, i = .int .i64 (k : Nat) ∧ k ≤ p.length ∧ ∀ j : Nat, j < k → (j : Int) ∈ p
set_option maxHeartbeats 1000000 in
theorem refPerm_any (A : Option Addr) (c : Nat) (p : List Int) (w : World) (hp : RdI w A p) (hl : p.length ≤ 1000) :
    Calls Try.prog 12 #[.slice A p.length c] w fun e w' => e = .returned (.bool (permB p)) ∧ w = w' := by
  have HP := Lib.hid hp; clear hp
  go_enter Try.func12, Try.ntmps12
  go_wp2
  go_loop [6] (fun i => RPermRel p i) (fun i => p.length - (intOf i).toNat)
  case atStart => exact ⟨0, rfl, Nat.zero_le _, fun j h => absurd h (by omega)⟩
  case round =>
    obtain ⟨k, rfl, hk, hn⟩ := hrel
    have HN := Lib.hid hn; clear hn
    by_cases hlt : k < p.length
    · by_cases hm : (k : Int) ∈ p
      · have ha : ¬ atL p k < 0 := fun h => atL_neg.1 h hm
        have HM := Lib.hid hm; clear hm
        go_wp2_with (go_at_call 26; refine (at_any _ _ _ _ _ HP.out hl).mono ?_; rintro e w' ⟨rfl, rfl⟩)
        go_round
        case rel =>
          refine ⟨k + 1, by go_num, by omega, fun j hj => ?_⟩
          rcases Nat.lt_succ_iff_lt_or_eq.1 hj with h | h
          · exact HN.out j h
          · subst h; exact HM.out
        case measure => simp [intOf]; omega
      · have ha : atL p k < 0 := atL_neg.2 hm
        have HF := Lib.hid (show permB p = false by
          cases h : permB p with
          | false => rfl
          | true => exact absurd (perm_mem h hlt) hm)
        clear hm
        go_wp2_with (go_at_call 26; refine (at_any _ _ _ _ _ HP.out hl).mono ?_; rintro e w' ⟨rfl, rfl⟩)
        go_ret
        exact ⟨ret_bool (by rw [HF.out]), rfl⟩
    · have HF := Lib.hid (show permB p = true from perm_has.2 fun x hx => by
        have hx' := inR_iff.1 hx
        have := HN.out x.toNat (by omega)
        rwa [show ((x.toNat : Nat) : Int) = x by omega] at this)
      go_wp2
      go_ret
      exact ⟨ret_bool (by rw [HF.out]), rfl⟩

/-! ### Inverse -/
def invTo (p : List Int) (k : Nat) : List Int := (List.range k).map fun j => atL p ((j : Nat) : Int)
theorem invTo_succ (p : List Int) (k : Nat) : invTo p (k + 1) = invTo p k ++ [atL p k] := by simp [invTo, List.range_succ]
theorem invTo_len (p : List Int) (k : Nat) : (invTo p k).length = k := by simp [invTo]
theorem invTo_all {p : List Int} (hp : permB p = true) : invTo p p.length = invL p := by
  unfold invTo invL; rw [if_pos hp]
  apply List.map_congr_left
  intro j hj
  unfold atL idxI
  rw [if_pos (perm_mem hp (List.mem_range.1 hj))]
def RInvRel (w : World) (p : List Int) (out i : Value) (wr : World) : Prop := ∃ k : Nat, i = .int .i64 (k : Nat) ∧ k ≤ p.length ∧ Below w.heap.size w wr ∧ ∃ A c, out = .slice A k c ∧ wr.ownsRow w.heap.size 3 1 (.slice A k c) k (icells (invTo p k))
set_option maxHeartbeats 2000000 in
theorem refInverse_any (A : Option Addr) (c : Nat) (p : List Int) (w : World) (hp : RdI w A p) (hl : p.length ≤ 1000) :
    Calls Try.prog 15 #[.slice A p.length c] w (SaysL (invL p) w) := by
  have HP := Lib.hid hp; clear hp
  cases hperm : permB p with
  | false =>
    have HI := Lib.hid (show invL p = [] by unfold invL; rw [hperm]; rfl)
    have HB := Lib.hid hperm; clear hperm
    go_enter Try.func15, Try.ntmps15
    go_wp2_with (go_at_call 12; refine (refPerm_any _ _ _ _ HP.out hl).mono ?_; rintro e w1 ⟨rfl, rfl⟩; rw [HB.out])
    go_ret
    exact ⟨none, 0, by rw [HI.out]; rfl, by rw [HI.out]; exact RdI.nil, Below.refl _ _⟩
  | true =>
    have HI := Lib.hid (invTo_all hperm)
    have HB := Lib.hid hperm; clear hperm
    obtain ⟨i0, hi0, hz0, hz1, hz2⟩ := info_parts info_int
    have HI0 := Lib.hid hi0; have HZ0 := Lib.hid hz0; have HZ1 := Lib.hid hz1; have HZ2 := Lib.hid hz2
    clear hi0 hz0 hz1 hz2
    go_enter Try.func15, Try.ntmps15
    go_wp2_with (go_at_call 12; refine (refPerm_any _ _ _ _ HP.out hl).mono ?_; rintro e w1 ⟨rfl, rfl⟩; rw [HB.out])
    go_loopw [3, 10] (fun out i wr => RInvRel w p out i wr) (fun _ i _ => p.length - (intOf i).toNat)
    case atStart => exact ⟨0, rfl, Nat.zero_le _, Below.refl _ _, none, 0, rfl, own_nil w _ _ _⟩
    case round =>
      obtain ⟨k, rfl, hk, hB, A1, c1, rfl, hown⟩ := hrel
      have HO := Lib.hid hown; clear hown
      by_cases hlt : k < p.length
      · go_wp2_with (first
          | (go_at_call 26; refine (at_any _ _ _ _ _ (HP.out.on hB) hl).mono ?_; rintro e w' ⟨rfl, rfl⟩)
          | (at_builtin; refine wpList_append_own _ rfl (.tmp 13) (.tmp 17) _ rfl w.heap.size 3 i0 (.int .i64 0) 1 8 Try.underlying23 HI0.out HZ0.out HZ1.out HZ2.out rfl (by omega) (.slice A1 k c1) k (icells (invTo p k)) rfl (own_on HO.out ((Below.refl _ _).alloc (Nat.le_refl _) _)) ⟨wr.heap.size, 0, none⟩ 1 1 [.int .i64 (atL p k)] rfl (by simp) (news_one wr #[.int .i64 (atL p k)] _) (by simp [Value.oneCell']) (by unfold maxLen; omega) (by omega) (by have := hB.size; simp; omega) ?_; intro v' w' ho' hg' _; obtain ⟨A2, c2, rfl⟩ := own_form ho'))
        go_roundw
        case rel =>
          have hb3 : Below w.heap.size w (wr.alloc (.cells #[.int .i64 (atL p k)] 3)) := on hB ((Below.refl _ _).alloc (Nat.le_refl _) _)
          refine ⟨k + 1, by go_num, by omega, hb3.grown hg' hb3.size (own_base HO.out), A2, c2, rfl, ?_⟩
          rw [invTo_succ]
          simpa [icells] using ho'
        case measure => simp [intOf]; omega
      · have hke : k = p.length := by omega
        subst hke
        have HL := Lib.hid (show (invL p).length = p.length by rw [← HI.out, invTo_len])
        have HO' := HO.out
        rw [HI.out] at HO'
        have HO2 := Lib.hid HO'; clear HO'
        go_wp2
        go_ret
        exact ⟨A1, c1, by rw [HL.out]; rfl, own_rdI HO2.out, hB⟩

/-! ### Text -/
theorem text_snoc {t : List V} {k : Nat} {v : V} (h : t[k]? = some v) : textL (t.take (k + 1)) = (if 0 < k then textL (t.take k) ++ [44, 32] else []) ++ textV v := by
  have hl : k < t.length := (List.getElem?_eq_some_iff.1 h).1
  rw [take_snoc' h]
  unfold textL
  cases k with
  | zero => simp [Lib.join_one]
  | succ k =>
    cases t with
    | nil => simp at hl
    | cons x r =>
      rw [if_pos (by omega), List.take_succ_cons, List.cons_append, List.map_cons, List.map_append, List.map_cons, List.map_nil, List.map_cons, Lib.join_cons, Lib.join_cons]
      simp [Lib.joinTail, List.append_assoc]
def RTextRel (w : World) (t : List V) (s i : Value) (wr : World) : Prop := ∃ k : Nat, i = .int .i64 (k : Nat) ∧ k ≤ t.length ∧ Below w.heap.size w wr ∧ s = .string (bs (textL (t.take k)))
theorem bs_app (a b : List UInt8) : bs a ++ bs b = bs (a ++ b) := by apply ls_inj; rw [ls_append, ls_bs, ls_bs, ls_bs]
theorem OkL.take {t : List V} (h : OkL t) (k : Nat) : OkL (t.take k) := fun v hv => h v (List.mem_of_mem_take hv)
set_option maxHeartbeats 2000000 in
theorem refTextT_any (A : Option Addr) (ca : Nat) (t : List V) (w : World) (ht : RdV w A t) (hok : OkL t) (lt : t.length ≤ 1000) :
    Calls Try.prog 20 #[.slice A t.length ca] w fun e w' => e = .returned (.string (bs (textL t))) ∧ Below w.heap.size w w' := by
  have HT := Lib.hid ht; clear ht
  have HK := Lib.hid hok; clear hok
  go_enter Try.func20, Try.ntmps20
  go_wp2
  go_loopw [3, 7] (fun s i wr => RTextRel w t s i wr) (fun _ i _ => t.length - (intOf i).toNat)
  case atStart => exact ⟨0, rfl, Nat.zero_le _, Below.refl _ _, rfl⟩
  case round =>
    obtain ⟨k, rfl, hk, hB, rfl⟩ := hrel
    by_cases hlt : k < t.length
    · have hx := List.getElem?_eq_getElem hlt
      have hkv := HK.out.at_ hx
      have hlen := textL_len (t.take k) (HK.out.take k)
      rw [List.length_take, Nat.min_eq_left (by omega)] at hlen
      obtain ⟨b, o, rfl, hb, c0, c1, c2⟩ := (HT.out.on hB) k _ hx
      have HS := Lib.hid (text_snoc hx)
      clear hx
      generalize t[k] = v at HS hkv c0 c1 c2
      have hvl := textV_len v hkv.1
      obtain ⟨kv, nv, sv⟩ := v
      simp only at c0 c1 c2 hkv
      generalize textL (t.take k) = T at HS hlen
      have hz1 : ¬ 9223372036854775807 < (bs T).size + 2 := by rw [bs_size]; omega
      have hz2 : ¬ 9223372036854775807 < (bs T).size + 2 + (bs (textV ⟨kv, nv, sv⟩)).size := by rw [bs_size]; omega
      have hz3 : ¬ 9223372036854775807 < (bs T).size + (bs (textV ⟨kv, nv, sv⟩)).size := by rw [bs_size]; omega
      by_cases hk0 : 0 < k
      · go_wp2_with (go_at_call 34; refine (refText_go _ _ _ _ hkv.1.1 hkv.1.2).mono ?_; rintro e w2 ⟨rfl, h2⟩)
        go_roundw
        case rel =>
          refine ⟨k + 1, by go_num, by omega, on hB h2, ?_⟩
          rw [HS.out, if_pos hk0]
          rw [show (ByteArray.mk #[44, 32]) = bs [44, 32] from rfl, bs_app, bs_app]
        case measure => simp [intOf]; omega
      · have hT : T = [] := List.eq_nil_of_length_eq_zero (by omega)
        have HT0 := Lib.hid hT; clear hT
        go_wp2_with (go_at_call 34; refine (refText_go _ _ _ _ hkv.1.1 hkv.1.2).mono ?_; rintro e w2 ⟨rfl, h2⟩)
        go_roundw
        case rel =>
          refine ⟨k + 1, by go_num, by omega, on hB h2, ?_⟩
          rw [HS.out, if_neg hk0]
          rw [bs_app, HT0.out]
        case measure => simp [intOf]; omega
    · have hke : k = t.length := by omega
      subst hke
      have HL := Lib.hid (show bs (textL (t.take t.length)) = bs (textL t) by rw [List.take_length])
      go_wp2
      go_ret
      exact ⟨ret_str (by first | rfl | rw [HL.out]), hB⟩
end Go.Proofs.Ytkdiaagfjhlphaa

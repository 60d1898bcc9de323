/-
  Contracts of tuple.Text and of what it calls.
-/
import Derived.Test.YtkdiaagfjhlphaaTupOwn
import Derived.Test.YtkdiaagfjhlphaaShelf
namespace Go.Proofs.Ytkdiaagfjhlphaa
open Go.RowKit FloM ValM
set_option linter.unusedVariables false

set_option maxHeartbeats 1000000 in
theorem text1_go (k n : Int) (s : ByteArray) (w : World) (hs : s.size ≤ maxLen) (hn : Fits n) :
    Calls Try.prog 31 #[.agg #[.int .i64 k, .int .i64 n, .string s]] w fun e w' => e = .returned (.tuple #[.string (bs (textV ⟨k, n, s⟩)), .bool true]) ∧ Below w.heap.size w w' := by
  go_enter Try.func31, Try.ntmps31
  go_wp2_with (go_at_call 32; refine (text_go _ _ _ _ hs hn.1 hn.2).mono ?_; rintro e w1 ⟨rfl, h1⟩)
  go_ret2
  exact ⟨rfl, ((Below.refl _ _).alloc (Nat.le_refl _) _).trans (h1.mono (by simp))⟩

def textsL (t : List V) : List ByteArray := t.map fun v => bs (textV v)
theorem own_cap {w : World} {base : Nat} {e : TypeId} {size : Nat} {A : Option Addr} {c n : Nat} {xs : List Value} (h : w.ownsRow base e size (.slice A n c) n xs) : n ≤ c := by
  rcases h.2 with ⟨h0, rfl⟩ | ⟨g, cap, cur, h0, _, _, hc, _⟩
  · exact Nat.zero_le _
  · injection h0 with _ _ h0; omega
/-- Texts in memory of the call's own. -/
def SaysS (l : List ByteArray) (w : World) (e : Ending) (w' : World) : Prop := ∃ (A : Option Addr) (c : Nat), e = .returned (.slice A l.length c) ∧ RdS w' A l ∧ l.length ≤ c ∧ Below w.heap.size w w'
def TextRel (w : World) (t : List V) (out i : Value) (wr : World) : Prop := ∃ k : Nat, i = .int .i64 (k : Nat) ∧ k ≤ t.length ∧ Below w.heap.size w wr ∧
  ∃ A c, out = .slice A k c ∧ wr.ownsRow w.heap.size 9 1 (.slice A k c) k (scells (textsL (t.take k)))
theorem texts_snoc {t : List V} {k : Nat} {v : V} (h : t[k]? = some v) : scells (textsL (t.take (k + 1))) = scells (textsL (t.take k)) ++ [.string (bs (textV v))] := by
  rw [take_snoc' h]; simp [textsL, scells]
set_option maxHeartbeats 4000000 in
theorem convertS_any (A : Option Addr) (ca : Nat) (t : List V) (w : World) (ht : RdV w A t) (hok : OkL t) (lt : t.length ≤ 1000) :
    Calls Try.prog 30 #[.slice A t.length ca, .func (.func 31) #[] #[]] w (SaysS (textsL t) w) := by
  have HT := Lib.hid ht; clear ht
  have HK := Lib.hid hok; clear hok
  have hmk := make_strs t.length lt
  obtain ⟨i0, hi0, hz0, hz1, hz2⟩ := info_parts info_str
  have HI0 := Lib.hid hi0; have HZ0 := Lib.hid hz0; have HZ1 := Lib.hid hz1; have HZ2 := Lib.hid hz2
  clear hi0 hz0 hz1 hz2
  go_enter Try.func30, Try.ntmps30
  go_wp2
  go_loopw [5, 15] (fun out i wr => TextRel w t out i wr) (fun _ i _ => t.length - (intOf i).toNat)
  case atStart =>
    exact ⟨0, rfl, Nat.zero_le _, (Below.refl _ _).alloc (Nat.le_refl _) _, _, _, rfl, World.ownsRow_made w _ t.length (Nat.le_refl _) (by unfold maxLen; omega) (by rw [size_madeCells, Nat.mul_one])⟩
  case round =>
    obtain ⟨k, rfl, hk, hB, A1, c1, rfl, hown⟩ := hrel
    have HO := Lib.hid hown; clear hown hmk
    by_cases hlt : k < t.length
    · have hx := List.getElem?_eq_getElem hlt
      have hkv := HK.out.at_ hx
      obtain ⟨b, o, rfl, hb, c0, c1', c2'⟩ := (HT.out.on hB) k _ hx
      have HS := Lib.hid (texts_snoc hx)
      clear hx
      generalize t[k] = v at HS hkv c0 c1' c2'
      obtain ⟨kv, nv, sv⟩ := v
      simp only at c0 c1' c2' hkv
      go_wp2_with (first
        | (go_at_call 31
           refine (text1_go _ _ _ _ hkv.2 hkv.1).mono ?_
           rintro e w2 ⟨rfl, h2⟩
           replace h2 : Below wr.heap.size wr w2 := ((Below.refl _ _).alloc (Nat.le_refl _) _).trans (h2.mono (by simp)))
        | (at_builtin
           refine wpList_append_own _ rfl (.tmp 26) (.tmp 28) _ rfl w.heap.size 9 i0 _ 1 16 Try.underlying48 HI0.out HZ0.out HZ1.out HZ2.out rfl (by omega) (.slice A1 k c1) k _ rfl
             (own_on HO.out (h2.alloc h2.size _)) ⟨w2.heap.size, 0, none⟩ 1 1 [.string (bs (textV ⟨kv, nv, sv⟩))] rfl (by simp) (news_one w2 #[.string (bs (textV ⟨kv, nv, sv⟩))] _) (by simp [Value.oneCell']) (by unfold maxLen; omega) (by omega) (by have := h2.size; have := hB.size; simp; omega) ?_
           intro v' w' ho' hg' _
           obtain ⟨A2, c2, rfl⟩ := own_form ho'))
      go_roundw
      case rel =>
        have hb3 : Below w.heap.size w _ := on hB (h2.alloc h2.size (.cells #[.string (bs (textV ⟨kv, nv, sv⟩))] 9))
        refine ⟨k + 1, by go_num, by omega, hb3.grown hg' hb3.size (own_base HO.out), A2, c2, rfl, ?_⟩
        rw [HS.out]
        exact ho'
      case measure => simp [intOf]; omega
    · have hke : k = t.length := by omega
      subst hke
      have HO' := HO.out
      rw [List.take_length] at HO'
      have HO2 := Lib.hid HO'; clear HO'
      go_wp2
      go_ret
      exact ⟨A1, c1, by simp [textsL], own_rdS HO2.out, by simpa [textsL] using own_cap HO2.out, hB⟩

/-! ### Text -/
def textL (t : List V) : List UInt8 := Lib.join (t.map textV) [44, 32]
theorem texts_ls (t : List V) : (textsL t).map (·.data.toList) = t.map textV := by
  unfold textsL; rw [List.map_map]; rfl
theorem lens_le : ∀ (l : List (List UInt8)) (m : Nat), (∀ x ∈ l, x.length ≤ m) → Lib.lens l ≤ l.length * m
  | [], m, _ => by simp [Lib.lens]
  | x :: l, m, h => by
    have h1 := h x (List.mem_cons_self ..)
    have h2 := lens_le l m fun y hy => h y (List.mem_cons_of_mem _ hy)
    simp only [Lib.lens, List.map_cons, List.sum_cons, List.length_cons, Nat.succ_mul] at h2 ⊢
    omega
theorem textL_len (t : List V) (h : OkL t) : (textL t).length ≤ t.length * 42 := by
  unfold textL
  cases t with
  | nil => simp [Lib.join_nil]
  | cons v r =>
    rw [List.map_cons, Lib.join_length]
    have := lens_le (textV v :: r.map textV) 40 (by
      intro x hx
      rw [← List.map_cons, List.mem_map] at hx
      obtain ⟨u, hu, rfl⟩ := hx
      have := textV_len u (h u hu).1
      rwa [bs_size] at this)
    simp only [List.length_cons, List.length_map, List.length_nil] at this ⊢
    omega
theorem join_any (A : Option Addr) (c : Nat) (xs : List ByteArray) (w : World) (h : RdS w A xs) (hc : xs.length ≤ c) (hn : xs.length ≤ 1000) (hl : (Lib.join (xs.map (·.data.toList)) [44, 32]).length ≤ 140737488355328) :
    Calls Try.prog 33 #[.slice A xs.length c, .string ⟨#[44, 32]⟩] w fun e w' => e = .returned (.string (bs (Lib.join (xs.map (·.data.toList)) [44, 32]))) ∧ Below w.heap.size w w' := by
  cases xs with
  | nil => exact (Try.strings_Join_none A c ⟨#[44, 32]⟩ w).mono fun e w' ⟨h1, h2⟩ => ⟨h1, by rw [h2]; exact Below.refl _ _⟩
  | cons x r =>
    obtain ⟨b, o, rfl, hb, _⟩ := h 0 x rfl
    refine (Try.strings_Join b o c (x :: r) ⟨#[44, 32]⟩ w (fun j y hy => ?_) hb (by omega) hc hl).mono fun e w' h' => h'
    obtain ⟨b', o', e, _, hc'⟩ := h j y hy
    injection e with e; injection e with e1 e2 _; subst e1 e2
    exact hc'
set_option maxHeartbeats 1000000 in
theorem textT_any (A : Option Addr) (ca : Nat) (t : List V) (w : World) (ht : RdV w A t) (hok : OkL t) (lt : t.length ≤ 1000) :
    Calls Try.prog 19 #[.slice A t.length ca] w fun e w' => e = .returned (.string (bs (textL t))) ∧ Below w.heap.size w w' := by
  have HT := Lib.hid ht; clear ht
  have HTl := Lib.hid (texts_ls t)
  have HTn : (textsL t).length ≤ 1000 := by simpa [textsL] using lt
  have HL : (Lib.join ((textsL t).map (·.data.toList)) [44, 32]).length ≤ 140737488355328 := by
    rw [HTl.out]; have := textL_len t hok; unfold textL at this; omega
  have HK := Lib.hid hok; clear hok
  go_enter Try.func19, Try.ntmps19
  go_wp2_with (first
    | (go_at_call 30; refine (convertS_any _ _ t _ HT.out HK.out lt).mono ?_; rintro e w1 ⟨A1, c1, rfl, h1, h2, h3⟩)
    | (go_at_call 33; refine (join_any _ _ _ _ h1 h2 HTn HL).mono ?_; rintro e w2 ⟨rfl, h4⟩))
  go_ret
  exact ⟨ret_str (by rw [HTl.out]; rfl), on h3 h4⟩
end Go.Proofs.Ytkdiaagfjhlphaa

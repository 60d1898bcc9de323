/-
  Contract of New.
-/
import Derived.Test.YtpmkhpbhimmeiaaGreatBtPutT
import Derived.Test.YtpmkhpbhimmeiaaGreatTupPerm
namespace Go.Proofs.YtpmkhpbhimmeiaaGreat
open Go.RowKit FloM ValM Go.Shelf
set_option linter.unusedVariables false
set_option linter.unusedSimpArgs false

theorem own_lt {w : World} {base n size : Nat} {e : TypeId} {A : Option Addr} {c : Nat} {xs : List Value} (h : w.ownsRow base e size (.slice A n c) n xs) : ∀ a, A = some a → a.block < w.heap.size := fun a ha => by
  subst ha
  rcases h.2 with ⟨e, _⟩ | ⟨g, cap, cur, e, _, hgg, _⟩
  · cases e
  · injection e with e _ _; injection e with e; subst e; exact (Array.getElem?_eq_some_iff.1 hgg).1
set_option maxHeartbeats 1000000 in
theorem cloneI_in (A : Option Addr) (c : Nat) (l : List Int) (w : World) (h : RdI w A l) (hl : l.length ≤ 1000) :
    Calls Tryz.prog 62 #[.slice A l.length c] w fun e w' => ∃ A' c', e = .returned (.slice A' l.length c') ∧ RdI w' A' l ∧ (∀ a, A' = some a → w.heap.size ≤ a.block ∧ a.block < w'.heap.size) ∧ l.length ≤ c' ∧ c' ≤ maxLen ∧ Below w.heap.size w w' := by
  cases A with
  | none =>
    have hl0 : l = [] := by
      cases l with
      | nil => rfl
      | cons x r => obtain ⟨b, o, e, _⟩ := h 0 x rfl; cases e
    subst hl0
    go_enter Tryz.func62, Tryz.ntmps62
    go_wp2
    go_ret
    exact ⟨none, 0, rfl, RdI.nil, (fun a ha => by cases ha), Nat.le_refl _, (by unfold maxLen; omega), Below.refl _ _⟩
  | some a =>
    have HH := Lib.hid (rdI_rdC h); clear h
    have HL := Lib.hid (show (icells l).length = l.length by simp [icells])
    obtain ⟨i0, hi0, hz0, hz1, hz2⟩ := info_parts info_int
    have HI0 := Lib.hid hi0; have HZ0 := Lib.hid hz0; have HZ1 := Lib.hid hz1; have HZ2 := Lib.hid hz2
    clear hi0 hz0 hz1 hz2
    have hB : Below w.heap.size w (w.alloc (.cells #[] 3)) := (Below.refl _ _).alloc (Nat.le_refl _) _
    go_enter Tryz.func62, Tryz.ntmps62
    go_wp2_with (at_builtin; refine wpList_appC rfl (.tmp 5) (.tmp 6) 24 rfl w.heap.size 3 i0 _ 8 Tryz.underlying24 HI0.out HZ0.out HZ1.out HZ2.out rfl (by omega) _ 0 0 [] rfl (own_made1 w _) (some a) c _ (icells l) HL.out rfl (HH.out.on hB) (fun u hu => by simp only [icells, List.mem_map] at hu; obtain ⟨_, _, rfl⟩ := hu; rfl) (by omega) hB.size ?_; intro A3 c3 w3 ho3 hg3)
    go_ret
    simp only [List.nil_append, Nat.zero_add] at ho3 ⊢
    exact ⟨A3, c3, rfl, rdC_rdI (own_rdC ho3), (fun a ha => by subst ha; exact ⟨own_base ho3 a.block rfl, own_lt ho3 _ rfl⟩), (own_cap ho3).1, (own_cap ho3).2, hB.grown hg3 hB.size (own_base (own_made1 w 3))⟩
set_option maxHeartbeats 1000000 in
theorem new_long (A : Option Addr) (c n : Nat) (w : World) (hn : 8 < n) (hm : n ≤ maxLen) : Calls Tryz.prog 61 #[.slice A n c] w fun e w' => e = .returned (.tuple #[.pointer none, .int .i64 1]) ∧ w = w' := by
  have h8 : (8 : Int) < (n : Int) := by omega
  go_enter Tryz.func61, Tryz.ntmps61
  go_wp2
  go_ret2
  exact ⟨rfl, rfl⟩
set_option maxHeartbeats 1000000 in
theorem new_bad (A : Option Addr) (c : Nat) (p : List Int) (w : World) (hl : p.length ≤ 8) (hp : RdI w A p) (hb : permB p = false) : Calls Tryz.prog 61 #[.slice A p.length c] w fun e w' => e = .returned (.tuple #[.pointer none, .int .i64 1]) ∧ Below w.heap.size w w' := by
  have h8 : ¬ (8 : Int) < (p.length : Int) := by omega
  have HP := Lib.hid (perm_any A c p w hp (by omega))
  rw [hb] at HP
  clear hp hb
  go_enter Tryz.func61, Tryz.ntmps61
  go_wp2_with (go_at_call 78; refine HP.out.mono ?_; rintro e w1 ⟨rfl, h1⟩)
  go_ret2
  exact ⟨rfl, h1⟩
structure NewC (p : List Int) (w w' : World) (g : Nat) (P : Option Addr) (cp : Nat) : Prop where
  fresh : w.heap.size ≤ g
  row : ∀ a, P = some a → w.heap.size ≤ a.block
  row' : ∀ a, P = some a → a.block < g
  blk : blkT g P p.length cp none 0 w'
  rp : RdI w' P p
  cap : p.length ≤ cp
  capm : cp ≤ maxLen
  b : Below w.heap.size w w'
set_option maxHeartbeats 1000000 in
theorem new_any (A : Option Addr) (c : Nat) (p : List Int) (w : World) (hl : p.length ≤ 8) (hp : RdI w A p) (hb : permB p = true) : Calls Tryz.prog 61 #[.slice A p.length c] w fun e w' => ∃ g P cp, e = .returned (.tuple #[.pointer (some ⟨g, 0, none⟩), .int .i64 0]) ∧ NewC p w w' g P cp := by
  have h8 : ¬ (8 : Int) < (p.length : Int) := by omega
  have HP := Lib.hid (perm_any A c p w hp (by omega))
  have HC := Lib.hid (fun W (hW : Below w.heap.size w W) => cloneI_in A c p W (hp.on hW) (by omega))
  rw [hb] at HP
  clear hp hb
  go_enter Tryz.func61, Tryz.ntmps61
  go_wp2_with (first
    | (go_at_call 78; refine HP.out.mono ?_; rintro e w1 ⟨rfl, h1⟩)
    | (go_at_call 62; refine (HC.out _ ?_).mono ?_; (first | exact h1 | exact h1.drew | (refine h1.alloc h1.size _) | (refine (h1.alloc h1.size _).drew)); rintro e w2 ⟨A', c', rfl, hr, ho, hc1, hc2, h2⟩; replace ho := Lib.hid ho; replace h2 := Lib.hid h2; replace hr := Lib.hid hr))
  go_ret2
  have h3 := (Below.refl w2.heap.size w2).alloc (Nat.le_refl _) (.cells #[.slice A' p.length c', .pointer none, .int .i64 0] 107)
  exact ⟨w2.heap.size, A', c', rfl, Nat.le_trans h1.size h2.out.size, fun a ha => Nat.le_trans h1.size (ho.out a ha).1, fun a ha => (ho.out a ha).2, heap_alloc_new _ _, hr.out.on h3, hc1, hc2, (h1.trans (h2.out.mono h1.size)).trans (h3.mono (Nat.le_trans h1.size h2.out.size))⟩
end Go.Proofs.YtpmkhpbhimmeiaaGreat

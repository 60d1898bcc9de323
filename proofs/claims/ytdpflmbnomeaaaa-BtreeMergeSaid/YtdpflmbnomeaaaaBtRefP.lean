/-
  Contract of the document's own Put (package antecedentref04).
-/
import Derived.Test.YtdpflmbnomeaaaaBtRefT
import Derived.Maps.AppendAt
namespace Go.Proofs.Ytdpflmbnomeaaaa
open Go.RowKit FloM ValM Go.Shelf
set_option linter.unusedVariables false
set_option linter.unusedSimpArgs false

theorem blkR_fz {b : Nat} {P A : Option Addr} {m cp n c : Nat} {w : World} (hb : blkR b P m cp A n c w) (i : Nat) : w.frozen? ⟨b, i, none⟩ = false := by simp [World.frozen?, show w.heap[b]? = _ from hb]
set_option maxHeartbeats 1000000 in
theorem refPut_far {X : Nat → Prop} {b : Nat} {p : List Int} {M : List (List V)} (n : Nat) (B : Option Addr) (cb : Nat) (w : World) (h : RefS X w b p M) (hn : n ≠ p.length) :
    Calls Try.prog 20 #[.pointer (some ⟨b, 0, none⟩), .slice B n cb] w fun e w' => e = .returned (.tuple #[.bool false, .int .i64 1]) ∧ w = w' := by
  obtain ⟨P, cp, A, c, xs, h1, h2, h3, h4, h5, h6, h7, h8, h9, h10⟩ := h.ex
  have c0 : w.cell? ⟨b, 0, none⟩ = some (.slice P p.length cp) := by simp [World.cell?, show w.heap[b]? = _ from h1]
  have hn' : ((n : Int) != (p.length : Int)) = true := by simp; omega
  clear h1 h2 h3 h4 h5 h
  go_enter Try.func20, Try.ntmps20
  go_wp2
  go_ret2
  exact ⟨rfl, rfl⟩
/-! ### The rows that are put together -/
structure T1 (w : World) (A1 : Option Addr) (n k1 : Nat) (cs : List Value) (w1 : World) : Prop where
  b : Below w.heap.size w w1
  o : w1.ownsRow w.heap.size 24 1 (.slice A1 n k1) n cs
theorem tail1 {w W w1 : World} {A1 : Option Addr} {k k1 : Nat} {cs : List Value} (hB : Below w.heap.size w W) (ho : w1.ownsRow w.heap.size 24 1 (.slice A1 k k1) k ([] ++ cs)) (hg : W.grownBy w1 (Value.slice none 0 0).ownBlock) : T1 w A1 k k1 cs w1 :=
  ⟨hB.grown hg hB.size (fun k hk => by simp [Value.ownBlock] at hk), by simpa using ho⟩
theorem T1.next {w w1 w3 : World} {A1 : Option Addr} {n k1 : Nat} {cs : List Value} (h : T1 w A1 n k1 cs w1) (hb : Below w1.heap.size w1 w3) : T1 w A1 n k1 cs w3 := ⟨h.b.trans (hb.mono h.b.size), own_on h.o hb⟩
/-- A tuple of memory of its own. -/
structure TupW (w : World) (A2 : Option Addr) (k2 : Nat) (a : List V) (W : World) : Prop where
  rd : RdV W A2 a
  lo : ∀ z, A2 = some z → w.heap.size ≤ z.block
  cap : a.length ≤ k2
  ty : ∀ z, A2 = some z → ∃ c f, W.heap[z.block]? = some (.cells c 51 f)
theorem TupW.same {w W W' : World} {A2 : Option Addr} {k2 : Nat} {a : List V} (h : TupW w A2 k2 a W) (hs : W.heap.size ≤ W'.heap.size) (hb : ∀ z, A2 = some z → W'.heap[z.block]? = W.heap[z.block]?) : TupW w A2 k2 a W' :=
  ⟨fun i v hv => by
    obtain ⟨b, o, e, hl, c0, c1, c2⟩ := h.rd i v hv
    have hh := hb _ e
    have cc : ∀ o', W'.cell? ⟨b, o', none⟩ = W.cell? ⟨b, o', none⟩ := fun o' => World.cell?_of_block (w := W) hh
    exact ⟨b, o, e, Nat.lt_of_lt_of_le hl hs, (cc _).trans c0, (cc _).trans c1, (cc _).trans c2⟩, h.lo, h.cap, fun z hz => by
    obtain ⟨c, f, hc⟩ := h.ty z hz
    exact ⟨c, f, (hb z hz).trans hc⟩⟩
structure T2 (w : World) (A1 : Option Addr) (n k1 : Nat) (cs : List Value) (A2 : Option Addr) (k2 : Nat) (a : List V) (w3 : World) : Prop where
  t : T1 w A1 n k1 cs w3
  v : TupW w A2 k2 a w3
  sep : ∀ z, A2 = some z → (Value.slice A1 n k1).ownBlock ≠ some z.block
theorem own_blk {w : World} {base size : Nat} {e : TypeId} {v : Value} {n : Nat} {xs : List Value} (h : w.ownsRow base e size v n xs) : ∀ k, v.ownBlock = some k → k < w.heap.size := fun k hk => by
  rcases h.2 with ⟨e, _⟩ | ⟨g, cap, cur, e, _, hgg, _⟩
  · rw [e] at hk; simp [Value.ownBlock] at hk
  · rw [e] at hk
    have hgk : g = k := by simpa [Value.ownBlock] using hk
    subst hgk
    exact (Array.getElem?_eq_some_iff.1 hgg).1
theorem tail2 {w w1 w3 : World} {A1 A2 : Option Addr} {n k1 k2 : Nat} {cs : List Value} {a : List V} (h : T1 w A1 n k1 cs w1) (ho : w3.ownsRow w1.heap.size 51 3 (.slice A2 a.length k2) a.length (vcells a))
    (hg : (w1.alloc (.cells #[] 51)).grownBy w3 (Value.slice (some ⟨w1.heap.size, 0, none⟩) ([] : List V).length 0).ownBlock) : T2 w A1 n k1 cs A2 k2 a w3 := by
  have hb : Below w1.heap.size w1 w3 := ((Below.refl _ _).alloc (Nat.le_refl _) _).grown hg (by simp) (own_base (own_made0 w1))
  refine ⟨h.next hb, ⟨own_rdV ho, fun z hz => by subst hz; have := own_base ho z.block rfl; have := h.b.size; omega, (own_cap ho).1, fun z hz => own_ty ho z hz⟩, fun z hz e => ?_⟩
  subst hz
  have h1 := own_base ho z.block rfl
  have h2 := own_blk h.o _ e
  omega
theorem tail3 {w w3 w5 : World} {A1 A2 A5 : Option Addr} {n k1 k2 k5 : Nat} {cs : List Value} {a : List V} {c : Obj} (h : T2 w A1 n k1 cs A2 k2 a w3) (ho : w5.ownsRow w.heap.size 24 1 (.slice A5 (n + 1) k5) (n + 1) (cs ++ [.slice A2 a.length k2]))
    (hg : (w3.alloc c).grownBy w5 (Value.slice A1 n k1).ownBlock) (hv : (Value.slice A5 (n + 1) k5).ownBlock = (Value.slice A1 n k1).ownBlock ∨ (Value.slice A5 (n + 1) k5).ownBlock = some (w3.alloc c).heap.size) : T2 w A5 (n + 1) k5 (cs ++ [.slice A2 a.length k2]) A2 k2 a w5 := by
  have hb1 : Below w.heap.size w (w3.alloc c) := h.t.b.alloc h.t.b.size c
  have hlt : ∀ z, A2 = some z → z.block < w3.heap.size := fun z hz => by obtain ⟨_, _, hc⟩ := h.v.ty z hz; exact (Array.getElem?_eq_some_iff.1 hc).1
  refine ⟨⟨hb1.grown hg hb1.size (own_base h.t.o), ho⟩, h.v.same (Nat.le_trans (by simp) hg.size) (fun z hz => ?_), fun z hz e => ?_⟩
  · have h1 := hlt z hz
    rw [hg.block z.block (by simp; omega) (fun e => h.sep z hz e.symm), Below.heap_alloc _ _ _ h1]
  · rcases hv with hv | hv
    · exact h.sep z hz (hv ▸ e)
    · rw [hv] at e
      have h1 := hlt z hz
      injection e with e
      simp at e; omega
structure T4 (w : World) (A6 : Option Addr) (n k6 : Nat) (cs : List Value) (A2 : Option Addr) (k2 : Nat) (a : List V) (w6 : World) : Prop where
  t : T1 w A6 n k6 cs w6
  v : TupW w A2 k2 a w6
theorem tail4 {w w5 w6 : World} {A5 A6 A2 : Option Addr} {n m k5 k6 k2 : Nat} {cs ds : List Value} {a : List V} (h : T2 w A5 n k5 cs A2 k2 a w5) (ho : w6.ownsRow w.heap.size 24 1 (.slice A6 m k6) m ds)
    (hg : w5.grownBy w6 (Value.slice A5 n k5).ownBlock) : T4 w A6 m k6 ds A2 k2 a w6 := by
  have hlt : ∀ z, A2 = some z → z.block < w5.heap.size := fun z hz => by obtain ⟨_, _, hc⟩ := h.v.ty z hz; exact (Array.getElem?_eq_some_iff.1 hc).1
  exact ⟨⟨h.t.b.grown hg h.t.b.size (own_base h.t.o), ho⟩, h.v.same hg.size fun z hz => hg.block z.block (hlt z hz) (fun e => h.sep z hz e.symm)⟩
theorem sort_more {p : List Int} {M : List (List V)} (h : SortS p M) {k : Nat} {x a : List V} (hx : M[k]? = some x) (h1 : cmpC p x a = 1) : ∀ z ∈ M.drop k, cmpC p z a = 1 := fun z hz => by
  rw [drop_at hx] at hz
  rcases List.mem_cons.1 hz with rfl | hz
  · exact h1
  · have e := split_take hx
    have hs := h
    unfold SortS at hs
    rw [e] at hs
    have h2 := (List.pairwise_cons.1 (List.pairwise_append.1 hs).2.1).1 z hz
    have h3 : cmpC p a x = -1 := by rw [cmpC_anti]; omega
    rw [cmpC_anti, cmpC_lt h3 h2]; rfl
theorem refPut_end {X : Nat → Prop} {w w6 : World} {b : Nat} {p : List Int} {M : List (List V)} {P A A2 A6 : Option Addr} {cp c k k2 k6 : Nat} {xs : List Sl} {a : List V} (h : RefS X w b p M) (h1 : blkR b P p.length cp A xs.length c w) (h2 : RdI w P p) (h3 : Off X P) (h4 : RdT X w A xs) (h5 : lsOf xs = M) (h6 : p.length ≤ cp) (h7 : cp ≤ maxLen)
    (ha : a.length = p.length) (hk : k ≤ M.length) (hless : ∀ z ∈ M.take k, cmpC p z a = -1) (hmore : ∀ z ∈ M.drop k, cmpC p z a = 1) (hX : ∀ i, X i → i < w.heap.size)
    (t : T4 w A6 (k + 1 + (M.length - k)) k6 ((xs.map Sl.val).take k ++ [.slice A2 a.length k2] ++ (xs.map Sl.val).drop k) A2 k2 a w6) :
    putB p a M = true ∧ putE p a = 0 ∧ RefS X (w6.setCell ⟨b, 1, none⟩ (.slice A6 (k + 1 + (M.length - k)) k6)) b p (putM p a M) ∧ Fr (· = b) w.heap.size w (w6.setCell ⟨b, 1, none⟩ (.slice A6 (k + 1 + (M.length - k)) k6)) := by
  have hlt := h.lt
  have hxl : xs.length = M.length := by rw [← h5]; simp [lsOf]
  have hins : insS p a M = M.take k ++ a :: M.drop k := by
    have := ins_parts hless hmore
    rwa [List.take_append_drop] at this
  have hno : inS p a M = false := inS_not.2 fun z hz => by
    rw [← List.take_append_drop k M] at hz
    rcases List.mem_append.1 hz with hz | hz
    · have := hless z hz; omega
    · have := hmore z hz; omega
  have hput : putM p a M = M.take k ++ a :: M.drop k := by unfold putM; rw [if_pos ha, hins]
  have s6 := t.t.b.size
  have hfs : Fr (· = b) w6.heap.size w6 (w6.setCell ⟨b, 1, none⟩ (.slice A6 (k + 1 + (M.length - k)) k6)) := fr_set w6 b 1 _ _
  have hF : Fr (· = b) w.heap.size w (w6.setCell ⟨b, 1, none⟩ (.slice A6 (k + 1 + (M.length - k)) k6)) := (Fr.of t.t.b).trans (hfs.mono s6)
  have hFX : Fr X w.heap.size w (w6.setCell ⟨b, 1, none⟩ (.slice A6 (k + 1 + (M.length - k)) k6)) := hF.sub fun i _ hi => by subst hi; exact h.mem
  have hoA : Off (· = b) A6 := own_off t.t.o fun i hi => by subst hi; exact hlt
  have hoX : Off X A6 := own_off t.t.o hX
  have hb6 : blkR b P p.length cp A xs.length c w6 := (t.t.b.block _ hlt).trans h1
  refine ⟨by unfold putB; rw [hno, decide_eq_true ha]; rfl, by unfold putE; rw [if_pos ha], ⟨⟨P, cp, A6, k6, xs.take k ++ ⟨A2, k2, a⟩ :: xs.drop k, ?_, h2.onF h3 hFX, h3, ⟨?_, hoX, fun x hx => ?_⟩, ?_, h6, h7, ?_, (own_cap t.t.o).2, ?_⟩, h.mem, ?_, h.perm, h.few⟩, hF⟩
  · have := heap_set' (w := w6) (D := b) (o := 1) (cs := [.slice P p.length cp, .slice A xs.length c]) (t := 39) (z := (0, 0)) (.slice A6 (k + 1 + (M.length - k)) k6) hb6
    simp only [List.set_cons_succ, List.set_cons_zero] at this
    have hl : (xs.take k ++ (⟨A2, k2, a⟩ : Sl) :: xs.drop k).length = k + 1 + (M.length - k) := by simp; omega
    unfold blkR
    rw [hl]; exact this
  · have e : (xs.take k ++ (⟨A2, k2, a⟩ : Sl) :: xs.drop k).map Sl.val = (xs.map Sl.val).take k ++ [.slice A2 a.length k2] ++ (xs.map Sl.val).drop k := by simp [Sl.val]
    rw [e]
    exact (own_rdC t.t.o).onF hoA hfs
  · rcases List.mem_append.1 hx with hx | hx
    · exact (h4.each x (List.mem_of_mem_take hx)).onF hFX
    · rcases List.mem_cons.1 hx with rfl | hx
      · have hv := t.v.same (W' := w6.setCell ⟨b, 1, none⟩ (.slice A6 (k + 1 + (M.length - k)) k6)) hfs.size fun z hz => Below.heap_setCell _ _ _ _ (by have := t.v.lo z hz; simp; omega)
        exact ⟨hv.rd, fun z hz hx => by have := t.v.lo z hz; have := hX _ hx; omega, hv.cap, hv.ty⟩
      · exact (h4.each x (List.mem_of_mem_drop hx)).onF hFX
  · rw [hput, ← h5]; simp [lsOf]
  · have := (own_cap t.t.o).1; simp; omega
  · intro hnil; simp at hnil
  · have := h.fit.put a; exact this
/-! ### The walk -/
def RPutRel (w : World) (p : List Int) (M : List (List V)) (a : List V) (i : Value) (wr : World) : Prop := ∃ k : Nat, i = .int .i64 (k : Nat) ∧ k ≤ M.length ∧ Below w.heap.size w wr ∧ ∀ z ∈ M.take k, cmpC p z a = -1
section
variable {X : Nat → Prop} {b : Nat} {p : List Int} {M : List (List V)}
set_option maxRecDepth 20000 in
set_option maxHeartbeats 8000000 in
theorem refPut_nil (B : Option Addr) (cb : Nat) (a : List V) (w : World) (h : RefS X w b p M) (hr : RdV w B a) (ha : a.length = p.length) (hM : M = []) (hX : ∀ i, X i → i < w.heap.size) :
    Calls Try.prog 20 #[.pointer (some ⟨b, 0, none⟩), .slice B a.length cb] w fun e w' => e = .returned (.tuple #[.bool (putB p a M), .int .i64 (putE p a)]) ∧ RefS X w' b p (putM p a M) ∧ Fr (· = b) w.heap.size w w' := by
  have hlt := h.lt
  have hfew := h.few
  obtain ⟨P, cp, A, c, xs, h1, h2, h3, h4, h5, h6, h7, h8, h9, h10⟩ := h.ex
  obtain rfl : xs = [] := by rw [hM] at h5; simpa [lsOf] using h5
  obtain ⟨rfl, rfl⟩ := h10 rfl
  have c0 : w.cell? ⟨b, 0, none⟩ = some (.slice P p.length cp) := by simp [World.cell?, show w.heap[b]? = _ from h1]
  have c1 : w.cell? ⟨b, 1, none⟩ = some (.slice none 0 0) := by simp [World.cell?, show w.heap[b]? = _ from h1]
  have hne : ((a.length : Int) != (p.length : Int)) = false := by simp; omega
  have hal : a.length ≤ 8 := by omega
  obtain ⟨i0, hi0, hz0, hz1, hz2⟩ := info_parts info_tup
  have HI := Lib.hid (And.intro hi0 (And.intro hz0 (And.intro hz1 hz2)))
  have HA := Lib.hid hr; have HS := Lib.hid h; have H1 := Lib.hid h1; have H2 := Lib.hid h2; have H3 := Lib.hid h3; have H4 := Lib.hid h4; have H5 := Lib.hid h5; have HX := Lib.hid hX; have HC7 := Lib.hid h7; have HAL := Lib.hid ha
  have HMM := Lib.hid hM
  clear h1 h2 h3 h4 h5 hr h hX h7 h10 hi0 hz0 hz1 hz2 ha
  subst hM
  go_enter Try.func20, Try.ntmps20
  go_wp2
  go_loopw [6] (fun i wr => i = .int .i64 0 ∧ Below w.heap.size w wr) (fun i _ => 0)
  case atStart => exact ⟨rfl, Below.refl _ _⟩
  case round =>
    obtain ⟨rfl, hB⟩ := hrel
    have c1' := (keep hB _ _ hlt).trans c1
    go_wp2_with fail
    go_quiet (fail)
    all_goals
      have hBW : ∀ n, Below w.heap.size w (wr.drewN n) := fun n => on hB (bel_drawN wr n)
      have e0 : ∀ n, (wr.drewN n).cell? ⟨b, 1, none⟩ = some (.slice none 0 0) := fun n => (keep (hBW n) _ 1 hlt).trans c1
      have LENK := Lib.hid (rfl : ([] : List Value).length = 0)
      have LEND := Lib.hid (rfl : ([] : List Value).length = 0)
      have ROWK : Hid (∀ W', Below w.heap.size w W' → RdC W' none []) := fun _ _ => RdC.nil
      have ROWD : Hid (∀ W', Below w.heap.size w W' → RdC W' none []) := fun _ _ => RdC.nil
      have ROWD2 := ROWD
      obtain ⟨hi0, hz0, hz1, hz2⟩ := HI.out
      go_wp2_with (first
        | (at_builtin; refine wpList_appC rfl (.tmp 60) (.tmp 66) 23 rfl w.heap.size 24 i0 _ 24 Try.underlying23 hi0 hz0 hz1 hz2 rfl (by omega) none 0 0 [] rfl (own_nil _ _ _ _) none 0 0 [] LENK.out rfl (ROWK.out _ (hBW _)) (fun u hu => by cases hu) (by omega) (hBW _).size ?_; intro A1 k1 w1 ho1 hg1; rw [Nat.zero_add] at ho1; rw [Nat.zero_add]; have t1 := Lib.hid (tail1 (hBW _) ho1 hg1); clear ho1 hg1)
        | (at_builtin; refine wpList_appV rfl (.tmp 68) (.tmp 69) rfl w1.heap.size (some ⟨w1.heap.size, 0, none⟩) 0 [] a a rfl rfl (own_made0 w1) B cb rfl (HA.out.on (t1.out.b.alloc t1.out.b.size _)) (by simp; omega) (by simp) ?_; intro A2 k2 w3 ho2 hg2; have t2 := Lib.hid (tail2 t1.out ho2 hg2); clear ho2 hg2)
        | (at_builtin; refine wpList_append_own_at _ rfl (.tmp 67) (.tmp 71) _ rfl w.heap.size 24 i0 (.slice none 0 0) 1 24 Try.underlying23 hi0 hz0 hz1 hz2 rfl (by decide) (.slice A1 0 k1) 0 [] rfl (own_on t2.out.t.o ((Below.refl _ _).alloc (Nat.le_refl _) _)) ⟨w3.heap.size, 0, none⟩ 1 1 [.slice A2 a.length k2] rfl rfl (cell_one_new _ _ _) (by simp [Value.oneCell']) (by unfold maxLen; omega) (by omega) (by have := t2.out.t.b.size; simp; omega) ?_; intro v' w5 ho3 hg3 _ hv3; obtain ⟨A5, k5, rfl⟩ := own_form ho3; have t3 := Lib.hid (tail3 t2.out ho3 hg3 hv3); have e1 := (keep t3.out.t.b _ 1 hlt).trans c1; clear ho3 hg3 hv3)
        | (at_builtin; refine wpList_appC rfl (.tmp 74) (.tmp 80) 23 rfl w.heap.size 24 i0 _ 24 Try.underlying23 hi0 hz0 hz1 hz2 rfl (by omega) A5 (0 + 1) k5 _ rfl t3.out.t.o _ _ 0 [] LEND.out rfl (by first | exact ROWD.out _ t3.out.t.b | exact ROWD2.out _ t3.out.t.b) (fun u hu => by cases hu) (by omega) t3.out.t.b.size ?_; intro A6 k6 w6 ho4 hg4; have t4 := Lib.hid (tail4 t3.out ho4 hg4); have fz := blkR_fz ((t4.out.t.b.block _ hlt).trans H1.out) 1; have e2 := (keep t4.out.t.b _ 1 hlt).trans c1; clear ho4 hg4))
      all_goals go_ret2
      all_goals obtain ⟨q1, q2, q3, q4⟩ := refPut_end (k := 0) HS.out H1.out H2.out H3.out H4.out H5.out h6 HC7.out HAL.out (Nat.le_refl _) (fun z hz => by simp at hz) (fun z hz => by simp at hz) HX.out t4.out
      all_goals exact ⟨by rw [q1, q2]; rfl, q3, q4⟩
set_option maxRecDepth 20000 in
set_option maxHeartbeats 16000000 in
theorem refPut_some (B : Option Addr) (cb : Nat) (a : List V) (w : World) (h : RefS X w b p M) (hr : RdV w B a) (ha : a.length = p.length) (hM : M ≠ []) (hMl : M.length ≤ 100000) (hX : ∀ i, X i → i < w.heap.size) :
    Calls Try.prog 20 #[.pointer (some ⟨b, 0, none⟩), .slice B a.length cb] w fun e w' => e = .returned (.tuple #[.bool (putB p a M), .int .i64 (putE p a)]) ∧ RefS X w' b p (putM p a M) ∧ Fr (· = b) w.heap.size w w' := by
  have hlt := h.lt
  have hfew := h.few
  obtain ⟨P, cp, A, c, xs, h1, h2, h3, h4, h5, h6, h7, h8, h9, h10⟩ := h.ex
  have hxl : xs.length = M.length := by rw [← h5]; simp [lsOf]
  have hM0 : 0 < M.length := List.length_pos_iff.2 hM
  have HL := Lib.hid (h.short (P := P) h4 h5)
  obtain ⟨tb, tq, rfl, htb, hrow⟩ := HL.out.row (by omega)
  have c0 : w.cell? ⟨b, 0, none⟩ = some (.slice P p.length cp) := by simp [World.cell?, show w.heap[b]? = _ from h1]
  have c1 : w.cell? ⟨b, 1, none⟩ = some (.slice (some ⟨tb, tq, none⟩) xs.length c) := by simp [World.cell?, show w.heap[b]? = _ from h1]
  have hne : ((a.length : Int) != (p.length : Int)) = false := by simp; omega
  have hal : a.length ≤ 8 := by omega
  obtain ⟨i0, hi0, hz0, hz1, hz2⟩ := info_parts info_tup
  have HI := Lib.hid (And.intro hi0 (And.intro hz0 (And.intro hz1 hz2)))
  have hrk : ∀ k W', Below w.heap.size w W' → RdC W' (some ⟨tb, tq, none⟩) ((xs.map Sl.val).take k) := fun k W' hW => (h4.rd.on hW).take k
  have hrd : ∀ k W', Below w.heap.size w W' → RdC W' (if c = k then some ⟨tb, tq, none⟩ else some ⟨tb, tq + k, none⟩) ((xs.map Sl.val).drop k) := fun k W' hW => rdC_from (h4.rd.on hW) (by simpa using h8)
  have hrd2 : ∀ k W', Below w.heap.size w W' → RdC W' (some ⟨tb, tq + k, none⟩) ((xs.map Sl.val).drop k) := fun k W' hW => (h4.rd.on hW).drop k
  have HRD2 := Lib.hid hrd2
  clear hrd2
  have hlk : ∀ k, k ≤ M.length → ((xs.map Sl.val).take k).length = k := fun k hk => by rw [List.length_take, List.length_map]; omega
  have hld : ∀ k, k ≤ M.length → ((xs.map Sl.val).drop k).length = M.length - k := fun k hk => by rw [List.length_drop, List.length_map]; omega
  have HRK := Lib.hid hrk; have HRD := Lib.hid hrd; have HLK := Lib.hid hlk; have HLD := Lib.hid hld; have HROW := Lib.hid hrow
  have HA := Lib.hid hr; have HS := Lib.hid h; have H1 := Lib.hid h1; have H2 := Lib.hid h2; have H3 := Lib.hid h3; have H4 := Lib.hid h4; have H5 := Lib.hid h5; have HX := Lib.hid hX; have HC7 := Lib.hid h7; have HAL := Lib.hid ha
  clear h1 h2 h3 h4 h5 hr h hX h7 h10 hi0 hz0 hz1 hz2 ha hM hrk hrd hlk hld hrow
  rw [hxl] at c1
  have hmc : M.length ≤ c := by omega
  have hcm : c ≤ 9223372036854775807 := by unfold maxLen at h9; omega
  go_enter Try.func20, Try.ntmps20
  go_wp2
  go_loopw [6] (fun i wr => RPutRel w p M a i wr) (fun i _ => M.length - (intOf i).toNat)
  case atStart => exact ⟨0, rfl, Nat.zero_le _, Below.refl _ _, fun z hz => by simp at hz⟩
  case round =>
    obtain ⟨k, rfl, hk, hB, hn⟩ := hrel
    have HN := Lib.hid hn; clear hn
    have c0' := (keep hB _ _ hlt).trans c0
    have c1' := (keep hB _ _ hlt).trans c1
    have hbl : b < wr.heap.size := Nat.lt_of_lt_of_le hlt hB.size
    have htb' : tb < wr.heap.size := Nat.lt_of_lt_of_le htb hB.size
    have LENK := Lib.hid (HLK.out k hk); have LEND := Lib.hid (HLD.out k hk); have ROWK := Lib.hid (HRK.out k); have ROWD := Lib.hid (HRD.out k); have ROWD2 := Lib.hid (HRD2.out k)
    have hj1 : (0 : Int) ≤ (k : Int) := by omega
    have hj3 : (k : Int) ≤ (c : Int) := by omega
    have hj4 : (k : Int) ≤ (M.length : Int) := by omega
    have hj5 : (M.length : Int) ≤ (c : Int) := by omega
    by_cases hlk : k < M.length
    · have hx := List.getElem?_eq_getElem (show k < xs.length by omega)
      generalize xs[k] = x at hx
      have hc := (keep hB _ _ htb).trans (HROW.out k x hx)
      have hm := lsOf_at hx
      rw [H5.out] at hm
      have hx1 := (HL.out.on hB).each x (List.mem_of_getElem? hx)
      have hxe := HS.out.fit.lens x.l (List.mem_of_getElem? hm)
      have hxw : x.l.length ≤ 1000 := by omega
      have HX1 := Lib.hid hx1; have HM := Lib.hid hm; have HXE := Lib.hid hxe
      clear hx hm hx1 hxe
      have hj2 : (k : Int) < (M.length : Int) := by omega
      have hcase := cmpC_rng p x.l a
      rcases hcase with hr | hr | hr
      · have HR := Lib.hid hr; clear hr
        go_wp2_with fail
        go_region_held3 (fun u => Below wr.heap.size wr u ∧ u.cell? ⟨b, 0, none⟩ = some (.slice P p.length cp) ∧ u.cell? ⟨b, 1, none⟩ = some (.slice (some ⟨tb, tq, none⟩) M.length c) ∧ u.cell? ⟨tb, tq + k, none⟩ = some (.slice x.A x.l.length x.c))
          (first | exact ⟨Below.refl _ _, c0', c1', hc⟩ | exact ⟨(Below.refl _ _).drew, c0', c1', hc⟩ | exact ⟨h4, (k4 _ _ hbl).trans c0', (k4 _ _ hbl).trans c1', (k4 _ _ htb').trans hc⟩)
          ((go_at_call 31; refine (refCompareT_any x.A B P x.c cb cp x.l a p _ (HX1.out.1.on (Below.refl _ _).drew) ((HA.out.on hB).on (Below.refl _ _).drew) ((H2.out.on hB).on (Below.refl _ _).drew) hxw (by omega) (by omega)).mono ?_; rintro e w4 ⟨rfl, h4⟩; rw [show ordV (pickL x.l p) (pickL a p) = -1 from HR.out]; replace h4 : Below wr.heap.size wr w4 := (Below.refl wr.heap.size wr).drew.trans h4; have k4 := keep h4))
        all_goals
          go_wp2
          go_roundw
          case rel => exact ⟨k + 1, by go_num, by omega, on hB h4, fun z hz => by
            rw [take_snoc' HM.out, List.mem_append, List.mem_singleton] at hz
            rcases hz with hz | rfl
            · exact HN.out z hz
            · exact HR.out⟩
          case measure => simp [intOf]; omega
      · have hxa := (cmpC_zero HS.out.perm HXE.out HAL.out).1 hr
        have HR := Lib.hid hr; clear hr
        have HR2 := Lib.hid (show ordV x.l a = 0 by rw [hxa]; exact ord_self _)
        have HQ := Lib.hid (show putB p a M = false ∧ putE p a = 0 ∧ putM p a M = M from by
          have hi : inS p a M = true := inS_iff.2 ⟨x.l, List.mem_of_getElem? HM.out, HR.out⟩
          refine ⟨by unfold putB; rw [hi, Bool.not_true, Bool.and_false], by unfold putE; rw [if_pos HAL.out], by unfold putM; rw [if_pos HAL.out, ins_same HS.out.fit.sort hi]⟩)
        clear hxa
        go_wp2_with fail
        go_region_held3 (fun u => Below wr.heap.size wr u ∧ u.cell? ⟨b, 0, none⟩ = some (.slice P p.length cp) ∧ u.cell? ⟨b, 1, none⟩ = some (.slice (some ⟨tb, tq, none⟩) M.length c) ∧ u.cell? ⟨tb, tq + k, none⟩ = some (.slice x.A x.l.length x.c))
          (first | exact ⟨Below.refl _ _, c0', c1', hc⟩ | exact ⟨(Below.refl _ _).drew, c0', c1', hc⟩ | exact ⟨h4, (k4 _ _ hbl).trans c0', (k4 _ _ hbl).trans c1', (k4 _ _ htb').trans hc⟩)
          ((go_at_call 31; refine (refCompareT_any x.A B P x.c cb cp x.l a p _ (HX1.out.1.on (Below.refl _ _).drew) ((HA.out.on hB).on (Below.refl _ _).drew) ((H2.out.on hB).on (Below.refl _ _).drew) hxw (by omega) (by omega)).mono ?_; rintro e w4 ⟨rfl, h4⟩; rw [show ordV (pickL x.l p) (pickL a p) = 0 from HR.out]; replace h4 : Below wr.heap.size wr w4 := (Below.refl wr.heap.size wr).drew.trans h4; have k4 := keep h4))
        all_goals
          go_wp2_with ((go_at_call 34; refine (refOrder_any x.A B x.c cb x.l a _ (HX1.out.1.on h4) (HA.out.on (on hB h4)) (by unfold maxLen; omega) (by unfold maxLen; omega)).mono ?_; rw [HR2.out]; rintro e w4b ⟨rfl, h4b⟩; have hBW := on (on hB h4) h4b; have e0 := (keep hBW _ 1 hlt).trans c1))
          go_ret2
          obtain ⟨q1, q2, q3⟩ := HQ.out
          exact ⟨by rw [q1, q2]; rfl, by rw [q3]; exact HS.out.on hBW, Fr.of hBW⟩
      · have HR := Lib.hid hr
        obtain ⟨r2, hr2⟩ : ∃ r2, ordV x.l a = r2 := ⟨_, rfl⟩
        have hr0 : (r2 == 0) = false := by
          rw [← hr2, beq_eq_false_iff_ne]; intro h0
          rw [(ord_zero _ _).1 h0, cmpC_self] at hr; omega
        have HMORE := Lib.hid (sort_more HS.out.fit.sort HM.out hr)
        have HR2 := Lib.hid hr2
        clear hr hr2
        go_wp2_with fail
        go_region_held3 (fun u => Below wr.heap.size wr u ∧ u.cell? ⟨b, 0, none⟩ = some (.slice P p.length cp) ∧ u.cell? ⟨b, 1, none⟩ = some (.slice (some ⟨tb, tq, none⟩) M.length c) ∧ u.cell? ⟨tb, tq + k, none⟩ = some (.slice x.A x.l.length x.c))
          (first | exact ⟨Below.refl _ _, c0', c1', hc⟩ | exact ⟨(Below.refl _ _).drew, c0', c1', hc⟩ | exact ⟨h4, (k4 _ _ hbl).trans c0', (k4 _ _ hbl).trans c1', (k4 _ _ htb').trans hc⟩)
          ((go_at_call 31; refine (refCompareT_any x.A B P x.c cb cp x.l a p _ (HX1.out.1.on (Below.refl _ _).drew) ((HA.out.on hB).on (Below.refl _ _).drew) ((H2.out.on hB).on (Below.refl _ _).drew) hxw (by omega) (by omega)).mono ?_; rintro e w4 ⟨rfl, h4⟩; rw [show ordV (pickL x.l p) (pickL a p) = 1 from HR.out]; replace h4 : Below wr.heap.size wr w4 := (Below.refl wr.heap.size wr).drew.trans h4; have k4 := keep h4))
        all_goals
          obtain ⟨hi0, hz0, hz1, hz2⟩ := HI.out
          go_wp2_with (first
            | (go_at_call 34; refine (refOrder_any x.A B x.c cb x.l a _ (HX1.out.1.on h4) (HA.out.on (on hB h4)) (by unfold maxLen; omega) (by unfold maxLen; omega)).mono ?_; rw [HR2.out]; rintro e w4b ⟨rfl, h4b⟩; have hBW := on (on hB h4) h4b; have e0 := (keep hBW _ 1 hlt).trans c1)
            | (at_builtin; refine wpList_appC rfl (.tmp 60) (.tmp 66) 23 rfl w.heap.size 24 i0 _ 24 Try.underlying23 hi0 hz0 hz1 hz2 rfl (by omega) none 0 0 [] rfl (own_nil _ _ _ _) (some ⟨tb, tq, none⟩) c k ((xs.map Sl.val).take k) LENK.out rfl (ROWK.out _ hBW) (fun u hu => tup_cells xs u (List.mem_of_mem_take hu)) (by omega) hBW.size ?_; intro A1 k1 w1 ho1 hg1; rw [Nat.zero_add] at ho1; rw [Nat.zero_add]; have t1 := Lib.hid (tail1 hBW ho1 hg1); clear ho1 hg1)
            | (at_builtin; refine wpList_appV rfl (.tmp 68) (.tmp 69) rfl w1.heap.size (some ⟨w1.heap.size, 0, none⟩) 0 [] a a rfl rfl (own_made0 w1) B cb rfl (HA.out.on (t1.out.b.alloc t1.out.b.size _)) (by simp; omega) (by simp) ?_; intro A2 k2 w3 ho2 hg2; have t2 := Lib.hid (tail2 t1.out ho2 hg2); clear ho2 hg2)
            | (at_builtin; refine wpList_append_own_at _ rfl (.tmp 67) (.tmp 71) _ rfl w.heap.size 24 i0 (.slice none 0 0) 1 24 Try.underlying23 hi0 hz0 hz1 hz2 rfl (by decide) (.slice A1 k k1) k ((xs.map Sl.val).take k) rfl (own_on t2.out.t.o ((Below.refl _ _).alloc (Nat.le_refl _) _)) ⟨w3.heap.size, 0, none⟩ 1 1 [.slice A2 a.length k2] rfl rfl (cell_one_new _ _ _) (by simp [Value.oneCell']) (by unfold maxLen; omega) (by omega) (by have := t2.out.t.b.size; simp; omega) ?_; intro v' w5 ho3 hg3 _ hv3; obtain ⟨A5, k5, rfl⟩ := own_form ho3; have t3 := Lib.hid (tail3 t2.out ho3 hg3 hv3); have e1 := (keep t3.out.t.b _ 1 hlt).trans c1; clear ho3 hg3 hv3)
            | (at_builtin; refine wpList_appC rfl (.tmp 74) (.tmp 80) 23 rfl w.heap.size 24 i0 _ 24 Try.underlying23 hi0 hz0 hz1 hz2 rfl (by omega) A5 (k + 1) k5 _ rfl t3.out.t.o _ _ (M.length - k) ((xs.map Sl.val).drop k) LEND.out rfl (by first | exact ROWD.out _ t3.out.t.b | exact ROWD2.out _ t3.out.t.b) (fun u hu => tup_cells xs u (List.mem_of_mem_drop hu)) (by omega) t3.out.t.b.size ?_; intro A6 k6 w6 ho4 hg4; have t4 := Lib.hid (tail4 t3.out ho4 hg4); have fz := blkR_fz ((t4.out.t.b.block _ hlt).trans H1.out) 1; have e2 := (keep t4.out.t.b _ 1 hlt).trans c1; clear ho4 hg4))
          all_goals go_ret2
          all_goals obtain ⟨q1, q2, q3, q4⟩ := refPut_end HS.out H1.out H2.out H3.out H4.out H5.out h6 HC7.out HAL.out hk HN.out HMORE.out HX.out t4.out
          all_goals exact ⟨by rw [q1, q2]; rfl, q3, q4⟩
    · have HMORE := Lib.hid (show ∀ z ∈ M.drop k, cmpC p z a = 1 by rw [List.drop_of_length_le (by omega)]; intro z hz; cases hz)
      have hj2 : ¬ ((k : Int) < (M.length : Int)) := by omega
      have hBW : ∀ n, Below w.heap.size w (wr.drewN n) := fun n => on hB (bel_drawN wr n)
      have e0 : ∀ n, (wr.drewN n).cell? ⟨b, 1, none⟩ = some (.slice (some ⟨tb, tq, none⟩) M.length c) := fun n => (keep (hBW n) _ 1 hlt).trans c1
      go_wp2_with fail
      go_quiet (fail)
      all_goals
        obtain ⟨hi0, hz0, hz1, hz2⟩ := HI.out
        go_wp2_with (first
          | (at_builtin; refine wpList_appC rfl (.tmp 60) (.tmp 66) 23 rfl w.heap.size 24 i0 _ 24 Try.underlying23 hi0 hz0 hz1 hz2 rfl (by omega) none 0 0 [] rfl (own_nil _ _ _ _) (some ⟨tb, tq, none⟩) c k ((xs.map Sl.val).take k) LENK.out rfl (ROWK.out _ (hBW _)) (fun u hu => tup_cells xs u (List.mem_of_mem_take hu)) (by omega) (hBW _).size ?_; intro A1 k1 w1 ho1 hg1; rw [Nat.zero_add] at ho1; rw [Nat.zero_add]; have t1 := Lib.hid (tail1 (hBW _) ho1 hg1); clear ho1 hg1)
          | (at_builtin; refine wpList_appV rfl (.tmp 68) (.tmp 69) rfl w1.heap.size (some ⟨w1.heap.size, 0, none⟩) 0 [] a a rfl rfl (own_made0 w1) B cb rfl (HA.out.on (t1.out.b.alloc t1.out.b.size _)) (by simp; omega) (by simp) ?_; intro A2 k2 w3 ho2 hg2; have t2 := Lib.hid (tail2 t1.out ho2 hg2); clear ho2 hg2)
          | (at_builtin; refine wpList_append_own_at _ rfl (.tmp 67) (.tmp 71) _ rfl w.heap.size 24 i0 (.slice none 0 0) 1 24 Try.underlying23 hi0 hz0 hz1 hz2 rfl (by decide) (.slice A1 k k1) k ((xs.map Sl.val).take k) rfl (own_on t2.out.t.o ((Below.refl _ _).alloc (Nat.le_refl _) _)) ⟨w3.heap.size, 0, none⟩ 1 1 [.slice A2 a.length k2] rfl rfl (cell_one_new _ _ _) (by simp [Value.oneCell']) (by unfold maxLen; omega) (by omega) (by have := t2.out.t.b.size; simp; omega) ?_; intro v' w5 ho3 hg3 _ hv3; obtain ⟨A5, k5, rfl⟩ := own_form ho3; have t3 := Lib.hid (tail3 t2.out ho3 hg3 hv3); have e1 := (keep t3.out.t.b _ 1 hlt).trans c1; clear ho3 hg3 hv3)
          | (at_builtin; refine wpList_appC rfl (.tmp 74) (.tmp 80) 23 rfl w.heap.size 24 i0 _ 24 Try.underlying23 hi0 hz0 hz1 hz2 rfl (by omega) A5 (k + 1) k5 _ rfl t3.out.t.o _ _ (M.length - k) ((xs.map Sl.val).drop k) LEND.out rfl (by first | exact ROWD.out _ t3.out.t.b | exact ROWD2.out _ t3.out.t.b) (fun u hu => tup_cells xs u (List.mem_of_mem_drop hu)) (by omega) t3.out.t.b.size ?_; intro A6 k6 w6 ho4 hg4; have t4 := Lib.hid (tail4 t3.out ho4 hg4); have fz := blkR_fz ((t4.out.t.b.block _ hlt).trans H1.out) 1; have e2 := (keep t4.out.t.b _ 1 hlt).trans c1; clear ho4 hg4))
        all_goals go_ret2
        all_goals obtain ⟨q1, q2, q3, q4⟩ := refPut_end HS.out H1.out H2.out H3.out H4.out H5.out h6 HC7.out HAL.out hk HN.out HMORE.out HX.out t4.out
        all_goals exact ⟨by rw [q1, q2]; rfl, q3, q4⟩
theorem refPut_any (B : Option Addr) (cb : Nat) (a : List V) (w : World) (h : RefS X w b p M) (hr : RdV w B a) (hMl : M.length ≤ 100000) (hX : ∀ i, X i → i < w.heap.size) :
    Calls Try.prog 20 #[.pointer (some ⟨b, 0, none⟩), .slice B a.length cb] w fun e w' => e = .returned (.tuple #[.bool (putB p a M), .int .i64 (putE p a)]) ∧ RefS X w' b p (putM p a M) ∧ Fr (· = b) w.heap.size w w' := by
  by_cases ha : a.length = p.length
  · by_cases hM : M = []
    · exact refPut_nil B cb a w h hr ha hM hX
    · exact refPut_some B cb a w h hr ha hM hMl hX
  · refine (refPut_far a.length B cb w h ha).mono ?_
    rintro e w' ⟨rfl, rfl⟩
    exact ⟨by unfold putB putE; rw [decide_eq_false ha, if_neg ha]; rfl, by unfold putM; rw [if_neg ha]; exact h, Fr.refl _ _ _⟩
end
end Go.Proofs.Ytdpflmbnomeaaaa

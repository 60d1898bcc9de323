/-
  Contracts of told and of slices.AppendSeq: all that an iterator tells, in a row of one's own.
-/
import Derived.Test.YtpmkhpbhimmeiaaGreatBtSeq
import Derived.Test.YtpmkhpbhimmeiaaGreatBtCat
import Derived.RangeFuncBox
import Derived.Maps.AppendAt
namespace Go.Proofs.YtpmkhpbhimmeiaaGreat
open Go.RowKit FloM ValM Go.Shelf
set_option linter.unusedVariables false
set_option linter.unusedSimpArgs false
attribute [local go_sem] Oper.semAt_some

/-- Tuples in a row of the call's own. -/
structure SaysT (X : Nat → Prop) (L : List (List V)) (w : World) (e : Ending) (w' : World) (A : Option Addr) (c : Nat) (xs : List Sl) : Prop where
  vals : xs.map Sl.l = L
  val : e = .returned (.slice A L.length c)
  rd : RdT X w' A xs
  own : ∀ a, A = some a → w.heap.size ≤ a.block
  cap : L.length ≤ c
  capm : c ≤ maxLen
  b : Below w.heap.size w w'
/-- The box at B holds the row of xs, made from n on; all of xs can be read. -/
structure ToldI (X : Nat → Prop) (w : World) (B : Nat) (xs : List Sl) (W : World) (A : Option Addr) (c : Nat) : Prop where
  box : W.heap[B]? = some (.cells #[.slice A xs.length c] 23 (0, 0))
  own : W.ownsRow (B + 1) 25 1 (.slice A xs.length c) xs.length (xs.map Sl.val)
  each : ∀ x ∈ xs, SlOk X W x
  b : Below w.heap.size w W
theorem own_calm {n : Nat} {W W' : World} {base : Nat} {e : TypeId} {size : Nat} {v : Value} {k : Nat} {xs : List Value} (h : W.ownsRow base e size v k xs) (hc : Calm n W W') : W'.ownsRow base e size v k xs := by
  refine ⟨h.1, ?_⟩
  rcases h.2 with h0 | ⟨g, cap, cur, hv, hbg, hg, r⟩
  · exact .inl h0
  · exact .inr ⟨g, cap, cur, hv, hbg, hc.same _ _ hg (.inr rfl), r⟩
theorem ToldI.calm {X : Nat → Prop} {w W W' : World} {B n : Nat} {xs : List Sl} {A : Option Addr} {c : Nat} (h : ToldI X w B xs W A c) (hn : w.heap.size ≤ n) (hc : Calm n W W') : ToldI X w B xs W' A c :=
  ⟨hc.same _ _ h.box (.inr rfl), own_calm h.own hc, fun x hx => hc.slOk (h.each x hx), h.b.trans ((hc.mono hn).below h.b.size)⟩
/-- Behind the append of one tuple, and the store into the box. -/
theorem ToldI.next {X : Nat → Prop} {w W w2 : World} {B : Nat} {xs : List Sl} {x : Sl} {A A2 : Option Addr} {c c2 : Nat} (h : ToldI X w B xs W A c) (hB : w.heap.size ≤ B) (hx : SlOk X W x)
    (ho : w2.ownsRow (B + 1) 25 1 (.slice A2 (xs.length + 1) c2) (xs.length + 1) (xs.map Sl.val ++ [x.val])) (hg : (W.alloc (.cells #[x.val] 25)).grownBy w2 (Value.slice A xs.length c).ownBlock) :
    ToldI X w B (xs ++ [x]) (w2.setCell ⟨B, 0, none⟩ (.slice A2 (xs.length + 1) c2)) A2 c2 ∧ KeepsOthers W (w2.setCell ⟨B, 0, none⟩ (.slice A2 (xs.length + 1) c2)) ∧ KF W (w2.setCell ⟨B, 0, none⟩ (.slice A2 (xs.length + 1) c2)) ∧ Below w.heap.size W (w2.setCell ⟨B, 0, none⟩ (.slice A2 (xs.length + 1) c2)) := by
  have hlt : B < W.heap.size := (Array.getElem?_eq_some_iff.1 h.box).1
  -- a block that is neither the box nor of the row's kind lies as it lay
  have same : ∀ (k : Nat) (o : Obj), W.heap[k]? = some o → k ≠ B → (Value.slice A xs.length c).ownBlock ≠ some k → (w2.setCell ⟨B, 0, none⟩ (.slice A2 (xs.length + 1) c2)).heap[k]? = some o := fun k o hk hb hr => by
    have hkl : k < W.heap.size := (Array.getElem?_eq_some_iff.1 hk).1
    rw [Below.heap_setCell _ _ _ _ (by simpa using hb), hg.block k (by simp; omega) (fun e => hr e.symm), Below.heap_alloc _ _ _ hkl]
    exact hk
  have rowTy : ∀ k, (Value.slice A xs.length c).ownBlock = some k → ∃ cs, W.heap[k]? = some (.cells cs 25 (0, 0)) ∧ B + 1 ≤ k := fun k hk => by
    rcases h.own.2 with ⟨e, _⟩ | ⟨g, cap, cur, e, hbg, hgg, _⟩
    · rw [e] at hk; simp [Value.ownBlock] at hk
    · rw [e] at hk
      have hgk : g = k := by simpa [Value.ownBlock] using hk
      subst hgk
      exact ⟨cur, hgg, hbg⟩
  have hsz : (w2.setCell ⟨B, 0, none⟩ (.slice A2 (xs.length + 1) c2)).heap.size = w2.heap.size := by simp [World.setCell]
  have hs2 : W.heap.size ≤ w2.heap.size := by have := hg.size; simp at this; omega
  have tup : ∀ y, SlOk X W y → SlOk X (w2.setCell ⟨B, 0, none⟩ (.slice A2 (xs.length + 1) c2)) y := fun y hy => by
    have hd : ∀ a, y.A = some a → (w2.setCell ⟨B, 0, none⟩ (.slice A2 (xs.length + 1) c2)).heap[a.block]? = W.heap[a.block]? := fun a ha => by
      obtain ⟨cs, z, hc⟩ := hy.ty a ha
      refine (same _ _ hc (fun e => ?_) (fun e => ?_)).trans hc.symm
      · rw [e, h.box] at hc; cases hc
      · obtain ⟨ds, hds, _⟩ := rowTy _ e
        rw [hds] at hc; cases hc
    refine ⟨fun i v hv => ?_, hy.off, hy.cap, fun a ha => ?_⟩
    · obtain ⟨b, o, e, hl, c0, c1, c2'⟩ := hy.rd i v hv
      have hb := hd _ e
      have cc : ∀ o', (w2.setCell ⟨B, 0, none⟩ (.slice A2 (xs.length + 1) c2)).cell? ⟨b, o', none⟩ = W.cell? ⟨b, o', none⟩ := fun o' => World.cell?_of_block (w := W) hb
      exact ⟨b, o, e, by rw [hsz]; omega, (cc _).trans c0, (cc _).trans c1, (cc _).trans c2'⟩
    · obtain ⟨cs, z, hc⟩ := hy.ty a ha
      exact ⟨cs, z, (hd a ha).trans hc⟩
  refine ⟨⟨?_, ?_, ?_, ?_⟩, ?_, ?_, ?_⟩
  · have hbox2 : w2.heap[B]? = some (.cells #[.slice A xs.length c] 23 (0, 0)) := by
      rw [hg.block B (by simp; omega) (fun e => by obtain ⟨ds, hds, _⟩ := rowTy _ e.symm; rw [h.box] at hds; cases hds), Below.heap_alloc _ _ _ hlt]
      exact h.box
    simp [World.setCell, Array.getElem?_modify, hbox2]
  · have hl : (xs ++ [x]).length = xs.length + 1 := by simp
    rw [hl, List.map_append]
    exact ownsRow_setCell_below ho (by simp) _
  · intro y hy
    rw [List.mem_append, List.mem_singleton] at hy
    rcases hy with hy | rfl
    · exact tup y (h.each y hy)
    · exact tup _ hx
  · have h1 : Below w.heap.size w (W.alloc (.cells #[x.val] 25)) := h.b.alloc h.b.size _
    exact (h1.grown hg h1.size (fun k hk => by have := (rowTy k hk); obtain ⟨_, _, h2⟩ := this; omega)).setCell hB _
  · exact ((KeepsOthers.alloc W _).trans (KeepsOthers.of_grownBy hg (fun j o hj ho => by
      obtain ⟨ds, hds, _⟩ := rowTy j hj
      rw [Below.heap_alloc _ _ _ (Array.getElem?_eq_some_iff.1 hds).1, hds] at ho; cases ho; rfl))).trans (KeepsOthers.setCell _ _ _)
  · intro k cs z hk
    refine same k _ hk (fun e => ?_) (fun e => ?_)
    · rw [e, h.box] at hk; cases hk
    · obtain ⟨ds, hds, _⟩ := rowTy _ e
      rw [hds] at hk; cases hk
  · have h1 : Below w.heap.size W (W.alloc (.cells #[x.val] 25)) := ((Below.refl _ W).alloc h.b.size _)
    exact (h1.grown hg (Nat.le_trans h.b.size (by simp)) (fun k hk => by obtain ⟨_, _, h2⟩ := rowTy k hk; omega)).setCell hB _

theorem ToldI.cell {X : Nat → Prop} {w W : World} {B : Nat} {xs : List Sl} {A : Option Addr} {c : Nat} (h : ToldI X w B xs W A c) : W.cell? ⟨B, 0, none⟩ = some (.slice A xs.length c) ∧ W.frozen? ⟨B, 0, none⟩ = false := by
  constructor <;> simp [World.cell?, World.frozen?, h.box]
theorem ToldI.after {X : Nat → Prop} {w W w2 : World} {B : Nat} {xs : List Sl} {x : Sl} {A : Option Addr} {c : Nat} (h : ToldI X w B xs W A c) (hg : (W.alloc (.cells #[x.val] 25)).grownBy w2 (Value.slice A xs.length c).ownBlock) : w2.cell? ⟨B, 0, none⟩ = some (.slice A xs.length c) ∧ w2.frozen? ⟨B, 0, none⟩ = false := by
  have hlt : B < W.heap.size := (Array.getElem?_eq_some_iff.1 h.box).1
  have hbox2 : w2.heap[B]? = some (.cells #[.slice A xs.length c] 23 (0, 0)) := by
    rw [hg.block B (by simp; omega) (fun e => ?_), Below.heap_alloc _ _ _ hlt]
    · exact h.box
    · have := own_base h.own B e.symm
      omega
  constructor <;> simp [World.cell?, World.frozen?, hbox2]
theorem ToldI.start {X : Nat → Prop} (w : World) : ToldI X w w.heap.size [] (w.alloc (.cells #[.slice none 0 0] 23)) none 0 :=
  ⟨heap_alloc_new _ _, own_nil _ _ _ _, (fun x hx => by cases hx), (Below.refl _ _).alloc (Nat.le_refl _) _⟩
theorem ToldI.says {X : Nat → Prop} {w W W' : World} {xs : List Sl} {A : Option Addr} {c : Nat} {L : List (List V)} (h : ToldI X w w.heap.size xs W A c) (hX : ∀ k, X k → k < w.heap.size) (hL : xs.map Sl.l = L) (hc : Calm w.heap.size W W') : SaysT X L w (.returned (.slice A L.length c)) W' A c xs := by
  have h' := h.calm (Nat.le_refl _) hc
  have hl : xs.length = L.length := by rw [← hL]; simp
  refine ⟨hL, rfl, ⟨own_rdC h'.own, fun a ha hx => ?_, h'.each⟩, fun a ha => ?_, by rw [← hl]; exact (own_cap h'.own).1, (own_cap h'.own).2, h'.b⟩
  · subst ha
    have := own_base h'.own a.block rfl
    have := hX _ hx
    omega
  · subst ha
    have := own_base h'.own a.block rfl
    omega
set_option maxRecDepth 20000 in
set_option maxHeartbeats 4000000 in
theorem appendSeq_any {X : Nat → Prop} {n₀ : Nat} {L : List (List V)} {gf : Nat} {lb : Array Value} (w0 w : World) (eg : ∀ args w, (callFunc gf args).run Tryz.prog w = .ok (.enter gf args) w) (hseq : SeqR gf lb X n₀ L w0) (hb0 : Below w0.heap.size w0 w) (hn₀ : n₀ ≤ w.heap.size) (hL : L.length ≤ 1000000) (hX : ∀ k, X k → k < w.heap.size) :
    Calls Tryz.prog 69 #[.slice none 0 0, .func (.func gf) #[] lb] w fun e w' => ∃ A c xs, SaysT X L w e w' A c xs := by
  obtain ⟨i0, hi0, hz0, hz1, hz2⟩ := info_parts info_tup
  have HI := Lib.hid (And.intro hi0 (And.intro hz0 (And.intro hz1 hz2))); clear hi0 hz0 hz1 hz2
  have HSQ := Lib.hid hseq; have HX := Lib.hid hX; clear hseq hX
  refine (callsIn_wide (n := 3)).1 ?_
  refine callsIn_of_wp_marks Tryz.func69 rfl trivial ?_ rfl
  simp only [Tryz.ntmps69, List.size_toArray, List.length_cons, List.length_nil, Nat.reduceAdd, Nat.reduceSub, Array.replicate_succ, Array.replicate_zero, List.push_toArray, List.append_toArray, List.nil_append, List.cons_append]
  gi_wp2
  have hst := ToldI.start (X := X) w
  have hs : w.heap.size ≤ (w.alloc (.cells #[.slice none 0 0] 23)).heap.size := by simp
  refine wpIn_seq (gf := gf) (lb := lb) rfl eg HSQ.out (hb0.trans (((Below.refl _ w).alloc (Nat.le_refl _) _).mono hb0.size)) (by simp; omega) rfl
    (fun pre W => ∃ A c, ToldI X w w.heap.size pre W A c) (fun _ _ _ => False)
    (fun s A B h hc => by obtain ⟨A1, c1, h1⟩ := h; exact ⟨A1, c1, h1.calm hs hc⟩) (fun _ _ _ _ h _ => h) ⟨none, 0, hst⟩
    (fun x => { tmps := #[.slice none 0 0, .func (.func gf) #[] lb, .pointer (some ⟨w.heap.size, 0, none⟩), undef, .slice none 0 0, .slice x.A x.l.length x.c, .func (.func gf) #[] lb, .slice x.A x.l.length x.c, undef, undef, undef, undef, undef], defers := [] }) ?assign ?body ?done ?stop
  case assign =>
    intro l x W K hK
    gi_wp2
    exact hK
  case body =>
    rintro l pre x W hl ⟨A1, c1, hI⟩ hpre hok
    obtain ⟨hi0, hz0, hz1, hz2⟩ := HI.out
    have hc := hI.cell.1; have hf := hI.cell.2
    have hn : pre.length + 1 ≤ 1000000 := by have := hpre.length_le; simp at this; omega
    have HII := Lib.hid hI; have HOK := Lib.hid hok; have HPR := Lib.hid hpre; clear hI hok hpre
    have hs3 : w.heap.size + 1 ≤ W.heap.size := by have := (Array.getElem?_eq_some_iff.1 HII.out.box).1; omega
    gi_wp2_with (gi_at_builtin; refine wpListIn_append_own _ rfl (.tmp 8) (.tmp 10) _ rfl (w.heap.size + 1) 25 i0 (.slice none 0 0) 1 24 Tryz.underlying23 hi0 hz0 hz1 hz2 rfl (by decide) (.slice A1 pre.length c1) pre.length (pre.map Sl.val) rfl (own_on HII.out.own ((Below.refl _ _).alloc (Nat.le_refl _) _)) ⟨W.heap.size, 0, none⟩ 1 1 [.slice x.A x.l.length x.c] rfl rfl (cell_one_new _ _ _) (by simp [Value.oneCell']) (by unfold maxLen; omega) (by omega) (by simp; omega) ?_; intro v' w2 ho' hg' _; obtain ⟨A2, c2, rfl⟩ := own_form ho'; have hq := ToldI.after (x := x) HII.out hg'; have hc2 := hq.1; have hf2 := hq.2; clear hq)
    obtain ⟨n1, n2, n3, n4⟩ := HII.out.next (Nat.le_refl _) HOK.out ho' hg'
    exact ⟨n2.from _, Fr.of (n4.mono hn₀), n3, A2, c2, by simpa using n1⟩
  case done =>
    rintro D xs W hD hxs ⟨A1, c1, hI⟩ hK
    have hc := hI.cell.1
    gi_wp2
    refine ⟨by simp, .inl ⟨_, _, rfl, run_takeDeferred hK, ?_⟩⟩
    have hw : Calm w.heap.size W (W.putObj D (.deferred none)) := Calm.put hK rfl (by simp at hD; omega)
    have hl : xs.length = L.length := by rw [← hxs]; simp
    rw [hl]
    refine ⟨_, results_tmp rfl _ _ _, ?_⟩
    exact ⟨A1, c1, xs, hI.says HX.out hxs hw⟩
  case stop =>
    rintro D c pre W _ _ h _
    exact h.elim
set_option maxHeartbeats 1000000 in
theorem collect_any {X : Nat → Prop} {n₀ : Nat} {L : List (List V)} {gf : Nat} {lb : Array Value} (w0 w : World) (eg : ∀ args w, (callFunc gf args).run Tryz.prog w = .ok (.enter gf args) w) (hseq : SeqR gf lb X n₀ L w0) (hb0 : Below w0.heap.size w0 w) (hn₀ : n₀ ≤ w.heap.size) (hL : L.length ≤ 1000000) (hX : ∀ k, X k → k < w.heap.size) :
    Calls Tryz.prog 45 #[.func (.func gf) #[] lb] w fun e w' => ∃ A c xs, SaysT X L w e w' A c xs := by
  have h := Lib.hid (appendSeq_any w0 w eg hseq hb0 hn₀ hL hX); clear eg hseq hb0
  go_enter Tryz.func45, Tryz.ntmps45
  go_wp2_with (go_at_call 69; refine h.out.mono ?_; rintro e w1 ⟨A, c, xs, hs⟩; have he := hs.val; subst he; replace hs := Lib.hid hs)
  go_ret
  exact ⟨A, c, xs, hs.out⟩
end Go.Proofs.YtpmkhpbhimmeiaaGreat

/-
  Package safe: Rule, where there is an error.
-/
import Derived.Test.YtahljmddnfldlaaSafQ
namespace Go.Proofs.Ytahljmddnfldlaa
open Go.RowKit FloM ValM Go.Shelf Go.Maps
set_option linter.unusedVariables false
set_option linter.unusedSimpArgs false
theorem results_cell_tmp11 {P : Program} {fn : Func} {p q : Tmp} {ty : TypeId} (h : fn.results = #[.cell p ty, .tmp q]) (tmps : Array Value) (w : World) (g : Nat) (t : TypeId) (cs : Array Value) (fr : Nat × Nat) (d : TypeDesc) (v : Value)
    (hp : tmps.getD p undef = .pointer (some ⟨g, 0, none⟩)) (hq : tmps.getD q undef = v) (hg : w.heap[g]? = some (.cells cs t fr))
    (hu : P.underlying ty = some d) (hd : (match d with | .struct _ | .array _ _ => true | _ => false) = true) (hi : (P.info? ty).map (·.size) = some cs.size) :
    (results fn tmps).run P w = .ok (.tuple #[.agg cs, v]) w := by
  have hp' : tmps[p]?.getD undef = .pointer (some ⟨g, 0, none⟩) := by simpa using hp
  have hq' : tmps[q]?.getD undef = v := by simpa using hq
  simp [results, h, hp', hq', asAddr, run_loadVar_row w g t ty cs fr d hg hu hd hi]
theorem bel_draws11 (w : World) (n : Nat) : Below w.heap.size w (w.drewN n) := ⟨rfl, rfl, rfl, Nat.le_refl _, fun _ _ => rfl⟩
abbrev rz : List Value := [.string ⟨#[]⟩, .slice none 0 0, .int .i64 0, .slice none 0 0]
abbrev rlV (x : RlI) : Value := .agg #[.string (bs x.h.p), .slice x.h.A x.h.a.length x.h.c, .int .i64 x.f, .slice x.A x.b.length x.c]
/-- A rule that came in, of a size that is looked at. -/
structure RlFine (x : RlI) (W : World) : Prop where
  rd : x.rd W
  ok : x.ok
  hl : x.h.a.length ≤ 1000
  bl : x.b.length ≤ 100
  each : ∀ y ∈ x.b, y.m.a.length ≤ 1000 ∧ y.p.length ≤ 1000
theorem RlFine.on {x : RlI} {W W' : World} (h : RlFine x W) (hb : Below W.heap.size W W') : RlFine x W' := ⟨h.rd.on hb, h.ok, h.hl, h.bl, h.each⟩
theorem order_rule {x : RlI} {W : World} (h : RlFine x W) : Calls Try.prog 11 #[.slice x.A x.b.length x.c, .slice none 0 0] W (OrdQ (ordL vsL readyL x.b []) W) :=
  order_any x.A x.c x.b none 0 [] W h.rd.2.1 (fun y hy => ⟨h.rd.2.2 y hy, h.ok.2.2 y hy, (h.each y hy).1⟩) h.bl ⟨Nat.zero_le _, fun i y hy => by simp at hy⟩ (fun s hs => by cases hs) (Nat.zero_le _)
def RlBad (x : RlI) : Prop := ordL vsL readyL x.b [] = none ∨ ∃ l U, ordL vsL readyL x.b [] = some (l, U) ∧ allS x.h.a U = false
set_option maxRecDepth 20000 in
set_option maxHeartbeats 8000000 in
theorem rule_none (x : RlI) (W : World) (h : RlFine x W) (hO : ordL vsL readyL x.b [] = none) : Calls Try.prog 22 #[rlV x] W fun e w' => e = .returned (.tuple #[.agg rz.toArray, .int .i64 7]) ∧ Below W.heap.size W w' := by
  have hB0 : Below W.heap.size W ((W.alloc (.cells #[.string (bs x.h.p), .slice x.h.A x.h.a.length x.h.c, .int .i64 x.f, .slice x.A x.b.length x.c] 55)).alloc (.cells rz.toArray 55)) := ((Below.refl _ _).alloc (Nat.le_refl _) _).alloc (by simp) _
  have hr1 : Row 55 ((W.alloc (.cells #[.string (bs x.h.p), .slice x.h.A x.h.a.length x.h.c, .int .i64 x.f, .slice x.A x.b.length x.c] 55)).alloc (.cells rz.toArray 55)) (W.heap.size + 1) rz := by
    have h := row_new (t := 55) (W.alloc (.cells #[.string (bs x.h.p), .slice x.h.A x.h.a.length x.h.c, .int .i64 x.f, .slice x.A x.b.length x.c] 55)) rz
    rw [World.size_alloc] at h; exact h
  have HB0 := Lib.hid hB0; have HR1 := Lib.hid hr1
  have HOr := Lib.hid (order_rule (h.on hB0))
  rw [hO] at HOr
  clear hB0 hr1 h hO
  go_enter Try.func22, Try.ntmps22
  go_upto_region 2 with (go_at_call 11; refine HOr.out.mono ?_; rintro e w1 ⟨rfl, hB1⟩; have HB1 := Lib.hid hB1; clear hB1)
  have HBW := Lib.hid (on HB0.out HB1.out); have HR2 := Lib.hid (rowOn HR1.out HB1.out)
  clear HOr HB0 HR1 HB1
  go_quiet (fail)
  have hbd : Below w1.heap.size w1 (w1.drewN nq) := bel_draws11 _ _
  have HBD := Lib.hid (on HBW.out hbd); have HR3 := Lib.hid (rowOn HR2.out hbd)
  clear HBW HR2 hbd
  generalize w1.drewN nq = w2 at *
  go_wp2_with (first
    | (refine wpList_storeR rfl 55 (.tmp 2) (.tmp 28) rfl (W.heap.size + 1) 0 rfl (.agg rz.toArray) rfl rz rfl (pre := []) (old := rz) (post := []) HR3.out rfl rfl (by kernel_rfl) rfl ?_; intro w3 hR hF hs; have HR4 := Lib.hid hR; have HF := Lib.hid hF; clear hR hF hs))
  have hR4 : Row 55 w3 (W.heap.size + 1) rz := by simpa using HR4.out
  refine bodyPost_ret (results_cell_tmp11 rfl _ _ (W.heap.size + 1) _ _ _ _ _ rfl rfl hR4 Try.underlying55 rfl (by kernel_rfl)) rfl ?_
  exact ⟨rfl, HBD.out.trans ((HF.out W.heap.size).below (Nat.le_refl _) (fun k hk e => by omega))⟩
theorem nm_nodup_len : ∀ (l m : List Nm), l.Nodup → (∀ x ∈ l, x ∈ m) → l.length ≤ m.length
  | [], m, _, _ => Nat.zero_le _
  | a :: l, m, h, hs => by
    obtain ⟨h1, h2⟩ := List.pairwise_cons.1 h
    have ha : a ∈ m := hs a (by simp)
    have := nm_nodup_len l (m.erase a) h2 (fun x hx => (List.mem_erase_of_ne (fun e => h1 x hx e.symm)).2 (hs x (by simp [hx])))
    rw [List.length_erase_of_mem ha] at this
    have hp : 0 < m.length := List.length_pos_of_mem ha
    simp only [List.length_cons]; omega
theorem namesL_len (S : List Nm) : (namesL S).length ≤ S.length := nm_nodup_len _ _ (namesL_rising S).nodup fun x hx => (namesL_mem S x).1 hx
theorem vsT_len (l : List Tm) : (vsT l).length ≤ l.length := by
  unfold vsT
  exact Nat.le_trans (List.length_filter_le _ _) (by simp)
theorem flat_len {α β : Type} {f : α → List β} {k : Nat} : ∀ (l : List α), (∀ x ∈ l, (f x).length ≤ k) → (l.flatMap f).length ≤ l.length * k
  | [], _ => by simp
  | x :: l, h => by
    have h1 := flat_len l (fun y hy => h y (List.mem_cons_of_mem _ hy))
    have h2 := h x (by simp)
    rw [List.flatMap_cons, List.length_append, List.length_cons, Nat.succ_mul]; omega
theorem bound_len {body : List LtI} {S : List Nm} {l : List Nat} {U : List Nm} (h : ordL vsL readyL body S = some (l, U)) (hb : ∀ y ∈ body, y.m.a.length ≤ 1000) : U.length ≤ S.length + body.length * 1003 := by
  obtain ⟨hg, rfl, hl⟩ := ordL_good h
  rw [List.length_append]
  have := flat_len (f := vsAt vsL body) (k := 1003) l (fun i _ => by
    unfold vsAt
    cases hi : body[i]? with
    | none => simp
    | some y =>
      have h1 := vsT_len (tmL y)
      have h2 : (tmL y).length = y.m.a.length + 3 := by simp [tmL]
      have h3 := hb y (List.mem_of_getElem? hi)
      show (vsT (tmL y)).length ≤ 1003
      omega)
  rw [hl] at this
  omega
theorem vsL_ok {y : LtI} (h : y.ok) : NmOk (vsL y) := fun s hs => by
  obtain ⟨_, t, ht, rfl⟩ := vsT_mem.1 hs
  exact (tmL_ok h t ht).1
theorem bound_ok {body : List LtI} {S : List Nm} {l : List Nat} {U : List Nm} (h : ordL vsL readyL body S = some (l, U)) (hb : ∀ y ∈ body, y.ok) (hS : NmOk S) : NmOk (namesL U) := fun s hs => by
  rcases (ordL_mem h s).1 ((namesL_mem U s).1 hs) with h1 | ⟨y, hy, h1⟩
  · exact hS s h1
  · exact vsL_ok (hb y hy) s h1
theorem allS_names (l : List Tm) (S : List Nm) : allS l (namesL S) = allS l S := by
  unfold allS inS
  congr 1
  funext t
  exact decide_eq_decide.2 (or_congr Iff.rfl (namesL_mem S t.v))
set_option maxRecDepth 20000 in
set_option maxHeartbeats 8000000 in
theorem rule_free (x : RlI) (W : World) (h : RlFine x W) (l : List Nat) (U : List Nm) (hO : ordL vsL readyL x.b [] = some (l, U)) (hf : allS x.h.a U = false) : Calls Try.prog 22 #[rlV x] W fun e w' => e = .returned (.tuple #[.agg rz.toArray, .int .i64 7]) ∧ Below W.heap.size W w' := by
  have hB0 : Below W.heap.size W ((W.alloc (.cells #[.string (bs x.h.p), .slice x.h.A x.h.a.length x.h.c, .int .i64 x.f, .slice x.A x.b.length x.c] 55)).alloc (.cells rz.toArray 55)) := ((Below.refl _ _).alloc (Nat.le_refl _) _).alloc (by simp) _
  have hr1 : Row 55 ((W.alloc (.cells #[.string (bs x.h.p), .slice x.h.A x.h.a.length x.h.c, .int .i64 x.f, .slice x.A x.b.length x.c] 55)).alloc (.cells rz.toArray 55)) (W.heap.size + 1) rz := by
    have h := row_new (t := 55) (W.alloc (.cells #[.string (bs x.h.p), .slice x.h.A x.h.a.length x.h.c, .int .i64 x.f, .slice x.A x.b.length x.c] 55)) rz
    rw [World.size_alloc] at h; exact h
  have hr0 : Row 55 ((W.alloc (.cells #[.string (bs x.h.p), .slice x.h.A x.h.a.length x.h.c, .int .i64 x.f, .slice x.A x.b.length x.c] 55)).alloc (.cells rz.toArray 55)) W.heap.size [.string (bs x.h.p), .slice x.h.A x.h.a.length x.h.c, .int .i64 x.f, .slice x.A x.b.length x.c] := (row_new (t := 55) W [.string (bs x.h.p), .slice x.h.A x.h.a.length x.h.c, .int .i64 x.f, .slice x.A x.b.length x.c]).alloc _
  have HB0 := Lib.hid hB0; have HR1 := Lib.hid hr1; have HR0 := Lib.hid hr0
  have HOr := Lib.hid (order_rule (h.on hB0))
  rw [hO] at HOr
  have hul := bound_len hO (fun y hy => (h.each y hy).1)
  have hnl := namesL_len U
  have hbl := h.bl
  have hUL : (namesL U).length ≤ 1000000 := by simp at hul; omega
  have HUL := Lib.hid hUL
  have HUO := Lib.hid (bound_ok hO h.ok.2.2 (fun s hs => by cases hs))
  have HF := Lib.hid h
  have HA : Hid (allS x.h.a (namesL U) = false) := Lib.hid (by rw [allS_names]; exact hf)
  clear hB0 hr1 hr0 h hO hul hnl hbl hUL hf
  go_enter Try.func22, Try.ntmps22
  go_upto_region 2 with (go_at_call 11; refine HOr.out.mono ?_; rintro e w1 ⟨A1, c1, A2, c2, rfl, hO1, hO2, hB1⟩; have HB1 := Lib.hid hB1; have HN := Lib.hid hO2.rd; clear hB1 hO1 hO2)
  have HBW := Lib.hid (on HB0.out HB1.out); have HR2 := Lib.hid (rowOn HR1.out HB1.out); have HR02 := Lib.hid (rowOn HR0.out HB1.out)
  clear HOr HB0 HR1 HB1 HR0
  generalize namesL U = N at *
  have HSO : Hid (∀ V, Below w1.heap.size w1 V → Calls Try.prog 27 #[.slice A2 N.length c2] V fun e w' => e = .returned (.map (some V.heap.size)) ∧ SetAt w' V.heap.size N.length N ∧ Below V.heap.size V w') := Lib.hid fun V hV => setOf_any A2 c2 N V (RdX.on HN.out hV) HUO.out HUL.out
  have HHV : Hid (∀ V b, Below w1.heap.size w1 V → SetAt V b N.length N → Calls Try.prog 35 #[.map (some b), .slice x.h.A x.h.a.length x.h.c] V fun e w' => e = .returned (.bool false) ∧ Below V.heap.size V w') := Lib.hid fun V b hV hs => by
    have h := have_any b N.length N x.h.A x.h.c x.h.a V hs (RdX.on HF.out.rd.1 (on HBW.out hV)) (HF.out.ok.1.2)
    rw [HA.out] at h; exact h
  have HS : Hid (∀ u, Below w1.heap.size w1 u → (Below w1.heap.size w1 u ∧ u.cell? ⟨W.heap.size, 1, none⟩ = some (.slice x.h.A x.h.a.length x.h.c))) := Lib.hid fun u hu => ⟨hu, (rowOn HR02.out hu).cell 1⟩
  have h4 : Below w1.heap.size w1 w1.drew := (Below.refl _ _).drew
  go_region_held3 (fun u => Below w1.heap.size w1 u ∧ u.cell? ⟨W.heap.size, 1, none⟩ = some (.slice x.h.A x.h.a.length x.h.c))
    (exact HS.out _ (by first | exact Below.refl _ _ | exact h4))
    ((first
      | (go_at_call 27; refine (HSO.out _ h4).mono ?_; rintro e w3 ⟨rfl, hS3, h'⟩; have HS3 := Lib.hid hS3; replace h4 := on h4 h'; clear h' hS3)
      | (go_at_call 35; refine (HHV.out _ _ h4 HS3.out).mono ?_; rintro e w4 ⟨rfl, h'⟩; replace h4 := on h4 h'; clear h')))
  all_goals
    have HBD := Lib.hid (on HBW.out h4); have HR3 := Lib.hid (rowOn HR2.out h4)
    clear HBW HR2 h4 HR02 HS HHV HSO
    go_wp2_with (first
      | (refine wpList_storeR rfl 55 (.tmp 2) (.tmp 28) rfl (W.heap.size + 1) 0 rfl (.agg rz.toArray) rfl rz rfl (pre := []) (old := rz) (post := []) HR3.out rfl rfl (by kernel_rfl) rfl ?_; intro w9 hR hF hs; have HR4 := Lib.hid hR; have HF9 := Lib.hid hF; clear hR hF hs))
    have hR4 : Row 55 w9 (W.heap.size + 1) rz := by simpa using HR4.out
    refine bodyPost_ret (results_cell_tmp11 rfl _ _ (W.heap.size + 1) _ _ _ _ _ rfl rfl hR4 Try.underlying55 rfl (by kernel_rfl)) rfl ?_
    exact ⟨rfl, HBD.out.trans ((HF9.out W.heap.size).below (Nat.le_refl _) (fun k hk e => by omega))⟩
theorem rule_bad (x : RlI) (W : World) (h : RlFine x W) (hb : RlBad x) : Calls Try.prog 22 #[rlV x] W fun e w' => e = .returned (.tuple #[.agg rz.toArray, .int .i64 7]) ∧ Below W.heap.size W w' := by
  rcases hb with h1 | ⟨l, U, h1, h2⟩
  · exact rule_none x W h h1
  · exact rule_free x W h l U h1 h2
end Go.Proofs.Ytahljmddnfldlaa

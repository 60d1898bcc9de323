/-
  Contracts of a node's visit and since.
-/
import Derived.Test.YtpmkhpbhimmeiaaGreatBtDrop
import Derived.Test.YtpmkhpbhimmeiaaGreatBtSeq
namespace Go.Proofs.YtpmkhpbhimmeiaaGreat
open Go.RowKit FloM ValM Go.Shelf
set_option linter.unusedVariables false
set_option linter.unusedSimpArgs false
attribute [local go_sem] Oper.semAt_some

def VisitP (X : Nat → Prop) (w : World) (pre S : List Sl) (J Jx : List Sl → World → Prop) (e : Ending) (W' : World) : Prop :=
  (e = .returned (.bool true) ∧ J (pre ++ S) W' ∧ Fr X w.heap.size w W') ∨ (e = .returned (.bool false) ∧ ∃ q, q <+: S ∧ Jx (pre ++ q) W')
set_option maxHeartbeats 1000000 in
theorem visit_nil {l n : Nat} (xs cs : Value) (W : World) :
    CallsIn Fence.wide n Tryz.prog 111 #[.pointer none, xs, cs, .func (.yield l) #[] #[]] W fun e w' => e = .returned (.bool true) ∧ W = w' := by
  refine callsIn_of_wp Tryz.func111 rfl trivial ?_ rfl
  simp only [Tryz.ntmps111, List.size_toArray, List.length_cons, List.length_nil, Nat.reduceAdd, Nat.reduceSub, Array.replicate_succ, Array.replicate_zero, List.push_toArray, List.append_toArray, List.nil_append, List.cons_append]
  gi_wp2
  go_ret
  exact ⟨rfl, rfl⟩
def VisRel (X : Nat → Prop) (w : World) (n : Nat) (S pre : List Sl) (R : Nat → List Sl) (J : List Sl → World → Prop) (v : Value) (wr : World) : Prop :=
  ∃ (i : Nat) (done : List Sl), v = .int .i64 (i : Nat) ∧ i ≤ n ∧ S = done ++ R i ∧ J (pre ++ done) wr ∧ Fr X w.heap.size w wr
set_option maxRecDepth 20000 in
set_option maxHeartbeats 4000000 in
theorem visit_leaf {X : Nat → Prop} {l : Nat} {J Jx : List Sl → World → Prop} (A P : Option Addr) (ca cp : Nat) (a : List V) (p : List Int) (w W0 : World) (L : List (List V)) (la : a.length ≤ 1000) (lp : p.length ≤ 1000) (ha : RdV w A a) (hp : RdI w P p) (oa : Off X A) (op : Off X P)
    (hJ : ∀ s A B, J s A → Calm W0.heap.size A B → J s B) (hR : RoundR X w.heap.size L l J Jx)
    (b : Nat) (ts : List Sl) (h : IsN X w 0 (.mk b ts [])) (lt : ∀ x ∈ ts, x.l.length ≤ 1000) (hs : WS p ts)
    (n : Nat) (pre : List Sl) (W : World) (hF : Fr X w.heap.size w W) (hj : J pre W) (hL : (pre ++ dW p a ts).map Sl.l <+: L) :
    CallsIn Fence.wide n Tryz.prog 111 #[.pointer (some ⟨b, 0, none⟩), .slice A a.length ca, .slice P p.length cp, .func (.yield l) #[] #[]] W (VisitP X w pre (dW p a ts) J Jx) := by
  obtain ⟨At, ct, Ak, ck, hN⟩ := h.node
  replace hN : NodeAt X w b ts [] At ct Ak ck := hN
  have hdd : ∀ k : Nat, (Fence.wide.depth.isSome = true → 1 ≤ k) := fun k h => by cases h
  have hcap := hN.capt; have hcap' := hN.capt'
  unfold maxLen at hcap'
  have HN := Lib.hid hN; have HA := Lib.hid ha; have HP := Lib.hid hp; have HJ := Lib.hid hJ; have HR := Lib.hid hR; have HLT := Lib.hid lt; have HS := Lib.hid hs; have HL := Lib.hid hL
  clear hN ha hp hJ hR lt hs hL h
  refine callsIn_of_wp Tryz.func111 rfl trivial ?_ rfl
  simp only [Tryz.ntmps111, List.size_toArray, List.length_cons, List.length_nil, Nat.reduceAdd, Nat.reduceSub, Array.replicate_succ, Array.replicate_zero, List.push_toArray, List.append_toArray, List.nil_append, List.cons_append]
  gi_wp2_with ((first | refine ⟨trivial, hdd _, ?_⟩ | refine ⟨hdd _, ?_⟩ | skip); gi_at_call 67; refine (callsIn_wide.2 (place_any A P ca cp a p _ (HN.out.onF hF) (HA.out.onF oa hF) (HP.out.onF op hF) la lp HLT.out)).mono ?_; rintro e w1 ⟨at0, f, rfl, hpl, hb⟩; replace hpl := Lib.hid hpl)
  have HE := Lib.hid (dW_leaf HS.out hpl.out)
  gi_loopw [9] (fun v wr => VisRel X w ts.length (dW p a ts) pre (fun i => ts.drop i) J v wr) (fun v _ => ts.length - (intOf v).toNat)
  case atStart => exact ⟨at0, [], rfl, hpl.out.le, HE.out, by simpa using HJ.out _ _ _ hj (Calm.of_below hb), hF.next (Fr.of hb)⟩
  case round =>
    obtain ⟨i, done, rfl, hi, hS, hJ2, hF2⟩ := hrel
    replace hS : dW p a ts = done ++ ts.drop i := hS
    have HS2 := Lib.hid hS; clear hS
    have c0 := (HN.out.onF hF2).c0
    by_cases hlt : i < ts.length
    · have hx := List.getElem?_eq_getElem hlt
      generalize ts[i] = x at hx
      have hok := (HN.out.onF hF2).rt.each x (List.mem_of_getElem? hx)
      obtain ⟨tb, to, hAt, htb, hcx⟩ := (HN.out.onF hF2).rt.at_ hx
      subst hAt
      have HX := Lib.hid hx; clear hx
      have hpx : (pre ++ done).map Sl.l ++ [x.l] <+: L := by
        refine List.IsPrefix.trans ?_ HL.out
        rw [HS2.out, drop_at HX.out]
        refine ⟨(ts.drop (i + 1)).map Sl.l, by simp⟩
      obtain ⟨fn, tmps, assign, body, hy, hRd⟩ := YieldAt.deep (m' := n - 1) (HR.out _ x wr hJ2 hpx hok)
      unfold Sl.val at hy
      gi_wp2_with (first
        | ((first | refine ⟨trivial, hdd _, ?_⟩ | refine ⟨hdd _, ?_⟩ | skip); gi_at_call 68; refine (callsIn_wide.2 (kid_leaf _ _ (HN.out.onF hF2))).mono ?_; rintro e w2 ⟨rfl, rfl⟩)
        | ((first | refine ⟨trivial, hdd _, ?_⟩ | refine ⟨hdd _, ?_⟩ | skip); gi_at_call 111; refine (visit_nil _ _ _).mono ?_; rintro e w2 ⟨rfl, rfl⟩)
        | ((first | refine ⟨trivial, hdd _, ?_⟩ | refine ⟨hdd _, ?_⟩ | skip); refine hRd.mono ?_; clear hRd; rintro e w3 (⟨rfl, hJ4, hF4, _⟩ | ⟨rfl, hx4, _⟩)))
      · go_roundw
        case rel => exact ⟨i + 1, done ++ [x], by go_num, by omega, by rw [HS2.out, drop_at HX.out]; simp, by rw [← List.append_assoc]; exact hJ4, hF2.trans hF4⟩
        case measure => simp [intOf]; omega
      · go_ret
        exact .inr ⟨rfl, done ++ [x], by rw [HS2.out, drop_at HX.out]; exact ⟨ts.drop (i + 1), by simp⟩, by rw [← List.append_assoc]; exact hx4⟩
    · gi_wp2_with (first
        | ((first | refine ⟨trivial, hdd _, ?_⟩ | refine ⟨hdd _, ?_⟩ | skip); gi_at_call 68; refine (callsIn_wide.2 (kid_leaf _ _ (HN.out.onF hF2))).mono ?_; rintro e w2 ⟨rfl, rfl⟩)
        | ((first | refine ⟨trivial, hdd _, ?_⟩ | refine ⟨hdd _, ?_⟩ | skip); gi_at_call 111; refine (visit_nil _ _ _).mono ?_; rintro e w2 ⟨rfl, rfl⟩))
      go_ret
      refine .inl ⟨rfl, ?_, hF2⟩
      rw [HS2.out, List.drop_of_length_le (by omega), List.append_nil]; exact hJ2

/-- What is to come from the kid i on. -/
def restV (p : List Int) (a : List V) (k : Nat) (t : Nd) (i : Nat) : List Sl := dW p a ((t.ks[i]?.map (flat k)).getD []) ++ tailF k t i
def VisRel2 (X : Nat → Prop) (w : World) (S pre : List Sl) (p : List Int) (a : List V) (k : Nat) (t : Nd) (J : List Sl → World → Prop) (v : Value) (wr : World) : Prop :=
  ∃ (i : Nat) (done : List Sl), v = .int .i64 (i : Nat) ∧ i ≤ t.ts.length ∧ S = done ++ restV p a k t i ∧ J (pre ++ done) wr ∧ Fr X w.heap.size w wr ∧ ∀ z ∈ tailF k t i, cmpC p z.l a ≠ -1
theorem ws_mid {p : List Int} {A B C : List Sl} (h : WS p (A ++ B ++ C)) : WS p B := (List.pairwise_append.1 (List.pairwise_append.1 h).1).2.1
theorem yield_lay {X : Nat → Prop} {w : World} {L : List (List V)} {l : Nat} {J Jx : List Sl → World → Prop} (hR : RoundR X w.heap.size L l J Jx) {pre : List Sl} {x : Sl} {W1 : World} (m : Nat) (hJ : J pre W1) (hpx : pre.map Sl.l ++ [x.l] <+: L) (hok : SlOk X W1 x) :
    YieldAt Fence.wide m Tryz.prog l #[.slice x.A x.l.length x.c] W1 (RoundPost X w.heap.size l J Jx (pre ++ [x]) W1) := YieldAt.deep (hR pre x W1 hJ hpx hok)
set_option maxRecDepth 20000 in
set_option maxHeartbeats 8000000 in
theorem visit_succ {X : Nat → Prop} {l k : Nat} {J Jx : List Sl → World → Prop} (A P : Option Addr) (ca cp : Nat) (a : List V) (p : List Int) (w W0 : World) (L : List (List V)) (la : a.length ≤ 1000) (lp : p.length ≤ 1000) (ha : RdV w A a) (hp : RdI w P p) (oa : Off X A) (op : Off X P)
    (hJ : ∀ s A B, J s A → Calm W0.heap.size A B → J s B) (hR : RoundR X w.heap.size L l J Jx)
    (ih : ∀ (u : Nd), IsN X w k u → (∀ x ∈ flat k u, x.l.length ≤ 1000) → WS p (flat k u) → ∀ (n : Nat) (pre : List Sl) (W : World), Fr X w.heap.size w W → J pre W → (pre ++ dW p a (flat k u)).map Sl.l <+: L →
      CallsIn Fence.wide n Tryz.prog 111 #[u.val, .slice A a.length ca, .slice P p.length cp, .func (.yield l) #[] #[]] W (VisitP X w pre (dW p a (flat k u)) J Jx))
    (b : Nat) (ts : List Sl) (ks : List Nd) (h : IsN X w (k + 1) (.mk b ts ks)) (lt : ∀ x ∈ flat (k + 1) (.mk b ts ks), x.l.length ≤ 1000) (hs : WS p (flat (k + 1) (.mk b ts ks)))
    (n : Nat) (pre : List Sl) (W : World) (hF : Fr X w.heap.size w W) (hj : J pre W) (hL : (pre ++ dW p a (flat (k + 1) (.mk b ts ks))).map Sl.l <+: L) :
    CallsIn Fence.wide n Tryz.prog 111 #[.pointer (some ⟨b, 0, none⟩), .slice A a.length ca, .slice P p.length cp, .func (.yield l) #[] #[]] W (VisitP X w pre (dW p a (flat (k + 1) (.mk b ts ks))) J Jx) := by
  obtain ⟨At, ct, Ak, ck, hN⟩ := h.node
  replace hN : NodeAt X w b ts (ks.map Nd.val) At ct Ak ck := hN
  have hdd : ∀ k : Nat, (Fence.wide.depth.isSome = true → 1 ≤ k) := fun k h => by cases h
  have hcap := hN.capt; have hcap' := hN.capt'
  unfold maxLen at hcap'
  obtain ⟨hl, hks⟩ := h.succ
  have hts : ∀ x ∈ ts, x.l.length ≤ 1000 := fun x hx => lt x (by
    obtain ⟨i, hi⟩ := List.getElem?_of_mem hx
    rw [flat_succ]; simp only [Nd.ts, Nd.ks]
    rw [weave_cut i _ _ x (by simpa using hl) hi]; simp)
  have HI : Hid (∀ (i : Nat) (u : Nd), ks[i]? = some u → ∀ (n : Nat) (pre : List Sl) (W : World), Fr X w.heap.size w W → J pre W → (pre ++ dW p a (flat k u)).map Sl.l <+: L →
      CallsIn Fence.wide n Tryz.prog 111 #[.pointer (some ⟨u.b, 0, none⟩), .slice A a.length ca, .slice P p.length cp, .func (.yield l) #[] #[]] W (VisitP X w pre (dW p a (flat k u)) J Jx)) := Lib.hid (fun i u hu =>
    ih u (hks u (List.mem_of_getElem? hu)).1 (fun x hx => lt x (by rw [flat_at (t := .mk b ts ks) hl hu]; simp [hx])) (by rw [flat_at (t := .mk b ts ks) hl hu] at hs; exact ws_mid hs))
  have HN := Lib.hid hN; have HA := Lib.hid ha; have HP := Lib.hid hp; have HJ := Lib.hid hJ; have HR := Lib.hid hR; have HLT := Lib.hid hts; have HS := Lib.hid hs; have HL := Lib.hid hL; have HLN := Lib.hid hl
  clear hN ha hp hJ hR lt hs hL h ih hks hts hl
  refine callsIn_of_wp Tryz.func111 rfl trivial ?_ rfl
  simp only [Tryz.ntmps111, List.size_toArray, List.length_cons, List.length_nil, Nat.reduceAdd, Nat.reduceSub, Array.replicate_succ, Array.replicate_zero, List.push_toArray, List.append_toArray, List.nil_append, List.cons_append]
  gi_wp2_with ((first | refine ⟨trivial, hdd _, ?_⟩ | refine ⟨hdd _, ?_⟩ | skip); gi_at_call 67; refine (callsIn_wide.2 (place_any A P ca cp a p _ (HN.out.onF hF) (HA.out.onF oa hF) (HP.out.onF op hF) la lp HLT.out)).mono ?_; rintro e w1 ⟨at0, f, rfl, hpl, hb⟩; replace hpl := Lib.hid hpl)
  obtain ⟨u0, hu0⟩ : ∃ u, ks[at0]? = some u := ⟨_, List.getElem?_eq_getElem (by have := hpl.out.le; rw [HLN.out]; omega)⟩
  have hdn := dW_node HLN.out hu0 HS.out hpl.out
  have HE := Lib.hid hdn.1; have HT := Lib.hid hdn.2; have HU0 := Lib.hid hu0; clear hdn hu0
  gi_loopw [9] (fun v wr => VisRel2 X w (dW p a (flat (k + 1) (.mk b ts ks))) pre p a k (.mk b ts ks) J v wr) (fun v _ => ts.length - (intOf v).toNat)
  case atStart => exact ⟨at0, [], rfl, hpl.out.le, by rw [HE.out, restV]; simp [Nd.ks, HU0.out], by simpa using HJ.out _ _ _ hj (Calm.of_below hb), hF.next (Fr.of hb), HT.out⟩
  case round =>
    obtain ⟨i, done, rfl, hi, hS, hJ2, hF2, hq⟩ := hrel
    replace hi : i ≤ ts.length := hi
    obtain ⟨u, hu⟩ : ∃ u, ks[i]? = some u := ⟨_, List.getElem?_eq_getElem (by rw [HLN.out]; omega)⟩
    have hS' : dW p a (flat (k + 1) (.mk b ts ks)) = done ++ (dW p a (flat k u) ++ tailF k (.mk b ts ks) i) := by rw [hS, restV]; simp [Nd.ks, hu]
    have HS2 := Lib.hid hS'; have HQ := Lib.hid hq; have HU := Lib.hid hu; clear hS hS' hq HE HT
    have hkv : (ks.map Nd.val)[i]? = some (.pointer (some ⟨u.b, 0, none⟩)) := by rw [List.getElem?_map, HU.out]; rfl
    have HKV := Lib.hid hkv; clear hkv hu
    have c0 := (HN.out.onF hF2).c0
    have hpu : (pre ++ done ++ dW p a (flat k u)).map Sl.l <+: L := List.IsPrefix.trans ⟨(tailF k (.mk b ts ks) i).map Sl.l, by rw [HS2.out]; simp⟩ HL.out
    by_cases hlt : i < ts.length
    · have hx := List.getElem?_eq_getElem hlt
      generalize ts[i] = x at hx
      obtain ⟨tb, to, hAt, htb, hcx⟩ := (HN.out.onF hF2).rt.at_ hx
      subst hAt
      obtain ⟨u2, hu2⟩ : ∃ u, ks[i + 1]? = some u := ⟨_, List.getElem?_eq_getElem (by rw [HLN.out]; omega)⟩
      have hnx := tailF_next (k := k) (b := b) hx hu2
      have HX := Lib.hid hx; have HNX := Lib.hid hnx; have HU2 := Lib.hid hu2; clear hx hnx hu2
      have hpx : (pre ++ done ++ dW p a (flat k u)).map Sl.l ++ [x.l] <+: L := by
        refine List.IsPrefix.trans ?_ HL.out
        rw [HS2.out, HNX.out]
        exact ⟨(flat k u2 ++ tailF k (.mk b ts ks) (i + 1)).map Sl.l, by simp⟩
      have ih1 := Lib.hid ((HI.out i u HU.out (n - 1) (pre ++ done) wr hF2 hJ2 hpu).mono (R' := fun e W1 => (e = .returned (.bool true) ∧ Fr X w.heap.size w W1 ∧ W1.cell? ⟨b, 0, none⟩ = some (.slice (some ⟨tb, to, none⟩) ts.length ct) ∧ W1.cell? ⟨tb, to + i, none⟩ = some (.slice x.A x.l.length x.c) ∧
          YieldAt Fence.wide (n - 1) Tryz.prog l #[.slice x.A x.l.length x.c] W1 (RoundPost X w.heap.size l J Jx (pre ++ done ++ dW p a (flat k u) ++ [x]) W1)) ∨
          (e = .returned (.bool false) ∧ ∃ q, q <+: dW p a (flat k u) ∧ Jx (pre ++ done ++ q) W1)) (fun e W1 h => by
          rcases h with ⟨he, hj3, hf3⟩ | h
          · have hn3 := HN.out.onF hf3
            obtain ⟨tb', to', e', _, hcx'⟩ := hn3.rt.at_ HX.out
            injection e' with e'; injection e' with e1 e2 _; subst e1 e2
            exact .inl ⟨he, hf3, hn3.c0, hcx', yield_lay HR.out _ hj3 hpx (hn3.rt.each x (List.mem_of_getElem? HX.out))⟩
          · exact .inr h))
      gi_wp2_with (first
        | ((first | refine ⟨trivial, hdd _, ?_⟩ | refine ⟨hdd _, ?_⟩ | skip); gi_at_call 68; refine (callsIn_wide.2 (kid_some i _ _ (HN.out.onF hF2) HKV.out)).mono ?_; rintro e w2 ⟨rfl, rfl⟩)
        | ((first | refine ⟨trivial, hdd _, ?_⟩ | refine ⟨hdd _, ?_⟩ | skip); gi_at_call 111; refine ih1.out.mono ?_; clear ih1; rintro e w2 (⟨rfl, hF3, c0', hcx', fn, tmps, assign, body, hy, hRd⟩ | ⟨rfl, q, hq, hx⟩))
        | ((first | refine ⟨trivial, hdd _, ?_⟩ | refine ⟨hdd _, ?_⟩ | skip); refine hRd.mono ?_; clear hRd; rintro e w3 (⟨rfl, hJ4, hF4, _⟩ | ⟨rfl, hx4, _⟩)))
      · have hq2 : ∀ z ∈ flat k u2 ++ tailF k (.mk b ts ks) (i + 1), cmpC p z.l a ≠ -1 := fun z hz => HQ.out z (by rw [HNX.out]; exact List.mem_cons_of_mem _ hz)
        have hid : dW p a (flat k u2) = flat k u2 := dW_id fun z hz => hq2 z (List.mem_append_left _ hz)
        go_roundw
        case rel => exact ⟨i + 1, done ++ dW p a (flat k u) ++ [x], by go_num, hlt, by rw [HS2.out, HNX.out, restV]; simp [Nd.ks, HU2.out, hid], by rw [← List.append_assoc, ← List.append_assoc]; exact hJ4, hF3.trans hF4, fun z hz => hq2 z (List.mem_append_right _ hz)⟩
        case measure => simp [intOf]; omega
      · go_ret
        exact .inr ⟨rfl, done ++ dW p a (flat k u) ++ [x], by rw [HS2.out, HNX.out]; exact ⟨flat k u2 ++ tailF k (.mk b ts ks) (i + 1), by simp⟩, by rw [← List.append_assoc, ← List.append_assoc]; exact hx4⟩
      · refine ⟨fun _ h => (by cases h), ?_⟩
        gi_wp2
        go_ret
        obtain ⟨r, hr⟩ := hq
        exact .inr ⟨rfl, done ++ q, by rw [HS2.out, ← hr]; exact ⟨r ++ tailF k (.mk b ts ks) i, by simp⟩, by rw [← List.append_assoc]; exact hx⟩
    · gi_wp2_with (first
        | ((first | refine ⟨trivial, hdd _, ?_⟩ | refine ⟨hdd _, ?_⟩ | skip); gi_at_call 68; refine (callsIn_wide.2 (kid_some i _ _ (HN.out.onF hF2) HKV.out)).mono ?_; rintro e w2 ⟨rfl, rfl⟩)
        | ((first | refine ⟨trivial, hdd _, ?_⟩ | refine ⟨hdd _, ?_⟩ | skip); gi_at_call 111; refine (HI.out i u HU.out _ (pre ++ done) _ hF2 hJ2 hpu).mono ?_; rintro e w2 (⟨rfl, hJ3, hF3⟩ | ⟨rfl, q, hq, hx⟩)))
      · go_ret
        refine .inl ⟨rfl, ?_, hF3⟩
        rw [HS2.out, tailF_last (by omega), List.append_nil, ← List.append_assoc]; exact hJ3
      · go_ret
        obtain ⟨r, hr⟩ := hq
        exact .inr ⟨rfl, done ++ q, by rw [HS2.out, ← hr]; exact ⟨r ++ tailF k (.mk b ts ks) i, by simp⟩, by rw [← List.append_assoc]; exact hx⟩
theorem visit_any {X : Nat → Prop} {l : Nat} {J Jx : List Sl → World → Prop} (A P : Option Addr) (ca cp : Nat) (a : List V) (p : List Int) (w W0 : World) (L : List (List V)) (la : a.length ≤ 1000) (lp : p.length ≤ 1000) (ha : RdV w A a) (hp : RdI w P p) (oa : Off X A) (op : Off X P)
    (hJ : ∀ s A B, J s A → Calm W0.heap.size A B → J s B) (hR : RoundR X w.heap.size L l J Jx) : ∀ (k : Nat) (u : Nd), IsN X w k u → (∀ x ∈ flat k u, x.l.length ≤ 1000) → WS p (flat k u) → ∀ (n : Nat) (pre : List Sl) (W : World), Fr X w.heap.size w W → J pre W → (pre ++ dW p a (flat k u)).map Sl.l <+: L →
      CallsIn Fence.wide n Tryz.prog 111 #[u.val, .slice A a.length ca, .slice P p.length cp, .func (.yield l) #[] #[]] W (VisitP X w pre (dW p a (flat k u)) J Jx)
  | 0, .mk b ts ks, h, lt, hs, n, pre, W, hF, hj, hL => by
    obtain rfl : ks = [] := h.zero
    exact visit_leaf A P ca cp a p w W0 L la lp ha hp oa op hJ hR b ts h lt hs n pre W hF hj hL
  | k + 1, .mk b ts ks, h, lt, hs, n, pre, W, hF, hj, hL => visit_succ A P ca cp a p w W0 L la lp ha hp oa op hJ hR (visit_any A P ca cp a p w W0 L la lp ha hp oa op hJ hR k) b ts ks h lt hs n pre W hF hj hL
end Go.Proofs.YtpmkhpbhimmeiaaGreat

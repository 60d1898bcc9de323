/-
  Package rel: contract of Find.
-/
import Derived.Test.YtpmkhpbhimmeiaaGreatRelF
import Derived.Test.YtpmkhpbhimmeiaaGreatBtTold
import Derived.Maps.OwnIn
import Derived.Test.YtpmkhpbhimmeiaaGreatBtRefL
import Derived.Test.YtpmkhpbhimmeiaaGreatBtOpenT
namespace Go.Proofs.YtpmkhpbhimmeiaaGreat
open Go.RowKit FloM ValM Go.Shelf
set_option linter.unusedVariables false
set_option linter.unusedSimpArgs false
attribute [local go_sem] Oper.semAt_some
theorem uses_one {cols : List Int} {ps : List (List Int)} {a b : Int} (ha : UsesR cols ps a) (hb : UsesR cols ps b) : a = b := by
  rcases ha with ⟨rfl, ha⟩ | ⟨k, rfl, hk, ⟨p, hp, hl⟩, hq⟩
  · rcases hb with ⟨rfl, _⟩ | ⟨k, rfl, hk, ⟨p, hp, hl⟩, hq⟩
    · rfl
    · exact absurd hl (ha p (List.mem_of_getElem? hp))
  · rcases hb with ⟨rfl, hb⟩ | ⟨k', rfl, hk', ⟨p', hp', hl'⟩, hq'⟩
    · exact absurd hl (hb p (List.mem_of_getElem? hp))
    · have key : ∀ {i j : Nat} {q : List Int}, i < j → ps[i]? = some q → leadL cols q = cols.length → (∀ q ∈ ps.take j, leadL cols q ≠ cols.length) → False := fun hij h1 h2 h3 =>
        h3 _ (List.mem_of_getElem? (by rw [List.getElem?_take, if_pos hij]; exact h1)) h2
      rcases Nat.lt_trichotomy k k' with h | h | h
      · exact (key h hp hl hq').elim
      · rw [h]
      · exact (key h hp' hl' hq).elim
theorem uses_some (cols : List Int) : ∀ ps : List (List Int), ∃ k, UsesR cols ps k
  | [] => ⟨-1, .inl ⟨rfl, fun p hp => by cases hp⟩⟩
  | p :: ps => by
    by_cases h : leadL cols p = cols.length
    · exact ⟨0, .inr ⟨0, rfl, by simp, ⟨p, rfl, h⟩, by simp⟩⟩
    · obtain ⟨k, hk⟩ := uses_some cols ps
      rcases hk with ⟨rfl, hk⟩ | ⟨k, rfl, hl, ⟨q, hq, hql⟩, hn⟩
      · exact ⟨-1, .inl ⟨rfl, fun q hq => by
          rcases List.mem_cons.1 hq with rfl | hq
          · exact h
          · exact hk q hq⟩⟩
      · exact ⟨(k + 1 : Nat), .inr ⟨k + 1, rfl, by simpa using hl, ⟨q, by simpa using hq, hql⟩, fun z hz => by
          rw [List.take_succ_cons] at hz
          rcases List.mem_cons.1 hz with rfl | hz
          · exact h
          · exact hn z hz⟩⟩
theorem wpIn_seqMd (d : Tmp) {n : Nat} {g : Operand} {ps : Array Tmp} {assign body : Code} {Q : Exit → Act → World → Prop} {a : Act} {w w0 : World}
    {gf : Nat} {lb : Array Value} (hg : a.eval g = .func (.func gf) #[] lb) (eg : ∀ args w, (callFunc gf args).run Tryz.prog w = .ok (.enter gf args) w)
    {X : Nat → Prop} {L : List (List V)} (hseq : SeqM gf lb X L w0) (hb0 : Below w0.heap.size w0 w) (hps : ps.size = 1)
    (I : Option Nat → List Sl → World → Prop) (hI : ∀ o s A B, I o s A → Calm w.heap.size A B → I o s B) (h0 : I none [] w)
    (hassign : ∀ (l : Nat) (x : Sl) (W : World) (K : Act → World → Prop), K { tmps := ((ps.zip #[x.val]).foldl (fun t (p, v) => t.setIfInBounds p v) a.tmps).setIfInBounds d (.slice x.A x.l.length x.c), defers := [] } W →
      assign.wpIn (Fence.wide.inRound l) 0 Tryz.prog (Exit.then K (fun _ _ _ => False)) { tmps := (ps.zip #[x.val]).foldl (fun t (p, v) => t.setIfInBounds p v) a.tmps, defers := [] } W)
    (hbody : ∀ (l : Nat) (o : Option Nat) (pre : List Sl) (x : Sl) (W : World), w.heap.size ≤ l → I o pre W → pre.map Sl.l ++ [x.l] <+: L → SlOk X W x → body.wpIn (Fence.wide.inRound l) 0 Tryz.prog (postM w.heap.size X I o (pre ++ [x]) W) { tmps := ((ps.zip #[x.val]).foldl (fun t (p, v) => t.setIfInBounds p v) a.tmps).setIfInBounds d (.slice x.A x.l.length x.c), defers := [] } W)
    (hdone : ∀ (D : Nat) (o : Option Nat) (xs : List Sl) (W : World), w.heap.size ≤ D → xs.map Sl.l = L → I o xs W → W.heap[D]? = some (.deferred (some [])) → Q .normal { a with defers := { target := .collected D, args := #[] } :: a.defers } W) :
    (Code.rangeFunc g ps assign body).wpIn Fence.wide n Tryz.prog Q a w :=
  wpIn_seqM hg eg hseq hb0 hps I hI h0 (fun x => { tmps := ((ps.zip #[x.val]).foldl (fun t (p, v) => t.setIfInBounds p v) a.tmps).setIfInBounds d (.slice x.A x.l.length x.c), defers := [] }) hassign hbody hdone
/-- What Find hands back: tuples that read L, in a row of the call's own. -/
def FindP (X : Nat → Prop) (L : List (List V)) (w : World) (e : Ending) (w' : World) : Prop :=
  ∃ (A : Option Addr) (c : Nat) (ys : List Sl), e = .returned (.slice A L.length c) ∧ ys.map Sl.l = L ∧ RdC w' A (ys.map Sl.val) ∧ (∀ y ∈ ys, RdV w' y.A y.l) ∧ Below w.heap.size w w' ∧ L.length ≤ c ∧ (∀ y ∈ ys, SlOk X w' y)
def findL (n : Nat) (cols : List Int) (vals : List V) (H : List (List V)) : List (List V) := if cols.length = vals.length ∧ distB n cols = true then foundL cols vals (puts (upto n) H) else []
theorem slOk_far {X Z : Nat → Prop} {w w' : World} {y : Sl} (h : SlOk X w y) (hne : ∀ a, y.A = some a → ¬ Z a.block) (hF : Fr Z w.heap.size w w') : SlOk X w' y :=
  ⟨h.rd.onF (X := Z) (fun a ha => hne a ha) hF, h.off, h.cap, fun a ha => by
    obtain ⟨c, z, hc⟩ := h.ty a ha
    exact ⟨c, z, (hF.block _ (Array.getElem?_eq_some_iff.1 hc).1 (hne a ha)).trans hc⟩⟩
theorem FindP.nil {X : Nat → Prop} {w w' : World} {C : Option Addr} (h : Below w.heap.size w w') : FindP X [] w (.returned (.slice none 0 0)) w' := ⟨none, 0, [], rfl, rfl, (fun j u hu => by simp at hu), (fun y hy => by cases hy), h, Nat.le_refl _, (fun y hy => by cases hy)⟩
theorem ownBlock_slice (A : Option Addr) (n c : Nat) : (Value.slice A n c).ownBlock = A.map (fun a => a.block) := by cases A <;> rfl
section
variable {X : Nat → Prop} {r n g0 : Nat} {gs : List Nat} {ps : List (List Int)} {H : List (List V)}
set_option maxRecDepth 20000 in
set_option maxHeartbeats 4000000 in
theorem relFind_no (C A : Option Addr) (cc ca : Nat) (cols : List Int) (vals : List V) (w : World) (h : RelS X w r n g0 gs ps H) (hc : RdI w C cols) (lc : cols.length ≤ 1000)
    (hno : cols.length ≠ vals.length ∨ cols.length = vals.length ∧ distB n cols = false) :
    Calls Tryz.prog 18 #[.pointer (some ⟨r, 0, none⟩), .slice C cols.length cc, .slice A vals.length ca] w (FindP X (findL n cols vals H) w) := by
  have hb0 : Below w.heap.size w (w.alloc (.cells #[.pointer (some ⟨r, 0, none⟩)] 28)) := (Below.refl _ _).alloc (Nat.le_refl _) _
  have HG := Lib.hid (RelG.on h hb0); have HC := Lib.hid (hc.on hb0); clear h hc
  have HE : Hid (findL n cols vals H = []) := Lib.hid (by
    unfold findL
    rw [if_neg]
    rintro ⟨h1, h2⟩
    rcases hno with h | ⟨_, h⟩
    · exact h h1
    · rw [h] at h2; cases h2)
  rw [HE.out]
  refine (callsIn_wide (n := 3)).1 ?_
  refine callsIn_of_wp_marks Tryz.func18 rfl trivial ?_ rfl
  simp only [Tryz.ntmps18, List.size_toArray, List.length_cons, List.length_nil, Nat.reduceAdd, Nat.reduceSub, Array.replicate_succ, Array.replicate_zero, List.push_toArray, List.append_toArray, List.nil_append, List.cons_append]
  refine wpIn_wide.2 ?_
  rcases hno with h | ⟨h, hd⟩
  · have h' : ¬ (cols.length : Int) = (vals.length : Int) := by omega
    clear h
    go_wp2
    refine ⟨_, results_tmp rfl _ _ _, ?_⟩
    exact FindP.nil (C := none) hb0
  · have h' : (cols.length : Int) = (vals.length : Int) := by omega
    have HD := Lib.hid hd
    have hdc := distinct_any C cc cols _ HG.out HC.out lc
    rw [HD.out] at hdc
    have HDC := Lib.hid hdc
    clear h hd hdc
    go_wp2_with (go_at_call 47; refine HDC.out.mono ?_; rintro e w2 ⟨rfl, hb⟩)
    refine ⟨_, results_tmp rfl _ _ _, ?_⟩
    exact FindP.nil (C := none) (on hb0 hb)
set_option maxRecDepth 20000 in
set_option maxHeartbeats 16000000 in
theorem relFind_plain (C A : Option Addr) (cc ca : Nat) (cols : List Int) (vals : List V) (w : World) (h : RelS X w r n g0 gs ps H) (hX : ∀ k, X k → k < w.heap.size) (hH : H.length ≤ 100000) (hc : RdI w C cols) (oc : cols ≠ [] → ∀ b o, C = some ⟨b, o, none⟩ → ¬ X b) (hv : RdV w A vals) (lc : cols.length ≤ 1000)
    (hcl : cols.length = vals.length) (hd : distB n cols = true) (hu0 : UsesR cols ps (-1)) :
    Calls Tryz.prog 18 #[.pointer (some ⟨r, 0, none⟩), .slice C cols.length cc, .slice A vals.length ca] w (FindP X (foundL cols vals (puts (upto n) H)) w) := by
  have hfew := h.few; have hmany := h.many; have hrl := h.lt
  have hb0 : Below w.heap.size w (w.alloc (.cells #[.pointer (some ⟨r, 0, none⟩)] 28)) := (Below.refl _ _).alloc (Nat.le_refl _) _
  have hbx0 := heap_alloc_new w (.cells #[.pointer (some ⟨r, 0, none⟩)] 28)
  have hs0 : (w.alloc (.cells #[.pointer (some ⟨r, 0, none⟩)] 28)).heap.size = w.heap.size + 1 := by simp
  have HREL := Lib.hid h
  have HC := Lib.hid hc; have HV := Lib.hid hv; have HX := Lib.hid hX; have HD := Lib.hid hd; have HOC := Lib.hid oc; have HCL := Lib.hid hcl; have HBX0 := Lib.hid hbx0
  have h' : (cols.length : Int) = (vals.length : Int) := by omega
  have hdc := distinct_any C cc cols _ (RelG.on h hb0) (hc.on hb0) lc
  rw [hd] at hdc
  have HDC := Lib.hid hdc
  have hmk := make_vals' n (by omega)
  have hmf : ∀ (fn : Fn) (first cap : Array Value) (w : World), (Instr.makeFunc fn first cap).run Tryz.prog w = .ok (.func fn first cap) w := fun _ _ _ _ => rfl
  obtain ⟨i0, hi0, hz0, hz1, hz2⟩ := info_parts info_tup
  have HI := Lib.hid (And.intro hi0 (And.intro hz0 (And.intro hz1 hz2))); clear hi0 hz0 hz1 hz2
  obtain ⟨P0, c0, I, ci, q1, q2, q3⟩ := h.cells
  obtain ⟨r0, r1, r2⟩ := cell3 q1
  have HQ2 := Lib.hid q2
  have HAR : Hid (∀ W, Below w.heap.size w W → Calls Tryz.prog 15 #[.pointer (some ⟨r, 0, none⟩)] W fun e w' => e = .returned (.int .i64 (n : Nat)) ∧ W = w') := Lib.hid fun W hW => relArity_any W (RelG.on HREL.out hW)
  have HU := Lib.hid hu0; clear hu0
  clear h hc hv hX hd oc hcl hdc hbx0 q1 q2 q3
  refine (callsIn_wide (n := 3)).1 ?_
  refine callsIn_of_wp_marks Tryz.func18 rfl trivial ?_ rfl
  simp only [Tryz.ntmps18, List.size_toArray, List.length_cons, List.length_nil, Nat.reduceAdd, Nat.reduceSub, Array.replicate_succ, Array.replicate_zero, List.push_toArray, List.append_toArray, List.nil_append, List.cons_append]
  refine wpIn_wide.2 ?_
  go_wp2_with (first
    | (go_at_call 47; refine HDC.out.mono ?_; rintro e w2 ⟨rfl, hb2⟩; have hbox2 := (hb2.block w.heap.size (by omega)).trans HBX0.out; have hc2 := cell_box' hbox2; have hw2 := on hb0 hb2; have a0 := (keep hw2 _ 0 hrl).trans r0; have a1 := (keep hw2 _ 1 hrl).trans r1; have a2 := (keep hw2 _ 2 hrl).trans r2; have hal2 : ∀ o : Obj, (w2.alloc o).cell? ⟨w.heap.size, 0, none⟩ = some (.pointer (some ⟨r, 0, none⟩)) := (fun o => (keep ((Below.refl _ _).alloc (Nat.le_refl _) o) w.heap.size 0 (by have := hb2.size; omega)).trans hc2); have HBOX2 := Lib.hid hbox2; clear hbox2)
    | (go_at_call 20; refine (relUses_any C cc cols _ (RelG.on HREL.out (hw2.alloc hw2.size _)) (HC.out.on (hw2.alloc hw2.size _)) lc).mono ?_; rintro e w4 ⟨⟨k, rfl, hu⟩, hb4⟩; obtain rfl := uses_one hu HU.out; have hw4 := on (hw2.alloc hw2.size (.cells #[.pointer (some ⟨g0, 0, none⟩), .slice P0 n c0] 72)) hb4; have hcb4 := (keep hb4 w.heap.size 0 (by have := hb2.size; simp; omega)).trans ((keep ((Below.refl w2.heap.size w2).alloc (Nat.le_refl _) (.cells #[.pointer (some ⟨g0, 0, none⟩), .slice P0 n c0] 72)) w.heap.size 0 (by have := hb2.size; omega)).trans hc2); have HB4 := Lib.hid hb4; clear hb4 hu)
    | (go_at_call 15; refine (HAR.out _ hw4).mono ?_; rintro e w5 ⟨rfl, rfl⟩))
  have hw5 := hw4
  have HIX := Lib.hid (HQ2.out.on hw5)
  have HPP := Lib.hid (upto_perm n)
  have HPN := Lib.hid (upto_len n)
  have hs2 := hb2.size
  have HBX5 := Lib.hid ((HB4.out.block w2.heap.size (by simp)).trans (heap_alloc_new w2 (.cells #[.pointer (some ⟨g0, 0, none⟩), .slice P0 n c0] 72)))
  have HBOX5 := Lib.hid ((HB4.out.block w.heap.size (by simp; omega)).trans ((Below.heap_alloc _ _ _ (by omega)).trans HBOX2.out))
  have hBXs : w2.heap.size < w4.heap.size := (Array.getElem?_eq_some_iff.1 HBX5.out).1
  have hws5 := hw5.size
  go_loopw [50] (fun v wr => ∃ (i : Nat) (xl : List V), v = .int .i64 (i : Nat) ∧ i ≤ cols.length ∧ Below w4.heap.size w4 wr ∧ wr.heap[w4.heap.size]? = some (.cells (vcells xl).toArray 69 (0, 0)) ∧ xl.length = n ∧ ∀ (j : Nat) (c : Int), j < i → cols[j]? = some c → xl[c.toNat]? = vals[j]?) (fun v _ => cols.length - (intOf v).toNat)
  case atStart => exact ⟨0, List.replicate n ⟨0, 0, ByteArray.empty⟩, rfl, Nat.zero_le _, (Below.refl _ _).alloc (Nat.le_refl _) _, by rw [← made_vals]; exact heap_alloc_new _ _, by simp, fun j c hj => absurd hj (by omega)⟩
  case round =>
    obtain ⟨i, xl, rfl, hi, hB, eD, hxl, hx⟩ := hrel
    have ED := Lib.hid eD; have HXX := Lib.hid hx; clear eD hx
    have hwr : Below w.heap.size w wr := on hw5 hB
    have hDl := (Array.getElem?_eq_some_iff.1 ED.out).1
    by_cases hlt : i < cols.length
    · obtain ⟨cb, co, rfl, hcb, hcc⟩ := HC.out.row (by omega)
      have hc := List.getElem?_eq_getElem hlt
      generalize cols[i] = c at hc
      have cx := (keep hwr _ _ hcb).trans (hcc i c hc)
      have hcin := inR_iff.1 ((distB_iff.1 HD.out).1 c (List.mem_of_getElem? hc))
      obtain ⟨m, rfl⟩ := Int.eq_ofNat_of_zero_le hcin.1
      have hm : m < n := by omega
      have hlv : i < vals.length := by have := HCL.out; omega
      have hlt' : (i : Int) < (vals.length : Int) := by omega
      have hv := List.getElem?_eq_getElem hlv
      generalize vals[i] = v at hv
      obtain ⟨ab, ao, rfl, hab, v0, v1, v2⟩ := (HV.out.on hwr) i v hv
      obtain ⟨vk, vn, vs⟩ := v
      simp only at v0 v1 v2
      have HCI := Lib.hid hc; have HVI := Lib.hid hv; clear hc hv hcin hcc
      have hxm : m < xl.length := by omega
      have x0 := vcells_at (List.getElem?_eq_getElem hxm)
      have y0 : wr.cell? ⟨w4.heap.size, m * 3, none⟩ = some (.int .i64 xl[m].k) := by simp [World.cell?, ED.out, x0.1]
      have y1 : wr.cell? ⟨w4.heap.size, m * 3 + 1, none⟩ = some (.int .i64 xl[m].n) := by simp [World.cell?, ED.out, x0.2.1]
      have y2 : wr.cell? ⟨w4.heap.size, m * 3 + 2, none⟩ = some (.string xl[m].s) := by simp [World.cell?, ED.out, x0.2.2]
      have z0 : ∀ k, wr.frozen? ⟨w4.heap.size, k, none⟩ = false := fun k => by simp [World.frozen?, ED.out]
      clear x0
      go_wp2
      go_roundw
      case rel =>
        have s1 := heap_set (o := m * 3) (.int .i64 vk) ED.out
        have s2 := heap_set (o := m * 3 + 1) (.int .i64 vn) s1
        have s3 := heap_set (o := m * 3 + 2) (.string vs) s2
        rw [set3 xl m ⟨vk, vn, vs⟩] at s3
        refine ⟨i + 1, xl.set m ⟨vk, vn, vs⟩, by go_num, by omega, ((hB.setCell (Nat.le_refl _) _).setCell (Nat.le_refl _) _).setCell (Nat.le_refl _) _, s3, by simpa using hxl, fun j c hj hc => ?_⟩
        have hci := inR_iff.1 ((distB_iff.1 HD.out).1 c (List.mem_of_getElem? hc))
        by_cases hji : j = i
        · subst hji
          rw [HCI.out] at hc; cases hc
          rw [Int.toNat_natCast, List.getElem?_set_self hxm, HVI.out]
        · have hne : m ≠ c.toNat := fun e => hji (by
            have e1 := idxOf_at (distB_iff.1 HD.out).2 hc
            have e2 := idxOf_at (distB_iff.1 HD.out).2 HCI.out
            rw [show c = ((m : Nat) : Int) by omega] at e1
            omega)
          rw [List.getElem?_set_ne hne]
          exact HXX.out j c (by omega) hc
      case measure => simp [intOf]; omega
    · obtain rfl : i = cols.length := by omega
      have HPK := Lib.hid (pick_cols (distB_iff.1 HD.out).1 hxl HCL.out.symm (fun j c hc => HXX.out j c (List.getElem?_eq_some_iff.1 hc).1 hc))
      have HXL := Lib.hid hxl
      have hrx : RdV wr (some ⟨w4.heap.size, 0, none⟩) xl := fun i v hv => by
        have y := vcells_at hv
        exact ⟨w4.heap.size, 0, rfl, hDl, by simp [World.cell?, ED.out, y.1], by simp [World.cell?, ED.out, y.2.1], by simp [World.cell?, ED.out, y.2.2]⟩
      have hbxr := (hB.block _ hBXs).trans HBX5.out
      have hal : ∀ o : Obj, Below wr.heap.size wr (wr.alloc o) := fun o => (Below.refl _ _).alloc (Nat.le_refl _) o
      have hsB := hB.size
      have t0 : ∀ o : Obj, (wr.alloc o).cell? ⟨w2.heap.size, 0, none⟩ = some (.pointer (some ⟨g0, 0, none⟩)) := fun o => (keep (hal o) _ 0 (by omega)).trans (cell2 hbxr).1
      have t1 : ∀ o : Obj, (wr.alloc o).cell? ⟨w2.heap.size, 1, none⟩ = some (.slice P0 n c0) := fun o => (keep (hal o) _ 1 (by omega)).trans (cell2 hbxr).2
      have HM : Hid (∀ o : Obj, Calls Tryz.prog 48 #[.agg #[.pointer (some ⟨g0, 0, none⟩), .slice P0 n c0], .slice (some ⟨w4.heap.size, 0, none⟩) n n, .slice C cols.length cc] (wr.alloc o) fun e w' => ∃ B1 B2 B3 B4, e = .returned (.func (.func 72) #[] #[.pointer (some ⟨B1, 0, none⟩), .pointer (some ⟨B2, 0, none⟩), .pointer (some ⟨B3, 0, none⟩), .pointer (some ⟨B4, 0, none⟩)]) ∧ MatchC (wr.alloc o) w' B1 B2 B3 B4 g0 P0 c0 (upto n) (some ⟨w4.heap.size, 0, none⟩) n xl C cc cols) := Lib.hid fun o => by
        have hix := HIX.out.on (hB.trans ((hal o).mono hsB))
        have := matching_any g0 P0 (some ⟨w4.heap.size, 0, none⟩) C c0 n cc (upto n) cols xl (wr.alloc o) hix.rp hix.cap hix.inP (hrx.on (hal o)) (HC.out.on (on hwr (hal o))) (by have := HPN.out; omega) (by omega) lc
        rw [HPN.out, hxl] at this
        exact this
      have HRX := Lib.hid hrx
      clear hrx hbxr hxl
      go_wp2_with (go_at_call 48; refine (HM.out _).mono ?_; rintro e w7 ⟨B1, B2, B3, B4, rfl, hmc⟩; have HMC := Lib.hid hmc; clear hmc)
      clear t0 t1
      have h6 := hal (.cells #[.slice none 0 0] 23)
      have hs6 : (wr.alloc (.cells #[.slice none 0 0] 23)).heap.size = wr.heap.size + 1 := by simp
      have hs7 := HMC.out.b.size
      have hF0 : ∀ b : Nat, b < w.heap.size → b ≠ wr.heap.size := fun b hb e => by omega
      have hT6 : TreeS (fun k => X k ∨ k = wr.heap.size) (wr.alloc (.cells #[.slice none 0 0] 23)) g0 (upto n) (puts (upto n) H) := (HIX.out.t.more (Y := fun k => X k ∨ k = wr.heap.size) (fun k h => .inl h) (fun k h => h.imp_right fun e => by omega)).on (hB.trans (h6.mono hsB))
      have hseq := match_seq (X := fun k => X k ∨ k = wr.heap.size) (wr.alloc (.cells #[.slice none 0 0] 23)) w7 hT6 HMC.out (fun k hk => by rcases hk with hk | rfl; (have := HX.out k hk; omega); omega) (HRX.out.on h6) (fun b o e hx => by cases e; rcases hx with hx | hx; (have := HX.out _ hx; omega); omega) (HC.out.on (on hwr h6)) (fun hne b o e hx => by
        obtain ⟨c, hc⟩ := List.exists_mem_of_ne_nil _ hne
        obtain ⟨q, hq⟩ := List.getElem?_of_mem hc
        obtain ⟨b', o', e', hbl, _⟩ := HC.out q c hq
        rw [e] at e'; cases e'
        exact hx.elim (HOC.out hne b o e) (hF0 b hbl)) (by have := HXL.out; omega) lc
      have HSQ := Lib.hid hseq; clear hseq hT6
      have hst : ToldI (fun k => X k ∨ k = wr.heap.size) wr wr.heap.size [] w7 none 0 := (ToldI.start (X := fun k => X k ∨ k = wr.heap.size) wr).calm (Nat.le_refl _) (Calm.of_below HMC.out.b)
      have HST := Lib.hid hst; clear hst
      have HLL := Lib.hid (fun (t : List V) (ht : t ∈ (beg (upto n) (pickL xl ((upto n).take (leadL cols (upto n)))) (puts (upto n) H)).filter (matB cols xl)) => look_len HPN.out ht)
      have HLM := Lib.hid (look_many (p := (upto n)) (cols := cols) (xl := xl) (H := H))
      have HLN := Lib.hid (look_nodup (p := (upto n)) (cols := cols) (xl := xl) (H := H))
      obtain ⟨LL, hLL⟩ : ∃ LL, (beg (upto n) (pickL xl ((upto n).take (leadL cols (upto n)))) (puts (upto n) H)).filter (matB cols xl) = LL := ⟨_, rfl⟩
      rw [hLL] at HSQ HLL HLM HLN
      have HLE := Lib.hid hLL; clear hLL
      refine (wpIn_wide (n := 3)).1 ?_
      refine wpIn_seqMd 13 (n := 3) rfl (enters_of Tryz.func72 (by kernel_rfl) rfl) HSQ.out (Below.refl _ _) rfl
        (fun o pre W => ∃ A c, ToldI (fun k => X k ∨ k = wr.heap.size) wr wr.heap.size pre W A c ∧ o = A.map (fun a => a.block) ∧ Fr (· = wr.heap.size) w7.heap.size w7 W ∧ ∀ k, o = some k → w7.heap.size ≤ k)
        (fun o s A B h hc => by
          obtain ⟨A1, c1, h1, h2, h3, h4⟩ := h
          exact ⟨A1, c1, h1.calm (by omega) hc, h2, h3.trans (Fr.of (hc.below h3.size)), h4⟩)
        ⟨none, 0, HST.out, rfl, Fr.refl _ _ _, fun k hk => by cases hk⟩ ?assign ?body ?done
      case assign =>
        intro l2 x W K hK
        gi_wp2
        simpa [Sl.val] using hK
      case body =>
        rintro l2 o pre x W hl2 ⟨A1, c1, hI, rfl, hF, hown⟩ hpre hok
        obtain ⟨hi0, hz0, hz1, hz2⟩ := HI.out
        have hc := hI.cell.1; have hf := hI.cell.2
        have hpl : pre.length + 1 ≤ 100000 := by have h1 := hpre.length_le; have h2 := HLM.out; rw [List.length_append, List.length_map, List.length_singleton] at h1; omega
        have HII := Lib.hid hI; have HOK := Lib.hid hok; clear hI hok hpre
        have hs3 : wr.heap.size + 1 ≤ W.heap.size := by have := (Array.getElem?_eq_some_iff.1 HII.out.box).1; omega
        gi_wp2_with (gi_at_builtin; refine wpListIn_append_own_at _ rfl (.tmp 68) (.tmp 70) 23 rfl (wr.heap.size + 1) 25 i0 (.slice none 0 0) 1 24 Tryz.underlying23 hi0 hz0 hz1 hz2 rfl (by decide) (.slice A1 pre.length c1) pre.length (pre.map Sl.val) rfl (own_on HII.out.own ((Below.refl _ _).alloc (Nat.le_refl _) _)) ⟨W.heap.size, 0, none⟩ 1 1 [.slice x.A x.l.length x.c] rfl rfl (cell_one_new _ _ _) (by intro u hu; rw [List.mem_singleton] at hu; subst hu; rfl) (by unfold maxLen; omega) (by omega) (by simp; omega) ?_; intro v' w8 ho' hg' _ hor; obtain ⟨A2, c2, rfl⟩ := own_form ho'; have hq := ToldI.after (x := x) HII.out hg'; have hc2 := hq.1; have hf2 := hq.2; have HOR := Lib.hid hor; have HO8 := Lib.hid ho'; have HG8 := Lib.hid hg'; clear hq hor ho' hg')
        obtain ⟨n1, n2, n3, n4⟩ := HII.out.next (Nat.le_refl _) HOK.out HO8.out HG8.out
        have hob : ∀ k, (Value.slice A1 pre.length c1).ownBlock = some k → w7.heap.size ≤ k := fun k hk => by rw [ownBlock_slice] at hk; exact hown k hk
        have hFr : Fr (fun k => (X k ∨ k = wr.heap.size) ∨ A1.map (fun a => a.block) = some k) W.heap.size W (w8.setCell ⟨wr.heap.size, 0, none⟩ (.slice A2 (pre.length + 1) c2)) :=
          ⟨n4.os, n4.tape, n4.output, n4.size, fun k hk hx => by
            rw [Below.heap_setCell _ _ _ _ (show k ≠ wr.heap.size from fun e => hx (.inl (.inr e))), HG8.out.block k (by simp; omega) (fun e => hx (.inr (by rw [← ownBlock_slice A1 pre.length c1]; exact e.symm))), Below.heap_alloc _ _ _ hk]⟩
        have hw7 : w7.heap.size ≤ W.heap.size := hF.size
        refine ⟨n2.from _, hFr, n3, A2.map (fun a => a.block), ⟨A2, c2, n1, rfl, hF.trans ⟨n4.os, n4.tape, n4.output, n4.size, fun k hk hx => ?_⟩, fun k hk => ?_⟩, ?_⟩
        · rw [Below.heap_setCell _ _ _ _ (show k ≠ wr.heap.size from hx), HG8.out.block k (by simp; omega) (fun e => by have := hob k e.symm; omega), Below.heap_alloc _ _ _ (by omega)]
        · rcases HOR.out with e | e
          · rw [ownBlock_slice, ownBlock_slice] at e; rw [e] at hk; exact hown k hk
          · rw [ownBlock_slice] at e; rw [e] at hk; cases hk; simp; omega
        · rcases HOR.out with e | e
          · rw [ownBlock_slice, ownBlock_slice] at e; exact .inl e
          · rw [ownBlock_slice] at e; exact .inr ⟨_, e, by simp⟩
      case done =>
        rintro D2 o xs W hD2 hxs ⟨A1, c1, hT, rfl, hF, hown⟩ hK
        have hDl2 : D2 < W.heap.size := (Array.getElem?_eq_some_iff.1 hK).1
        have hw7 : w7.heap.size ≤ W.heap.size := hF.size
        have h67 : Below w4.heap.size w4 w7 := (hB.trans (h6.mono hsB)).trans (HMC.out.b.mono (by omega))
        have hbW : Below w4.heap.size w4 W := h67.trans (hF.below h67.size fun k hk e => by omega)
        have hbw : Below w.heap.size w W := on hw5 hbW
        have hcf := hT.cell.1
        have hbxl := (Array.getElem?_eq_some_iff.1 HBOX5.out).1
        have hcbx := cell_box' ((hbW.block w.heap.size hbxl).trans HBOX5.out)
        have hrow := own_rdC hT.own
        have hlx : xs.length = LL.length := by rw [← hxs]; simp
        have hfl : wr.heap.size < W.heap.size := (Array.getElem?_eq_some_iff.1 hT.box).1
        have hownb : ∀ b, A1 = some b → w7.heap.size ≤ b.block := fun b hb => hown b.block (by rw [hb]; rfl)
        have hS := sortF_any A1 c1 r w.heap.size n c0 P0 xs W hrow (fun j _ b o e => by
            subst e
            obtain ⟨cs, hcs⟩ := own_obj hT.own
            simp [World.frozen?, hcs])
          (fun x hx => ⟨(hT.each x hx).rd, HLL.out x.l (by rw [← hxs]; exact List.mem_map_of_mem hx), fun a b ha hb e => by
            subst hb
            obtain ⟨cs, hcs⟩ := own_obj hT.own
            obtain ⟨c', z, hc'⟩ := (hT.each x hx).ty a ha
            rw [e, hcs] at hc'; cases hc'⟩)
          hcbx (by have := hbW.size; omega) ((keep hbw _ 1 hrl).trans r1) (by have := hbw.size; omega) (HQ2.out.rp.on hbw)
          (fun b hb => by
            have h1 := hownb b hb
            exact ⟨by omega, by omega, fun a ha => by have := HQ2.out.inP a ha; omega⟩) hfew (by rw [hxs]; exact HLN.out) (by have := HLM.out; omega)
        have HS := Lib.hid hS; have HT := Lib.hid hT; have HXS := Lib.hid hxs; have HKK := Lib.hid hK; have HOB := Lib.hid hownb
        clear hS hT hrow hxs hK hcbx hownb hown hlx
        go_wp2_with (go_at_call 49; refine HS.out.mono ?_; rintro e w8 ⟨rfl, ys, hp, hso, hro, hF8⟩; have hcf8 := (hF8.cell (o := 0) hfl (fun ⟨b, hb, e⟩ => by have := HOB.out b hb; omega)).trans hcf; have HP8 := Lib.hid hp; have HSO := Lib.hid hso; have HRO := Lib.hid hro; have HF8 := Lib.hid hF8; clear hp hso hro hF8)
        have hk2 : w8.heap[D2]? = some (.deferred (some [])) := (HF8.out.block D2 hDl2 (fun ⟨b, hb, e⟩ => by
          subst hb
          obtain ⟨cs, hcs⟩ := own_obj HT.out.own
          have := HKK.out
          rw [e, hcs] at this; cases this)).trans HKK.out
        refine ⟨by simp, .inl ⟨_, _, rfl, run_takeDeferred hk2, ?_⟩⟩
        refine ⟨_, results_tmp rfl _ _ _, ?_⟩
        have hfd : ys.map Sl.l = foundL cols vals (puts (upto n) H) := by
          refine look_found HPP.out HPN.out HD.out HXL.out HPK.out ?_ HSO.out
          rw [HLE.out, ← HXS.out]
          exact HP8.out.map Sl.l
        have hln : (foundL cols vals (puts (upto n) H)).length = xs.length := by rw [← hfd, List.length_map, HP8.out.length_eq]
        have hcm := Calm.put (n := w.heap.size) (o' := .deferred none) hk2 rfl (by omega)
        have hb8 : Below w.heap.size w w8 := hbw.trans (HF8.out.below hbw.size fun k hk ⟨b, hb, e⟩ => by have := HOB.out b hb; omega)
        have hslk : ∀ y ∈ ys, SlOk X (w8.putObj D2 (.deferred none)) y := fun y hy => by
          have hym := HT.out.each y ((HP8.out.mem_iff).1 hy)
          refine hcm.slOk (slOk_far (⟨hym.rd, off_sub hym.off (fun k hk => .inl hk), hym.cap, hym.ty⟩ : SlOk X _ y) (fun a e hx => ?_) HF8.out)
          obtain ⟨b', hb', e'⟩ := hx
          subst hb'
          obtain ⟨cs, hcs⟩ := own_obj HT.out.own
          obtain ⟨c', z, hc'⟩ := hym.ty _ e
          rw [e', hcs] at hc'; cases hc'
        refine ⟨A1, c1, ys, by rw [hln]; rfl, hfd, hcm.rdC HRO.out, fun y hy => (hslk y hy).rd, hb8.trans (hcm.below hb8.size), by rw [hln]; exact (own_cap HT.out.own).1, hslk⟩
set_option maxRecDepth 20000 in
set_option maxHeartbeats 16000000 in
theorem relFind_idx (C A : Option Addr) (cc ca : Nat) (cols : List Int) (vals : List V) (w : World) (h : RelS X w r n g0 gs ps H) (hX : ∀ k, X k → k < w.heap.size) (hH : H.length ≤ 100000) (hc : RdI w C cols) (oc : cols ≠ [] → ∀ b o, C = some ⟨b, o, none⟩ → ¬ X b) (hv : RdV w A vals) (lc : cols.length ≤ 1000)
    (hcl : cols.length = vals.length) (hd : distB n cols = true) (j : Nat) (pj : List Int) (hu0 : UsesR cols ps (j : Int)) (hpj : ps[j]? = some pj) :
    Calls Tryz.prog 18 #[.pointer (some ⟨r, 0, none⟩), .slice C cols.length cc, .slice A vals.length ca] w (FindP X (foundL cols vals (puts (upto n) H)) w) := by
  have hfew := h.few; have hmany := h.many; have hrl := h.lt
  have hb0 : Below w.heap.size w (w.alloc (.cells #[.pointer (some ⟨r, 0, none⟩)] 28)) := (Below.refl _ _).alloc (Nat.le_refl _) _
  have hbx0 := heap_alloc_new w (.cells #[.pointer (some ⟨r, 0, none⟩)] 28)
  have hs0 : (w.alloc (.cells #[.pointer (some ⟨r, 0, none⟩)] 28)).heap.size = w.heap.size + 1 := by simp
  have HREL := Lib.hid h
  have HC := Lib.hid hc; have HV := Lib.hid hv; have HX := Lib.hid hX; have HD := Lib.hid hd; have HOC := Lib.hid oc; have HCL := Lib.hid hcl; have HBX0 := Lib.hid hbx0
  have h' : (cols.length : Int) = (vals.length : Int) := by omega
  have hdc := distinct_any C cc cols _ (RelG.on h hb0) (hc.on hb0) lc
  rw [hd] at hdc
  have HDC := Lib.hid hdc
  have hmk := make_vals' n (by omega)
  have hmf : ∀ (fn : Fn) (first cap : Array Value) (w : World), (Instr.makeFunc fn first cap).run Tryz.prog w = .ok (.func fn first cap) w := fun _ _ _ _ => rfl
  obtain ⟨i0, hi0, hz0, hz1, hz2⟩ := info_parts info_tup
  have HI := Lib.hid (And.intro hi0 (And.intro hz0 (And.intro hz1 hz2))); clear hi0 hz0 hz1 hz2
  obtain ⟨P0, c0, I, ci, q1, q2, q3⟩ := h.cells
  obtain ⟨r0, r1, r2⟩ := cell3 q1
  have HQ2 := Lib.hid q2
  have HAR : Hid (∀ W, Below w.heap.size w W → Calls Tryz.prog 15 #[.pointer (some ⟨r, 0, none⟩)] W fun e w' => e = .returned (.int .i64 (n : Nat)) ∧ W = w') := Lib.hid fun W hW => relArity_any W (RelG.on HREL.out hW)
  have hjl : j < ps.length := (List.getElem?_eq_some_iff.1 hpj).1
  have hpjn : pj.length = n := h.lens pj (List.mem_of_getElem? hpj)
  obtain ⟨gj, Pj, cpj, hgj, hsl⟩ := q3 j pj hpj
  obtain ⟨ib, io, rfl, hil, hix, ic0, ic1⟩ := hsl.row
  have hgd : ps.getD j [] = pj := by simp [List.getD, hpj]
  have hij := hsl.idx
  have HIJ : Hid (IdxAt X w gj Pj cpj pj (puts pj H)) := Lib.hid (by have := hij; simp only [hgd] at this; exact this)
  rw [hpjn] at ic1
  have HU := Lib.hid hu0; have HPN := Lib.hid hpjn
  have hj0 : (0 : Int) ≤ (j : Int) := by omega
  have hj1 : (j : Int) < (ps.length : Int) := by omega
  clear hu0 hsl hij hgd hgj hix hpjn hpj
  clear h hc hv hX hd oc hcl hdc hbx0 q1 q2 q3
  refine (callsIn_wide (n := 3)).1 ?_
  refine callsIn_of_wp_marks Tryz.func18 rfl trivial ?_ rfl
  simp only [Tryz.ntmps18, List.size_toArray, List.length_cons, List.length_nil, Nat.reduceAdd, Nat.reduceSub, Array.replicate_succ, Array.replicate_zero, List.push_toArray, List.append_toArray, List.nil_append, List.cons_append]
  refine wpIn_wide.2 ?_
  go_wp2_with (first
    | (go_at_call 47; refine HDC.out.mono ?_; rintro e w2 ⟨rfl, hb2⟩; have hbox2 := (hb2.block w.heap.size (by omega)).trans HBX0.out; have hc2 := cell_box' hbox2; have hw2 := on hb0 hb2; have a0 := (keep hw2 _ 0 hrl).trans r0; have a1 := (keep hw2 _ 1 hrl).trans r1; have a2 := (keep hw2 _ 2 hrl).trans r2; have hal2 : ∀ o : Obj, (w2.alloc o).cell? ⟨w.heap.size, 0, none⟩ = some (.pointer (some ⟨r, 0, none⟩)) := (fun o => (keep ((Below.refl _ _).alloc (Nat.le_refl _) o) w.heap.size 0 (by have := hb2.size; omega)).trans hc2); have HBOX2 := Lib.hid hbox2; clear hbox2)
    | (go_at_call 20; refine (relUses_any C cc cols _ (RelG.on HREL.out (hw2.alloc hw2.size _)) (HC.out.on (hw2.alloc hw2.size _)) lc).mono ?_; rintro e w4 ⟨⟨k, rfl, hu⟩, hb4⟩; obtain rfl := uses_one hu HU.out; have hw4 := on (hw2.alloc hw2.size (.cells #[.pointer (some ⟨g0, 0, none⟩), .slice P0 n c0] 72)) hb4; have hcb4 := (keep hb4 w.heap.size 0 (by have := hb2.size; simp; omega)).trans ((keep ((Below.refl w2.heap.size w2).alloc (Nat.le_refl _) (.cells #[.pointer (some ⟨g0, 0, none⟩), .slice P0 n c0] 72)) w.heap.size 0 (by have := hb2.size; omega)).trans hc2); have hbx4 := (hb4.block w2.heap.size (by simp)).trans (heap_alloc_new w2 (.cells #[.pointer (some ⟨g0, 0, none⟩), .slice P0 n c0] 72)); obtain ⟨z0, z1⟩ := cell2 hbx4; have zf : ∀ k, w4.frozen? ⟨w2.heap.size, k, none⟩ = false := (fun k => by simp [World.frozen?, hbx4]); have hcs : ∀ u v : Value, ((w4.setCell ⟨w2.heap.size, 0, none⟩ u).setCell ⟨w2.heap.size, 1, none⟩ v).cell? ⟨w.heap.size, 0, none⟩ = some (.pointer (some ⟨r, 0, none⟩)) := (fun u v => ((((fr_set w4 w2.heap.size 0 u w4.heap.size).trans (fr_set _ _ 1 v _)).cell (b := w.heap.size) (o := 0) (by have := hw4.size; have := hb4.size; have := hb2.size; simp at this; simp at *; omega) (by have := hb2.size; omega))).trans hcb4); have d2 := (keep hw4 _ 2 hrl).trans r2; have d3 := (keep hw4 _ _ hil).trans ic0; have d4 := (keep hw4 _ _ hil).trans ic1; have HB4 := Lib.hid hb4; have HBX4 := Lib.hid hbx4; clear hb4 hu hbx4)
    | (go_at_call 15; refine (HAR.out _ ((hw4.setCell (show w.heap.size ≤ w2.heap.size by have := hb2.size; omega) _).setCell (show w.heap.size ≤ w2.heap.size by have := hb2.size; omega) _)).mono ?_; rintro e w5 ⟨rfl, rfl⟩))
  have hs2 := hb2.size
  have hst := store2 HBX4.out (.pointer (some ⟨gj, 0, none⟩)) (.slice Pj n cpj)
  have hFs : Fr (· = w2.heap.size) w4.heap.size w4 ((w4.setCell ⟨w2.heap.size, 0, none⟩ (.pointer (some ⟨gj, 0, none⟩))).setCell ⟨w2.heap.size, 1, none⟩ (.slice Pj n cpj)) := (fr_set w4 _ 0 _ _).trans (fr_set _ _ 1 _ _)
  have hsz5 : ((w4.setCell ⟨w2.heap.size, 0, none⟩ (.pointer (some ⟨gj, 0, none⟩))).setCell ⟨w2.heap.size, 1, none⟩ (.slice Pj n cpj)).heap.size = w4.heap.size := by simp [World.setCell]
  have hw5 : Below w.heap.size w ((w4.setCell ⟨w2.heap.size, 0, none⟩ (.pointer (some ⟨gj, 0, none⟩))).setCell ⟨w2.heap.size, 1, none⟩ (.slice Pj n cpj)) := (hw4.setCell (show w.heap.size ≤ w2.heap.size by omega) _).setCell (show w.heap.size ≤ w2.heap.size by omega) _
  have hs4 := hw4.size
  have hbx1 := (Array.getElem?_eq_some_iff.1 HBX4.out).1
  have hbox5 := (hFs.block w.heap.size (by omega) (by omega)).trans ((HB4.out.block w.heap.size (by simp; omega)).trans ((Below.heap_alloc _ _ _ (by omega)).trans HBOX2.out))
  generalize ((w4.setCell ⟨w2.heap.size, 0, none⟩ (.pointer (some ⟨gj, 0, none⟩))).setCell ⟨w2.heap.size, 1, none⟩ (.slice Pj n cpj)) = w5 at *
  have HIX := Lib.hid (HIJ.out.on hw5)
  have HPP := Lib.hid HIJ.out.t.perm
  have HBX5 := Lib.hid hst
  have HBOX5 := Lib.hid hbox5
  clear hst hbox5 hFs z0 z1 zf d2 d3 d4 hcs
  have hBXs : w2.heap.size < w5.heap.size := (Array.getElem?_eq_some_iff.1 HBX5.out).1
  have hws5 := hw5.size
  go_loopw [50] (fun v wr => ∃ (i : Nat) (xl : List V), v = .int .i64 (i : Nat) ∧ i ≤ cols.length ∧ Below w5.heap.size w5 wr ∧ wr.heap[w4.heap.size]? = some (.cells (vcells xl).toArray 69 (0, 0)) ∧ xl.length = n ∧ ∀ (j : Nat) (c : Int), j < i → cols[j]? = some c → xl[c.toNat]? = vals[j]?) (fun v _ => cols.length - (intOf v).toNat)
  case atStart => exact ⟨0, List.replicate n ⟨0, 0, ByteArray.empty⟩, rfl, Nat.zero_le _, (Below.refl _ _).alloc (Nat.le_refl _) _, by rw [← made_vals, ← hsz5]; exact heap_alloc_new _ _, by simp, fun j c hj => absurd hj (by omega)⟩
  case round =>
    obtain ⟨i, xl, rfl, hi, hB, eD, hxl, hx⟩ := hrel
    have ED := Lib.hid eD; have HXX := Lib.hid hx; clear eD hx
    have hwr : Below w.heap.size w wr := on hw5 hB
    have hDl := (Array.getElem?_eq_some_iff.1 ED.out).1
    by_cases hlt : i < cols.length
    · obtain ⟨cb, co, rfl, hcb, hcc⟩ := HC.out.row (by omega)
      have hc := List.getElem?_eq_getElem hlt
      generalize cols[i] = c at hc
      have cx := (keep hwr _ _ hcb).trans (hcc i c hc)
      have hcin := inR_iff.1 ((distB_iff.1 HD.out).1 c (List.mem_of_getElem? hc))
      obtain ⟨m, rfl⟩ := Int.eq_ofNat_of_zero_le hcin.1
      have hm : m < n := by omega
      have hlv : i < vals.length := by have := HCL.out; omega
      have hlt' : (i : Int) < (vals.length : Int) := by omega
      have hv := List.getElem?_eq_getElem hlv
      generalize vals[i] = v at hv
      obtain ⟨ab, ao, rfl, hab, v0, v1, v2⟩ := (HV.out.on hwr) i v hv
      obtain ⟨vk, vn, vs⟩ := v
      simp only at v0 v1 v2
      have HCI := Lib.hid hc; have HVI := Lib.hid hv; clear hc hv hcin hcc
      have hxm : m < xl.length := by omega
      have x0 := vcells_at (List.getElem?_eq_getElem hxm)
      have y0 : wr.cell? ⟨w4.heap.size, m * 3, none⟩ = some (.int .i64 xl[m].k) := by simp [World.cell?, ED.out, x0.1]
      have y1 : wr.cell? ⟨w4.heap.size, m * 3 + 1, none⟩ = some (.int .i64 xl[m].n) := by simp [World.cell?, ED.out, x0.2.1]
      have y2 : wr.cell? ⟨w4.heap.size, m * 3 + 2, none⟩ = some (.string xl[m].s) := by simp [World.cell?, ED.out, x0.2.2]
      have z0 : ∀ k, wr.frozen? ⟨w4.heap.size, k, none⟩ = false := fun k => by simp [World.frozen?, ED.out]
      clear x0
      go_wp2
      go_roundw
      case rel =>
        have s1 := heap_set (o := m * 3) (.int .i64 vk) ED.out
        have s2 := heap_set (o := m * 3 + 1) (.int .i64 vn) s1
        have s3 := heap_set (o := m * 3 + 2) (.string vs) s2
        rw [set3 xl m ⟨vk, vn, vs⟩] at s3
        refine ⟨i + 1, xl.set m ⟨vk, vn, vs⟩, by go_num, by omega, ((hB.setCell (show w5.heap.size ≤ w4.heap.size by omega) _).setCell (show w5.heap.size ≤ w4.heap.size by omega) _).setCell (show w5.heap.size ≤ w4.heap.size by omega) _, s3, by simpa using hxl, fun j c hj hc => ?_⟩
        have hci := inR_iff.1 ((distB_iff.1 HD.out).1 c (List.mem_of_getElem? hc))
        by_cases hji : j = i
        · subst hji
          rw [HCI.out] at hc; cases hc
          rw [Int.toNat_natCast, List.getElem?_set_self hxm, HVI.out]
        · have hne : m ≠ c.toNat := fun e => hji (by
            have e1 := idxOf_at (distB_iff.1 HD.out).2 hc
            have e2 := idxOf_at (distB_iff.1 HD.out).2 HCI.out
            rw [show c = ((m : Nat) : Int) by omega] at e1
            omega)
          rw [List.getElem?_set_ne hne]
          exact HXX.out j c (by omega) hc
      case measure => simp [intOf]; omega
    · obtain rfl : i = cols.length := by omega
      have HPK := Lib.hid (pick_cols (distB_iff.1 HD.out).1 hxl HCL.out.symm (fun j c hc => HXX.out j c (List.getElem?_eq_some_iff.1 hc).1 hc))
      have HXL := Lib.hid hxl
      have hrx : RdV wr (some ⟨w4.heap.size, 0, none⟩) xl := fun i v hv => by
        have y := vcells_at hv
        exact ⟨w4.heap.size, 0, rfl, hDl, by simp [World.cell?, ED.out, y.1], by simp [World.cell?, ED.out, y.2.1], by simp [World.cell?, ED.out, y.2.2]⟩
      have hbxr := (hB.block _ hBXs).trans HBX5.out
      have hal : ∀ o : Obj, Below wr.heap.size wr (wr.alloc o) := fun o => (Below.refl _ _).alloc (Nat.le_refl _) o
      have hsB := hB.size
      have t0 : ∀ o : Obj, (wr.alloc o).cell? ⟨w2.heap.size, 0, none⟩ = some (.pointer (some ⟨gj, 0, none⟩)) := fun o => (keep (hal o) _ 0 (by omega)).trans (cell2 hbxr).1
      have t1 : ∀ o : Obj, (wr.alloc o).cell? ⟨w2.heap.size, 1, none⟩ = some (.slice Pj n cpj) := fun o => (keep (hal o) _ 1 (by omega)).trans (cell2 hbxr).2
      have HM : Hid (∀ o : Obj, Calls Tryz.prog 48 #[.agg #[.pointer (some ⟨gj, 0, none⟩), .slice Pj n cpj], .slice (some ⟨w4.heap.size, 0, none⟩) n n, .slice C cols.length cc] (wr.alloc o) fun e w' => ∃ B1 B2 B3 B4, e = .returned (.func (.func 72) #[] #[.pointer (some ⟨B1, 0, none⟩), .pointer (some ⟨B2, 0, none⟩), .pointer (some ⟨B3, 0, none⟩), .pointer (some ⟨B4, 0, none⟩)]) ∧ MatchC (wr.alloc o) w' B1 B2 B3 B4 gj Pj cpj pj (some ⟨w4.heap.size, 0, none⟩) n xl C cc cols) := Lib.hid fun o => by
        have hix := HIX.out.on (hB.trans ((hal o).mono hsB))
        have := matching_any gj Pj (some ⟨w4.heap.size, 0, none⟩) C cpj n cc pj cols xl (wr.alloc o) hix.rp hix.cap hix.inP (hrx.on (hal o)) (HC.out.on (on hwr (hal o))) (by have := HPN.out; omega) (by omega) lc
        rw [HPN.out, hxl] at this
        exact this
      have HRX := Lib.hid hrx
      clear hrx hbxr hxl
      go_wp2_with (go_at_call 48; refine (HM.out _).mono ?_; rintro e w7 ⟨B1, B2, B3, B4, rfl, hmc⟩; have HMC := Lib.hid hmc; clear hmc)
      clear t0 t1
      have h6 := hal (.cells #[.slice none 0 0] 23)
      have hs6 : (wr.alloc (.cells #[.slice none 0 0] 23)).heap.size = wr.heap.size + 1 := by simp
      have hs7 := HMC.out.b.size
      have hF0 : ∀ b : Nat, b < w.heap.size → b ≠ wr.heap.size := fun b hb e => by omega
      have hT6 : TreeS (fun k => X k ∨ k = wr.heap.size) (wr.alloc (.cells #[.slice none 0 0] 23)) gj pj (puts pj H) := (HIX.out.t.more (Y := fun k => X k ∨ k = wr.heap.size) (fun k h => .inl h) (fun k h => h.imp_right fun e => by omega)).on (hB.trans (h6.mono hsB))
      have hseq := match_seq (X := fun k => X k ∨ k = wr.heap.size) (wr.alloc (.cells #[.slice none 0 0] 23)) w7 hT6 HMC.out (fun k hk => by rcases hk with hk | rfl; (have := HX.out k hk; omega); omega) (HRX.out.on h6) (fun b o e hx => by cases e; rcases hx with hx | hx; (have := HX.out _ hx; omega); omega) (HC.out.on (on hwr h6)) (fun hne b o e hx => by
        obtain ⟨c, hc⟩ := List.exists_mem_of_ne_nil _ hne
        obtain ⟨q, hq⟩ := List.getElem?_of_mem hc
        obtain ⟨b', o', e', hbl, _⟩ := HC.out q c hq
        rw [e] at e'; cases e'
        exact hx.elim (HOC.out hne b o e) (hF0 b hbl)) (by have := HXL.out; omega) lc
      have HSQ := Lib.hid hseq; clear hseq hT6
      have hst : ToldI (fun k => X k ∨ k = wr.heap.size) wr wr.heap.size [] w7 none 0 := (ToldI.start (X := fun k => X k ∨ k = wr.heap.size) wr).calm (Nat.le_refl _) (Calm.of_below HMC.out.b)
      have HST := Lib.hid hst; clear hst
      have HLL := Lib.hid (fun (t : List V) (ht : t ∈ (beg pj (pickL xl (pj.take (leadL cols pj))) (puts pj H)).filter (matB cols xl)) => look_len HPN.out ht)
      have HLM := Lib.hid (look_many (p := pj) (cols := cols) (xl := xl) (H := H))
      have HLN := Lib.hid (look_nodup (p := pj) (cols := cols) (xl := xl) (H := H))
      obtain ⟨LL, hLL⟩ : ∃ LL, (beg pj (pickL xl (pj.take (leadL cols pj))) (puts pj H)).filter (matB cols xl) = LL := ⟨_, rfl⟩
      rw [hLL] at HSQ HLL HLM HLN
      have HLE := Lib.hid hLL; clear hLL
      refine (wpIn_wide (n := 3)).1 ?_
      refine wpIn_seqMd 13 (n := 3) rfl (enters_of Tryz.func72 (by kernel_rfl) rfl) HSQ.out (Below.refl _ _) rfl
        (fun o pre W => ∃ A c, ToldI (fun k => X k ∨ k = wr.heap.size) wr wr.heap.size pre W A c ∧ o = A.map (fun a => a.block) ∧ Fr (· = wr.heap.size) w7.heap.size w7 W ∧ ∀ k, o = some k → w7.heap.size ≤ k)
        (fun o s A B h hc => by
          obtain ⟨A1, c1, h1, h2, h3, h4⟩ := h
          exact ⟨A1, c1, h1.calm (by omega) hc, h2, h3.trans (Fr.of (hc.below h3.size)), h4⟩)
        ⟨none, 0, HST.out, rfl, Fr.refl _ _ _, fun k hk => by cases hk⟩ ?assign ?body ?done
      case assign =>
        intro l2 x W K hK
        gi_wp2
        simpa [Sl.val] using hK
      case body =>
        rintro l2 o pre x W hl2 ⟨A1, c1, hI, rfl, hF, hown⟩ hpre hok
        obtain ⟨hi0, hz0, hz1, hz2⟩ := HI.out
        have hc := hI.cell.1; have hf := hI.cell.2
        have hpl : pre.length + 1 ≤ 100000 := by have h1 := hpre.length_le; have h2 := HLM.out; rw [List.length_append, List.length_map, List.length_singleton] at h1; omega
        have HII := Lib.hid hI; have HOK := Lib.hid hok; clear hI hok hpre
        have hs3 : wr.heap.size + 1 ≤ W.heap.size := by have := (Array.getElem?_eq_some_iff.1 HII.out.box).1; omega
        gi_wp2_with (gi_at_builtin; refine wpListIn_append_own_at _ rfl (.tmp 68) (.tmp 70) 23 rfl (wr.heap.size + 1) 25 i0 (.slice none 0 0) 1 24 Tryz.underlying23 hi0 hz0 hz1 hz2 rfl (by decide) (.slice A1 pre.length c1) pre.length (pre.map Sl.val) rfl (own_on HII.out.own ((Below.refl _ _).alloc (Nat.le_refl _) _)) ⟨W.heap.size, 0, none⟩ 1 1 [.slice x.A x.l.length x.c] rfl rfl (cell_one_new _ _ _) (by intro u hu; rw [List.mem_singleton] at hu; subst hu; rfl) (by unfold maxLen; omega) (by omega) (by simp; omega) ?_; intro v' w8 ho' hg' _ hor; obtain ⟨A2, c2, rfl⟩ := own_form ho'; have hq := ToldI.after (x := x) HII.out hg'; have hc2 := hq.1; have hf2 := hq.2; have HOR := Lib.hid hor; have HO8 := Lib.hid ho'; have HG8 := Lib.hid hg'; clear hq hor ho' hg')
        obtain ⟨n1, n2, n3, n4⟩ := HII.out.next (Nat.le_refl _) HOK.out HO8.out HG8.out
        have hob : ∀ k, (Value.slice A1 pre.length c1).ownBlock = some k → w7.heap.size ≤ k := fun k hk => by rw [ownBlock_slice] at hk; exact hown k hk
        have hFr : Fr (fun k => (X k ∨ k = wr.heap.size) ∨ A1.map (fun a => a.block) = some k) W.heap.size W (w8.setCell ⟨wr.heap.size, 0, none⟩ (.slice A2 (pre.length + 1) c2)) :=
          ⟨n4.os, n4.tape, n4.output, n4.size, fun k hk hx => by
            rw [Below.heap_setCell _ _ _ _ (show k ≠ wr.heap.size from fun e => hx (.inl (.inr e))), HG8.out.block k (by simp; omega) (fun e => hx (.inr (by rw [← ownBlock_slice A1 pre.length c1]; exact e.symm))), Below.heap_alloc _ _ _ hk]⟩
        have hw7 : w7.heap.size ≤ W.heap.size := hF.size
        refine ⟨n2.from _, hFr, n3, A2.map (fun a => a.block), ⟨A2, c2, n1, rfl, hF.trans ⟨n4.os, n4.tape, n4.output, n4.size, fun k hk hx => ?_⟩, fun k hk => ?_⟩, ?_⟩
        · rw [Below.heap_setCell _ _ _ _ (show k ≠ wr.heap.size from hx), HG8.out.block k (by simp; omega) (fun e => by have := hob k e.symm; omega), Below.heap_alloc _ _ _ (by omega)]
        · rcases HOR.out with e | e
          · rw [ownBlock_slice, ownBlock_slice] at e; rw [e] at hk; exact hown k hk
          · rw [ownBlock_slice] at e; rw [e] at hk; cases hk; simp; omega
        · rcases HOR.out with e | e
          · rw [ownBlock_slice, ownBlock_slice] at e; exact .inl e
          · rw [ownBlock_slice] at e; exact .inr ⟨_, e, by simp⟩
      case done =>
        rintro D2 o xs W hD2 hxs ⟨A1, c1, hT, rfl, hF, hown⟩ hK
        have hDl2 : D2 < W.heap.size := (Array.getElem?_eq_some_iff.1 hK).1
        have hw7 : w7.heap.size ≤ W.heap.size := hF.size
        have h67 : Below w5.heap.size w5 w7 := (hB.trans (h6.mono hsB)).trans (HMC.out.b.mono (by omega))
        have hbW : Below w5.heap.size w5 W := h67.trans (hF.below h67.size fun k hk e => by omega)
        have hbw : Below w.heap.size w W := on hw5 hbW
        have hcf := hT.cell.1
        have hbxl := (Array.getElem?_eq_some_iff.1 HBOX5.out).1
        have hcbx := cell_box' ((hbW.block w.heap.size hbxl).trans HBOX5.out)
        have hrow := own_rdC hT.own
        have hlx : xs.length = LL.length := by rw [← hxs]; simp
        have hfl : wr.heap.size < W.heap.size := (Array.getElem?_eq_some_iff.1 hT.box).1
        have hownb : ∀ b, A1 = some b → w7.heap.size ≤ b.block := fun b hb => hown b.block (by rw [hb]; rfl)
        have hS := sortF_any A1 c1 r w.heap.size n c0 P0 xs W hrow (fun j _ b o e => by
            subst e
            obtain ⟨cs, hcs⟩ := own_obj hT.own
            simp [World.frozen?, hcs])
          (fun x hx => ⟨(hT.each x hx).rd, HLL.out x.l (by rw [← hxs]; exact List.mem_map_of_mem hx), fun a b ha hb e => by
            subst hb
            obtain ⟨cs, hcs⟩ := own_obj hT.own
            obtain ⟨c', z, hc'⟩ := (hT.each x hx).ty a ha
            rw [e, hcs] at hc'; cases hc'⟩)
          hcbx (by have := hbW.size; omega) ((keep hbw _ 1 hrl).trans r1) (by have := hbw.size; omega) (HQ2.out.rp.on hbw)
          (fun b hb => by
            have h1 := hownb b hb
            exact ⟨by omega, by omega, fun a ha => by have := HQ2.out.inP a ha; omega⟩) hfew (by rw [hxs]; exact HLN.out) (by have := HLM.out; omega)
        have HS := Lib.hid hS; have HT := Lib.hid hT; have HXS := Lib.hid hxs; have HKK := Lib.hid hK; have HOB := Lib.hid hownb
        clear hS hT hrow hxs hK hcbx hownb hown hlx
        go_wp2_with (go_at_call 49; refine HS.out.mono ?_; rintro e w8 ⟨rfl, ys, hp, hso, hro, hF8⟩; have hcf8 := (hF8.cell (o := 0) hfl (fun ⟨b, hb, e⟩ => by have := HOB.out b hb; omega)).trans hcf; have HP8 := Lib.hid hp; have HSO := Lib.hid hso; have HRO := Lib.hid hro; have HF8 := Lib.hid hF8; clear hp hso hro hF8)
        have hk2 : w8.heap[D2]? = some (.deferred (some [])) := (HF8.out.block D2 hDl2 (fun ⟨b, hb, e⟩ => by
          subst hb
          obtain ⟨cs, hcs⟩ := own_obj HT.out.own
          have := HKK.out
          rw [e, hcs] at this; cases this)).trans HKK.out
        refine ⟨by simp, .inl ⟨_, _, rfl, run_takeDeferred hk2, ?_⟩⟩
        refine ⟨_, results_tmp rfl _ _ _, ?_⟩
        have hfd : ys.map Sl.l = foundL cols vals (puts (upto n) H) := by
          refine look_found HPP.out HPN.out HD.out HXL.out HPK.out ?_ HSO.out
          rw [HLE.out, ← HXS.out]
          exact HP8.out.map Sl.l
        have hln : (foundL cols vals (puts (upto n) H)).length = xs.length := by rw [← hfd, List.length_map, HP8.out.length_eq]
        have hcm := Calm.put (n := w.heap.size) (o' := .deferred none) hk2 rfl (by omega)
        have hb8 : Below w.heap.size w w8 := hbw.trans (HF8.out.below hbw.size fun k hk ⟨b, hb, e⟩ => by have := HOB.out b hb; omega)
        have hslk : ∀ y ∈ ys, SlOk X (w8.putObj D2 (.deferred none)) y := fun y hy => by
          have hym := HT.out.each y ((HP8.out.mem_iff).1 hy)
          refine hcm.slOk (slOk_far (⟨hym.rd, off_sub hym.off (fun k hk => .inl hk), hym.cap, hym.ty⟩ : SlOk X _ y) (fun a e hx => ?_) HF8.out)
          obtain ⟨b', hb', e'⟩ := hx
          subst hb'
          obtain ⟨cs, hcs⟩ := own_obj HT.out.own
          obtain ⟨c', z, hc'⟩ := hym.ty _ e
          rw [e', hcs] at hc'; cases hc'
        refine ⟨A1, c1, ys, by rw [hln]; rfl, hfd, hcm.rdC HRO.out, fun y hy => (hslk y hy).rd, hb8.trans (hcm.below hb8.size), by rw [hln]; exact (own_cap HT.out.own).1, hslk⟩
theorem relFind_any (C A : Option Addr) (cc ca : Nat) (cols : List Int) (vals : List V) (w : World) (h : RelS X w r n g0 gs ps H) (hX : ∀ k, X k → k < w.heap.size) (hH : H.length ≤ 100000) (hc : RdI w C cols) (oc : cols ≠ [] → ∀ b o, C = some ⟨b, o, none⟩ → ¬ X b) (hv : RdV w A vals) (lc : cols.length ≤ 1000) :
    Calls Tryz.prog 18 #[.pointer (some ⟨r, 0, none⟩), .slice C cols.length cc, .slice A vals.length ca] w (FindP X (findL n cols vals H) w) := by
  by_cases hg : cols.length = vals.length ∧ distB n cols = true
  · have e : findL n cols vals H = foundL cols vals (puts (upto n) H) := by unfold findL; rw [if_pos hg]
    rw [e]
    obtain ⟨k, hk⟩ := uses_some cols ps
    rcases hk with ⟨rfl, hk⟩ | ⟨j, rfl, hj, ⟨p, hp, hl⟩, hn⟩
    · exact relFind_plain C A cc ca cols vals w h hX hH hc oc hv lc hg.1 hg.2 (.inl ⟨rfl, hk⟩)
    · exact relFind_idx C A cc ca cols vals w h hX hH hc oc hv lc hg.1 hg.2 j p (.inr ⟨j, rfl, hj, ⟨p, hp, hl⟩, hn⟩) hp
  · refine relFind_no C A cc ca cols vals w h hc lc ?_
    by_cases h1 : cols.length = vals.length
    · refine .inr ⟨h1, ?_⟩
      cases hd : distB n cols with
      | true => exact absurd ⟨h1, hd⟩ hg
      | false => rfl
    · exact .inl h1
end
end Go.Proofs.YtpmkhpbhimmeiaaGreat
/-
  Contracts of the statements' own awake and few (layer 5).
-/
namespace Go.Proofs.YtpmkhpbhimmeiaaGreat
open Go.RowKit FloM ValM Go.Shelf
set_option linter.unusedVariables false
set_option linter.unusedSimpArgs false
theorem rdC_row (w : World) (cs : List Value) (t : TypeId) : RdC (w.alloc (.cells cs.toArray t)) (some ⟨w.heap.size, 0, none⟩) cs := fun j u hu => by
  have h := news_one w cs.toArray t j u (by simpa using hu)
  have hadd : (⟨w.heap.size, 0, none⟩ : Addr).add j = ⟨w.heap.size, 0 + j, none⟩ := by unfold Addr.add; split <;> simp_all
  rw [hadd] at h
  exact ⟨_, _, rfl, by simp, h⟩
theorem rdI_row' (w : World) (l : List Int) (t : TypeId) : RdI (w.alloc (.cells (icells l).toArray t)) (some ⟨w.heap.size, 0, none⟩) l := fun i x hx => by
  obtain ⟨b, o, e, hb, hc⟩ := rdC_row w (icells l) t i (.int .i64 x) (by simp [icells, hx])
  exact ⟨b, o, e, hb, hc⟩
theorem rdV_row' (w : World) (l : List V) (t : TypeId) : RdV (w.alloc (.cells (vcells l).toArray t)) (some ⟨w.heap.size, 0, none⟩) l := fun i v hv => by
  obtain ⟨h0, h1, h2⟩ := vcells_at hv
  have f := fun (k : Nat) (u : Value) (hu : (vcells l)[k]? = some u) => news_one w (vcells l).toArray t k u (by simpa using hu)
  have hadd : ∀ k, (⟨w.heap.size, 0, none⟩ : Addr).add k = ⟨w.heap.size, k, none⟩ := fun k => by unfold Addr.add; split <;> simp_all
  simp only [hadd] at f
  exact ⟨_, 0, rfl, by simp, by rw [Nat.zero_add]; exact f _ _ h0, by rw [Nat.zero_add]; exact f _ _ h1, by rw [Nat.zero_add]; exact f _ _ h2⟩
theorem rdV_head {w : World} {A : Option Addr} {a : V} {l : List V} (h : RdV w A (a :: l)) : RdV w A [a] := fun i v hv => by
  cases i with
  | zero => exact h 0 v hv
  | succ i => simp at hv
def awR : List V := [⟨1, 1, ByteArray.empty⟩, ⟨1, 9, ByteArray.empty⟩]
theorem awR_put : putB (upto 2) awR (puts (upto 2) []) = true := by decide +kernel
theorem awR_pute : putE (upto 2) awR = 0 := by decide +kernel
theorem awR_has : hasB (upto 2) awR (puts (upto 2) ([] ++ [awR])) = true := by decide +kernel
theorem awR_len : (puts (upto 2) ([] ++ [awR])).length = 1 := by decide +kernel
theorem awR_find : (findL 2 [0] [⟨1, 1, ByteArray.empty⟩] ([] ++ [awR])).length = 1 := by decide +kernel
theorem awR_u1 : UsesR [1] [[1, 0]] 0 := .inr ⟨0, rfl, by decide, ⟨[1, 0], rfl, by decide⟩, by simp⟩
theorem awR_u0 : UsesR [0] [[1, 0]] (-1) := .inl ⟨rfl, fun p hp => by rw [List.mem_singleton] at hp; subst hp; decide⟩
/-- A relation of the caller's own, while older memory stays as it was. -/
structure OneR (w : World) (r n g0 : Nat) (gs : List Nat) (ps : List (List Int)) (H : List (List V)) (W : World) : Prop where
  s : RelS (fun k => k = g0 ∨ k ∈ gs) W r n g0 gs ps H
  b : Below w.heap.size w W
  r0 : w.heap.size ≤ r
  x0 : ∀ k, (k = g0 ∨ k ∈ gs) → w.heap.size ≤ k
  x1 : ∀ k, (k = g0 ∨ k ∈ gs) → k < W.heap.size
section
variable {w W W' : World} {r n g0 : Nat} {gs : List Nat} {ps : List (List Int)} {H : List (List V)}
theorem OneR.start (N : NewS w n ps r g0 gs W) : OneR w r n g0 gs ps [] W := ⟨N.s, N.b, N.r0, N.x0, RelG.x_lt N.s⟩
theorem OneR.base {w1 : World} (h : OneR w1 r n g0 gs ps H W) (hb : Below w.heap.size w w1) : OneR w r n g0 gs ps H W := ⟨h.s, hb.trans (h.b.mono hb.size), Nat.le_trans hb.size h.r0, fun k hk => Nat.le_trans hb.size (h.x0 k hk), h.x1⟩
theorem OneR.on (h : OneR w r n g0 gs ps H W) (hb : Below W.heap.size W W') : OneR w r n g0 gs ps H W' := ⟨RelG.on h.s hb, h.b.trans (hb.mono h.b.size), h.r0, h.x0, fun k hk => Nat.lt_of_lt_of_le (h.x1 k hk) hb.size⟩
theorem OneR.put {H' : List (List V)} (h : OneR w r n g0 gs ps H W) (hs : RelS (fun k => k = g0 ∨ k ∈ gs) W' r n g0 gs ps H') (hF : Fr (fun k => k = g0 ∨ k ∈ gs) W.heap.size W W') : OneR w r n g0 gs ps H' W' :=
  ⟨hs, h.b.trans (hF.below h.b.size fun k hk hx => by have := h.x0 k hx; omega), h.r0, h.x0, RelG.x_lt hs⟩
theorem aw_uses (c k : Int) (hu : UsesR [c] ps k) (h : OneR w r n g0 gs ps H W) : Calls Tryz.prog 20 #[.pointer (some ⟨r, 0, none⟩), .slice (some ⟨W.heap.size, 0, none⟩) 1 1] (W.alloc (.cells #[.int .i64 c] 3)) fun e w' => e = .returned (.int .i64 k) ∧ Below W.heap.size W w' := by
  have hb := (Below.refl W.heap.size W).alloc (Nat.le_refl _) (.cells #[.int .i64 c] 3)
  have hc := relUses_any (some ⟨W.heap.size, 0, none⟩) 1 [c] _ (RelG.on h.s hb) (rdI_row' W [c] 3) (by simp)
  simp only [List.length_cons, List.length_nil, Nat.zero_add] at hc
  refine Calls.mono hc ?_
  rintro e w' ⟨⟨k', rfl, hu'⟩, hb'⟩
  obtain rfl := uses_one hu' hu
  exact ⟨rfl, on hb hb'⟩
theorem aw_find (c : Int) (A : Option Addr) (ca : Nat) (v : V) (h : OneR w r n g0 gs ps H W) (hH : H.length ≤ 100000) (hv : RdV W A [v]) : Calls Tryz.prog 18 #[.pointer (some ⟨r, 0, none⟩), .slice (some ⟨W.heap.size, 0, none⟩) 1 1, .slice A 1 ca] (W.alloc (.cells #[.int .i64 c] 3)) fun e w' => ∃ B d, e = .returned (.slice B (findL n [c] [v] H).length d) ∧ Below W.heap.size W w' := by
  have hb := (Below.refl W.heap.size W).alloc (Nat.le_refl _) (.cells #[.int .i64 c] 3)
  have hc := relFind_any (some ⟨W.heap.size, 0, none⟩) A 1 ca [c] [v] _ (RelG.on h.s hb) (fun k hk => by have := h.x1 k hk; simp; omega) hH (rdI_row' W [c] 3) (fun _ b o e hx => by cases e; have := h.x1 _ hx; omega) (hv.on hb) (by simp)
  simp only [List.length_cons, List.length_nil, Nat.zero_add] at hc
  refine Calls.mono hc ?_
  rintro e w' ⟨B, d, ys, rfl, _, _, _, hb', _, _⟩
  exact ⟨B, d, rfl, on hb hb'⟩
end
set_option maxRecDepth 20000 in
set_option maxHeartbeats 4000000 in
theorem awakeR_any (w : World) : Calls Tryz.prog 6 #[] w fun e w' => e = .returned (.bool true) ∧ Below w.heap.size w w' := by
  have hb0 : Below w.heap.size w ((w.alloc (.cells #[.int .i64 1, .int .i64 0] 3)).alloc (.cells #[.slice (some ⟨w.heap.size, 0, none⟩) 2 2] 24)) := ((Below.refl _ _).alloc (Nat.le_refl _) _).alloc (by simp) _
  have h1 : Below (w.alloc (.cells #[.int .i64 1, .int .i64 0] 3)).heap.size (w.alloc (.cells #[.int .i64 1, .int .i64 0] 3)) ((w.alloc (.cells #[.int .i64 1, .int .i64 0] 3)).alloc (.cells #[.slice (some ⟨w.heap.size, 0, none⟩) 2 2] 24)) := (Below.refl _ _).alloc (Nat.le_refl _) _
  have hrp : RdP ((w.alloc (.cells #[.int .i64 1, .int .i64 0] 3)).alloc (.cells #[.slice (some ⟨w.heap.size, 0, none⟩) 2 2] 24)) (some ⟨w.heap.size + 1, 0, none⟩) [⟨some ⟨w.heap.size, 0, none⟩, 2, [1, 0]⟩] := by
    refine ⟨?_, fun x hx => ?_⟩
    · have := rdC_row (w.alloc (.cells #[.int .i64 1, .int .i64 0] 3)) [.slice (some ⟨w.heap.size, 0, none⟩) 2 2] 24
      rw [World.size_alloc] at this; exact this
    · rw [List.mem_singleton] at hx; subst hx
      exact ⟨(rdI_row' w [1, 0] 3).on h1, by unfold maxLen; simp⟩
  have hN : Hid (Calls Tryz.prog 8 #[.int .i64 2, .slice (some ⟨w.heap.size + 1, 0, none⟩) 1 1] ((w.alloc (.cells #[.int .i64 1, .int .i64 0] 3)).alloc (.cells #[.slice (some ⟨w.heap.size, 0, none⟩) 2 2] 24)) fun e w' => ∃ r g0 gs, e = .returned (.tuple #[.pointer (some ⟨r, 0, none⟩), .int .i64 0]) ∧ NewS ((w.alloc (.cells #[.int .i64 1, .int .i64 0] 3)).alloc (.cells #[.slice (some ⟨w.heap.size, 0, none⟩) 2 2] 24)) 2 [[1, 0]] r g0 gs w') :=
    Lib.hid (by
      have h := relNew_any (some ⟨w.heap.size + 1, 0, none⟩) 1 2 _ _ (by omega) hrp (by simp)
      simp only [List.length_cons, List.length_nil, Nat.zero_add, List.map_cons, List.map_nil] at h
      rw [show ((2 : Nat) : Int) = 2 from rfl] at h
      refine h.mono ?_
      rintro e w' (⟨_, h⟩ | ⟨⟨x, hx, hg⟩, _⟩)
      · exact h
      · rw [List.mem_singleton] at hx; subst hx
        exact absurd (show goodP 2 [1, 0] = false from hg) (by decide))
  have HB0 := Lib.hid hb0
  clear hrp h1 hb0
  go_enter Tryz.func6, Tryz.ntmps6
  go_wp2_with (first
    | (go_at_call 8; refine hN.out.mono ?_; rintro e w2 ⟨r, g0, gs, rfl, hs⟩; have hR := Lib.hid ((OneR.start hs).base HB0.out); have HAV := Lib.hid (rdV_row' w2 awR 69); have hAl := (Below.refl w2.heap.size w2).alloc (Nat.le_refl _) (.cells (vcells awR).toArray 69); have hR1 := Lib.hid (hR.out.on hAl); have HXL := Lib.hid hR.out.x1; clear hs hN hR)
    | (go_at_call 10; refine (relPutS_any (some ⟨w2.heap.size, 0, none⟩) 2 awR _ hR1.out.s HAV.out (fun _ a ha hx => by cases ha; have := HXL.out _ hx; simp at this) hR1.out.x1 (by simp)).mono ?_; rw [awR_put, awR_pute]; rintro e w3 ⟨rfl, hs, hF⟩; have hR2 := Lib.hid (hR1.out.put hs hF); have HA2 := Lib.hid (HAV.out.onF (fun a ha hx => by cases ha; have := HXL.out _ hx; simp at this) hF); clear hs hF hR1)
    | (go_at_call 13; refine (relHas_any (some ⟨w2.heap.size, 0, none⟩) 2 awR _ hR2.out.s HA2.out).mono ?_; rw [awR_has]; rintro e w4 ⟨rfl, hb⟩; have hR3 := Lib.hid (hR2.out.on hb); have HA3 := Lib.hid (HA2.out.on hb); clear hb hR2)
    | (go_at_call 12; refine (relLen_any _ hR3.out.s).mono ?_; rw [awR_len]; rintro e w5 ⟨rfl, rfl⟩)
    | (go_at_call 20; first
      | ((with_reducible refine (aw_uses 1 0 awR_u1 hR3.out).mono ?_); rintro e w6 ⟨rfl, hb⟩; have hR4 := Lib.hid (hR3.out.on hb); have HA4 := Lib.hid (HA3.out.on hb); clear hb HA3)
      | ((with_reducible refine (aw_uses 0 (-1) awR_u0 hR4.out).mono ?_); rintro e w7 ⟨rfl, hb⟩; have hR5 := Lib.hid (hR4.out.on hb); have HA5 := Lib.hid (HA4.out.on hb); clear hb HA4))
    | (go_at_call 18; refine (aw_find 0 (some ⟨w2.heap.size, 0, none⟩) 2 ⟨1, 1, ByteArray.empty⟩ hR5.out (by simp) (rdV_head HA5.out)).mono ?_; rw [awR_find]; rintro e w8 ⟨B, d, rfl, hb⟩; have hR6 := Lib.hid (hR5.out.on hb); clear hb)
    | (go_at_call 15; refine (relArity_any _ hR6.out.s).mono ?_; rintro e w9 ⟨rfl, rfl⟩))
  go_ret
  exact ⟨rfl, hR6.out.b⟩
end Go.Proofs.YtpmkhpbhimmeiaaGreat
/-
  Parameters that are slices of lists of numbers, opened; contract of the statements' own few (layer 5).
-/
namespace Go.Proofs.YtpmkhpbhimmeiaaGreat
open Go.RowKit Go.ChangeShapes Go.WideShapes Go.ChangeAt Go.Joins Go.Deep Go.ChangeMaps
set_option linter.unusedVariables false
set_option linter.unusedSimpArgs false
section
variable {H : Type} {enc : TypeId × Value → H} {w : World} {base : Nat} {spare : Nat → Bool} {held : Bool}
theorem ints_trod {fuel : Nat} {cs : List Value} {x : DataW H × List MemPlace} (hf : DataW.trod enc Tryz.prog w base spare held fuel 24 cs = some x) :
    ∃ (A : Option Addr) (c : Nat) (l : List Int), cs = [.slice A l.length c] ∧ RdI w A l ∧ l.length ≤ maxLen ∧ l.length ≤ c := by
  rcases open_ints Tryz.underlying24 Tryz.underlying3 (by kernel_rfl) hf with ⟨hcs, _⟩ | ⟨a, len, cap, zs, hcs, _, hl, hm, hz, _, hcell, hwf⟩
  · exact ⟨none, 0, [], by simpa using hcs, RdI.nil, Nat.zero_le _, Nat.le_refl _⟩
  · have hlz : len ≤ zs.length := by rw [hz]; split <;> omega
    have hle : (zs.take len).length = len := by rw [List.length_take, Nat.min_eq_left hlz]
    refine ⟨some a, cap, zs.take len, by rw [hle]; exact hcs, fun i x hx => ?_, by rw [hle]; exact Nat.le_trans hl hm, by rw [hle]; exact hl⟩
    rw [List.getElem?_take] at hx
    split at hx
    · rename_i hin
      have h0 := hcell i (by omega)
      have hg : zs.getD i 0 = x := by simp [List.getD, hx]
      rw [hg] at h0
      have hsp : a.spot = none := by
        have := hcell 0 (by omega)
        exact World.cell?_spot (by simpa [Addr.add] using this)
      rw [add_spot hsp] at h0
      obtain ⟨ab, ao, asp⟩ := a
      simp only at hsp; subst hsp
      exact ⟨ab, ao, rfl, cell_lt h0, h0⟩
    · cases hx
instance : Inhabited IS := ⟨⟨none, 0, []⟩⟩
/-- A parameter of type [][]int reads as a list of lists. -/
theorem open_perms {v : Value} {d : DataW H} {p : List MemPlace} (hok : ∃ A n c, v = .slice A n c) (h : DataW.Trod enc Tryz.prog w base spare held 22 v d p) :
    ∃ (A : Option Addr) (c : Nat) (xs : List IS), v = .slice A xs.length c ∧ RdP w A xs ∧ xs.length ≤ maxLen ∧ ∀ x ∈ xs, x.l.length ≤ x.c := by
  obtain ⟨A0, n0, c0, rfl⟩ := hok
  obtain ⟨fuel, hf⟩ := h
  rcases open_slice Tryz.underlying22 hf with ⟨hcs, _⟩ | ⟨a, len, cap, m, n, D, Pl, hcs, _, hl, hm, hmm, _, hi⟩
  · simp [Value.cells] at hcs
    obtain ⟨rfl, rfl, rfl⟩ := hcs
    exact ⟨none, 0, [], rfl, ⟨RdC.nil, fun _ h => by cases h⟩, Nat.zero_le _, fun _ h => by cases h⟩
  · simp [Value.cells] at hcs
    obtain ⟨rfl, rfl, rfl⟩ := hcs
    have hC : Tryz.prog.cellsOf 24 = 1 := by kernel_rfl
    have hlm : n0 ≤ m := by rw [hmm]; split <;> omega
    obtain ⟨f, hff⟩ := choose_lt (p := fun i (u : IS) => w.cell? (a.add i) = some u.val ∧ (RdI w u.A u.l ∧ u.l.length ≤ maxLen) ∧ u.l.length ≤ u.c) (n := n0) (fun i hin => by
      obtain ⟨cs', hc, ht'⟩ := hi i (by omega)
      rw [hC] at hc
      obtain ⟨_, hcl, hat⟩ := World.cells?_some hc
      obtain ⟨A, c, l, rfl, h1, h2, h3⟩ := ints_trod ht'
      refine ⟨⟨A, c, l⟩, ?_, ⟨h1, h2⟩, h3⟩
      have := hat 0 (by simp)
      rw [Go.Deep.add_add] at this
      simpa [IS.val] using this)
    refine ⟨some a, c0, (List.range n0).map f, by simp, ⟨fun i u hu => ?_, fun x hx => ?_⟩, by simpa using Nat.le_trans hl hm, fun x hx => ?_⟩
    · rw [List.getElem?_map, List.getElem?_map, Option.map_eq_some_iff] at hu
      obtain ⟨y, hy, rfl⟩ := hu
      rw [Option.map_eq_some_iff] at hy
      obtain ⟨j, hj, rfl⟩ := hy
      obtain ⟨hlj, hj⟩ := List.getElem?_eq_some_iff.1 hj
      rw [List.getElem_range] at hj; subst hj
      rw [List.length_range] at hlj
      have h0 := (hff i hlj).1
      have hsp : a.spot = none := by
        have := (hff 0 (by omega)).1
        exact World.cell?_spot (by simpa [Addr.add] using this)
      rw [add_spot hsp] at h0
      obtain ⟨ab, ao, asp⟩ := a
      simp only at hsp; subst hsp
      exact ⟨ab, ao, rfl, cell_lt h0, h0⟩
    · rw [List.mem_map] at hx
      obtain ⟨i, hi', rfl⟩ := hx
      exact (hff i (List.mem_range.1 hi')).2.1
    · rw [List.mem_map] at hx
      obtain ⟨i, hi', rfl⟩ := hx
      exact (hff i (List.mem_range.1 hi')).2.2
end
/-! ### few -/
def fewR (ps : List (List Int)) (M : List (List V)) : Bool := (ps.all fun p => decide (p.length ≤ 12)) && (M.all fun a => decide (a.length ≤ 12)) && (decide (ps.length ≤ 10) && decide (M.length ≤ 60))
theorem fewR_yes {ps : List (List Int)} {M : List (List V)} (h : fewR ps M = true) : (∀ p ∈ ps, p.length ≤ 12) ∧ (∀ a ∈ M, a.length ≤ 12) ∧ ps.length ≤ 10 ∧ M.length ≤ 60 := by
  unfold fewR at h
  rw [Bool.and_eq_true, Bool.and_eq_true, Bool.and_eq_true, List.all_eq_true, List.all_eq_true, decide_eq_true_eq, decide_eq_true_eq] at h
  exact ⟨fun p hp => by simpa using h.1.1 p hp, fun a ha => by simpa using h.1.2 a ha, h.2.1, h.2.2⟩
theorem fewR_no1 {ps : List (List Int)} {M : List (List V)} {p : List Int} (hp : p ∈ ps) (h : 12 < p.length) : fewR ps M = false := by
  rw [Bool.eq_false_iff]; intro hf
  have := (fewR_yes hf).1 p hp; omega
theorem fewR_no2 {ps : List (List Int)} {M : List (List V)} {a : List V} (ha : a ∈ M) (h : 12 < a.length) : fewR ps M = false := by
  rw [Bool.eq_false_iff]; intro hf
  have := (fewR_yes hf).2.1 a ha; omega
theorem fewR_all {ps : List (List Int)} {M : List (List V)} (h1 : ∀ p ∈ ps, p.length ≤ 12) (h2 : ∀ a ∈ M, a.length ≤ 12) : fewR ps M = (decide (ps.length ≤ 10) && decide (M.length ≤ 60)) := by
  unfold fewR
  rw [List.all_eq_true.2 (fun p hp => by simpa using h1 p hp), List.all_eq_true.2 (fun a ha => by simpa using h2 a ha)]; rfl
set_option maxHeartbeats 2000000 in
theorem fewR_any (A B : Option Addr) (c d : Nat) (ps : List IS) (xs : List Sl) (w : World) (hp : RdP w A ps) (hx : RdL w B xs) (lp : ps.length ≤ maxLen) (lx : xs.length ≤ maxLen) :
    Calls Tryz.prog 7 #[.slice A ps.length c, .slice B xs.length d] w fun e w' => e = .returned (.bool (fewR (ps.map IS.l) (xs.map Sl.l))) ∧ w = w' := by
  unfold maxLen at lp lx
  have HP := Lib.hid hp; have HX := Lib.hid hx; clear hp hx
  go_enter Tryz.func7, Tryz.ntmps7
  go_wp2
  go_loop [9] (fun v => ∃ k : Nat, v = .int .i64 (k : Nat) ∧ k ≤ ps.length ∧ ∀ x ∈ ps.take k, x.l.length ≤ 12) (fun v => ps.length - (intOf v).toNat)
  case atStart => exact ⟨0, rfl, Nat.zero_le _, by simp⟩
  case round =>
    obtain ⟨k, rfl, hk, hn⟩ := hrel
    have HN := Lib.hid hn; clear hn
    by_cases hlt : k < ps.length
    · obtain ⟨b, o, rfl, hb, hrow⟩ := HP.out.row (by omega)
      have hy := List.getElem?_eq_getElem hlt
      generalize ps[k] = y at hy
      have cy := hrow k y hy
      have hyl := (HP.out.each y (List.mem_of_getElem? hy)).2
      unfold maxLen at hyl
      have HY := Lib.hid hy; clear hrow hy
      by_cases h12 : y.l.length ≤ 12
      · have h12' : ¬ (12 : Int) < (y.l.length : Int) := by omega
        go_wp2
        refine ⟨⟨k + 1, by go_num, by omega, ?_⟩, by simp [intOf]; omega⟩
        intro x hx
        rw [take_snoc' HY.out, List.mem_append, List.mem_singleton] at hx
        rcases hx with hx | rfl
        · exact HN.out x hx
        · exact h12
      · have h12' : (12 : Int) < (y.l.length : Int) := by omega
        have HF := Lib.hid (fewR_no1 (M := xs.map Sl.l) (List.mem_map_of_mem (List.mem_of_getElem? HY.out)) (show 12 < y.l.length by omega))
        go_wp2
        go_ret
        exact ⟨by rw [HF.out]; rfl, rfl⟩
    · obtain rfl : k = ps.length := by omega
      have hall := HN.out
      rw [List.take_of_length_le (Nat.le_refl _)] at hall
      have HA := Lib.hid hall; clear hall
      go_wp2
      go_loop [21] (fun v => ∃ k : Nat, v = .int .i64 (k : Nat) ∧ k ≤ xs.length ∧ ∀ x ∈ xs.take k, x.l.length ≤ 12) (fun v => xs.length - (intOf v).toNat)
      case atStart => exact ⟨0, rfl, Nat.zero_le _, by simp⟩
      case round =>
        obtain ⟨k, rfl, hk, hn⟩ := hrel
        have HN2 := Lib.hid hn; clear hn
        by_cases hlt : k < xs.length
        · have hy := List.getElem?_eq_getElem hlt
          generalize xs[k] = y at hy
          obtain ⟨b, o, rfl, hb, cy⟩ := HX.out.at_ hy
          have hyl := (HX.out.each y (List.mem_of_getElem? hy)).2
          unfold maxLen at hyl
          have HY := Lib.hid hy; clear hy
          by_cases h12 : y.l.length ≤ 12
          · have h12' : ¬ (12 : Int) < (y.l.length : Int) := by omega
            go_wp2
            refine ⟨⟨k + 1, by go_num, by omega, ?_⟩, by simp [intOf]; omega⟩
            intro x hx
            rw [take_snoc' HY.out, List.mem_append, List.mem_singleton] at hx
            rcases hx with hx | rfl
            · exact HN2.out x hx
            · exact h12
          · have h12' : (12 : Int) < (y.l.length : Int) := by omega
            have HF := Lib.hid (fewR_no2 (ps := ps.map IS.l) (List.mem_map_of_mem (List.mem_of_getElem? HY.out)) (show 12 < y.l.length by omega))
            go_wp2
            go_ret
            exact ⟨by rw [HF.out]; rfl, rfl⟩
        · obtain rfl : k = xs.length := by omega
          have hall := HN2.out
          rw [List.take_of_length_le (Nat.le_refl _)] at hall
          have HF := Lib.hid (fewR_all (ps := ps.map IS.l) (M := xs.map Sl.l) (fun p hp => by obtain ⟨x, hx, rfl⟩ := List.mem_map.1 hp; exact HA.out x hx) (fun a ha => by obtain ⟨x, hx, rfl⟩ := List.mem_map.1 ha; exact hall x hx))
          clear hall
          by_cases h1 : ps.length ≤ 10
          · have h1' : (ps.length : Int) ≤ 10 := by omega
            go_wp2
            go_ret
            refine ⟨?_, rfl⟩
            rw [HF.out, List.length_map, List.length_map, decide_eq_true h1, Bool.true_and]
            exact congrArg (fun b => Ending.returned (.bool b)) (decide_eq_decide.2 (by omega))
          · have h1' : ¬ (ps.length : Int) ≤ 10 := by omega
            go_wp2
            go_ret
            refine ⟨?_, rfl⟩
            rw [HF.out, List.length_map, List.length_map, decide_eq_false h1, Bool.false_and]; rfl
end Go.Proofs.YtpmkhpbhimmeiaaGreat
/-
  Package rel, for the laws: what is found, as mathematics; Find and All of a law's one relation; slices of tuples with their room.
-/
namespace Go.Proofs.YtpmkhpbhimmeiaaGreat
open Go.RowKit FloM ValM Go.Shelf
set_option linter.unusedVariables false
set_option linter.unusedSimpArgs false
section
variable {n : Nat} {H : List (List V)} {x : List V}
theorem findL_yes {cols : List Int} {vals : List V} (hl : cols.length = vals.length) (hd : distB n cols = true) : findL n cols vals H = foundL cols vals (puts (upto n) H) := by unfold findL; rw [if_pos ⟨hl, hd⟩]
theorem findL_no {cols : List Int} {vals : List V} (hd : distB n cols = false) : findL n cols vals H = [] := by unfold findL; rw [if_neg (by rw [hd]; simp)]
theorem upto_dist (n : Nat) : distB n (upto n) = true := distB_iff.2 ⟨fun x hx => upto_mem.1 hx, upto_nodup n⟩
theorem find_all (hx : x ∈ H) (hn : x.length = n) : findL n (upto n) x H = [x] := by
  rw [findL_yes (by rw [upto_len, hn]) (upto_dist n)]
  refine sort_ext found_sort (show SortS _ [x] from List.pairwise_singleton _ _) fun t => ?_
  rw [found_mem, puts_mem (upto_perm n), upto_len, List.mem_singleton]
  constructor
  · rintro ⟨⟨h1, h2⟩, h3⟩
    rwa [pick_upto t n (by omega)] at h3
  · rintro rfl
    exact ⟨⟨hx, hn⟩, pick_upto _ n (by omega)⟩
theorem find_none : findL n [] [] H = puts (upto n) H := by
  rw [findL_yes rfl (distB_iff.2 ⟨fun x hx => (by cases hx), List.nodup_nil⟩)]
  unfold foundL
  rw [List.filter_eq_self]
  intro t _
  rw [pickL_nil, beq_iff_eq, ord_zero]
theorem one_dist {c : Int} (h0 : 0 ≤ c) (h1 : c < (n : Int)) : distB n [c] = true := distB_iff.2 ⟨fun x hx => by rw [List.mem_singleton] at hx; subst hx; exact inR_iff.2 ⟨h0, h1⟩, by simp⟩
theorem find_some {c : Nat} {v : V} (hx : x ∈ H) (hn : x.length = n) (hv : x[c]? = some v) : 1 ≤ (findL n [(c : Int)] [v] H).length := by
  have hc : c < n := by rw [← hn]; exact (List.getElem?_eq_some_iff.1 hv).1
  have hm : x ∈ findL n [(c : Int)] [v] H := by
    rw [findL_yes rfl (one_dist (by omega) (by omega)), found_mem, puts_mem (upto_perm n), upto_len]
    exact ⟨⟨hx, hn⟩, by rw [pickL_take (show col x c = some v by unfold col; rw [if_pos (inR_iff.2 ⟨by omega, by omega⟩)]; simpa using hv)]; rfl⟩
  exact List.length_pos_of_mem hm
theorem find_le (cols : List Int) (vals : List V) : (findL n cols vals H).length ≤ (puts (upto n) H).length := by
  unfold findL
  split
  · exact List.length_filter_le _ _
  · simp
theorem find_two {c i : Nat} {v u : V} (hc : c < n) : (findL n [(c : Int), (i : Int)] [v, u] H).length ≤ (findL n [(c : Int)] [v] H).length := by
  cases hd : distB n [(c : Int), (i : Int)] with
  | false => rw [findL_no hd]; simp
  | true =>
    rw [findL_yes rfl hd, findL_yes rfl (one_dist (by omega) (by omega))]
    unfold foundL
    rw [← List.countP_eq_length_filter, ← List.countP_eq_length_filter]
    refine List.countP_mono_left fun t ht h => ?_
    rw [beq_iff_eq, ord_zero] at h ⊢
    have hl : t.length = n := by have := ((puts_mem (upto_perm n) H).1 ht).2; rwa [upto_len] at this
    have hin := (distB_iff.1 hd).1
    have h1 := congrArg (·[0]?) h
    have h2 := pick_at (t := t) (p := [(c : Int), (i : Int)]) (by rw [hl]; exact hin) 0
    have hq := pick_at (t := t) (p := [(c : Int)]) (by rw [hl]; intro x hx; rw [List.mem_singleton] at hx; subst hx; exact inR_iff.2 ⟨by omega, by omega⟩)
    have hlen := pick_perm_len (t := t) (p := [(c : Int)]) (by rw [hl]; intro x hx; rw [List.mem_singleton] at hx; subst hx; exact inR_iff.2 ⟨by omega, by omega⟩)
    apply List.ext_getElem?
    intro j
    rcases j with _ | j
    · rw [hq 0]; simp at h1 h2 ⊢; rw [← h2]; exact h1
    · rw [List.getElem?_eq_none (by rw [hlen]; simp), List.getElem?_eq_none (by simp)]
theorem find_twice (c : Int) (vals : List V) : findL n [c, c] vals H = [] := findL_no (by
  rw [Bool.eq_false_iff]; intro h
  have := (distB_iff.1 h).2
  simp at this)
theorem find_far (vals : List V) : findL n [(n : Int)] vals H = [] := findL_no (by
  rw [Bool.eq_false_iff]; intro h
  have := inR_iff.1 ((distB_iff.1 h).1 _ (List.mem_singleton.2 rfl))
  omega)
theorem find_lens {cols : List Int} {vals : List V} {t : List V} (h : t ∈ findL n cols vals H) : t.length = n := by
  unfold findL at h
  split at h
  · have := ((puts_mem (upto_perm n) H).1 (found_mem.1 h).1).2; rwa [upto_len] at this
  · cases h
end
section
variable {w W : World} {r n g0 : Nat} {gs : List Nat} {ps : List (List Int)} {H : List (List V)}
theorem oneFind (C A : Option Addr) (cc ca : Nat) (cols : List Int) (vals : List V) (h : OneR w r n g0 gs ps H W) (hn : n ≤ 8) (hH : H.length ≤ 100000) (hc : RdI W C cols) (oc : ∀ b o, C = some ⟨b, o, none⟩ → ¬ (b = g0 ∨ b ∈ gs)) (hv : RdV W A vals) (lc : cols.length ≤ 1000) :
    Calls Tryz.prog 18 #[.pointer (some ⟨r, 0, none⟩), .slice C cols.length cc, .slice A vals.length ca] W fun e w' => ∃ B d ys, e = .returned (.slice B (findL n cols vals H).length d) ∧ RdL w' B ys ∧ lsOf ys = findL n cols vals H ∧ Below W.heap.size W w' := by
  refine (relFind_any C A cc ca cols vals W h.s h.x1 hH hc (fun _ => oc) hv lc).mono ?_
  rintro e w' ⟨B, d, ys, rfl, hy, hr, he, hb, _, _⟩
  refine ⟨B, d, ys, rfl, ⟨hr, fun y hm => ⟨he y hm, ?_⟩⟩, hy, hb⟩
  rw [find_lens (show y.l ∈ findL n cols vals H by rw [← hy]; exact List.mem_map.2 ⟨y, hm, rfl⟩)]
  unfold maxLen; omega
theorem oneAll (h : OneR w r n g0 gs ps H W) (hn : n ≤ 8) (hH : H.length ≤ 100000) :
    Calls Tryz.prog 17 #[.pointer (some ⟨r, 0, none⟩)] W fun e w' => ∃ B d ys, e = .returned (.slice B (puts (upto n) H).length d) ∧ RdL w' B ys ∧ lsOf ys = puts (upto n) H ∧ Below W.heap.size W w' := by
  have hl := puts_len (upto n) H
  refine (relAll_any W h.s h.x1 (by omega)).mono ?_
  rintro e w' ⟨B, d, ys, hs⟩
  refine ⟨B, d, ys, hs.val, hs.rd.rdL (fun y hm => ?_), hs.vals, hs.b⟩
  have := ((puts_mem (upto_perm n) H).1 (show y.l ∈ puts (upto n) H by rw [← hs.vals]; exact List.mem_map.2 ⟨y, hm, rfl⟩)).2
  rw [upto_len] at this
  unfold maxLen; omega
end
section
variable {X : Nat → Prop} {W W' : World} {r n g0 : Nat} {gs : List Nat} {ps : List (List Int)} {H : List (List V)}
theorem xFind (C A : Option Addr) (cc ca : Nat) (cols : List Int) (vals : List V) (h : RelS X W r n g0 gs ps H) (hx : ∀ k, X k → k < W.heap.size) (hn : n ≤ 8) (hH : H.length ≤ 100000) (hc : RdI W C cols) (oc : cols ≠ [] → ∀ b o, C = some ⟨b, o, none⟩ → ¬ X b) (hv : RdV W A vals) (lc : cols.length ≤ 1000) :
    Calls Tryz.prog 18 #[.pointer (some ⟨r, 0, none⟩), .slice C cols.length cc, .slice A vals.length ca] W fun e w' => ∃ B d ys, e = .returned (.slice B (findL n cols vals H).length d) ∧ RdL w' B ys ∧ lsOf ys = findL n cols vals H ∧ Below W.heap.size W w' := by
  refine (relFind_any C A cc ca cols vals W h hx hH hc oc hv lc).mono ?_
  rintro e w' ⟨B, d, ys, rfl, hy, hr, he, hb, _, _⟩
  refine ⟨B, d, ys, rfl, ⟨hr, fun y hm => ⟨he y hm, ?_⟩⟩, hy, hb⟩
  rw [find_lens (show y.l ∈ findL n cols vals H by rw [← hy]; exact List.mem_map.2 ⟨y, hm, rfl⟩)]
  unfold maxLen; omega
theorem xFindC (C A : Option Addr) (cc ca : Nat) (cols : List Int) (vals : List V) (h : RelS X W r n g0 gs ps H) (hx : ∀ k, X k → k < W.heap.size) (hn : n ≤ 8) (hH : H.length ≤ 100000) (hc : RdI W C cols) (oc : cols ≠ [] → ∀ b o, C = some ⟨b, o, none⟩ → ¬ X b) (hv : RdV W A vals) (lc : cols.length ≤ 1000) :
    Calls Tryz.prog 18 #[.pointer (some ⟨r, 0, none⟩), .slice C cols.length cc, .slice A vals.length ca] W fun e w' => ∃ B d ys, e = .returned (.slice B (findL n cols vals H).length d) ∧ RdL w' B ys ∧ lsOf ys = findL n cols vals H ∧ Below W.heap.size W w' ∧ (findL n cols vals H).length ≤ d := by
  refine (relFind_any C A cc ca cols vals W h hx hH hc oc hv lc).mono ?_
  rintro e w' ⟨B, d, ys, rfl, hy, hr, he, hb, hcap, _⟩
  refine ⟨B, d, ys, rfl, ⟨hr, fun y hm => ⟨he y hm, ?_⟩⟩, hy, hb, hcap⟩
  rw [find_lens (show y.l ∈ findL n cols vals H by rw [← hy]; exact List.mem_map.2 ⟨y, hm, rfl⟩)]
  unfold maxLen; omega
theorem xAll (h : RelS X W r n g0 gs ps H) (hx : ∀ k, X k → k < W.heap.size) (hn : n ≤ 8) (hH : H.length ≤ 100000) :
    Calls Tryz.prog 17 #[.pointer (some ⟨r, 0, none⟩)] W fun e w' => ∃ B d ys, e = .returned (.slice B (puts (upto n) H).length d) ∧ RdL w' B ys ∧ lsOf ys = puts (upto n) H ∧ Below W.heap.size W w' := by
  have hl := puts_len (upto n) H
  refine (relAll_any W h hx (by omega)).mono ?_
  rintro e w' ⟨B, d, ys, hs⟩
  refine ⟨B, d, ys, hs.val, hs.rd.rdL (fun y hm => ?_), hs.vals, hs.b⟩
  have := ((puts_mem (upto_perm n) H).1 (show y.l ∈ puts (upto n) H by rw [← hs.vals]; exact List.mem_map.2 ⟨y, hm, rfl⟩)).2
  rw [upto_len] at this
  unfold maxLen; omega
end
section
open Go.ChangeShapes Go.WideShapes Go.ChangeAt Go.Joins Go.Deep Go.ChangeMaps
variable {H : Type} {enc : TypeId × Value → H} {w : World} {base : Nat} {spare : Nat → Bool} {held : Bool}
/-- A parameter of type [][]api.Value reads as a list of tuples. -/
theorem open_tupsC {v : Value} {d : DataW H} {p : List MemPlace} (hok : ∃ A n c, v = .slice A n c) (h : DataW.Trod enc Tryz.prog w base spare held 23 v d p) :
    ∃ (A : Option Addr) (c : Nat) (xs : List Sl), v = .slice A xs.length c ∧ RdL w A xs ∧ xs.length ≤ maxLen ∧ xs.length ≤ c ∧ ∀ x ∈ xs, x.l.length ≤ x.c := by
  obtain ⟨A0, n0, c0, rfl⟩ := hok
  obtain ⟨fuel, hf⟩ := h
  rcases open_slice Tryz.underlying23 hf with ⟨hcs, _⟩ | ⟨a, len, cap, m, n, D, Pl, hcs, _, hl, hm, hmm, _, hi⟩
  · simp [Value.cells] at hcs
    obtain ⟨rfl, rfl, rfl⟩ := hcs
    exact ⟨none, 0, [], rfl, RdL.nil, Nat.zero_le _, Nat.le_refl _, fun x h => by cases h⟩
  · simp [Value.cells] at hcs
    obtain ⟨rfl, rfl, rfl⟩ := hcs
    have hC : Tryz.prog.cellsOf 25 = 1 := by kernel_rfl
    have hlm : n0 ≤ m := by rw [hmm]; split <;> omega
    obtain ⟨f, hff⟩ := choose_lt (p := fun i (u : Sl) => w.cell? (a.add i) = some u.val ∧ RdV w u.A u.l ∧ u.l.length ≤ maxLen ∧ u.l.length ≤ u.c) (n := n0) (fun i hin => by
      obtain ⟨cs', hc, ht'⟩ := hi i (by omega)
      rw [hC] at hc
      obtain ⟨_, hcl, hat⟩ := World.cells?_some hc
      obtain ⟨A, c, l, rfl, h1, h2, h3⟩ := vals_trod ht'
      refine ⟨⟨A, c, l⟩, ?_, h1, h2, h3⟩
      have := hat 0 (by simp)
      rw [Go.Deep.add_add] at this
      simpa [Sl.val] using this)
    refine ⟨some a, c0, (List.range n0).map f, by simp, ⟨fun i u hu => ?_, fun x hx => ?_⟩, by simpa using Nat.le_trans hl hm, by simpa using hl, fun x hx => ?_⟩
    · rw [List.getElem?_map, List.getElem?_map, Option.map_eq_some_iff] at hu
      obtain ⟨y, hy, rfl⟩ := hu
      rw [Option.map_eq_some_iff] at hy
      obtain ⟨j, hj, rfl⟩ := hy
      obtain ⟨hlj, hj⟩ := List.getElem?_eq_some_iff.1 hj
      rw [List.getElem_range] at hj; subst hj
      rw [List.length_range] at hlj
      have h0 := (hff i hlj).1
      have hsp : a.spot = none := by
        have := (hff 0 (by omega)).1
        exact World.cell?_spot (by simpa [Addr.add] using this)
      rw [add_spot hsp] at h0
      obtain ⟨ab, ao, asp⟩ := a
      simp only at hsp; subst hsp
      exact ⟨ab, ao, rfl, cell_lt h0, h0⟩
    · rw [List.mem_map] at hx
      obtain ⟨i, hi', rfl⟩ := hx
      exact ⟨(hff i (List.mem_range.1 hi')).2.1, (hff i (List.mem_range.1 hi')).2.2.1⟩
    · rw [List.mem_map] at hx
      obtain ⟨i, hi', rfl⟩ := hx
      exact (hff i (List.mem_range.1 hi')).2.2.2
end
end Go.Proofs.YtpmkhpbhimmeiaaGreat

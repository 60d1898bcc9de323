/-
  Contract of a tree's Has.
-/
import Derived.Test.YtpmkhpbhimmeiaaGreatBtFrom
import Derived.Test.YtpmkhpbhimmeiaaGreatBtNode
import Derived.Deep.LoopGhost
namespace Go.Proofs.YtpmkhpbhimmeiaaGreat
open Go.RowKit FloM ValM Go.Shelf
set_option linter.unusedVariables false
set_option linter.unusedSimpArgs false

/-- Is one there that is not told apart from a? -/
def hasL (p : List Int) (a : List V) (L : List Sl) : Bool := L.any fun z => cmpC p z.l a == 0
theorem hasL_yes {p : List Int} {a : List V} {L : List Sl} {z : Sl} (hz : z ∈ L) (h : cmpC p z.l a = 0) : hasL p a L = true := by
  unfold hasL; rw [List.any_eq_true]; exact ⟨z, hz, by simpa using h⟩
theorem hasL_no {p : List Int} {a : List V} {L : List Sl} (h : ∀ z ∈ L, cmpC p z.l a ≠ 0) : hasL p a L = false := by
  unfold hasL; rw [List.any_eq_false]; intro z hz; simpa using h z hz
theorem hasL_app (p : List Int) (a : List V) (L M : List Sl) : hasL p a (L ++ M) = (hasL p a L || hasL p a M) := by unfold hasL; rw [List.any_append]
theorem hasL_kid {p : List Int} {a : List V} {k b : Nat} {ts : List Sl} {ks : List Nd} {i : Nat} {u : Nd} (hl : ks.length = ts.length + 1) (hu : ks[i]? = some u) (hs : Sorted p (flat (k + 1) (.mk b ts ks))) (hp : PlaceP ts a p i false) :
    hasL p a (flat k u) = hasL p a (flat (k + 1) (.mk b ts ks)) := by
  obtain ⟨h1, h2⟩ := place_sides hl hu hs hp
  have e1 : hasL p a (headF k (.mk b ts ks) i) = false := hasL_no fun z hz => by rw [h1 z hz]; omega
  have e2 : hasL p a (tailF k (.mk b ts ks) i) = false := hasL_no fun z hz => by rw [h2 z hz]; omega
  rw [flat_at (t := .mk b ts ks) hl hu, hasL_app, hasL_app, e1, e2]; simp
theorem hasL_leaf {p : List Int} {a : List V} {b : Nat} {ts : List Sl} {i : Nat} (hs : Sorted p (flat 0 (.mk b ts []))) (hp : PlaceP ts a p i false) : hasL p a (flat 0 (.mk b ts [])) = false := by
  refine hasL_no fun z hz h0 => ?_
  change z ∈ ts at hz
  obtain ⟨j, hj⟩ := List.getElem?_of_mem hz
  rcases Nat.lt_or_ge j i with h | h
  · have := hp.less z (List.mem_of_getElem? (i := j) (by rw [List.getElem?_take, if_pos h]; exact hj)); omega
  · by_cases hji : j = i
    · subst hji; have := hp.not rfl z hj; omega
    · have hil : i < ts.length := by have := (List.getElem?_eq_some_iff.1 hj).1; omega
      have hx := List.getElem?_eq_getElem hil
      have h1 := hp.not rfl _ hx
      obtain ⟨hjl, hj⟩ := List.getElem?_eq_some_iff.1 hj
      have h2 := List.pairwise_iff_getElem.1 (show ts.Pairwise fun x y => cmpC p x.l y.l = -1 from hs) i j hil hjl (by omega)
      rw [hj] at h2
      have h3 : cmpC p a ts[i].l = -1 := by rw [cmpC_anti]; omega
      have h4 := cmpC_lt h3 h2
      rw [cmpC_anti] at h4
      omega
theorem mem_flat {k : Nat} {t : Nd} (hs : Sh k t) {x : Sl} (hx : x ∈ t.ts) : x ∈ flat k t := by
  obtain ⟨i, hi⟩ := List.getElem?_of_mem hx
  obtain ⟨b, ts, ks⟩ := t
  rw [flat_cut (bl := 0) (br := 0) hs hi]; simp
structure HasRel (X : Nat → Prop) (w : World) (p : List Int) (a : List V) (L : List Sl) (n : Nat) (v : Value) (wr : World) : Prop where
  ex : ∃ (o : Option (Nat × Nd)) (q : Option Addr), v = .pointer q ∧ RootAt X w o q ∧ (o.map (·.1 + 1)).getD 0 = n ∧ Below w.heap.size w wr ∧ hasL p a (flatO o) = hasL p a L ∧ Sorted p (flatO o) ∧ ∀ x ∈ flatO o, x.l.length ≤ 1000
set_option maxHeartbeats 4000000 in
theorem hasT_any {X : Nat → Prop} {g : Nat} {p : List Int} {L : List Sl} {o : Option (Nat × Nd)} {P : Option Addr} {cp : Nat} {q : Option Addr} (A : Option Addr) (ca : Nat) (a : List V) (w : World) (h : TreeAt X w g p L o P cp q) (hr : RdV w A a) (ha : a.length = p.length) :
    Calls Tryz.prog 44 #[.pointer (some ⟨g, 0, none⟩), .slice A a.length ca] w fun e w' => e = .returned (.bool (hasL p a L)) ∧ Below w.heap.size w w' := by
  have hgl := h.cells.2.2.2
  have hfew := h.few
  have hne : (((a.length : Int)) != (p.length : Int)) = false := by simp; omega
  have hlens := h.lens
  have hst : HasRel X w p a L ((o.map (·.1 + 1)).getD 0) (.pointer q) w := ⟨o, q, rfl, h.root, rfl, Below.refl _ _, by rw [h.all], by rw [h.all]; exact h.sorted, fun x hx => by rw [h.all] at hx; rw [hlens x hx]; omega⟩
  have H := Lib.hid h; have HR := Lib.hid hr; have HS := Lib.hid hst
  have c0 := h.cells.1; have c1 := h.cells.2.1
  clear h hr hlens hst
  have HA := Lib.hid ha; clear ha
  go_enter Tryz.func44, Tryz.ntmps44
  go_wp2
  go_loopg [5] ((o.map (·.1 + 1)).getD 0) (fun n v wr => HasRel X w p a L n v wr)
  case atStart => exact HS.out
  case round =>
    obtain ⟨o2, q2, rfl, hro, hn, hB, hh, hso, hlen⟩ := hrel.ex
    clear hrel
    have c0' := (keep hB _ _ hgl).trans c0
    rcases o2 with _ | ⟨k, t⟩
    · obtain rfl : q2 = none := hro
      have HF := Lib.hid (show hasL p a L = false by rw [← hh]; rfl)
      go_wp2
      go_ret
      exact ⟨ret_bool HF.out.symm, hB⟩
    · obtain ⟨rfl, ht⟩ := RootAt.some hro
      obtain ⟨b, ts, ks⟩ := t
      obtain ⟨At, ct, Ak, ck, hN⟩ := ht.node
      replace hN : NodeAt X w b ts (ks.map Nd.val) At ct Ak ck := hN
      have hts : ∀ x ∈ ts, x.l.length ≤ 1000 := fun x hx => hlen x (mem_flat ht.sh hx)
      have HN := Lib.hid hN; have HT := Lib.hid ht; have HH := Lib.hid hh; have HSO := Lib.hid hso; have HL := Lib.hid hlen; have HTS := Lib.hid hts; have HNN := Lib.hid hn
      clear hN ht hh hso hlen hts hn hro
      unfold Nd.ptr Nd.b
      rcases k with _ | k
      · obtain rfl := HT.out.zero
        go_wp2_with (first
          | (go_at_call 67; refine (place_any A P ca cp a p _ (HN.out.on hB) (HR.out.on hB) (H.out.rp.on hB) (by have := HA.out; omega) (by omega) HTS.out).mono ?_; rintro e w1 ⟨i, f, rfl, hpl, hb⟩; replace hpl := Lib.hid hpl; cases f)
          | (go_at_call 68; refine (kid_leaf _ _ (HN.out.on (on hB hb))).mono ?_; rintro e w2 ⟨rfl, rfl⟩))
        · go_roundg 0
          case measure => have := HNN.out; simp at this; omega
          case rel => exact ⟨none, none, rfl, rfl, rfl, on hB hb, by rw [← HH.out]; exact (hasL_leaf (b := b) HSO.out hpl.out).symm, List.Pairwise.nil, fun x hx => by cases hx⟩
        · go_ret
          obtain ⟨x, hx, h0⟩ := hpl.out.found rfl
          exact ⟨ret_bool (by rw [← HH.out]; exact (hasL_yes (L := flatO _) (mem_flat HT.out.sh (List.mem_of_getElem? hx)) h0).symm), on hB hb⟩
      · obtain ⟨hl, hks⟩ := HT.out.succ
        have HL2 := Lib.hid hl; have HK := Lib.hid hks; clear hl hks
        go_wp2_with (first
          | (go_at_call 67; refine (place_any A P ca cp a p _ (HN.out.on hB) (HR.out.on hB) (H.out.rp.on hB) (by have := HA.out; omega) (by omega) HTS.out).mono ?_; rintro e w1 ⟨i, f, rfl, hpl, hb⟩; have hil := hpl.le; replace hpl := Lib.hid hpl; have hiu : i < ks.length := (by rw [HL2.out]; omega); obtain ⟨u, hu⟩ : ∃ u, ks[i]? = some u := ⟨_, List.getElem?_eq_getElem hiu⟩; have hkv : (ks.map Nd.val)[i]? = some (.pointer (some ⟨u.b, 0, none⟩)) := (by rw [List.getElem?_map, hu]; rfl); have HU := Lib.hid hu; have HKV := Lib.hid hkv; clear hu hkv hiu; cases f)
          | (go_at_call 68; refine (kid_some i _ _ (HN.out.on (on hB hb)) HKV.out).mono ?_; rintro e w2 ⟨rfl, rfl⟩))
        · go_roundg (k + 1)
          case measure => have := HNN.out; simp at this; omega
          case rel =>
            refine ⟨some (k, u), u.ptr, rfl, ⟨rfl, (HK.out u (List.mem_of_getElem? HU.out)).1⟩, rfl, on hB hb, ?_, ?_, fun x hx => HL.out x ?_⟩
            · rw [← HH.out]; exact hasL_kid (b := b) HL2.out HU.out HSO.out hpl.out
            · have hq := HSO.out
              change Sorted p (flat (k + 1) (.mk b ts ks)) at hq
              rw [flat_at (t := .mk b ts ks) HL2.out HU.out] at hq; exact sorted_mid hq
            · change x ∈ flat k u at hx
              change x ∈ flat (k + 1) (.mk b ts ks)
              rw [flat_at (t := .mk b ts ks) HL2.out HU.out]; simp [hx]
        · go_ret
          obtain ⟨x, hx, h0⟩ := hpl.out.found rfl
          exact ⟨ret_bool (by rw [← HH.out]; exact (hasL_yes (L := flatO _) (mem_flat HT.out.sh (List.mem_of_getElem? hx)) h0).symm), on hB hb⟩
set_option maxHeartbeats 1000000 in
theorem hasT_far {X : Nat → Prop} {g : Nat} {p : List Int} {L : List Sl} {o : Option (Nat × Nd)} {P : Option Addr} {cp : Nat} {q : Option Addr} (A : Option Addr) (ca n : Nat) (w : World) (h : TreeAt X w g p L o P cp q) (hn : n ≠ p.length) :
    Calls Tryz.prog 44 #[.pointer (some ⟨g, 0, none⟩), .slice A n ca] w fun e w' => e = .returned (.bool false) ∧ w = w' := by
  have c1 := h.cells.1
  have hne : (((n : Int)) != (p.length : Int)) = true := by simp; omega
  clear h
  go_enter Tryz.func44, Tryz.ntmps44
  go_wp2
  go_ret
  exact ⟨rfl, rfl⟩
set_option maxHeartbeats 1000000 in
theorem hasT_nil (v : Value) (w : World) : Calls Tryz.prog 44 #[.pointer none, v] w fun e w' => e = .returned (.bool false) ∧ w = w' := by
  go_enter Tryz.func44, Tryz.ntmps44
  go_wp2
  go_ret
  exact ⟨rfl, rfl⟩
end Go.Proofs.YtpmkhpbhimmeiaaGreat

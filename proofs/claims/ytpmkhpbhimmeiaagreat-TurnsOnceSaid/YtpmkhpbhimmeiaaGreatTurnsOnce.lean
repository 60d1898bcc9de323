/-
  TurnsOnce (layer 6, turns): for every l and left the call returns true: what is new in some turn is new in no other one; all that was new, turn by turn, is what is there so far; each is paid once. No condition.
-/
import Derived.Test.YtpmkhpbhimmeiaaGreatRows
import Derived.Test.YtpmkhpbhimmeiaaGreatTurOw
import Derived.Test.YtpmkhpbhimmeiaaGreatTurOne
import Derived.Test.YtpmkhpbhimmeiaaGreatTurOne
import Derived.WalkKit
import Derived.ProofKit
import Derived.OpenShut
namespace Go.Proofs.YtpmkhpbhimmeiaaGreat.turnsOnce
open Go.ChangeShapes Go.WideShapes Go.ChangeAt Go.RowKit FloM ValM
set_option linter.unusedVariables false
set_option linter.unusedSimpArgs false
theorem info_op : (Tryz.prog.info? 63).map (fun i => (i.zero, i.size, i.bytes)) = some (some (.agg #[.slice none 0 0, .bool false]), 2, 32) := by kernel_rfl
def ocells (os : List OpV) : List Value := os.flatMap fun o => [.slice o.A o.l.length o.c, .bool o.t]
theorem ocells_len (os : List OpV) : (ocells os).length = os.length * 2 := by
  induction os with
  | nil => rfl
  | cons v l ih => simp only [ocells, List.flatMap_cons, List.length_append, List.length_cons, List.length_nil] at ih ⊢; omega
theorem ocells_at : ∀ {os : List OpV} {j : Nat} {u : Value}, (ocells os)[j]? = some u → ∃ i o, os[i]? = some o ∧ ((j = i * 2 ∧ u = .slice o.A o.l.length o.c) ∨ (j = i * 2 + 1 ∧ u = .bool o.t))
  | [], j, u, h => by simp [ocells] at h
  | o :: os, j, u, h => by
    match j, h with
    | 0, h => exact ⟨0, o, rfl, .inl ⟨rfl, by simpa [ocells] using h.symm⟩⟩
    | 1, h => exact ⟨0, o, rfl, .inr ⟨rfl, by simpa [ocells] using h.symm⟩⟩
    | j + 2, h =>
      have h' : (ocells os)[j]? = some u := by simpa [ocells] using h
      obtain ⟨i, o', hi, hj⟩ := ocells_at h'
      refine ⟨i + 1, o', by simpa using hi, ?_⟩
      rcases hj with ⟨rfl, e⟩ | ⟨rfl, e⟩
      · exact .inl ⟨by omega, e⟩
      · exact .inr ⟨by omega, e⟩
theorem ocells_one {os : List OpV} : ∀ u ∈ ocells os, u.oneCell' = true := fun u hu => by
  simp only [ocells, List.mem_flatMap] at hu
  obtain ⟨o, _, hu⟩ := hu
  rcases List.mem_cons.1 hu with rfl | hu
  · rfl
  · rw [List.mem_singleton] at hu; subst hu; rfl
theorem ocells_news {w W : World} {ab ao : Nat} {os : List OpV} (h : RdO w (some ⟨ab, ao, none⟩) os) (hb : Below w.heap.size w W) : ∀ j u, (ocells os)[j]? = some u → W.cell? ((⟨ab, ao, none⟩ : Addr).add j) = some u := fun j u hu => by
  have hadd : (⟨ab, ao, none⟩ : Addr).add j = ⟨ab, ao + j, none⟩ := by unfold Addr.add; split <;> simp_all
  rw [hadd]
  obtain ⟨i, o, hi, hj⟩ := ocells_at hu
  obtain ⟨b, k, e, hl, c0, c1⟩ := h.rd i o hi
  injection e with e; injection e with e1 e2 _; subst e1 e2
  rcases hj with ⟨rfl, rfl⟩ | ⟨rfl, rfl⟩
  · exact (keep hb _ _ hl).trans c0
  · exact (keep hb _ _ hl).trans c1
theorem rL1 (w : World) (x : Sl) (t : TypeId) (o : Obj) (hr : RdV w x.A x.l) (hl : x.l.length ≤ maxLen) : RdL ((w.alloc (.cells #[.slice x.A x.l.length x.c] t)).alloc o).drew (some ⟨w.heap.size, 0, none⟩) [x] :=
  (show RdL (w.alloc (.cells #[.slice x.A x.l.length x.c] t)) _ [x] from ⟨rdC_row w [.slice x.A x.l.length x.c] t, fun z hz => by rw [List.mem_singleton] at hz; subst hz; exact ⟨hr.on ((Below.refl _ _).alloc (Nat.le_refl _) _), hl⟩⟩).on ((Below.refl _ _).alloc (Nat.le_refl _) o).drew
theorem rL2 (w : World) (x : Sl) (t : TypeId) (o : Obj) (hr : RdV w x.A x.l) (hl : x.l.length ≤ maxLen) : RdL ((w.alloc o).alloc (.cells #[.slice x.A x.l.length x.c] t)).drew (some ⟨w.heap.size + 1, 0, none⟩) [x] := by
  have h : RdL ((w.alloc o).alloc (.cells #[.slice x.A x.l.length x.c] t)) (some ⟨w.heap.size + 1, 0, none⟩) [x] := by
    have h0 := rdC_row (w.alloc o) [.slice x.A x.l.length x.c] t
    rw [World.size_alloc] at h0
    exact ⟨h0, fun z hz => by rw [List.mem_singleton] at hz; subst hz; exact ⟨hr.on (((Below.refl _ _).alloc (Nat.le_refl _) _).alloc (by simp) _), hl⟩⟩
  exact h.on (Below.refl _ _).drew
set_option maxRecDepth 20000 in
set_option maxHeartbeats 8000000 in
theorem walk_no (A0 : Option Addr) (c0 : Nat) (os : List OpV) (a1 : Int) (w : World) (r0 : RdO w A0 os) (m0 : os.length ≤ maxLen)
    (h : fewR [] (os.map OpV.l) = false ∨ fewR [] (os.map OpV.l) = true ∧ os = []) :
    Calls Tryz.prog 5 #[.slice A0 os.length c0, .int .u8 a1] w fun e w' => e = .returned (.bool true) ∧ Below w.heap.size w w' := by
  have hB := Below.refl w.heap.size w
  have R0 := Lib.hid r0; clear r0
  have HFW : Hid (∀ W, Below w.heap.size w W → Calls Tryz.prog 23 #[.slice none 0 0, .slice A0 os.length c0] W fun e w' => e = .returned (.bool (fewR [] (os.map OpV.l))) ∧ W = w') := Lib.hid fun W hW => fewO_any none A0 0 c0 [] os W RdP.nil (R0.out.on hW) (by simp) m0
  rcases h with h | ⟨h, h8⟩
  · rw [h] at HFW
    clear h
    go_enter Tryz.func5, Tryz.ntmps5
    go_wp2_with (first
      | (go_at_call 22; refine (awakeT_any _).mono ?_; rintro e w1 ⟨rfl, h'⟩; replace hB := on hB h'; clear h')
      | (go_at_call 23; refine (HFW.out _ hB).mono ?_; rintro e w2 ⟨rfl, rfl⟩))
    go_ret
    exact ⟨rfl, hB⟩
  · rw [h] at HFW
    subst h8
    simp only [List.length_nil] at HFW ⊢
    clear h m0
    go_enter Tryz.func5, Tryz.ntmps5
    go_wp2_with (first
      | (go_at_call 22; refine (awakeT_any _).mono ?_; rintro e w1 ⟨rfl, h'⟩; replace hB := on hB h'; clear h')
      | (go_at_call 23; refine (HFW.out _ hB).mono ?_; rintro e w2 ⟨rfl, rfl⟩))
    go_ret
    exact ⟨rfl, hB⟩
set_option maxRecDepth 20000 in
set_option maxHeartbeats 60000000 in
theorem walk_yes (A0 : Option Addr) (c0 : Nat) (os : List OpV) (L : Nat) (o0 : OpV) (w : World) (hL : L ≤ 255) (r0 : RdO w A0 os) (m0 : os.length ≤ maxLen)
    (hf : fewR [] (os.map OpV.l) = true) (hne : 0 < os.length) (ho : os[0]? = some o0) :
    Calls Tryz.prog 5 #[.slice A0 os.length c0, .int .u8 (L : Int)] w fun e w' => e = .returned (.bool true) ∧ Below w.heap.size w w' := by
  have hB := Below.refl w.heap.size w
  have R0 := Lib.hid r0; clear r0
  obtain ⟨_, f2, _, f4⟩ := fewR_yes hf
  rw [List.length_map] at f4
  have HFL : Hid (∀ o ∈ os, o.l.length ≤ 12) := Lib.hid fun o ho => f2 _ (List.mem_map_of_mem ho)
  have HFW : Hid (∀ W, Below w.heap.size w W → Calls Tryz.prog 23 #[.slice none 0 0, .slice A0 os.length c0] W fun e w' => e = .returned (.bool true) ∧ W = w') := Lib.hid fun W hW => by
    have := fewO_any none A0 0 c0 [] os W RdP.nil (R0.out.on hW) (by simp) m0
    rw [show (List.map IS.l []) = [] from rfl, hf] at this; exact this
  clear hf f2
  have hne' : ((os.length : Int) == 0) = false := by rw [beq_eq_false_iff_ne]; omega
  have hwL : IntKind.i64.wrap (L : Int) = (L : Int) := by rw [IntKind.wrap_i64]; omega
  obtain ⟨ab, ao, rfl, hab, q0, _⟩ := R0.out.rd 0 o0 ho
  have q0' : w.cell? ⟨ab, ao, none⟩ = some (.slice o0.A o0.l.length o0.c) := by simpa using q0
  have HC0 : Hid (∀ W, Below w.heap.size w W → W.cell? ⟨ab, ao, none⟩ = some (.slice o0.A o0.l.length o0.c)) := Lib.hid fun W hW => (keep hW _ _ hab).trans q0'
  clear q0 q0' ho
  obtain ⟨n, hn⟩ : ∃ n, o0.l.length = n := ⟨_, rfl⟩
  rw [hn] at HC0
  clear hn
  by_cases hn8 : n ≤ 8
  · obtain ⟨i0, hi0, hz0, hz1, hz2⟩ := info_parts info_op
    have HI := Lib.hid (And.intro hi0 (And.intro hz0 (And.intro hz1 hz2)))
    clear hi0 hz0 hz1 hz2
    go_enter Tryz.func5, Tryz.ntmps5
    go_wp2_with (first
      | (go_at_call 22; refine (awakeT_any _).mono ?_; rintro e w1 ⟨rfl, h'⟩; replace hB := on hB h'; have cx := HC0.out _ (hB.trans (((Below.refl w1.heap.size w1).alloc (Nat.le_refl _) (.cells #[.int .i64 (L : Int)] 54)).mono hB.size)); clear h')
      | (go_at_call 23; refine (HFW.out _ hB).mono ?_; rintro e w2 ⟨rfl, rfl⟩)
      | (go_at_call 24; refine (turNew0_any (w := w) (left := (L : Int)) hn8 (hB.trans (((Below.refl w1.heap.size w1).alloc (Nat.le_refl _) _).mono hB.size)) hB.size (heap_alloc_new _ _)).mono ?_; rintro e w3 ⟨t, rfl, h⟩; have HT := Lib.hid h; clear h)
      | (at_builtin; refine wpList_append_own_at _ rfl (.tmp 46) (.tmp 47) _ rfl w3.heap.size 63 i0 (.agg #[.slice none 0 0, .bool false]) 2 32 Tryz.underlying50 HI.out.1 HI.out.2.1 HI.out.2.2.1 HI.out.2.2.2 rfl (by omega) (.slice (some ⟨w3.heap.size, 0, none⟩) 1 1) 1 [.slice none 0 0, .bool true] rfl ⟨rfl, .inr ⟨w3.heap.size, 1, #[.slice none 0 0, .bool true], rfl, Nat.le_refl _, heap_alloc_new _ _, Nat.le_refl _, (by unfold maxLen; omega), rfl, rfl⟩⟩ ⟨ab, ao, none⟩ os.length c0 (ocells os) rfl (ocells_len os) (ocells_news R0.out (HT.out.bw.trans (((Below.refl w3.heap.size w3).alloc (Nat.le_refl _) _).mono HT.out.bw.size))) ocells_one (by unfold maxLen; omega) (by omega) (by simp) ?_; intro v' w5 hown hg' _ _; obtain ⟨A5, c5, rfl⟩ := own_form hown; have hT5 := HT.out.on (((Below.refl w3.heap.size w3).alloc (Nat.le_refl _) (.cells #[.slice none 0 0, .bool true] 63)).grown hg' (by simp) (fun q hq => by simp [Value.ownBlock] at hq; omega)); have HT5 := Lib.hid hT5; clear hown hg' hT5))
    generalize hpu : w1.heap.size = p at HT HT5 ⊢
    clear hpu cx HC0 HT hB HFW HI
    go_loopw [8, 50] (fun av v wr => ∃ (k : Nat) (left : Int) (HA HL HP : List (List V)) (A : Option Addr) (c : Nat) (xs : List Sl), v = .int .i64 (k : Nat) ∧ k ≤ os.length + 1 ∧ av = .slice A xs.length c ∧ OnceI n k L left HA HL HP (lsOf xs) ∧ (k = os.length + 1 → HP = []) ∧ TOw w t p n left HA HL HP A c xs xs wr) (fun _ v _ => os.length + 1 - (intOf v).toNat)
    case atStart => exact ⟨0, L, [], [], [], none, 0, [], rfl, Nat.zero_le _, rfl, OnceI.start n L (by omega), (fun _ => rfl), TOw.start HT5.out⟩
    case round =>
      clear HT5
      obtain ⟨k, left, HA, HL, HP, A, c, xs, rfl, hk, rfl, hO, hlast, hT⟩ := hrel
      have HT := Lib.hid hT; have HO := Lib.hid hO; have HLA := Lib.hid hlast
      have hl0 := hO.l0
      have hpay := hO.pay
      have hb1 := hO.b1
      have hb2 := hO.b2
      have hms : (lsOf xs).length = xs.length := by simp [lsOf]
      have hml := hO.ml
      have hpa := puts_len (upto n) HA
      rw [hms] at hpay hml
      clear hT hO hlast hms
      by_cases hlt : k < os.length + 1
      · by_cases hadd : ∃ o, os[k]? = some o ∧ o.t = false
        · obtain ⟨o, hy, hot⟩ := hadd
          have hk1 : k < os.length := (List.getElem?_eq_some_iff.1 hy).1
          obtain ⟨ob, oo, e', hob, q0, q1⟩ := R0.out.rd k o hy
          injection e' with e'; injection e' with e1 e2 _; subst e1 e2
          rw [hot] at q1
          have hRo := Lib.hid (R0.out.each o (List.mem_of_getElem? hy)).1
          have hlo := HFL.out o (List.mem_of_getElem? hy)
          have d0 := (keep HT.out.bw _ _ hab).trans q0
          have d1 := (keep HT.out.bw _ _ hab).trans q1
          have HAD := Lib.hid (HT.out.add (ca := o.c) hRo.out (by omega) (by omega) (by omega) (by omega))
          have HON := Lib.hid (HO.out.add o.l)
          generalize addL n o.l HA HP left = left2 at HAD HON
          generalize addH n o.l HA HP left = HP2 at HAD HON
          generalize addB n o.l HA HP left = bb at HAD
          generalize addE n o.l HA HP left = ee at HAD
          clear hy hot q0 q1 hml hpay
          go_wp2_with (go_at_call 28; refine HAD.out.mono ?_; rintro e w6 ⟨rfl, h⟩; have HT6 := Lib.hid h; clear h)
          go_roundw
          case rel => exact ⟨k + 1, left2, HA, HL, HP2, A, c, xs, by go_num, by omega, rfl, HON.out, (fun h => by omega), HT6.out⟩
          case measure => simp [intOf]; omega
        · have HTN := Lib.hid (HT.out.turn (by omega))
          obtain ⟨hO2, hnm, hlen⟩ := HO.out.turn
          have HND := Lib.hid (puts_nodup (upto n) HP)
          have hfl := puts_len (upto n) HP
          have HFN : Hid (∀ x ∈ puts (upto n) HP, x.length = n) := Lib.hid fun x hx => puts_lenN hx
          have HMN : Hid (∀ x ∈ lsOf xs, x.length = n) := Lib.hid fun x hx => puts_lenN (HO.out.ms x hx)
          have HFR : Hid (∀ W, TOw w t p n left (HA ++ puts (upto n) HP) HP [] A c xs xs W → Calls Tryz.prog 32 #[.pointer (some ⟨t, 0, none⟩), .slice none 0 0, .slice none 0 0] W fun e w' => ∃ B d ys, e = .returned (.slice B (puts (upto n) HP).length d) ∧ ys.map Sl.l = puts (upto n) HP ∧ RdC w' B (ys.map Sl.val) ∧ TOw w t p n left (HA ++ puts (upto n) HP) HP [] A c xs (xs ++ ys) w' ∧ Below W.heap.size W w') := Lib.hid fun W hW => hW.fresh (by omega)
          have HLN : Hid (∀ W, TOne w t p n left (HA ++ puts (upto n) HP) HP [] W → Calls Tryz.prog 30 #[.pointer (some ⟨t, 0, none⟩)] W fun e w' => e = .returned (.int .i64 ((xs.length + (puts (upto n) HP).length : Nat))) ∧ W = w') := Lib.hid fun W hW => by
            have := hW.len
            rwa [hlen, List.length_append, show (lsOf xs).length = xs.length by simp [lsOf]] at this
          have HO2 := Lib.hid hO2; have HNM := Lib.hid hnm
          obtain ⟨bt, hbt⟩ : ∃ bt, decide (0 < (puts (upto n) HP).length) = bt := ⟨_, rfl⟩
          rw [hbt] at HTN
          clear hO2 hnm hlen HO
          generalize puts (upto n) HP = F at HTN HND hfl HFN HFR HLN HO2 HNM hbt
          have hbt2 : decide ((0 : Int) < (F.length : Int)) = bt := by rw [← hbt]; exact decide_eq_decide.2 (by omega)
          have hfl60 : F.length ≤ 100 := by omega
          have hxl60 : xs.length ≤ 100 := by omega
          have HD1 : Hid (∀ o, os[k]? = some o → wr.cell? ⟨ab, ao + k * 2 + 1, none⟩ = some (.bool true)) := Lib.hid fun o hy => by
            obtain ⟨ob, oo, e', hob, q0, q1⟩ := R0.out.rd k o hy
            injection e' with e'; injection e' with e1 e2 _; subst e1 e2
            have ht : o.t = true := by
              cases h : o.t with
              | true => rfl
              | false => exact absurd ⟨o, hy, h⟩ hadd
            rw [ht] at q1
            exact (keep HT.out.bw _ _ hab).trans q1
          clear hadd hml hpay hpa
          by_cases hk1 : k < os.length
          all_goals
            try have d1 := HD1.out _ (List.getElem?_eq_getElem hk1)
            clear HD1
            go_wp2_with (first
              | (go_at_call 26; refine HTN.out.mono ?_; rintro e w6 ⟨rfl, h⟩; have HT6 := Lib.hid h; clear h)
              | (go_at_call 32; refine (HFR.out _ HT6.out).mono ?_; rintro e w7 ⟨B, d, ys, rfl, hys, hrc, h, _⟩; have HT7 := Lib.hid h; have HYS := Lib.hid hys; have HRC := Lib.hid hrc; clear h hys hrc))
          all_goals
            clear hbt hbt2
            try clear d1
            have hyl : ys.length = F.length := by rw [← HYS.out]; simp
            have HYL := Lib.hid hyl
            clear hyl
            go_loopw [83] (fun v wr2 => ∃ i : Nat, v = .int .i64 (i : Nat) ∧ i ≤ F.length ∧ Below w7.heap.size w7 wr2) (fun v _ => F.length - (intOf v).toNat)
            case atStart => exact ⟨0, rfl, Nat.zero_le _, Below.refl _ _⟩
            case round =>
              obtain ⟨i, rfl, hi, hB⟩ := hrel
              have HB := Lib.hid hB; clear hB
              by_cases hli : i < F.length
              · obtain ⟨y, hy⟩ : ∃ y, ys[i]? = some y := ⟨_, List.getElem?_eq_getElem (show i < ys.length by rw [HYL.out]; exact hli)⟩
                have hyF : y.l ∈ F := by rw [← HYS.out]; exact List.mem_map_of_mem (List.mem_of_getElem? hy)
                obtain ⟨yb, yo, rfl, hyb, cy⟩ := HRC.out i (Sl.val y) (by rw [List.getElem?_map, hy]; rfl)
                have HCY : Hid (∀ W, Below w7.heap.size w7 W → W.cell? ⟨yb, yo + i, none⟩ = some (.slice y.A y.l.length y.c)) := Lib.hid fun W hW => (keep hW _ _ hyb).trans cy
                have HYF := Lib.hid hyF
                have HYM := Lib.hid (List.mem_of_getElem? hy)
                clear hy hyF cy
                go_wp2
                go_loopw [88] (fun v wr2 => ∃ j : Nat, v = .int .i64 (j : Nat) ∧ j ≤ xs.length ∧ Below w7.heap.size w7 wr2) (fun v _ => xs.length - (intOf v).toNat)
                case atStart => exact ⟨0, rfl, Nat.zero_le _, HB.out⟩
                case round =>
                  clear HB
                  obtain ⟨j, rfl, hj, hB⟩ := hrel
                  by_cases hlj : j < xs.length
                  · obtain ⟨x, hx⟩ : ∃ x, xs[j]? = some x := ⟨_, List.getElem?_eq_getElem hlj⟩
                    have hxM : x.l ∈ lsOf xs := List.mem_map_of_mem (List.mem_of_getElem? hx)
                    have T8 := HT7.out.on hB
                    have hmx : ∀ z ∈ xs, z.l.length ≤ maxLen := fun z hz => by rw [HMN.out z.l (List.mem_map_of_mem hz)]; unfold maxLen; omega
                    have hRL := T8.rdl hmx
                    obtain ⟨xb, xo, rfl, hxb, cx⟩ := hRL.at_ hx
                    have hxr := Lib.hid (hRL.each x (List.mem_of_getElem? hx))
                    have hyr : Hid (RdV wr y.A y.l ∧ y.l.length ≤ maxLen) := Lib.hid (by
                      obtain ⟨X, a, l, q, b, _, _, _, hG, _⟩ := T8.ex
                      exact ⟨(hG y (List.mem_append_right _ HYM.out)).rd, by rw [HFN.out _ HYF.out]; unfold maxLen; omega⟩)
                    have cy := HCY.out _ hB
                    have hyb' : yb < wr.heap.size := Nat.lt_of_lt_of_le hyb hB.size
                    have HSN : Hid (∀ W B C d c, RdL W B [y] → RdL W C [x] → Calls Tryz.prog 16 #[.slice B 1 d, .slice C 1 c] W fun e w' => e = .returned (.bool false) ∧ Below W.heap.size W w') := Lib.hid fun W B C d c h1 h2 => by
                      refine Calls.mono (same_dec B C d c [y] [x] W h1 h2 (by unfold maxLen; simp) rfl) ?_
                      rintro e w' ⟨bb, rfl, hbb, hb'⟩
                      refine ⟨?_, hb'⟩
                      cases bb with
                      | false => rfl
                      | true =>
                        have e1 := hbb.1 rfl
                        simp only [lsOf, List.map_cons, List.map_nil, List.cons.injEq, and_true] at e1
                        exact absurd (e1 ▸ hxM) (HNM.out _ HYF.out)
                    have HB := Lib.hid hB
                    clear hx hxM T8 hmx hRL hB
                    go_wp2_with fail
                    go_region_held3 (fun u => Below wr.heap.size wr u ∧ u.cell? ⟨yb, yo + i, none⟩ = some (.slice y.A y.l.length y.c) ∧ u.cell? ⟨xb, xo + j, none⟩ = some (.slice x.A x.l.length x.c))
                      ((refine (fun hh => ⟨hh, held_cell hyb' cy hh, held_cell hxb cx hh⟩) ?_; repeat (first | exact Below.refl _ _ | exact h12 | apply Below.drew | (refine bel_alloc ?_ ?_; (first | omega | (focus (simp; done)) | (focus (simp; omega)))))))
                      ((go_at_call 16; refine (HSN.out _ _ _ 1 1 (by first | exact rL1 _ _ _ _ hyr.out.1 hyr.out.2 | exact rL2 _ _ _ _ hyr.out.1 hyr.out.2) (by first | exact rL1 _ _ _ _ hxr.out.1 hxr.out.2 | exact rL2 _ _ _ _ hxr.out.1 hxr.out.2)).mono ?_; rintro e w12 ⟨rfl, hb12⟩; have h12 : Below wr.heap.size wr w12 := on (((Below.refl _ _).alloc (Nat.le_refl _) _).alloc (by simp) _).drew hb12; clear hb12; dsimp only))
                    all_goals
                      go_wp2
                      go_roundw
                      case rel => exact ⟨j + 1, by go_num, by omega, on HB.out h12⟩
                      case measure => simp [intOf]; omega
                  · obtain rfl : j = xs.length := by omega
                    go_wp2
                    go_roundw
                    case rel => exact ⟨i + 1, by go_num, by omega, hB⟩
                    case measure => simp [intOf]; omega
              · obtain rfl : i = F.length := by omega
                obtain ⟨i1, hi1, hy0, hy1, hy2⟩ := info_parts info_tup
                have HI1 := Lib.hid (And.intro hi1 (And.intro hy0 (And.intro hy1 hy2)))
                have HT8 := Lib.hid (HT7.out.on HB.out)
                have HRC8 := Lib.hid (HRC.out.on HB.out)
                have hbs := HT8.out.bw.size
                clear hi1 hy0 hy1 hy2 HTN HFR
                go_wp2_with (first
                  | (at_builtin; refine wpList_appD rfl (.tmp 104) (.tmp 105) 23 rfl w.heap.size 25 i1 (.slice none 0 0) 24 Tryz.underlying23 HI1.out.1 HI1.out.2.1 HI1.out.2.2.1 HI1.out.2.2.2 rfl (by omega) A xs.length c (xs.map Sl.val) rfl HT8.out.own B d F.length (ys.map Sl.val) (by rw [List.length_map]; exact HYL.out) rfl HRC8.out (by intro u hu; rw [List.mem_map] at hu; obtain ⟨z, _, rfl⟩ := hu; rfl) (by omega) hbs ?_; intro A2 c2 w9 ho9 hg9 hd9; have HT9 : Hid (TOw w t p n left (HA ++ F) HP [] A2 c2 (xs ++ ys) (xs ++ ys) w9) := Lib.hid (by rw [← HYL.out] at ho9 hd9; exact HT8.out.app (fun z hz => List.mem_append_right _ hz) ho9 hg9 hd9); clear ho9 hg9 hd9)
                  | (go_at_call 30; refine (HLN.out _ HT9.out.one).mono ?_; rintro e w10 ⟨rfl, rfl⟩))
                go_roundw
                case rel => exact ⟨k + 1, left, HA ++ F, HP, [], A2, c2, xs ++ ys, by go_num, by omega, by rw [List.length_append, HYL.out], by rw [lsOf, List.map_append, HYS.out]; exact HO2.out, (fun _ => rfl), HT9.out⟩
                case measure => simp [intOf]; omega
      · obtain rfl : k = os.length + 1 := by omega
        obtain rfl := HLA.out rfl
        have hsub : ((xs.length : Int) == (L : Int) - left) = true := by rw [beq_iff_eq]; simp at hpay; omega
        have hc := HT.out.pu.cell.1
        have HALL : Hid (Calls Tryz.prog 33 #[.pointer (some ⟨t, 0, none⟩)] wr fun e w' => ∃ B d, e = .returned (.slice B xs.length d) ∧ Below wr.heap.size wr w') := Lib.hid ((HT.out.one.all (by omega)).mono (by
          rintro e w' ⟨B, d, ys, rfl, _, _, hb⟩
          exact ⟨B, d, by rw [hml], hb⟩))
        have hxx : ((xs.length : Int) == (xs.length : Int)) = true := by simp
        have hle1 : left ≤ 255 := by simp at hpay; omega
        clear HO HLA hml hpay hpa
        go_wp2_with (go_at_call 33; refine HALL.out.mono ?_; rintro e w6 ⟨B, d, rfl, hb⟩)
        go_ret
        exact ⟨rfl, on HT.out.bw hb⟩
  · go_enter Tryz.func5, Tryz.ntmps5
    go_wp2_with (first
      | (go_at_call 22; refine (awakeT_any _).mono ?_; rintro e w1 ⟨rfl, h'⟩; replace hB := on hB h'; have cx := HC0.out _ (hB.trans (((Below.refl w1.heap.size w1).alloc (Nat.le_refl _) (.cells #[.int .i64 (L : Int)] 54)).mono hB.size)); clear h')
      | (go_at_call 23; refine (HFW.out _ hB).mono ?_; rintro e w2 ⟨rfl, rfl⟩)
      | (go_at_call 24; refine (turNew_far (p := w1.heap.size) (by omega) _).mono ?_; rintro e w3 ⟨rfl, rfl⟩))
    go_ret
    exact ⟨rfl, hB.trans (((Below.refl w1.heap.size w1).alloc (Nat.le_refl _) _).mono hB.size)⟩
theorem walk (A0 : Option Addr) (c0 : Nat) (os : List OpV) (a1 : Int) (w : World) (r0 : RdO w A0 os) (m0 : os.length ≤ maxLen) (w1 : (Lit.int .u8 a1).wf = true) :
    Calls Tryz.prog 5 #[.slice A0 os.length c0, .int .u8 a1] w fun e w' => e = .returned (.bool true) ∧ Below w.heap.size w w' := by
  have h1 : 0 ≤ a1 ∧ a1 < 256 := by simp [Lit.wf, IntKind.min, IntKind.max, IntKind.bits, IntKind.signed] at w1; omega
  obtain ⟨L, rfl⟩ := Int.eq_ofNat_of_zero_le h1.1
  cases hf : fewR [] (os.map OpV.l) with
  | false => exact walk_no A0 c0 os L w r0 m0 (.inl hf)
  | true =>
    cases hos : os with
    | nil => subst hos; exact walk_no A0 c0 [] L w r0 m0 (.inr ⟨hf, rfl⟩)
    | cons o os' =>
      rw [← hos]
      exact walk_yes A0 c0 os L o w (by omega) r0 m0 hf (by rw [hos]; simp) (by rw [hos]; rfl)

theorem own : ownKnob Tryz.prog.godebug = none := by kernel_rfl

set_option maxRecDepth 100000 in
theorem lifted (os : Os) (started : os.Started) (H : Type) (enc : TypeId × Value → H) :
    ReturnsInHanded {} Tryz.checked os 5 .any (Rows.turnsOnceSpec.pre6 enc Tryz.prog Tryz.f5 Rows.turnsOnceRow.domain false) (Rows.turnsOnceSpec.post enc Tryz.prog Tryz.f5 false true false false) := by
  refine returnsInHanded_of_change (C := Tryz.checked) own started (by kernel_rfl) Tryz.func5
    (ChangeSpec.witness6 (enc := enc) (C := Tryz.checked) false ⟨#[], #[.slice none 0 0, .int .u8 0], []⟩ 8 (by kernel_rfl) (by kernel_rfl) (by kernel_rfl) (by kernel_rfl)) ?_
  intro W base args ds gs before hval0 hW hcnd _
  have hval : ∀ (j : Nat) t v, Tryz.f5.params[j]? = some t → args[j]? = some v → Value.okWide Tryz.prog W .any base t v := hval0
  have hW' := hW
  obtain ⟨p, q, hA0, hV, rfl, hfz, hnd⟩ := hW
  have hA : DataW.TrodAll enc Tryz.prog W 0 (fun _ => true) true Tryz.f5.params.toList args.toList ds p := hA0
  have hAk := hA
  rw [Tryz.params5] at hA hval
  obtain ⟨v0, vs0, d0, ds0, p0, q0, hargs, rfl, rfl, h0, r0⟩ := trodAll_cons hA
  obtain ⟨v1, vs1, d1, ds1, p1, q1, rfl, rfl, rfl, h1, r1⟩ := trodAll_cons r0
  obtain ⟨rfl, rfl, rfl⟩ := trodAll_nil r1
  obtain rfl : args = #[v0, v1] := by cases args; simp_all
  obtain ⟨rfl, rfl⟩ := trodVars_none hV
  obtain ⟨A0, c0, l0, rfl, r0', m0'⟩ := open_ops (okWide_slice Tryz.underlying50 (hval 0 50 v0 rfl rfl)) h0
  obtain ⟨a1, rfl, rfl, rfl, w1⟩ := open_int Tryz.underlying5 (hval 1 5 v1 rfl rfl) h1
  clear hA0 hval0
  refine (walk A0 c0 l0 a1 W r0' m0' w1).mono fun e W' ⟨he, hg⟩ => ?_
  subst he
  refine ⟨_, rfl, post_old hW' (by simpa using hAk) (by rw [Tryz.params5]; decide) (fun _ _ _ => (trodAll_cons_mk (shut_bool Tryz.underlying4 _) trodAll_mk0)) rfl (fun _ => rfl) hg⟩

theorem proved : Rows.TurnsOnceSaid :=
  OpenClaim.holds_of_wide 5 Tryz.f5 rfl rfl rfl rfl rfl rfl rfl ⟨rfl, rfl, rfl, rfl, rfl⟩ rfl rfl rfl rfl rfl (by kernel_rfl) Tryz.func5 (by kernel_rfl)
    (of_decide_eq_true (by kernel_rfl)) (by unfold Func.isWrapper; first | (rw [if_pos (by decide +kernel)]; kernel_rfl) | (rw [if_neg (by decide +kernel)]; exact ⟨rfl, rfl⟩))
    (fun os started H enc _ => lifted os started H enc)
#print axioms proved
end Go.Proofs.YtpmkhpbhimmeiaaGreat.turnsOnce

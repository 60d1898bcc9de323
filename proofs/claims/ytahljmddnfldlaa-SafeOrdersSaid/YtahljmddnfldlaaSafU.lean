/-
  The document's own words of layer 11: names in order.
-/
import Derived.Test.YtahljmddnfldlaaSafS
import Derived.Test.YtahljmddnfldlaaSafT
import Derived.Deep.LoopGhost
namespace Go.Proofs.Ytahljmddnfldlaa
open Go.RowKit FloM ValM Go.Shelf Go.Maps
set_option linter.unusedVariables false
set_option linter.unusedSimpArgs false
theorem infoStr11 : (Try.prog.info? 9).map (fun i => (i.zero, i.size, i.bytes)) = some (some (.string ByteArray.empty), 1, 16) := by kernel_rfl
theorem nm_one : ∀ x : Nm, ∀ u ∈ nmC x, u.oneCell' = true := fun x u hu => by
  simp only [nmC, List.mem_cons, List.not_mem_nil, or_false] at hu
  subst hu; rfl
/-- One name more in a row of one's own, out of a block that was made for it. -/
theorem row_one (w : World) (s : Nm) : RdN (w.alloc (.cells #[.string (bs s)] 9)) (some ⟨w.heap.size, 0, none⟩) [s] := rdX_row (cl := nmC) (fun _ => rfl) (few_max (by show 1 ≤ 1000; decide)) (row_new (t := 9) w [.string (bs s)])
theorem bl_eq (s t : Nm) : Op.bytesLess (bs s).toList (bs t).toList = decide (s < t) := by rw [bsl, bsl]; exact bytesLess_eq s t
theorem nm_tri (s t : Nm) : s < t ∨ s = t ∨ t < s := by
  rcases Decidable.em (s < t) with h | h
  · exact .inl h
  rcases Decidable.em (s = t) with e | e
  · exact .inr (.inl e)
  · exact .inr (.inr (nm_lt_of_le_ne (List.not_lt.1 h) (fun h2 => e h2.symm)))
theorem nm_lt_of_lt_le {a b c : Nm} (h : a < b) (g : b ≤ c) : a < c := by
  rcases Decidable.em (b = c) with e | e
  · exact e ▸ h
  · exact nm_lt_trans h (nm_lt_of_le_ne g e)
theorem wpList_appN {w : World} {ops : Array Oper} {rest : List Oper} {o : Oper} {a : Act} {Q : Exit → Act → World → Prop} (hgd : o.guard = none) (u x : Operand)
    (ho : o.op = .call { callee := .builtin .append, args := #[u, x], argTypes := #[23, 23] }) {base : Nat} {A : Option Addr} {c : Nat} {l : List Nm} (s : Nm) (hown : OwnN w base A c l) {n : Nat} (hn : l.length = n) (hu : a.eval u = .slice A n c) (hx : a.eval x = .slice (some ⟨w.heap.size, 0, none⟩) 1 1) (hl : l.length ≤ 500000) (hb : base ≤ w.heap.size)
    (h : ∀ A2 c2 w', OwnN w' base A2 c2 (l ++ [s]) → Below base w w' → wpList Try.prog ops Q rest (a.put o.dst (.slice A2 (n + 1) c2)) w') : wpList Try.prog ops Q (o :: rest) a (w.alloc (.cells #[.string (bs s)] 9)) := by
  subst hn
  obtain ⟨i0, hi0, hz0, hz1, hz2⟩ := info_parts infoStr11
  have hB : Below w.heap.size w (w.alloc (.cells #[.string (bs s)] 9)) := (Below.refl _ _).alloc (Nat.le_refl _) _
  refine wpList_appX (cl := nmC) (sz := 1) (fun _ => rfl) nm_one (by omega) hgd u x 23 ho base 9 i0 _ 16 Try.underlying23 hi0 hz0 hz1 hz2 rfl (by omega) A l.length c (cellsOf nmC l) hu (own_on hown hB) (some ⟨w.heap.size, 0, none⟩) 1 [s] hx (row_one w s) (by simp; omega) (Nat.le_trans hb hB.size) ?_
  intro A2 c2 w' h1 h2
  have h3 : OwnN w' base A2 c2 (l ++ [s]) := by
    unfold OwnN OwnX
    rw [List.length_append, cellsOf_app]
    exact h1
  exact h A2 c2 w' h3 ((hB.mono hb).grown h2 (Nat.le_trans hb hB.size) (own_base (own_on hown hB)))
def AddR (s : Nm) (l : List Nm) (w : World) (o d i : Value) (wr : World) : Prop := ∃ k : Nat, i = .int .i64 (k : Nat) ∧ k ≤ l.length ∧ d = .bool (addLoop s (l.take k)).2 ∧ Below w.heap.size w wr ∧ ∃ A c, o = .slice A (addLoop s (l.take k)).1.length c ∧ OwnN wr w.heap.size A c (addLoop s (l.take k)).1
theorem addLoop_len (s : Nm) (l : List Nm) : (addLoop s l).1.length ≤ 2 * l.length := by
  rw [addLoop_eq]
  have : ∀ (l : List Nm) (d : Bool), (insN s d l).length ≤ 2 * l.length := by
    intro l
    induction l with
    | nil => intro d; simp [insN]
    | cons x r ih =>
      intro d
      unfold insN
      have h := ih (d || decide (s ≤ x))
      simp only [List.length_append, List.length_cons]
      split <;> split <;> simp <;> omega
  exact this l false
set_option maxRecDepth 20000 in
set_option maxHeartbeats 16000000 in
theorem add_any (A : Option Addr) (c : Nat) (l : List Nm) (s : Nm) (w : World) (h : RdN w A l) (hl : l.length ≤ 100000) :
    Calls Try.prog 38 #[.slice A l.length c, .string (bs s)] w (SaysN (addN l s) w) := by
  have HH := Lib.hid h; clear h
  obtain ⟨i0, hi0, hz0, hz1, hz2⟩ := info_parts infoStr11
  have HI0 := Lib.hid hi0; have HZ0 := Lib.hid hz0; have HZ1 := Lib.hid hz1; have HZ2 := Lib.hid hz2
  clear hi0 hz0 hz1 hz2
  go_enter Try.func38, Try.ntmps38
  go_wp2
  go_loopw [5, 6, 10] (fun o d i wr => AddR s l w o d i wr) (fun _ _ i _ => l.length - (intOf i).toNat)
  case atStart => exact ⟨0, rfl, Nat.zero_le _, rfl, Below.refl _ _, none, 0, rfl, ⟨rfl, .inl ⟨rfl, rfl⟩⟩⟩
  case round =>
    obtain ⟨k, rfl, hk, rfl, hB, A1, c1, rfl, hO⟩ := hrel
    have hlen := addLoop_len s (l.take k)
    rw [List.length_take] at hlen
    have HO := Lib.hid hO; have HB := Lib.hid hB; clear hO hB
    by_cases hlt : k < l.length
    · obtain ⟨t, ht⟩ : ∃ t, l[k]? = some t := ⟨_, List.getElem?_eq_getElem hlt⟩
      obtain ⟨b, o, rfl, hb, hc0⟩ := RdN.at_ HH.out ht
      have hc := (keep HB.out _ _ hb).trans hc0
      have HC0 := Lib.hid hc0
      clear hc0
      have hst : addLoop s (l.take (k + 1)) = addStep s (addLoop s (l.take k)) t := by rw [List.take_add_one, ht]; exact addLoop_snoc s _ t
      obtain ⟨P, hP⟩ : ∃ P, addLoop s (l.take k) = P := ⟨_, rfl⟩
      have HST := Lib.hid hst
      rw [hP] at HST HO hlen ⊢
      clear hst ht hP
      obtain ⟨Q, D⟩ := P
      simp only at HO hlen ⊢
      rcases nm_tri s t with hst | hst | hst
      · cases D with
        | false =>
          have fl : Op.bytesLess (bs s).toList (bs t).toList = true := by rw [bl_eq]; simpa using hst
          have hne : ¬ t = s := fun e => nm_lt_irrefl s (e ▸ hst)
          have hle : s ≤ t := List.le_of_lt hst
          have fe : ((bs s).toList == (bs t).toList) = false := by rw [bs_eq]; simp only [decide_eq_false_iff_not]; exact fun e => hne e.symm
          have f2 : ((bs t).toList == (bs s).toList) = false := by rw [bs_eq]; simpa using hne
          have HE : Hid (addLoop s (l.take (k + 1)) = (Q ++ [s] ++ [t], true)) := Lib.hid (by rw [HST.out]; unfold addStep; simp [hle, hne])
          clear hle hst hne
          go_wp2_with (first
            | (at_builtin; refine wpList_appN rfl (.tmp 23) (.tmp 25) rfl s HO.out rfl rfl rfl (by first | omega | (simp; omega)) HB.out.size ?_; intro A6 c6 w6 hO6 hB6; have HO6 := Lib.hid hO6; have HB6 := Lib.hid hB6; clear hO6 hB6; replace hc := (keep (HB.out.trans HB6.out) _ _ hb).trans HC0.out)
            | (at_builtin; refine wpList_appN rfl (.tmp 33) (.tmp 38) rfl t HO6.out (by simp) rfl rfl (by first | omega | (simp; omega)) (HB.out.trans HB6.out).size ?_; intro A7 c7 w7 hO7 hB7; have HO7 := Lib.hid hO7; have HB7 := Lib.hid hB7; clear hO7 hB7))
          go_roundw
          case rel => exact ⟨k + 1, by go_num, by omega, by rw [HE.out], ((HB.out.trans HB6.out).trans HB7.out), A7, c7, by rw [HE.out]; try simp, by rw [HE.out]; exact HO7.out⟩
          case measure => simp [intOf]; omega
        | true =>
          have fl : Op.bytesLess (bs s).toList (bs t).toList = true := by rw [bl_eq]; simpa using hst
          have hne : ¬ t = s := fun e => nm_lt_irrefl s (e ▸ hst)
          have hle : s ≤ t := List.le_of_lt hst
          have fe : ((bs s).toList == (bs t).toList) = false := by rw [bs_eq]; simp only [decide_eq_false_iff_not]; exact fun e => hne e.symm
          have f2 : ((bs t).toList == (bs s).toList) = false := by rw [bs_eq]; simpa using hne
          have HE : Hid (addLoop s (l.take (k + 1)) = (Q ++ [t], true)) := Lib.hid (by rw [HST.out]; unfold addStep; simp [hle, hne])
          clear hle hst hne
          go_wp2_with (first
            | (at_builtin; refine wpList_appN rfl (.tmp 33) (.tmp 38) rfl t HO.out rfl rfl rfl (by first | omega | (simp; omega)) HB.out.size ?_; intro A7 c7 w7 hO7 hB7; have HO7 := Lib.hid hO7; have HB7 := Lib.hid hB7; clear hO7 hB7))
          go_roundw
          case rel => exact ⟨k + 1, by go_num, by omega, by rw [HE.out], (HB.out.trans HB7.out), A7, c7, by rw [HE.out]; try simp, by rw [HE.out]; exact HO7.out⟩
          case measure => simp [intOf]; omega
      · cases D with
        | false =>
          have hle : s ≤ t := hst ▸ List.le_refl s
          have fl : Op.bytesLess (bs s).toList (bs t).toList = false := by rw [bl_eq]; simp only [decide_eq_false_iff_not]; exact fun h => nm_lt_irrefl s (hst ▸ h)
          have fe : ((bs s).toList == (bs t).toList) = true := by rw [bs_eq]; simp [hst]
          have f2 : ((bs t).toList == (bs s).toList) = true := by rw [bs_eq]; simp [hst]
          have HE : Hid (addLoop s (l.take (k + 1)) = (Q ++ [s], true)) := Lib.hid (by rw [HST.out]; unfold addStep; simp [hle, hst])
          clear hle hst
          go_wp2_with (first
            | (at_builtin; refine wpList_appN rfl (.tmp 23) (.tmp 25) rfl s HO.out rfl rfl rfl (by first | omega | (simp; omega)) HB.out.size ?_; intro A6 c6 w6 hO6 hB6; have HO6 := Lib.hid hO6; have HB6 := Lib.hid hB6; clear hO6 hB6; replace hc := (keep (HB.out.trans HB6.out) _ _ hb).trans HC0.out))
          go_roundw
          case rel => exact ⟨k + 1, by go_num, by omega, by rw [HE.out], (HB.out.trans HB6.out), A6, c6, by rw [HE.out]; try simp, by rw [HE.out]; exact HO6.out⟩
          case measure => simp [intOf]; omega
        | true =>
          have hle : s ≤ t := hst ▸ List.le_refl s
          have fl : Op.bytesLess (bs s).toList (bs t).toList = false := by rw [bl_eq]; simp only [decide_eq_false_iff_not]; exact fun h => nm_lt_irrefl s (hst ▸ h)
          have fe : ((bs s).toList == (bs t).toList) = true := by rw [bs_eq]; simp [hst]
          have f2 : ((bs t).toList == (bs s).toList) = true := by rw [bs_eq]; simp [hst]
          have HE : Hid (addLoop s (l.take (k + 1)) = (Q, true)) := Lib.hid (by rw [HST.out]; unfold addStep; simp [hle, hst])
          clear hle hst
          go_wp2
          go_roundw
          case rel => exact ⟨k + 1, by go_num, by omega, by rw [HE.out], HB.out, A1, c1, by rw [HE.out]; try simp, by rw [HE.out]; exact HO.out⟩
          case measure => simp [intOf]; omega
      · cases D with
        | false =>
          have fl : Op.bytesLess (bs s).toList (bs t).toList = false := by rw [bl_eq]; simp only [decide_eq_false_iff_not]; exact fun h => nm_lt_irrefl s (nm_lt_trans h hst)
          have hne : ¬ t = s := fun e => nm_lt_irrefl s (e ▸ hst)
          have hle : ¬ s ≤ t := fun h => nm_lt_irrefl t (nm_lt_of_lt_le hst h)
          have fe : ((bs s).toList == (bs t).toList) = false := by rw [bs_eq]; simp only [decide_eq_false_iff_not]; exact fun e => hne e.symm
          have f2 : ((bs t).toList == (bs s).toList) = false := by rw [bs_eq]; simpa using hne
          have HE : Hid (addLoop s (l.take (k + 1)) = (Q ++ [t], false)) := Lib.hid (by rw [HST.out]; unfold addStep; simp [hle, hne])
          clear hle hst hne
          go_wp2_with (first
            | (at_builtin; refine wpList_appN rfl (.tmp 33) (.tmp 38) rfl t HO.out rfl rfl rfl (by first | omega | (simp; omega)) HB.out.size ?_; intro A7 c7 w7 hO7 hB7; have HO7 := Lib.hid hO7; have HB7 := Lib.hid hB7; clear hO7 hB7))
          go_roundw
          case rel => exact ⟨k + 1, by go_num, by omega, by rw [HE.out], (HB.out.trans HB7.out), A7, c7, by rw [HE.out]; try simp, by rw [HE.out]; exact HO7.out⟩
          case measure => simp [intOf]; omega
        | true =>
          have fl : Op.bytesLess (bs s).toList (bs t).toList = false := by rw [bl_eq]; simp only [decide_eq_false_iff_not]; exact fun h => nm_lt_irrefl s (nm_lt_trans h hst)
          have hne : ¬ t = s := fun e => nm_lt_irrefl s (e ▸ hst)
          have hle : ¬ s ≤ t := fun h => nm_lt_irrefl t (nm_lt_of_lt_le hst h)
          have fe : ((bs s).toList == (bs t).toList) = false := by rw [bs_eq]; simp only [decide_eq_false_iff_not]; exact fun e => hne e.symm
          have f2 : ((bs t).toList == (bs s).toList) = false := by rw [bs_eq]; simpa using hne
          have HE : Hid (addLoop s (l.take (k + 1)) = (Q ++ [t], true)) := Lib.hid (by rw [HST.out]; unfold addStep; simp [hle, hne])
          clear hle hst hne
          go_wp2_with (first
            | (at_builtin; refine wpList_appN rfl (.tmp 33) (.tmp 38) rfl t HO.out rfl rfl rfl (by first | omega | (simp; omega)) HB.out.size ?_; intro A7 c7 w7 hO7 hB7; have HO7 := Lib.hid hO7; have HB7 := Lib.hid hB7; clear hO7 hB7))
          go_roundw
          case rel => exact ⟨k + 1, by go_num, by omega, by rw [HE.out], (HB.out.trans HB7.out), A7, c7, by rw [HE.out]; try simp, by rw [HE.out]; exact HO7.out⟩
          case measure => simp [intOf]; omega
    · obtain rfl : k = l.length := by omega
      obtain ⟨P, hP⟩ : ∃ P, addLoop s (l.take l.length) = P := ⟨_, rfl⟩
      have hP2 : addLoop s l = P := by rw [← hP, List.take_length]
      have HP2 := Lib.hid hP2
      rw [hP] at HO hlen ⊢
      clear hP hP2
      obtain ⟨Q, D⟩ := P
      simp only at HO hlen ⊢
      cases D with
      | true =>
        have HE : Hid (addN l s = Q) := Lib.hid (by unfold addN; rw [HP2.out]; rfl)
        go_wp2
        go_ret
        exact ⟨A1, c1, by rw [HE.out]; rfl, by rw [HE.out]; exact HO.out, HB.out⟩
      | false =>
        have HE : Hid (addN l s = Q ++ [s]) := Lib.hid (by unfold addN; rw [HP2.out]; rfl)
        go_wp2_with (at_builtin; refine wpList_appN rfl (.tmp 43) (.tmp 45) rfl s HO.out rfl rfl rfl (by first | omega | (simp; omega)) HB.out.size ?_; intro A6 c6 w6 hO6 hB6; have HO6 := Lib.hid hO6; have HB6 := Lib.hid hB6; clear hO6 hB6)
        go_ret
        exact ⟨A6, c6, by rw [HE.out, List.length_append]; rfl, by rw [HE.out]; exact HO6.out, HB.out.trans HB6.out⟩
/-- append([]string{}, l...). -/
theorem wpList_app0 {w : World} {ops : Array Oper} {rest : List Oper} {o : Oper} {a : Act} {Q : Exit → Act → World → Prop} (hw : Region.wanted o (yielded ops a.tmps) = true) (u x : Operand)
    (ho : o.op = .call { callee := .builtin .append, args := #[u, x], argTypes := #[23, 23] }) (A : Option Addr) (c : Nat) (l : List Nm) (hu : a.eval u = .slice (some ⟨w.heap.size, 0, none⟩) 0 0) (hx : a.eval x = .slice A l.length c) (hr : RdN w A l) (hl : l.length ≤ 500000)
    (h : ∀ A2 c2 w', OwnN w' w.heap.size A2 c2 l → Below w.heap.size w w' → wpList Try.prog ops Q rest (a.put o.dst (.slice A2 l.length c2)) w') : wpList Try.prog ops Q (o :: rest) a (w.alloc (.cells #[] 9)) := by
  obtain ⟨i0, hi0, hz0, hz1, hz2⟩ := info_parts infoStr11
  have hB : Below w.heap.size w (w.alloc (.cells #[] 9)) := (Below.refl _ _).alloc (Nat.le_refl _) _
  have ho0 : (w.alloc (.cells #[] 9)).ownsRow w.heap.size 9 1 (.slice (some ⟨w.heap.size, 0, none⟩) 0 0) 0 [] := World.ownsRow_made w #[] 0 (Nat.le_refl _) (Nat.zero_le _) rfl
  unfold wpList
  rw [if_pos hw]
  refine .inl (step_appX (cl := nmC) (sz := 1) (fun _ => rfl) nm_one (by omega) u x 23 ho w.heap.size 9 i0 _ 16 Try.underlying23 hi0 hz0 hz1 hz2 rfl (by omega) _ 0 0 [] hu ho0 A c l hx (RdX.on hr hB) (by omega) hB.size ?_)
  intro A2 c2 w' h1 h2
  rw [Nat.zero_add] at h1 ⊢
  rw [List.nil_append] at h1
  exact h A2 c2 w' h1 (hB.grown h2 hB.size (own_base ho0))
/-- append(s, l...), s a row of one's own. -/
theorem wpList_app2 {w : World} {ops : Array Oper} {rest : List Oper} {o : Oper} {a : Act} {Q : Exit → Act → World → Prop} (hw : Region.wanted o (yielded ops a.tmps) = true) (u x : Operand)
    (ho : o.op = .call { callee := .builtin .append, args := #[u, x], argTypes := #[23, 23] }) {base : Nat} {A1 : Option Addr} {c1 : Nat} {l1 : List Nm} (hown : OwnN w base A1 c1 l1) (A : Option Addr) (c : Nat) (l : List Nm) (hu : a.eval u = .slice A1 l1.length c1) (hx : a.eval x = .slice A l.length c) (hr : RdN w A l) (hl : l1.length + l.length ≤ 500000) (hb : base ≤ w.heap.size)
    (h : ∀ A2 c2 w', OwnN w' base A2 c2 (l1 ++ l) → Below base w w' → wpList Try.prog ops Q rest (a.put o.dst (.slice A2 (l1.length + l.length) c2)) w') : wpList Try.prog ops Q (o :: rest) a w := by
  obtain ⟨i0, hi0, hz0, hz1, hz2⟩ := info_parts infoStr11
  unfold wpList
  rw [if_pos hw]
  refine .inl (step_appX (cl := nmC) (sz := 1) (fun _ => rfl) nm_one (by omega) u x 23 ho base 9 i0 _ 16 Try.underlying23 hi0 hz0 hz1 hz2 rfl (by omega) A1 _ c1 _ hu hown A c l hx hr (by omega) hb ?_)
  intro A2 c2 w' h1 h2
  have h3 : OwnN w' base A2 c2 (l1 ++ l) := by
    unfold OwnN OwnX
    rw [List.length_append, cellsOf_app]
    exact h1
  exact h A2 c2 w' h3 (Below.grown (Below.refl base w) h2 hb (own_base hown))
/-! ### Names -/
def NamR (l : List Nm) (w : World) (o i : Value) (wr : World) : Prop := ∃ k : Nat, i = .int .i64 (k : Nat) ∧ k ≤ l.length ∧ Below w.heap.size w wr ∧ ∃ A c, o = .slice A (namesL (l.take k)).length c ∧ OwnN wr w.heap.size A c (namesL (l.take k))
def NamT (m : List Nm) (ts : List Tm) (w : World) (o i : Value) (wr : World) : Prop := ∃ k : Nat, i = .int .i64 (k : Nat) ∧ k ≤ ts.length ∧ Below w.heap.size w wr ∧ ∃ A c, o = .slice A (namesL (m ++ vsT (ts.take k))).length c ∧ OwnN wr w.heap.size A c (namesL (m ++ vsT (ts.take k)))
set_option maxRecDepth 20000 in
set_option maxHeartbeats 16000000 in
theorem names_any (B : Option Addr) (d : Nat) (ts : List Tm) (A : Option Addr) (c : Nat) (l : List Nm) (w : World) (h : RdN w A l) (ht : RdX 4 tmC w B ts) (hl : l.length + ts.length ≤ 100000) :
    Calls Try.prog 26 #[.slice B ts.length d, .slice A l.length c] w (SaysN (namesL (l ++ vsT ts)) w) := by
  have HH := Lib.hid h; have HT := Lib.hid ht; clear h ht
  go_enter Try.func26, Try.ntmps26
  go_wp2
  go_loopw [5, 10] (fun o i wr => NamR l w o i wr) (fun _ i _ => l.length - (intOf i).toNat)
  case atStart => exact ⟨0, rfl, Nat.zero_le _, Below.refl _ _, none, 0, rfl, ⟨rfl, .inl ⟨rfl, rfl⟩⟩⟩
  case round =>
    obtain ⟨k, rfl, hk, hB, A1, c1, rfl, hO⟩ := hrel
    have HO := Lib.hid hO; have HB := Lib.hid hB; clear hO hB
    by_cases hlt : k < l.length
    · obtain ⟨s, hs⟩ : ∃ s, l[k]? = some s := ⟨_, List.getElem?_eq_getElem hlt⟩
      obtain ⟨b, o, rfl, hb, hc0⟩ := RdN.at_ HH.out hs
      have hc := (keep HB.out _ _ hb).trans hc0
      have hll := Nat.le_trans (namesL_len (l.take k)) (by rw [List.length_take]; exact Nat.min_le_left _ _)
      have HA : Hid (Calls Try.prog 38 #[.slice A1 (namesL (l.take k)).length c1, .string (bs s)] wr (SaysN (namesL (l.take (k + 1))) wr)) := Lib.hid (by
        have h := add_any A1 c1 (namesL (l.take k)) s wr HO.out.rd (by omega)
        have e : namesL (l.take (k + 1)) = addN (namesL (l.take k)) s := by rw [List.take_add_one, hs]; exact namesL_snoc _ _
        rw [e]; exact h)
      clear hc0 hs hll
      go_wp2_with (go_at_call 38; refine HA.out.mono ?_; rintro e w6 ⟨A6, c6, rfl, hO6, hB6⟩; have HO6 := Lib.hid hO6; have HB6 := Lib.hid hB6; clear hO6 hB6)
      go_roundw
      case rel => exact ⟨k + 1, by go_num, by omega, on HB.out HB6.out, A6, c6, rfl, own_less HO6.out HB.out.size⟩
      case measure => simp [intOf]; omega
    · obtain rfl : k = l.length := by omega
      rw [List.take_length] at HO ⊢
      go_wp2
      go_loopw [5, 22] (fun o i wq => NamT l ts w o i wq) (fun _ i _ => ts.length - (intOf i).toNat)
      case atStart => exact ⟨0, rfl, Nat.zero_le _, HB.out, A1, c1, by simp [vsT], by simpa [vsT] using HO.out⟩
      case round =>
        clear HO
        obtain ⟨k, rfl, hk, hB2, A2, c2, rfl, hO2⟩ := hrel
        have HO := Lib.hid hO2; have HB2 := Lib.hid hB2; clear hO2 hB2
        by_cases hlt2 : k < ts.length
        · obtain ⟨t, hs⟩ : ∃ t, ts[k]? = some t := ⟨_, List.getElem?_eq_getElem hlt2⟩
          obtain ⟨b, o, rfl, hb, hc0⟩ := HT.out.2 k t hs
          have hc := (keep HB2.out _ _ hb).trans (hc0 0 _ rfl)
          rw [Nat.add_zero] at hc
          have hll := Nat.le_trans (namesL_len (l ++ vsT (ts.take k))) (by rw [List.length_append]; exact Nat.add_le_add_left (Nat.le_trans (vsT_len _) (by rw [List.length_take]; exact Nat.min_le_left _ _)) _)
          have HS := Lib.hid hs
          clear hc0 hs
          by_cases hv : t.v = []
          · have f1 : ((bs t.v).toList == []) = true := by rw [bsl, hv]; rfl
            have HE : Hid (vsT (ts.take (k + 1)) = vsT (ts.take k)) := Lib.hid (by rw [List.take_add_one, HS.out, vsT_app]; simp [vsT, hv])
            clear hv hll
            go_wp2
            go_roundw
            case rel => exact ⟨k + 1, by go_num, by omega, HB2.out, A2, c2, by rw [HE.out], by rw [HE.out]; exact HO.out⟩
            case measure => simp [intOf]; omega
          · have f1 : ((bs t.v).toList == []) = false := by rw [bsl, beq_eq_false_iff_ne]; exact hv
            have HA : Hid (Calls Try.prog 38 #[.slice A2 (namesL (l ++ vsT (ts.take k))).length c2, .string (bs t.v)] wr (SaysN (namesL (l ++ vsT (ts.take (k + 1)))) wr)) := Lib.hid (by
              have h := add_any A2 c2 (namesL (l ++ vsT (ts.take k))) t.v wr HO.out.rd (by omega)
              have e : vsT (ts.take (k + 1)) = vsT (ts.take k) ++ [t.v] := by rw [List.take_add_one, HS.out, vsT_app]; simp [vsT, hv]
              rw [e, ← List.append_assoc, namesL_snoc]; exact h)
            clear hv hll
            go_wp2_with (go_at_call 38; refine HA.out.mono ?_; rintro e w6 ⟨A6, c6, rfl, hO6, hB6⟩; have HO6 := Lib.hid hO6; have HB6 := Lib.hid hB6; clear hO6 hB6)
            go_roundw
            case rel => exact ⟨k + 1, by go_num, by omega, on HB2.out HB6.out, A6, c6, rfl, own_less HO6.out HB2.out.size⟩
            case measure => simp [intOf]; omega
        · obtain rfl : k = ts.length := by omega
          rw [List.take_length] at HO ⊢
          go_wp2
          go_ret
          exact ⟨A2, c2, rfl, HO.out, HB2.out⟩
end Go.Proofs.Ytahljmddnfldlaa

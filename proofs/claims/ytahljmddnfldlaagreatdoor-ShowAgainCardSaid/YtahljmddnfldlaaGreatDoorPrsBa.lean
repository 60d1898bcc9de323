/-
  Package parse: what a method reads it reads alike where the same tokens stand elsewhere: plain mathematics.
-/
import Derived.Test.YtahljmddnfldlaaGreatDoorPrsTop
namespace Go.Proofs.YtahljmddnfldlaaGreatDoor
open Go.RowKit FloM ValM Go.Shelf
set_option linter.unusedVariables false
set_option linter.unusedSimpArgs false
/-! ### Tokens but for their places -/
def kt (t : Tk) : Nat × List UInt8 := (t.k, t.t)
theorem kt_t {t u : Tk} (h : kt t = kt u) : t.t = u.t := congrArg Prod.snd h
def Eqv (ts us : List Tk) : Prop := ts.map kt = us.map kt
theorem Eqv.refl (ts : List Tk) : Eqv ts ts := rfl
theorem Eqv.symm {a b : List Tk} (h : Eqv a b) : Eqv b a := Eq.symm h
theorem Eqv.app {a b c d : List Tk} (h : Eqv a b) (k : Eqv c d) : Eqv (a ++ c) (b ++ d) := by unfold Eqv at *; rw [List.map_append, List.map_append, h, k]
theorem Eqv.cut {u r ws : List Tk} (h : Eqv (u ++ r) ws) : ∃ u' r', ws = u' ++ r' ∧ Eqv u u' ∧ Eqv r r' := by
  unfold Eqv at h; rw [List.map_append] at h
  obtain ⟨a, b, e, h1, h2⟩ := List.map_eq_append_iff.1 h.symm
  exact ⟨a, b, e, h1.symm, h2.symm⟩
theorem Eqv.nil {us : List Tk} (h : Eqv [] us) : us = [] := by
  cases us with
  | nil => rfl
  | cons t r => simp [Eqv] at h
theorem Eqv.cons {t : Tk} {r us : List Tk} (h : Eqv (t :: r) us) : ∃ t' r', us = t' :: r' ∧ kt t = kt t' ∧ Eqv r r' := by
  cases us with
  | nil => simp [Eqv] at h
  | cons t' r' =>
    unfold Eqv at h
    rw [List.map_cons, List.map_cons] at h
    injection h with h1 h2
    exact ⟨t', r', rfl, h1, h2⟩
def HdE (z : Nat) (r : List Tk) (z' : Nat) (r' : List Tk) : Prop := kt (hdT z r) = kt (hdT z' r')
theorem Eqv.hd {ts us : List Tk} (h : Eqv ts us) (z z' : Nat) : HdE z ts z' us := by
  cases ts with
  | nil => rw [h.nil]; rfl
  | cons t r => obtain ⟨t', r', rfl, h1, _⟩ := h.cons; exact h1
theorem hd_app {u w r r' : List Tk} {z z' : Nat} (h : Eqv u w) (hr : HdE z r z' r') : HdE z (u ++ r) z' (w ++ r') := by
  cases u with
  | nil => rw [h.nil]; exact hr
  | cons t q => obtain ⟨t', r'', rfl, h1, _⟩ := h.cons; exact h1
theorem hdT_pos (z : Nat) (ts : List Tk) : (hdT z ts).a = z ∨ ∃ t ∈ ts, (hdT z ts).a = t.a := by
  cases ts with
  | nil => exact .inl rfl
  | cons t r => exact .inr ⟨t, by simp, rfl⟩
def Okt (ts : List Tk) : Prop := GoodT ts ∧ ∀ t ∈ ts, t.t = [63, 45] → t.k = 4
theorem Okt.suf {r ts : List Tk} (h : Okt ts) (hs : r <:+ ts) : Okt r := ⟨h.1.suf hs, fun t ht => h.2 t (hs.subset ht)⟩
/-! ### Two methods that read alike -/
def RelP {α γ : Type} (N : Tk → Prop) (π : α → γ) (f f' : Ps α) : Prop := ∀ z ts, Okt ts →
  (∀ x r, f z ts = .ok x r → ∃ u, ts = u ++ r ∧ (∀ t ∈ u, N t) ∧ ∀ z' u' r', Eqv u u' → HdE z r z' r' → ∃ x', f' z' (u' ++ r') = .ok x' r' ∧ π x = π x') ∧
  (∀ a k, f z ts = .no a k → (a = z ∨ ∃ t ∈ ts, a = t.a) ∧ ∀ z' us, Eqv ts us → ∃ a', f' z' us = .no a' k)
section
variable {α β γ δ : Type} {N : Tk → Prop} {π : α → γ} {ρ : β → δ}
theorem RelP.bind {f f' : Ps α} {g g' : α → Ps β} (hf : RelP N π f f') (hg : ∀ a a', π a = π a' → RelP N ρ (g a) (g' a')) :
    RelP N ρ (fun z ts => (f z ts).bind fun a r => g a z r) (fun z ts => (f' z ts).bind fun a r => g' a z r) := fun z ts ho => by
  cases e : f z ts with
  | no a k =>
    refine ⟨fun x r h => ?_, fun a' k' h => ?_⟩
    · simp only [e, Ans.bind] at h; cases h
    · simp only [e, Ans.bind] at h; cases h
      obtain ⟨h1, h2⟩ := (hf z ts ho).2 a k e
      refine ⟨h1, fun z' us hu => ?_⟩
      obtain ⟨a', h3⟩ := h2 z' us hu
      exact ⟨a', by simp only [h3, Ans.bind]⟩
  | ok a r1 =>
    obtain ⟨u1, e1, n1, h1⟩ := (hf z ts ho).1 a r1 e
    have ho1 : Okt r1 := ho.suf ⟨u1, e1.symm⟩
    refine ⟨fun x r h => ?_, fun a' k' h => ?_⟩
    · simp only [e, Ans.bind] at h
      obtain ⟨u2, e2, n2, h2⟩ := (hg a a rfl z r1 ho1).1 x r h
      refine ⟨u1 ++ u2, by rw [e1, e2, List.append_assoc], fun t ht => (List.mem_append.1 ht).elim (n1 t) (n2 t), fun z' w r' hw hr => ?_⟩
      obtain ⟨w1, w2, rfl, q1, q2⟩ := hw.cut
      obtain ⟨a', h3, hp⟩ := h1 z' w1 (w2 ++ r') q1 (by rw [e2]; exact hd_app q2 hr)
      obtain ⟨u3, e3, n3, h4⟩ := (hg a a' hp z r1 ho1).1 x r h
      have h32 : u3 = u2 := List.append_cancel_right (e3.symm.trans e2)
      subst h32
      obtain ⟨x', h5, hx⟩ := h4 z' w2 r' q2 hr
      exact ⟨x', by simp only [List.append_assoc, h3, Ans.bind, h5], hx⟩
    · simp only [e, Ans.bind] at h
      obtain ⟨h2, _⟩ := (hg a a rfl z r1 ho1).2 a' k' h
      refine ⟨h2.imp id fun ⟨t, ht, e⟩ => ⟨t, by rw [e1]; exact List.mem_append_right _ ht, e⟩, fun z' us hu => ?_⟩
      rw [e1] at hu
      obtain ⟨w1, s1, rfl, q1, q2⟩ := hu.cut
      obtain ⟨b, h3, hp⟩ := h1 z' w1 s1 q1 (q2.hd z z')
      obtain ⟨b', h4⟩ := ((hg a b hp z r1 ho1).2 a' k' h).2 z' s1 q2
      exact ⟨b', by simp only [h3, Ans.bind, h4]⟩
theorem RelP.ok {x x' : α} (h : π x = π x') : RelP N π (fun _ ts => .ok x ts) (fun _ ts => .ok x' ts) := fun z ts _ =>
  ⟨fun y r e => by
    cases e
    exact ⟨[], rfl, fun t ht => (by cases ht), fun z' u' r' hu _ => ⟨x', by rw [hu.nil]; rfl, h⟩⟩, fun a k e => by cases e⟩
theorem RelP.fail (k : Nat) : RelP N π (failP k) (failP k) := fun z ts _ => ⟨fun y r e => (by cases e), fun a k' e => by cases e; exact ⟨hdT_pos z ts, fun z' us hu => ⟨_, rfl⟩⟩⟩
theorem RelP.ite {c : Tk → Prop} [DecidablePred c] {A A' B B' : Ps α} (hc : ∀ t u, kt t = kt u → (c t ↔ c u)) (hA : RelP N π A A') (hB : RelP N π B B') :
    RelP N π (fun z ts => if c (hdT z ts) then A z ts else B z ts) (fun z ts => if c (hdT z ts) then A' z ts else B' z ts) := fun z ts ho => by
  by_cases hh : c (hdT z ts)
  · refine ⟨fun x r h => ?_, fun a k h => ?_⟩
    · simp only [if_pos hh] at h
      obtain ⟨u, e, n, h1⟩ := (hA z ts ho).1 x r h
      refine ⟨u, e, n, fun z' u' r' hu hr => ?_⟩
      obtain ⟨x', h2, h3⟩ := h1 z' u' r' hu hr
      have h4 : c (hdT z' (u' ++ r')) := (hc _ _ (by rw [e]; exact hd_app hu hr)).1 hh
      exact ⟨x', by simp only [if_pos h4]; exact h2, h3⟩
    · simp only [if_pos hh] at h
      obtain ⟨h1, h2⟩ := (hA z ts ho).2 a k h
      refine ⟨h1, fun z' us hu => ?_⟩
      obtain ⟨a', h3⟩ := h2 z' us hu
      have h4 : c (hdT z' us) := (hc _ _ (hu.hd z z')).1 hh
      exact ⟨a', by simp only [if_pos h4]; exact h3⟩
  · refine ⟨fun x r h => ?_, fun a k h => ?_⟩
    · simp only [if_neg hh] at h
      obtain ⟨u, e, n, h1⟩ := (hB z ts ho).1 x r h
      refine ⟨u, e, n, fun z' u' r' hu hr => ?_⟩
      obtain ⟨x', h2, h3⟩ := h1 z' u' r' hu hr
      have h4 : ¬ c (hdT z' (u' ++ r')) := fun h => hh ((hc _ _ (by rw [e]; exact hd_app hu hr)).2 h)
      exact ⟨x', by simp only [if_neg h4]; exact h2, h3⟩
    · simp only [if_neg hh] at h
      obtain ⟨h1, h2⟩ := (hB z ts ho).2 a k h
      refine ⟨h1, fun z' us hu => ?_⟩
      obtain ⟨a', h3⟩ := h2 z' us hu
      have h4 : ¬ c (hdT z' us) := fun h => hh ((hc _ _ (hu.hd z z')).2 h)
      exact ⟨a', by simp only [if_neg h4]; exact h3⟩
theorem RelP.skip {m : List UInt8} {A A' B B' : Ps α} (hm : m ≠ []) (hN : ∀ t : Tk, t.t = m → N t) (hA : RelP N π A A') (hB : RelP N π B B') :
    RelP N π (fun z ts => if (hdT z ts).t = m then A z ts.tail else B z ts) (fun z ts => if (hdT z ts).t = m then A' z ts.tail else B' z ts) := fun z ts ho => by
  by_cases hh : (hdT z ts).t = m
  · have hd := hd_tail hh hm
    have ho1 : Okt ts.tail := ho.suf (tail_suf ts)
    obtain ⟨c, hc⟩ : ∃ c, c = hdT z ts := ⟨_, rfl⟩
    refine ⟨fun x r h => ?_, fun a k h => ?_⟩
    · simp only [if_pos hh] at h
      obtain ⟨u, e, n, h1⟩ := (hA z _ ho1).1 x r h
      rw [← hc] at hd hh
      refine ⟨c :: u, by rw [List.cons_append, ← e]; exact hd, fun t ht => ?_, fun z' w r' hw hr => ?_⟩
      · rcases List.mem_cons.1 ht with rfl | ht
        · exact hN _ hh
        · exact n t ht
      · obtain ⟨c', u', rfl, hk, hu⟩ := hw.cons
        obtain ⟨x', h2, h3⟩ := h1 z' u' r' hu hr
        have h4 : (hdT z' ((c' :: u') ++ r')).t = m := (kt_t hk).symm.trans hh
        exact ⟨x', by simp only [if_pos h4]; exact h2, h3⟩
    · simp only [if_pos hh] at h
      obtain ⟨h1, h2⟩ := (hA z _ ho1).2 a k h
      refine ⟨h1.imp id fun ⟨t, ht, e⟩ => ⟨t, (tail_suf ts).subset ht, e⟩, fun z' us hu => ?_⟩
      have h4 : (hdT z' us).t = m := (kt_t (hu.hd z z')).symm.trans hh
      rw [hd] at hu
      obtain ⟨c', u', rfl, hk, hu⟩ := hu.cons
      obtain ⟨a', h3⟩ := h2 z' u' hu
      exact ⟨a', by simp only [if_pos h4]; exact h3⟩
  · refine ⟨fun x r h => ?_, fun a k h => ?_⟩
    · simp only [if_neg hh] at h
      obtain ⟨u, e, n, h1⟩ := (hB z ts ho).1 x r h
      refine ⟨u, e, n, fun z' u' r' hu hr => ?_⟩
      obtain ⟨x', h2, h3⟩ := h1 z' u' r' hu hr
      have h4 : ¬ (hdT z' (u' ++ r')).t = m := fun h => hh ((kt_t (show kt (hdT z ts) = kt (hdT z' (u' ++ r')) by rw [e]; exact hd_app hu hr)).trans h)
      exact ⟨x', by simp only [if_neg h4]; exact h2, h3⟩
    · simp only [if_neg hh] at h
      obtain ⟨h1, h2⟩ := (hB z ts ho).2 a k h
      refine ⟨h1, fun z' us hu => ?_⟩
      obtain ⟨a', h3⟩ := h2 z' us hu
      have h4 : ¬ (hdT z' us).t = m := fun h => hh ((kt_t (hu.hd z z')).trans h)
      exact ⟨a', by simp only [if_neg h4]; exact h3⟩
theorem RelP.need {p : Tk → Bool} (hp : ∀ t u, kt t = kt u → p t = p u) (hN : ∀ t, (t.t = [63, 45] → t.k = 4) → p t = true → N t) : RelP N kt (needP p) (needP p) := fun z ts ho => by
  cases ts with
  | nil => exact ⟨fun x r h => (by cases h), fun a k h => by cases h; exact ⟨.inl rfl, fun z' us hu => ⟨z', by rw [hu.nil]; rfl⟩⟩⟩
  | cons t q =>
    cases hpt : p t with
    | true =>
      have e : needP p z (t :: q) = .ok t q := by simp [needP, hpt]
      rw [e]
      refine ⟨fun x r h => ?_, fun a k h => by cases h⟩
      cases h
      refine ⟨[t], rfl, fun u hu => ?_, fun z' u' r' hu hr => ?_⟩
      · obtain rfl := List.mem_singleton.1 hu
        exact hN _ (ho.2 _ (by simp)) hpt
      · obtain ⟨t', q', rfl, hk, hq⟩ := hu.cons
        obtain rfl := hq.nil
        exact ⟨t', by simp [needP, ← hp _ _ hk, hpt], hk⟩
    | false =>
      have e : needP p z (t :: q) = .no t.a 2 := by simp [needP, hpt]
      rw [e]
      refine ⟨fun x r h => (by cases h), fun a k h => ?_⟩
      cases h
      refine ⟨.inr ⟨t, by simp, rfl⟩, fun z' us hu => ?_⟩
      obtain ⟨t', q', rfl, hk, hq⟩ := hu.cons
      exact ⟨t'.a, by simp [needP, ← hp _ _ hk, hpt]⟩
theorem RelP.want {m : List UInt8} (hN : ∀ t : Tk, t.t = m → N t) : RelP N kt (wantP m) (wantP m) :=
  RelP.need (fun t u h => by unfold isX; rw [kt_t h]) fun t _ h => hN t (by simpa [isX] using h)
theorem RelP.weak {M : Tk → Prop} {f f' : Ps α} (h : RelP N π f f') (hM : ∀ t, N t → M t) : RelP M π f f' := fun z ts ho =>
  ⟨fun x r e => let ⟨u, h1, h2, h3⟩ := (h z ts ho).1 x r e; ⟨u, h1, fun t ht => hM t (h2 t ht), h3⟩, (h z ts ho).2⟩
end
/-! ### Paths -/
def NoQ (t : Tk) : Prop := t.t ≠ [63, 45]
theorem nq_of {m : List UInt8} (h : m ≠ [63, 45]) : ∀ t : Tk, t.t = m → NoQ t := fun t e => by unfold NoQ; rw [e]; exact h
end Go.Proofs.YtahljmddnfldlaaGreatDoor

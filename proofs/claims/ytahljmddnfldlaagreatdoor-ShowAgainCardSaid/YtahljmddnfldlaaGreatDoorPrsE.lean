/-
  Package parse: paths, from operands on.
-/
import Derived.Test.YtahljmddnfldlaaGreatDoorPrsD
namespace Go.Proofs.YtahljmddnfldlaaGreatDoor
open Go.RowKit FloM ValM Go.Shelf
set_option linter.unusedVariables false
set_option linter.unusedSimpArgs false
/-- How many tokens the reader at rb has left. -/
def leftAt (rb : Nat) (w : World) : Nat := match w.cell? ⟨rb, 0, none⟩ with
  | some (.slice _ n _) => n
  | _ => 0
section
variable {W W' : World} {rb tb z o : Nat} {ts : List Tk}
theorem left_of (h : RdrAt W rb tb z ts o) : leftAt rb W = ts.length + 2 := by
  obtain ⟨off, c, H⟩ := h.hd
  unfold leftAt; rw [H.r0]
theorem app_one {base k c2 : Nat} {A2 : Option Addr} {s : List St} (ho : W.ownsRow base 43 2 (.slice A2 (s.length + 1) c2) (s.length + 1) (scells s ++ [.int .i64 (k : Int), .string ByteArray.empty])) : OwnS W base A2 c2 (s ++ [⟨k, []⟩]) := by
  unfold OwnS
  rw [scells_app, List.length_append, List.length_singleton]
  exact ho
def PartRel (W : World) (rb tb z o m : Nat) (s0 : List St) (r0 : List Tk) (v : Value) (wr : World) : Prop := ∃ (s : List St) (r : List Tk) (A : Option Addr) (c : Nat), v = .slice A s.length c ∧ starsL s0 r0 = starsL s r ∧ s.length + r.length ≤ m ∧ OwnS wr W.heap.size A c s ∧ RdrAt wr rb tb z r o ∧ Fr (· = rb) W.heap.size W wr
theorem stars_go {t : Tk} {r : List Tk} {s : List St} {k : Nat} (h : starK t.t = some k) : starsL s (t :: r) = starsL (s ++ [⟨k, []⟩]) r := by
  conv => lhs; unfold starsL
  rw [h]
theorem stars_end {r : List Tk} {s : List St} (h : starK (hdT z r).t = none) : starsL s r = (s, r) := by
  cases r with
  | nil => rfl
  | cons t r => simp only [hdT] at h; unfold starsL; rw [h]
/-- The row grew by a step that was laid in a row made for it. -/
theorem PartRel.next {m k c2 : Nat} {s0 s : List St} {r0 : List Tk} {t : Tk} {r : List Tk} {A A2 : Option Addr} {c : Nat} {w2 w4 : World} {o1 : Obj} (hk : starK t.t = some k) (hs : starsL s0 r0 = starsL s (t :: r)) (hm : s.length + (t :: r).length ≤ m) (hr : rb < W.heap.size) (ht : tb < W.heap.size)
    (hown : OwnS w2 W.heap.size A c s) (hR : RdrAt w2 rb tb z r o) (hF : Fr (· = rb) W.heap.size W w2)
    (ho : w4.ownsRow W.heap.size 43 2 (.slice A2 (s.length + 1) c2) (s.length + 1) (scells s ++ [.int .i64 (k : Int), .string ByteArray.empty])) (hg : (w2.alloc o1).grownBy w4 (Value.slice A s.length c).ownBlock) :
    PartRel W rb tb z o m s0 r0 (.slice A2 (s.length + 1) c2) w4 := by
  have hq : ∀ q, (Value.slice A s.length c).ownBlock = some q → W.heap.size ≤ q := own_base hown
  have hb : Below w2.heap.size w2 (w2.alloc o1) := (Below.refl _ _).alloc (Nat.le_refl _) _
  refine ⟨s ++ [⟨k, []⟩], r, A2, c2, by rw [List.length_append]; rfl, by rw [hs, stars_go hk], by simp at hm ⊢; omega, app_one ho, (hR.on hb).grown hg hr ht hq, fr_grown (hF.trans (Fr.of (hb.mono hF.size))) (by have := hF.size; simp; omega) hg hq⟩
set_option maxRecDepth 20000 in
set_option maxHeartbeats 8000000 in
theorem part_any (op : Ps (List St)) (hlen : LenOk op) (W : World) (h : RdrAt W rb tb z ts o) (hm : ts.length ≤ 30000)
    (hop : Calls Tryz.prog 146 #[.pointer (some ⟨rb, 0, none⟩)] W (StepsQ (op z ts) rb tb z o W)) :
    Calls Tryz.prog 141 #[.pointer (some ⟨rb, 0, none⟩)] W (StepsQ (partP op z ts) rb tb z o W) := by
  obtain ⟨i0, hi0, hz0, hz1, hz2⟩ := info_parts info_step
  have HI := Lib.hid (And.intro hi0 (And.intro hz0 (And.intro hz1 hz2)))
  have hr := h.lt; have ht := h.tlt
  have HOP := Lib.hid hop
  unfold partP
  clear hi0 hz0 hz1 hz2 h hop
  cases hR : op z ts with
  | no a k =>
    rw [hR] at HOP
    clear hR
    go_enter Tryz.func141, Tryz.ntmps141
    go_wp2_with (go_at_call 146; refine HOP.out.mono ?_; rintro e w1 ⟨rfl, f1⟩)
    exact ⟨rfl, rfl, f1⟩
  | ok s0 r0 =>
    rw [hR] at HOP
    have hl0 := (hlen z ts s0 r0 hR).1
    simp only [Ans.bind]
    clear hR
    go_enter Tryz.func141, Tryz.ntmps141
    go_wp2_with (go_at_call 146; refine HOP.out.mono ?_; rintro e w1 ⟨A0, cA0, rfl, own1, h1, f1⟩; have HP : Hid (PartRel W rb tb z o ts.length s0 r0 (.slice A0 s0.length cA0) w1) := Lib.hid ⟨s0, r0, A0, cA0, rfl, rfl, hl0, own1, h1, f1⟩; clear own1 h1 f1)
    go_loopw [3] (PartRel W rb tb z o ts.length s0 r0) (fun _ wr => leftAt rb wr)
    case atStart => exact HP.out
    case round =>
      clear HP HOP
      obtain ⟨s, r, A, c, rfl, hs, hlm, hown, hR, hF⟩ := hrel
      have HS := Lib.hid hs; have HO := Lib.hid hown; have HR := Lib.hid hR; have HF := Lib.hid hF
      have hz := hF.size
      have hlf := left_of hR
      have HLF := Lib.hid hlf
      clear hs hown hR hF hlf
      by_cases g1 : (hdT z r).t = [42]
      · obtain ⟨t, r, rfl⟩ : ∃ t r2, r = t :: r2 := ⟨_, _, hd_tail g1 (by simp)⟩
        have S1 := Lib.hid (skip_yes ⟨#[42]⟩ wr HR.out g1 (by decide))
        have hk : starK t.t = some 5 := by simp only [hdT] at g1; unfold starK; rw [if_pos g1]
        have HK := Lib.hid hk
        simp only [List.tail_cons] at S1
        simp only [List.length_cons] at hlm HLF
        clear g1 hk
        go_wp2_with (first
          | (go_at_call 83; first
            | ((with_reducible refine S1.out.mono ?_); rintro e w2 ⟨rfl, h2, f2⟩; have H2 := Lib.hid h2; have F2 := Lib.hid f2; have O2 := Lib.hid (HO.out.frb hr f2); have hs2 := f2.size; clear h2 f2))
          | (at_builtin; refine wpList_append_own_at _ rfl (.tmp 10) (.tmp 12) _ rfl W.heap.size 43 i0 (.agg #[.int .i64 0, .string ByteArray.empty]) 2 24 Tryz.underlying44 HI.out.1 HI.out.2.1 HI.out.2.2.1 HI.out.2.2.2 rfl (by omega) (.slice A s.length c) s.length (scells s) rfl (O2.out.on ((Below.refl _ _).alloc (Nat.le_refl _) _)) ⟨w2.heap.size, 0, none⟩ 1 1 [.int .i64 5, .string ByteArray.empty] rfl (by simp) (news_one w2 #[.int .i64 5, .string ByteArray.empty] _) (by simp [Value.oneCell']) (by unfold maxLen; omega) (by omega) (by simp; omega) ?_; intro v' w4 ho hg _ _; obtain ⟨A2, c2, rfl⟩ := own_form ho; have HG := Lib.hid hg; have HN := Lib.hid (PartRel.next (k := 5) HK.out HS.out (by simp only [List.length_cons]; exact hlm) hr ht O2.out H2.out (HF.out.trans (F2.out.mono hz)) ho hg); have hlf4 := left_of (((H2.out.on ((Below.refl _ _).alloc (Nat.le_refl _) (.cells #[.int .i64 5, .string ByteArray.empty] 43))).grown hg hr ht (own_base O2.out))); have HL4 := Lib.hid hlf4; clear ho hg hlf4))
        go_roundw
        case rel => exact HN.out
        case measure => rw [HL4.out, HLF.out]; omega
      · have N1 := Lib.hid (skip_no ⟨#[42]⟩ wr HR.out g1)
        by_cases g2 : (hdT z r).t = [43]
        · obtain ⟨t, r, rfl⟩ : ∃ t r2, r = t :: r2 := ⟨_, _, hd_tail g2 (by simp)⟩
          have S1 := Lib.hid (skip_yes ⟨#[43]⟩ wr HR.out g2 (by decide))
          have hk : starK t.t = some 6 := by simp only [hdT] at g1 g2; unfold starK; rw [if_neg g1]; rw [if_pos g2]
          have HK := Lib.hid hk
          simp only [List.tail_cons] at S1
          simp only [List.length_cons] at hlm HLF
          clear g1 g2 hk
          go_wp2_with (first
            | (go_at_call 83; first
              | ((with_reducible refine N1.out.mono ?_); rintro e w2 ⟨rfl, rfl⟩)
              | ((with_reducible refine S1.out.mono ?_); rintro e w2 ⟨rfl, h2, f2⟩; have H2 := Lib.hid h2; have F2 := Lib.hid f2; have O2 := Lib.hid (HO.out.frb hr f2); have hs2 := f2.size; clear h2 f2))
            | (at_builtin; refine wpList_append_own_at _ rfl (.tmp 17) (.tmp 19) _ rfl W.heap.size 43 i0 (.agg #[.int .i64 0, .string ByteArray.empty]) 2 24 Tryz.underlying44 HI.out.1 HI.out.2.1 HI.out.2.2.1 HI.out.2.2.2 rfl (by omega) (.slice A s.length c) s.length (scells s) rfl (O2.out.on ((Below.refl _ _).alloc (Nat.le_refl _) _)) ⟨w2.heap.size, 0, none⟩ 1 1 [.int .i64 6, .string ByteArray.empty] rfl (by simp) (news_one w2 #[.int .i64 6, .string ByteArray.empty] _) (by simp [Value.oneCell']) (by unfold maxLen; omega) (by omega) (by simp; omega) ?_; intro v' w4 ho hg _ _; obtain ⟨A2, c2, rfl⟩ := own_form ho; have HG := Lib.hid hg; have HN := Lib.hid (PartRel.next (k := 6) HK.out HS.out (by simp only [List.length_cons]; exact hlm) hr ht O2.out H2.out (HF.out.trans (F2.out.mono hz)) ho hg); have hlf4 := left_of (((H2.out.on ((Below.refl _ _).alloc (Nat.le_refl _) (.cells #[.int .i64 6, .string ByteArray.empty] 43))).grown hg hr ht (own_base O2.out))); have HL4 := Lib.hid hlf4; clear ho hg hlf4))
          go_roundw
          case rel => exact HN.out
          case measure => rw [HL4.out, HLF.out]; omega
        · have N2 := Lib.hid (skip_no ⟨#[43]⟩ wr HR.out g2)
          by_cases g3 : (hdT z r).t = [63]
          · obtain ⟨t, r, rfl⟩ : ∃ t r2, r = t :: r2 := ⟨_, _, hd_tail g3 (by simp)⟩
            have S1 := Lib.hid (skip_yes ⟨#[63]⟩ wr HR.out g3 (by decide))
            have hk : starK t.t = some 7 := by simp only [hdT] at g1 g2 g3; unfold starK; rw [if_neg g1]; rw [if_neg g2]; rw [if_pos g3]
            have HK := Lib.hid hk
            simp only [List.tail_cons] at S1
            simp only [List.length_cons] at hlm HLF
            clear g1 g2 g3 hk
            go_wp2_with (first
              | (go_at_call 83; first
                | ((with_reducible refine N1.out.mono ?_); rintro e w2 ⟨rfl, rfl⟩)
                | ((with_reducible refine N2.out.mono ?_); rintro e w2 ⟨rfl, rfl⟩)
                | ((with_reducible refine S1.out.mono ?_); rintro e w2 ⟨rfl, h2, f2⟩; have H2 := Lib.hid h2; have F2 := Lib.hid f2; have O2 := Lib.hid (HO.out.frb hr f2); have hs2 := f2.size; clear h2 f2))
              | (at_builtin; refine wpList_append_own_at _ rfl (.tmp 24) (.tmp 26) _ rfl W.heap.size 43 i0 (.agg #[.int .i64 0, .string ByteArray.empty]) 2 24 Tryz.underlying44 HI.out.1 HI.out.2.1 HI.out.2.2.1 HI.out.2.2.2 rfl (by omega) (.slice A s.length c) s.length (scells s) rfl (O2.out.on ((Below.refl _ _).alloc (Nat.le_refl _) _)) ⟨w2.heap.size, 0, none⟩ 1 1 [.int .i64 7, .string ByteArray.empty] rfl (by simp) (news_one w2 #[.int .i64 7, .string ByteArray.empty] _) (by simp [Value.oneCell']) (by unfold maxLen; omega) (by omega) (by simp; omega) ?_; intro v' w4 ho hg _ _; obtain ⟨A2, c2, rfl⟩ := own_form ho; have HG := Lib.hid hg; have HN := Lib.hid (PartRel.next (k := 7) HK.out HS.out (by simp only [List.length_cons]; exact hlm) hr ht O2.out H2.out (HF.out.trans (F2.out.mono hz)) ho hg); have hlf4 := left_of (((H2.out.on ((Below.refl _ _).alloc (Nat.le_refl _) (.cells #[.int .i64 7, .string ByteArray.empty] 43))).grown hg hr ht (own_base O2.out))); have HL4 := Lib.hid hlf4; clear ho hg hlf4))
            go_roundw
            case rel => exact HN.out
            case measure => rw [HL4.out, HLF.out]; omega
          · have N3 := Lib.hid (skip_no ⟨#[63]⟩ wr HR.out g3)
            have hk : starK (hdT z r).t = none := by unfold starK; rw [if_neg g1, if_neg g2, if_neg g3]
            have HE := Lib.hid (stars_end (s := s) hk)
            clear g1 g2 g3 hk
            go_wp2_with (go_at_call 83; first
              | ((with_reducible refine N1.out.mono ?_); rintro e w2 ⟨rfl, rfl⟩)
              | ((with_reducible refine N2.out.mono ?_); rintro e w2 ⟨rfl, rfl⟩)
              | ((with_reducible refine N3.out.mono ?_); rintro e w2 ⟨rfl, rfl⟩))
            go_ret
            rw [HS.out, HE.out]
            exact ⟨A, c, rfl, HO.out, HR.out, HF.out⟩
end
end Go.Proofs.YtahljmddnfldlaaGreatDoor

/-
  Rows of the call's own that grow: cells of values, numbers and texts; how they are kept and read.
-/
import Derived.Test.YtpmkhpbhimmeiaaGreatTupMem
import Derived.Laws.OwnMore
import Derived.Deep.AppendLies
import Derived.OwnWalk
import Derived.Laws.MakeOwn
namespace Go.Proofs.YtpmkhpbhimmeiaaGreat
open Go.RowKit FloM ValM
set_option linter.unusedVariables false

def vcells (l : List V) : List Value := l.flatMap fun v => [.int .i64 v.k, .int .i64 v.n, .string v.s]
def icells (l : List Int) : List Value := l.map fun x => .int .i64 x
def scells (l : List ByteArray) : List Value := l.map fun x => .string x
theorem vcells_len (l : List V) : (vcells l).length = l.length * 3 := by
  induction l with
  | nil => rfl
  | cons v l ih => simp only [vcells, List.flatMap_cons, List.length_append, List.length_cons, List.length_nil] at ih ⊢; omega
theorem vcells_app (a b : List V) : vcells (a ++ b) = vcells a ++ vcells b := by simp [vcells]
theorem vcells_one (v : V) : vcells [v] = [.int .i64 v.k, .int .i64 v.n, .string v.s] := rfl
theorem vcells_at {l : List V} {i : Nat} {v : V} (h : l[i]? = some v) : (vcells l)[i * 3]? = some (.int .i64 v.k) ∧ (vcells l)[i * 3 + 1]? = some (.int .i64 v.n) ∧ (vcells l)[i * 3 + 2]? = some (.string v.s) := by
  have e := split_take h
  have hl : i < l.length := (List.getElem?_eq_some_iff.1 h).1
  have hlen : (vcells (l.take i)).length = i * 3 := by rw [vcells_len, List.length_take]; congr 1; omega
  have e2 : vcells l = vcells (l.take i) ++ ([.int .i64 v.k, .int .i64 v.n, .string v.s] ++ vcells (l.drop (i + 1))) := by
    conv => lhs; rw [e]
    rw [vcells_app]; rfl
  rw [e2]
  refine ⟨?_, ?_, ?_⟩ <;> rw [List.getElem?_append_right (by omega), hlen]
  · rw [Nat.sub_self]; rfl
  · rw [Nat.add_sub_cancel_left]; rfl
  · rw [Nat.add_sub_cancel_left]; rfl
theorem icells_len (l : List Int) : (icells l).length = l.length * 1 := by simp [icells]
theorem scells_len (l : List ByteArray) : (scells l).length = l.length * 1 := by simp [scells]

section
variable {w w' : World} {base : Nat} {e : TypeId} {size : Nat} {v : Value} {n : Nat} {xs : List Value}
theorem own_on (h : w.ownsRow base e size v n xs) (hb : Below w.heap.size w w') : w'.ownsRow base e size v n xs := by
  refine ⟨h.1, ?_⟩
  rcases h.2 with h0 | ⟨g, cap, cur, hv, hbg, hg, r⟩
  · exact .inl h0
  · have hlt : g < w.heap.size := by
      rcases Nat.lt_or_ge g w.heap.size with hlt | hge
      · exact hlt
      · rw [Array.getElem?_eq_none hge] at hg; cases hg
    exact .inr ⟨g, cap, cur, hv, hbg, (hb.block g hlt).trans hg, r⟩
theorem own_base (h : w.ownsRow base e size v n xs) : ∀ k, v.ownBlock = some k → base ≤ k := by
  intro k hk
  rcases h.2 with ⟨rfl, _⟩ | ⟨g, cap, cur, rfl, hbg, _⟩
  · simp [Value.ownBlock] at hk
  · have : g = k := by simpa [Value.ownBlock] using hk
    omega
theorem own_cell (h : w.ownsRow base e size v n xs) {j : Nat} {u : Value} (hu : xs[j]? = some u) : ∃ g cap, v = .slice (some ⟨g, 0, none⟩) n cap ∧ base ≤ g ∧ g < w.heap.size ∧ w.cell? ⟨g, j, none⟩ = some u := by
  have hj : j < n * size := by rw [← h.1]; exact (List.getElem?_eq_some_iff.1 hu).1
  have hn : 0 < n := by rcases Nat.eq_zero_or_pos n with e | e; · rw [e] at hj; omega
                        · exact e
  obtain ⟨g, cap, rfl, hbg, hlt⟩ := h.form hn
  exact ⟨g, cap, rfl, hbg, hlt, by rw [h.cellAt j hj, hu]⟩
theorem own_nil (w : World) (base : Nat) (e : TypeId) (size : Nat) : w.ownsRow base e size (.slice none 0 0) 0 [] := ⟨by simp, .inl ⟨rfl, rfl⟩⟩
theorem own_form (h : w.ownsRow base e size v n xs) : ∃ A c, v = .slice A n c := by
  rcases h.2 with ⟨rfl, rfl⟩ | ⟨g, cap, cur, rfl, _⟩
  · exact ⟨_, _, rfl⟩
  · exact ⟨_, _, rfl⟩
end
section
variable {w : World} {base : Nat} {A : Option Addr} {c n : Nat}
theorem own_rdV {l : List V} {e : TypeId} (h : w.ownsRow base e 3 (.slice A n c) n (vcells l)) : RdV w A l := fun i v hv => by
  obtain ⟨h0, h1, h2⟩ := vcells_at hv
  obtain ⟨g, cap, e0, _, hlt, c0⟩ := own_cell h h0
  obtain ⟨g1, cap1, e1, _, _, c1⟩ := own_cell h h1
  obtain ⟨g2, cap2, e2, _, _, c2⟩ := own_cell h h2
  injection e0 with e0 _ _; injection e1 with e1 _ _; injection e2 with e2 _ _
  subst e0
  injection e1 with e1; injection e1 with e1 _ _; subst e1
  injection e2 with e2; injection e2 with e2 _ _; subst e2
  exact ⟨g, 0, rfl, hlt, by rw [Nat.zero_add]; exact ⟨c0, c1, c2⟩⟩
theorem own_rdI {l : List Int} {e : TypeId} (h : w.ownsRow base e 1 (.slice A n c) n (icells l)) : RdI w A l := fun i v hv => by
  have h0 : (icells l)[i]? = some (.int .i64 v) := by simp [icells, hv]
  obtain ⟨g, cap, e0, _, hlt, c0⟩ := own_cell h h0
  injection e0 with e0 _ _; subst e0
  exact ⟨g, 0, rfl, hlt, by rw [Nat.zero_add]; exact c0⟩
theorem own_rdS {l : List ByteArray} {e : TypeId} (h : w.ownsRow base e 1 (.slice A n c) n (scells l)) : RdS w A l := fun i v hv => by
  have h0 : (scells l)[i]? = some (.string v) := by simp [scells, hv]
  obtain ⟨g, cap, e0, _, hlt, c0⟩ := own_cell h h0
  injection e0 with e0 _ _; subst e0
  exact ⟨g, 0, rfl, hlt, by rw [Nat.zero_add]; exact c0⟩
theorem own_adr {xs : List Value} {e : TypeId} {size : Nat} (h : w.ownsRow base e size (.slice A n c) n xs) : ∀ b o, A = some ⟨b, o, none⟩ → base ≤ b := by
  intro b o hA; subst hA; exact own_base h b rfl
end
theorem info_val : (Tryz.prog.info? 69).map (fun i => (i.zero, i.size, i.bytes)) = some (some (.agg #[.int .i64 0, .int .i64 0, .string ByteArray.empty]), 3, 32) := by kernel_rfl
theorem info_int : (Tryz.prog.info? 3).map (fun i => (i.zero, i.size, i.bytes)) = some (some (.int .i64 0), 1, 8) := by kernel_rfl
theorem make_vals (n : Nat) (hn : n ≤ 1000) (w : World) : (Instr.makeSlice 25 (.int .i64 0) (.int .i64 (n : Int))).run Tryz.prog w = .ok (.slice (some ⟨w.heap.size, 0, none⟩) 0 n) (w.alloc (.cells (madeCells #[.int .i64 0, .int .i64 0, .string ByteArray.empty] (n * 3)) 69)) := by
  obtain ⟨i, hi, hz, hs, hb⟩ := info_parts info_val
  have := run_make (P := Tryz.prog) w 25 69 i _ Tryz.underlying25 hi hz .i64 .i64 0 n (by omega) (by omega) (by rw [hb]; omega) (by omega)
  rw [hs] at this
  exact this
theorem news_one (w : World) (cs : Array Value) (t : TypeId) : ∀ j u, cs.toList[j]? = some u → (w.alloc (.cells cs t)).cell? ((⟨w.heap.size, 0, none⟩ : Addr).add j) = some u :=
  World.news_of_block (heap_alloc_new w (.cells cs t))
theorem news_two (w : World) (o : Obj) (cs : Array Value) (t : TypeId) : ∀ j u, cs.toList[j]? = some u → ((w.alloc o).alloc (.cells cs t)).cell? ((⟨w.heap.size + 1, 0, none⟩ : Addr).add j) = some u := by
  have := news_one (w.alloc o) cs t
  rwa [show (w.alloc o).heap.size = w.heap.size + 1 by simp] at this
/-- Values in memory of the call's own. -/
def SaysV (l : List V) (w : World) (e : Ending) (w' : World) : Prop := ∃ (A : Option Addr) (c : Nat), e = .returned (.slice A l.length c) ∧ RdV w' A l ∧ (∀ b o, A = some ⟨b, o, none⟩ → w.heap.size ≤ b) ∧ Below w.heap.size w w'
/-- Numbers in memory of the call's own. -/
def SaysL (l : List Int) (w : World) (e : Ending) (w' : World) : Prop := ∃ (A : Option Addr) (c : Nat), e = .returned (.slice A l.length c) ∧ RdI w' A l ∧ Below w.heap.size w w'
end Go.Proofs.YtpmkhpbhimmeiaaGreat

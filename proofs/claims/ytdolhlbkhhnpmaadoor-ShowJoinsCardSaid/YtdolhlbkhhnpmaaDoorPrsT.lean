/-
  Package parse: terms.
-/
import Derived.Test.YtdolhlbkhhnpmaaDoorPrsS
import Derived.Test.YtdolhlbkhhnpmaaDoorPrsD
import Derived.Test.YtdolhlbkhhnpmaaDoorPrsN
import Derived.Test.YtdolhlbkhhnpmaaDoorValG
namespace Go.Proofs.YtdolhlbkhhnpmaaDoor
open Go.RowKit FloM ValM Go.Shelf
set_option linter.unusedVariables false
set_option linter.unusedSimpArgs false
/-- Tokens of a text that is not too long. -/
def GoodT (ts : List Tk) : Prop := ∀ t ∈ ts, TokOk t ∧ t.t.length ≤ 20000
theorem GoodT.tail {t : Tk} {r : List Tk} (h : GoodT (t :: r)) : GoodT r := fun x hx => h x (List.mem_cons_of_mem _ hx)
theorem GoodT.suf {r ts : List Tk} (h : GoodT ts) (hs : r <:+ ts) : GoodT r := fun x hx => h x (hs.subset hx)
def Tm.cells (t : Tm) : List Value := [.string (bs t.v), .int .i64 t.x.k, .int .i64 t.x.n, .string t.x.s]
def Tm.val (t : Tm) : Value := .agg #[.string (bs t.v), .int .i64 t.x.k, .int .i64 t.x.n, .string t.x.s]
def TermQ (R : Ans Tm) (rb tb z o : Nat) (W : World) (e : Ending) (w' : World) : Prop := match R with
  | .ok t r => e = .returned t.val ∧ RdrAt w' rb tb z r o ∧ Fr (· = rb) W.heap.size W w'
  | .no a k => e = .panicked [{ v := faultP a k, recovered := false }] ∧ Fr (· = rb) W.heap.size W w'
def zeroT : List Value := [.string ByteArray.empty, .int .i64 0, .int .i64 0, .string ByteArray.empty]
section
variable {W W' : World} {rb tb z o : Nat} {ts : List Tk}
theorem RdrAt.other (h : RdrAt W rb tb z ts o) {g : Nat} (hg : W.heap.size ≤ g) {W1 W2 : World} (hb : Below W.heap.size W W1) (hF : Fr (· = g) W.heap.size W1 W2) : RdrAt W2 rb tb z ts o :=
  h.on ((hb).trans (hF.below (Nat.le_refl _) fun k hk e => by omega))
theorem rdr_fr {g : Nat} (h : RdrAt W rb tb z ts o) (hr : rb ≠ g) (ht : tb ≠ g) (hF : ∀ B, Fr (· = g) B W W') : RdrAt W' rb tb z ts o := h.fr (hF _) hr ht
end
end Go.Proofs.YtdolhlbkhhnpmaaDoor

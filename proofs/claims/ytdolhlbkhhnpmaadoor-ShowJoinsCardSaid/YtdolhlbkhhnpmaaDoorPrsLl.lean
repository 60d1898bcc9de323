/-
  Package parse: lists of literals. (This text is printed by tools/mklist.py.)
-/
import Derived.Test.YtdolhlbkhhnpmaaDoorPrsY
namespace Go.Proofs.YtdolhlbkhhnpmaaDoor
open Go.RowKit FloM ValM Go.Shelf
set_option linter.unusedVariables false
set_option linter.unusedSimpArgs false
theorem info_lit : (Tryd.prog.info? 78).map (fun i => (i.zero, i.size, i.bytes)) = some (some (.agg #[.int .i64 0, .string ByteArray.empty, .slice none 0 0, .string ByteArray.empty, .string ByteArray.empty, .int .i64 0, .int .i64 0, .string ByteArray.empty, .string ByteArray.empty, .int .i64 0, .int .i64 0, .string ByteArray.empty, .string ByteArray.empty, .int .i64 0, .int .i64 0, .string ByteArray.empty, .slice none 0 0]), 17, 232) := by kernel_rfl
section
variable {W W' : World} {rb tb z o xb : Nat} {ts : List Tk}
end
end Go.Proofs.YtdolhlbkhhnpmaaDoor

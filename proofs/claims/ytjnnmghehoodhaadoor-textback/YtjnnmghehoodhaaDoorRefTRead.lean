/-
  What the document's own Read (package rialtoref4) answers of every text that isn't too long, as its text runs.
-/
import Derived.Test.YtjnnmghehoodhaaDoorRefAll
import Derived.Test.YtjnnmghehoodhaaDoorTextStep
import Derived.Test.YtjnnmghehoodhaaDoorOwnVals
namespace Go.Proofs.YtjnnmghehoodhaaDoor
open Go.ChangeShapes Go.WideShapes Go.ChangeAt Go.RowKit
attribute [local go_sem ↓] Go.wp_at_zero Go.wp_at_succ
attribute [local go_sem] run_store_float
set_option linter.unusedVariables false

/-- What Read leaves: the row in new memory, or an error. -/
def ReadsPost (w : World) (s : List UInt8) (e : Ending) (w' : World) : Prop :=
  Up w w' ∧ ((∃ m v, redT s = some m ∧ m.length ≤ s.length ∧ e = .returned (.tuple #[v, .int .i64 0]) ∧ OwnV w' w.heap.size v m) ∨ (redT s = none ∧ e = .returned (.tuple #[.slice none 0 0, .int .i64 30])))

theorem ex_list (s : ByteArray) (i j : Nat) : (s.extract i j).data.toList = (s.data.toList.drop i).take (j - i) := by
  rw [ByteArray.data_extract, Array.toList_extract, List.extract_eq_take_drop]

end Go.Proofs.YtjnnmghehoodhaaDoor

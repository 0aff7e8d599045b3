/-
  What takeValue of package code answers of every slice of bytes that isn't empty, as its text runs.
-/
import Derived.Test.YtlhaohioolagoaaCodeTakeS
import Derived.Test.YtlhaohioolagoaaCodePutV
import Derived.RegionTactic
import Derived.BigRegion
namespace Go.Proofs.Ytlhaohioolagoaa
open Go.ChangeShapes Go.WideShapes Go.ChangeAt Go.RowKit
attribute [local go_sem ↓] Go.wp_at_zero Go.wp_at_succ
attribute [local go_sem] run_store_float
set_option linter.unusedVariables false

theorem Up.heap {w w' : World} (h : Up w w') {g : Nat} {o : Obj} (ho : w.heap[g]? = some o) : w'.heap[g]? = some o := by
  have hlt : g < w.heap.size := by
    rcases Nat.lt_or_ge g w.heap.size with h' | h'
    · exact h'
    · rw [Array.getElem?_eq_none h'] at ho; cases ho
  exact (h.below.block g hlt).trans ho
theorem frozen_of_block {w : World} {g i : Nat} {cs : Array Value} {t : TypeId} (h : w.heap[g]? = some (.cells cs t (0, 0))) : w.frozen? ⟨g, i, none⟩ = false := by
  simp [World.frozen?, h]

/-- A value is read, and these bytes are behind it. -/
def TookPost (w0 w : World) (v : VT) (r : List UInt8) (e : Ending) (w' : World) : Prop :=
  Up w w' ∧ ∃ rv, e = .returned (.tuple #[.agg #[.int .i64 v.1, .int .i64 v.2.1, .string v.2.2.1, .float .f64 v.2.2.2], rv, .bool true]) ∧ Sl w0 rv r
/-- None is read. -/
def NonePost (w : World) (e : Ending) (w' : World) : Prop :=
  Up w w' ∧ ∃ (v : VT) (rv : Value), e = .returned (.tuple #[.agg #[.int .i64 v.1, .int .i64 v.2.1, .string v.2.2.1, .float .f64 v.2.2.2], rv, .bool false])

end Go.Proofs.Ytlhaohioolagoaa

/-
  How a caller's order is told: by a rank; no program is named here.
-/
import Derived.Test.YtcemdiloiachlaaHeapSort
namespace Go.Proofs.Ytcemdiloiachlaa

/-- One stands ahead of another by its rank. -/
def askB {E : Type} (rk : E → Int) (a b : E) : Bool := decide (rk a < rk b)

end Go.Proofs.Ytcemdiloiachlaa

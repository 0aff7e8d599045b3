/-
  What each function of package bits answers, for every float and every word, as the program's own text runs: contracts, from the leaves up.
-/
import Derived.Test.YtmbniakobhaomaaRows
import Derived.Test.YtmbniakobhaomaaBits
import Derived.WalkKit
import Derived.WalkLawsBesides
import Derived.ProofKit
import Derived.OpenShut
namespace Go.Proofs.Ytmbniakobhaomaa
open Go.ChangeShapes Go.WideShapes Go.ChangeAt Go.RowKit

/-- math.Float64bits. -/
theorem run_bits (b : Nat) (w : World) : (callFunc 76 #[.float .f64 b]).run Try.prog w = .ok (.value (.int .u64 b)) w := by
  rw [run_callFunc_extern Try.func76 (by kernel_rfl) (by kernel_rfl) (by kernel_rfl) (e := Extern.MathFloatBits.float64bits) (by kernel_rfl)]
  rfl

theorem wrap_next (n m : Nat) (h : m = n + 1) (hm : m < whole) : IntKind.u64.wrap ((n : Int) + 1) = (m : Int) := by
  rw [IntKind.wrap_u64]
  simp only [whole] at hm
  omega


theorem copy_bits : (bits .or .u64 (bits .andNot .u64 0 9223372036854775808) (bits .and .u64 13830554455654793216 9223372036854775808)).toNat = 9223372036854775808 := by decide +kernel

end Go.Proofs.Ytmbniakobhaomaa

/-
  What each function of package bits answers, for every float and every word, as the program's own text runs: contracts, from the leaves up.
-/
import Derived.Test.YtcemdiloiachlaaRows
import Derived.Test.YtcemdiloiachlaaBits
import Derived.WalkKit
import Derived.WalkLawsBesides
import Derived.ProofKit
import Derived.OpenShut
namespace Go.Proofs.Ytcemdiloiachlaa
open Go.ChangeShapes Go.WideShapes Go.ChangeAt Go.RowKit

theorem wrap_next (n m : Nat) (h : m = n + 1) (hm : m < whole) : IntKind.u64.wrap ((n : Int) + 1) = (m : Int) := by
  rw [IntKind.wrap_u64]
  simp only [whole] at hm
  omega


theorem copy_bits : (bits .or .u64 (bits .andNot .u64 0 9223372036854775808) (bits .and .u64 13830554455654793216 9223372036854775808)).toNat = 9223372036854775808 := by decide +kernel

end Go.Proofs.Ytcemdiloiachlaa

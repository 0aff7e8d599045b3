/-
  What each function of package bits answers, for every float and every word, as the program's own text runs: contracts, from the leaves up.
-/
import Derived.Test.YtmlfkjmondkfnaaDoorRows
import Derived.Test.YtmlfkjmondkfnaaDoorBits
import Derived.WalkKit
import Derived.WalkLawsBesides
import Derived.ProofKit
import Derived.OpenShut
namespace Go.Proofs.YtmlfkjmondkfnaaDoor
open Go.ChangeShapes Go.WideShapes Go.ChangeAt Go.RowKit

/-- math.Float64bits. -/
theorem run_bits (b : Nat) (w : World) : (callFunc 85 #[.float .f64 b]).run Tryd.prog w = .ok (.value (.int .u64 b)) w := by
  rw [run_callFunc_extern Tryd.func85 (by kernel_rfl) (by kernel_rfl) (by kernel_rfl) (e := Extern.MathFloatBits.float64bits) (by kernel_rfl)]
  rfl
/-- math.Float64frombits. -/
theorem run_from (b : Nat) (w : World) : (callFunc 86 #[.int .u64 (b : Int)]).run Tryd.prog w = .ok (.value (.float .f64 b)) w := by
  rw [run_callFunc_extern Tryd.func86 (by kernel_rfl) (by kernel_rfl) (by kernel_rfl) (e := Extern.MathFloatBits.float64frombits) (by kernel_rfl)]
  rfl

theorem same_calls (a b : Nat) (w : World) :
    Calls Tryd.prog 75 #[.float .f64 a, .float .f64 b] w fun e w' => e = .returned (.bool ((a : Int) == (b : Int))) ∧ w' = w := by
  have hrb := run_bits
  go_enter Tryd.func75, Tryd.ntmps75
  go_wp2
  go_ret
  exact ⟨rfl, rfl⟩

theorem wrap_next (n m : Nat) (h : m = n + 1) (hm : m < whole) : IntKind.u64.wrap ((n : Int) + 1) = (m : Int) := by
  rw [IntKind.wrap_u64]
  simp only [whole] at hm
  omega

/-- math.Float64frombits of whatever whole number. -/
theorem run_from_int (n : Int) (w : World) : (callFunc 86 #[.int .u64 n]).run Tryd.prog w = .ok (.value (.float .f64 n.toNat)) w := by
  rw [run_callFunc_extern Tryd.func86 (by kernel_rfl) (by kernel_rfl) (by kernel_rfl) (e := Extern.MathFloatBits.float64frombits) (by kernel_rfl)]
  rfl


theorem copy_bits : (bits .or .u64 (bits .andNot .u64 0 9223372036854775808) (bits .and .u64 13830554455654793216 9223372036854775808)).toNat = 9223372036854775808 := by decide +kernel

end Go.Proofs.YtmlfkjmondkfnaaDoor

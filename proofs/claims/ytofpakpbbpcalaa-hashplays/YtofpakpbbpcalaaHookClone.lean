/-
  strings.Clone (SchClone imports this; SchCopy has the same beside what stage 5 asked for: never import both).
-/
import Derived.Test.YtofpakpbbpcalaaShelf
import Derived.Test.YtofpakpbbpcalaaQuietUp
import Derived.WalkKit
import Derived.ProofKit
import Derived.Deep.DrawnRows
namespace Go.Proofs.Ytofpakpbbpcalaa
open Go.RowKit
attribute [local go_sem ↓] Go.wp_at_zero Go.wp_at_succ

theorem clone_calls (s : ByteArray) (w : World) (hs : s.size ≤ 281474976710656) : Calls Try.prog 39 #[.string s] w fun e w' => e = .returned (.string s) ∧ Up w w' := by
  go_enter Try.func39, Try.ntmps39
  go_wp2_with fail
  go_at_call 50
  refine (Go.Proofs.Try.stringslite_Clone s _ hs).mono ?_
  rintro _ w1 ⟨rfl, hu1⟩
  replace hu1 : Hid (Up w w1) := hu1
  go_wp2
  go_ret
  exact ⟨rfl, hu1.out⟩

end Go.Proofs.Ytofpakpbbpcalaa

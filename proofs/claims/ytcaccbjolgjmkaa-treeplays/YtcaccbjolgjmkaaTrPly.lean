/-
  TreePlays of rialtolaw11, as its text runs: the long rows; and what the plain list's own steps come to.
-/
import Derived.Test.YtcaccbjolgjmkaaTrSam
import Derived.Test.YtcaccbjolgjmkaaTrStp
import Derived.Test.YtcaccbjolgjmkaaTrKnw
namespace Go.Proofs.Ytcaccbjolgjmkaa
open Go.ChangeShapes Go.WideShapes Go.ChangeAt Go.RowKit
set_option linter.unusedVariables false
set_option maxRecDepth 100000
attribute [local go_sem ↓] Go.wp_at_zero Go.wp_at_succ

theorem treePlays_many (a0 : Option Addr) (n0 c0 : Nat) (w : World) (hn : 150 < n0) :
    Calls Try.prog 3 #[.slice a0 n0 c0] w fun e w' => e = .returned (.bool true) ∧ Up w w' := by
  have g0 : decide ((n0 : Int) > 150) = true := decide_eq_true (by omega)
  have g0' : (n0 : Int) > 150 := by omega
  have g0'' : decide (150 < n0) = true := decide_eq_true hn
  go_enter Try.func3, Try.ntmps3
  go_wp2_with fail
  refine (known11_calls w).mono ?_
  rintro _ wk ⟨rfl, huk⟩
  replace huk := hide huk
  dsimp only
  go_wp2
  go_ret
  exact ⟨rfl, huk.out⟩
end Go.Proofs.Ytcaccbjolgjmkaa

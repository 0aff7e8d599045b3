/-
  Rows held against one another (rialtohelp.Vals).
-/
import Derived.Test.YtmlfkjmondkfnaaDoorOwnVals
import Derived.Test.YtmlfkjmondkfnaaDoorRefRowsAll
namespace Go.Proofs.YtmlfkjmondkfnaaDoor
open Go.ChangeShapes Go.WideShapes Go.ChangeAt Go.RowKit
attribute [local go_sem ↓] Go.wp_at_zero Go.wp_at_succ

theorem rowsV_self (l : List VT) : rowsV l l = 0 := by
  rw [rowsV_alike l l (fun j _ _ => cmpV_self _), cmpI_self]

theorem same_calls' (a0 a1 : Option Addr) (n c0 c1 : Nat) (l : List VT) (w : World) (hn : n ≤ maxLen) (h0 : Vals w a0 n l) (h1 : Vals w a1 n l) :
    Calls Tryd.prog 21 #[.slice a0 n c0, .slice a1 n c1] w fun e w' => e = .returned (.bool true) ∧ Up w w' := by
  have hr := rowsV_self l
  have H0 := hide h0
  have H1 := hide h1
  clear h0 h1
  go_enter Tryd.func21, Tryd.ntmps21
  go_wp2_with fail
  go_at_call 51
  refine (rvrows_calls _ _ _ _ _ _ l l _ hn hn H0.out H1.out).mono ?_
  rintro _ w1 ⟨rfl, hu1⟩
  go_wp2
  go_ret
  exact ⟨rfl, hu1⟩

end Go.Proofs.YtmlfkjmondkfnaaDoor

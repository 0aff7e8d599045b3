/-
  ordidx's order, as its text runs, by whatever key.Compare tells.
-/
import Derived.Test.YtnokokhbcfkifaaGreatDoorQuietUp
import Derived.Test.YtnokokhbcfkifaaGreatDoorTrRowG
import Derived.WalkKit
import Derived.ProofKit
import Derived.Deep.DrawnRows
namespace Go.Proofs.YtnokokhbcfkifaaGreatDoor
open Go.ChangeShapes Go.WideShapes Go.ChangeAt Go.RowKit
set_option linter.unusedVariables false
set_option maxRecDepth 100000
attribute [local go_sem ↓] Go.wp_at_zero Go.wp_at_succ

theorem As_nil (v : Value) (w : World) : Calls Tryz.prog 43 #[.nilIface, v] w fun e w' => e = .returned (.bool false) ∧ Up w w' := by
  go_enter Tryz.func43, Tryz.ntmps43
  go_wp2
  go_ret
  exact ⟨rfl, Up.refl _⟩
/-- What is asked of key.Compare. -/
def KAsk (w : World) (fv av bv : Value) (r : Int) (Q : World → Prop) : Prop :=
  ∀ (g : Nat) (w1 : World), Up w w1 → w1.cell? ⟨g, 0, none⟩ = some fv → Calls Tryz.prog 86 #[.agg #[.string ⟨#[]⟩, .int .i64 0, .slice none 0 0, .int .i64 0], .agg #[.slice none 0 0, .slice (some ⟨g, 0, none⟩) 1 1], av, bv] w1 fun e w' => e = .returned (.tuple #[.int .i64 r, .nilIface]) ∧ Q w'
set_option maxHeartbeats 4000000 in
theorem order_walk (X : Nat) (f : Fn) (y z : Array Value) (av bv : Value) (r : Int) (Q : World → Prop) (w : World) (x1 : w.cell? ⟨X, 1, none⟩ = some (.func f y z)) (hK : KAsk w (.func f y z) av bv r Q) (hQ : ∀ w1 w2, Q w1 → Up w1 w2 → Q w2) :
    Calls Tryz.prog 66 #[.pointer (some ⟨X, 0, none⟩), av, bv] w fun e w' => e = .returned (.tuple #[.int .i64 r, .nilIface]) ∧ Q w' := by
  have HK := hide hK
  have HQ := hide hQ
  clear hK hQ
  go_enter Tryz.func66, Tryz.ntmps66
  go_wp2_with fail
  refine (HK.out w.heap.size _ (((Up.refl _).alloc _).alloc _) (by go_simp)).mono ?_
  rintro _ w1 ⟨rfl, hq⟩
  have H1 := hide hq
  clear hq
  dsimp only
  go_wp2_with fail
  go_at_call 43
  refine (As_nil _ _).mono ?_
  rintro _ w2 ⟨rfl, hu2⟩
  have H2 := hide (HQ.out _ _ (HQ.out _ _ H1.out ((Up.refl _).alloc _)) hu2)
  clear hu2
  dsimp only
  go_wp2
  go_ret2
  exact ⟨rfl, H2.out⟩
end Go.Proofs.YtnokokhbcfkifaaGreatDoor

/-
  ordidx's order where the comparator strikes, as its text runs.
-/
import Derived.Test.YtnokokhbcfkifaaGreatDoorOxOrd
import Derived.Test.YtnokokhbcfkifaaGreatDoorErrHelpG
namespace Go.Proofs.YtnokokhbcfkifaaGreatDoor
open Go.ChangeShapes Go.WideShapes Go.ChangeAt Go.RowKit
set_option linter.unusedVariables false
set_option maxRecDepth 100000
attribute [local go_sem ↓] Go.wp_at_zero Go.wp_at_succ

/-- What is asked of key.Compare that tells a fault. -/
def KHit (w : World) (fv av bv : Value) (Q : Nat → Nat → World → Prop) : Prop :=
  ∀ (g : Nat) (w1 : World), Up w w1 → w1.cell? ⟨g, 0, none⟩ = some fv → Calls Tryz.prog 86 #[.agg #[.string ⟨#[]⟩, .int .i64 0, .slice none 0 0, .int .i64 0], .agg #[.slice none 0 0, .slice (some ⟨g, 0, none⟩) 1 1], av, bv] w1 fun e w' => ∃ b k, e = .returned (.tuple #[.int .i64 0, .iface 106 (.pointer (some ⟨b, 0, none⟩))]) ∧ FaultAt w' b 0 ⟨#[]⟩ (.iface 147 (.pointer (some ⟨k, 0, none⟩))) .nilIface ∧ TabE w' ∧ Q b k w'
set_option maxHeartbeats 4000000 in
theorem order_hits (X : Nat) (f : Fn) (y z : Array Value) (av bv : Value) (Q : Nat → Nat → World → Prop) (w : World) (x1 : w.cell? ⟨X, 1, none⟩ = some (.func f y z)) (hK : KHit w (.func f y z) av bv Q) (hQ : ∀ b k w1 w2, Q b k w1 → Up w1 w2 → Q b k w2) :
    Calls Tryz.prog 66 #[.pointer (some ⟨X, 0, none⟩), av, bv] w fun e w' => ∃ b k, e = .returned (.tuple #[.int .i64 0, .iface 147 (.pointer (some ⟨k, 0, none⟩))]) ∧ Q b k w' := by
  have HK := hide hK
  have HQ := hide hQ
  clear hK hQ
  go_enter Tryz.func66, Tryz.ntmps66
  go_wp2_with fail
  refine (HK.out w.heap.size _ (((Up.refl _).alloc _).alloc _) (by go_simp)).mono ?_
  rintro _ w1 ⟨b, k, rfl, hf, ht, hq⟩
  have H1 := hide hq
  have HF := hide hf
  have HT := hide ht
  clear hq hf ht HK
  dsimp only
  go_wp2_with fail
  go_at_call 43
  refine (As_hitF ⟨b, 0, none⟩ ⟨w1.heap.size, 0, none⟩ (.pointer none) _ (HT.out.up ((Up.refl _).alloc _)) (by go_simp) (by go_simp)).mono ?_
  rintro _ w3 ⟨rfl, w2, hu2, hw3⟩
  have k0 : w3.cell? ⟨w1.heap.size, 0, none⟩ = some (.pointer (some ⟨b, 0, none⟩)) := by
    rw [hw3]
    exact World.cell?_setCell_same _ _ _ (hu2.cell (v := .pointer none) (by go_simp))
  have u3 : Up w1 w3 := by rw [hw3]; exact (((Up.refl w1).alloc _).trans hu2).setCell (Nat.le_refl _) _
  obtain ⟨c0, c1, c2⟩ := HF.out.up u3
  have H2 := hide (HQ.out _ _ _ _ H1.out u3)
  clear hw3 hu2 H1 HF HT u3
  dsimp only
  go_wp2_with fail
  go_quiet (fail)
  have H3 := hide (HQ.out _ _ _ _ H2.out ((Up.refl w3).drewN nq))
  go_wp2
  go_ret2
  exact ⟨b, k, rfl, H3.out⟩
end Go.Proofs.YtnokokhbcfkifaaGreatDoor

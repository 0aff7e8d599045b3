/-
  What errors.as answers of a fault with another error, as the texts run.
-/
import Derived.Test.YtobalfckdknbdaaDoorErrUn
namespace Go.Proofs.YtobalfckdknbdaaDoor
open Go.RowKit Go.Extern.Stop Go.Stop Go.Extern
attribute [local go_sem ↓] Go.wp_at_zero Go.wp_at_succ


set_option maxRecDepth 20000 in
set_option maxHeartbeats 4000000 in
/-- A fault that unwraps to its number and another error, which is not found. -/
theorem as_twoW_miss (b o : Nat) (et : TypeId) (ev h0 h1 tgt : Value) (n : Int) (w : World) (hU : ∀ w', Up w w' → Calls Tryd.prog 51 #[.pointer (some ⟨b, o, none⟩)] w' fun e w'' => e = .returned (.slice (some ⟨w'.heap.size, 0, none⟩) 2 2) ∧ w'' = w'.alloc (.cells #[.iface 31 (.int .i64 50), .iface et ev] 28))
    (hA : ∀ w', Up w w' → Calls Tryd.prog 26 #[.iface et ev, tgt, .agg #[h0, h1, .int .u64 n], .iface 64 (.agg #[hnd 44])] w' fun e w'' => e = .returned (.bool false) ∧ Up w' w'') :
    Calls Tryd.prog 26 #[.iface 47 (.pointer (some ⟨b, o, none⟩)), tgt, .agg #[h0, h1, .int .u64 n], .iface 64 (.agg #[hnd 44])] w fun e w'' => e = .returned (.bool false) ∧ Up w w'' := by
  have x42 := @run_callFunc_extern Tryd.prog 27 _ ReflectliteType.typeOf Tryd.func27 (by kernel_rfl) (by kernel_rfl) (by kernel_rfl) (by kernel_rfl)
  have x102 := @run_callFunc_extern Tryd.prog 56 _ (ReflectliteType.relation "AssignableTo" ReflectliteType.assignableTo) Tryd.func56 (by kernel_rfl) (by kernel_rfl) (by kernel_rfl) (by kernel_rfl)
  have f1 := e_typeOfF
  have f2 := e_methodAssignableTo
  have f3 := e_assignFW
  have f4 := e_hasAsF
  have f5 := e_hasUF
  have f6 := e_hasULF
  have f7 := e_methodUnwrapF
  have HU := hide hU
  have HA := hide hA
  clear hU hA
  go_enter Tryd.func26, Tryd.ntmps26
  go_wp2_with fail
  refine wp_loop_rounds 1 ?_
  rw [rounds_succ]
  go_wp2_with fail
  go_at_call 51
  refine (HU.out _ ((Up.refl _).alloc _)).mono ?_
  rintro _ w2 ⟨rfl, hw2⟩
  have g0 : w2.cell? ⟨w.heap.size, 0, none⟩ = some h0 := by rw [hw2]; go_simp
  have g1 : w2.cell? ⟨w.heap.size, 1, none⟩ = some h1 := by rw [hw2]; go_simp
  have g2 : w2.cell? ⟨w.heap.size, 2, none⟩ = some (.int .u64 n) := by rw [hw2]; go_simp
  have k0 : w2.cell? ⟨w.heap.size + 1, 0, none⟩ = some (.iface 31 (.int .i64 50)) := by rw [hw2]; go_simp
  have k1 : w2.cell? ⟨w.heap.size + 1, 1, none⟩ = some (.iface et ev) := by rw [hw2]; go_simp
  have u2 : Hid (Up w w2) := by rw [hw2]; exact ((Up.refl _).alloc _).alloc _
  clear HU hw2
  go_wp2_with fail
  refine wp_loop_rounds 3 ?_
  rw [rounds_succ]
  go_wp2_with fail
  go_at_call 26
  refine (as_missEW _ _ _ _ _ _).mono ?_
  rintro _ w3 ⟨rfl, hu3⟩
  replace u2 := hide (u2.out.trans hu3)
  replace g0 := hu3.cell g0
  replace g1 := hu3.cell g1
  replace g2 := hu3.cell g2
  replace k1 := hu3.cell k1
  clear hu3 k0
  go_wp2_with fail
  rw [rounds_succ]
  go_wp2_with fail
  go_at_call 26
  refine (HA.out _ u2.out).mono ?_
  rintro _ w4 ⟨rfl, hu4⟩
  replace u2 := hide (u2.out.trans hu4)
  clear hu4 g0 g1 g2 k1
  go_wp2_with fail
  rw [rounds_succ]
  go_wp2
  go_ret
  exact ⟨rfl, u2.out⟩

end Go.Proofs.YtobalfckdknbdaaDoor

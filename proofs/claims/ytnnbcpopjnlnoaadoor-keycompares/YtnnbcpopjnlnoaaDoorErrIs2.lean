/-
  errors.Is of a fault and a number, whole.
-/
import Derived.Test.YtnnbcpopjnlnoaaDoorErrClass
namespace Go.Proofs.YtnnbcpopjnlnoaaDoor
open Go.RowKit Go.Extern.Stop Go.Stop Go.Extern
attribute [local go_sem ↓] Go.wp_at_zero Go.wp_at_succ

theorem errIs50 (b o n : Nat) (L : Array Value) (w : World) (hn : 1 ≤ n) (hL : L[0]? = some (.iface 76 (.int .i64 50))) (hU : ∀ w', Up w w' → Calls Tryd.prog 108 #[.pointer (some ⟨b, o, none⟩)] w' fun e w'' => e = .returned (.slice (some ⟨w'.heap.size, 0, none⟩) n n) ∧ w'' = w'.alloc (.cells L 40)) :
    Calls Tryd.prog 78 #[.iface 79 (.pointer (some ⟨b, o, none⟩)), .iface 76 (.int .i64 50)] w fun e w' => e = .returned (.bool true) ∧ Up w w' :=
  errIs_fault b o w fun w' hu => is_fault b o n L w' hn hL (hU w' hu)

set_option maxRecDepth 20000 in
set_option maxHeartbeats 4000000 in
/-- A fault is the number that it bears. -/
theorem is_fault2 (b o : Nat) (t : Int) (w : World) (ht : ((50 : Int) == t) = false) (hU : Calls Tryd.prog 108 #[.pointer (some ⟨b, o, none⟩)] w fun e w'' => e = .returned (.slice (some ⟨w.heap.size, 0, none⟩) 2 2) ∧ w'' = w.alloc (.cells #[.iface 76 (.int .i64 50), .iface 76 (.int .i64 t)] 40)) :
    Calls Tryd.prog 84 #[.iface 79 (.pointer (some ⟨b, o, none⟩)), .iface 76 (.int .i64 t), .bool true] w fun e w' => e = .returned (.bool true) ∧ Up w w' := by
  have f1 := run_eql_iface_types (P := Tryd.prog) (ti := 40) 79 76 (.pointer (some ⟨b, o, none⟩)) (.int .i64 t) Tryd.underlying40 (by decide)
  have f2 := e_hasIsF
  have f3 := e_hasUF
  have f4 := e_hasULF
  have f7 := e_methodUnwrapF
  have HU := hide hU
  clear hU
  go_enter Tryd.func84, Tryd.ntmps84
  go_wp2_with fail
  refine wp_loop_rounds 1 ?_
  rw [rounds_succ]
  go_wp2_with fail
  go_at_call 108
  refine HU.out.mono ?_
  rintro _ w2 ⟨rfl, hw2⟩
  have k0 : w2.cell? ⟨w.heap.size, 0, none⟩ = some (.iface 76 (.int .i64 50)) := by rw [hw2]; go_simp
  have k1 : w2.cell? ⟨w.heap.size, 1, none⟩ = some (.iface 76 (.int .i64 t)) := by rw [hw2]; go_simp
  have u2 : Hid (Up w w2) := by rw [hw2]; exact (Up.refl _).alloc _
  clear HU hw2
  go_wp2_with fail
  refine wp_loop_rounds 2 ?_
  rw [rounds_succ]
  go_wp2_with (go_at_call 84; refine (is_num _ _ _).mono ?_; rintro _ w3 ⟨rfl, hw3⟩; obtain rfl : w2 = w3 := hw3.symm)
  rw [rounds_succ]
  go_wp2_with (go_at_call 84; refine (is_num _ _ _).mono ?_; rintro _ w3 ⟨rfl, hw3⟩; obtain rfl : w2 = w3 := hw3.symm)
  go_ret
  exact ⟨rfl, u2.out⟩

set_option maxRecDepth 20000 in
theorem errIs_num (b o : Nat) (t : Int) (w : World) (hA : ∀ w', Up w w' → Calls Tryd.prog 84 #[.iface 79 (.pointer (some ⟨b, o, none⟩)), .iface 76 (.int .i64 t), .bool true] w' fun e w'' => e = .returned (.bool true) ∧ Up w' w'') :
    Calls Tryd.prog 78 #[.iface 79 (.pointer (some ⟨b, o, none⟩)), .iface 76 (.int .i64 t)] w fun e w' => e = .returned (.bool true) ∧ Up w w' := by
  have x42 := @run_callFunc_extern Tryd.prog 69 _ ReflectliteType.typeOf Tryd.func69 (by kernel_rfl) (by kernel_rfl) (by kernel_rfl) (by kernel_rfl)
  have x103 := @run_callFunc_extern Tryd.prog 117 _ (ReflectliteType.method (fun t => do Go.Extern.Rtype.noPackHeld "Comparable" t; pure (.bool (← typeInfo t).comparable))) Tryd.func117 (by kernel_rfl) (by kernel_rfl) (by kernel_rfl) (by kernel_rfl)
  have f1 := e_typeOfE
  have f2 := e_methodComparable
  have f3 := e_comparableE
  have HA := hide hA
  clear hA
  go_enter Tryd.func78, Tryd.ntmps78
  go_wp2_with fail
  go_at_call 84
  refine (HA.out _ (Up.refl _)).mono ?_
  rintro _ w2 ⟨rfl, hu2⟩
  replace hu2 := hide hu2
  go_wp2
  go_ret
  exact ⟨rfl, hu2.out⟩

end Go.Proofs.YtnnbcpopjnlnoaaDoor

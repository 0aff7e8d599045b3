/-
  What errors.as answers of this program's own errors, as the library's text runs.
-/
import Derived.Test.YtobalfckdknbdaaDoorErrFacts2
import Derived.Test.YtobalfckdknbdaaDoorUps
import Derived.ProofKit
import Derived.Deep.DrawnRows
namespace Go.Proofs.YtobalfckdknbdaaDoor
open Go.RowKit Go.Extern.Stop Go.Stop Go.Extern
attribute [local go_sem ↓] Go.wp_at_zero Go.wp_at_succ

theorem e_hasAsE (v : Value) (xT : TypeId) (w : World) : (Instr.typeAssert (.iface 31 v) xT 69 true).run Tryd.prog w = .ok (.tuple #[.nilIface, .bool false]) w := run_typeAssert_lacksB Tryd.underlying69 (by kernel_rfl) (by kernel_rfl) v xT w
theorem e_hasUE (v : Value) (xT : TypeId) (w : World) : (Instr.typeAssert (.iface 31 v) xT 72 true).run Tryd.prog w = .ok (.tuple #[.nilIface, .bool false]) w := run_typeAssert_lacksB Tryd.underlying72 (by kernel_rfl) (by kernel_rfl) v xT w
theorem e_hasULE (v : Value) (xT : TypeId) (w : World) : (Instr.typeAssert (.iface 31 v) xT 73 true).run Tryd.prog w = .ok (.tuple #[.nilIface, .bool false]) w := run_typeAssert_lacksB Tryd.underlying73 (by kernel_rfl) (by kernel_rfl) v xT w
theorem e_hasAsF (v : Value) (xT : TypeId) (w : World) : (Instr.typeAssert (.iface 47 v) xT 69 true).run Tryd.prog w = .ok (.tuple #[.nilIface, .bool false]) w := run_typeAssert_lacksB Tryd.underlying69 (by kernel_rfl) (by kernel_rfl) v xT w
theorem e_hasUF (v : Value) (xT : TypeId) (w : World) : (Instr.typeAssert (.iface 47 v) xT 72 true).run Tryd.prog w = .ok (.tuple #[.nilIface, .bool false]) w := run_typeAssert_lacksB Tryd.underlying72 (by kernel_rfl) (by kernel_rfl) v xT w
theorem e_hasULF (v : Value) (xT : TypeId) (w : World) : (Instr.typeAssert (.iface 47 v) xT 73 true).run Tryd.prog w = .ok (.tuple #[.iface 47 v, .bool true]) w := run_typeAssert_hasB Tryd.underlying73 (by kernel_rfl) v xT w
theorem e_hasAsW (v : Value) (xT : TypeId) (w : World) : (Instr.typeAssert (.iface 44 v) xT 69 true).run Tryd.prog w = .ok (.tuple #[.nilIface, .bool false]) w := run_typeAssert_lacksB Tryd.underlying69 (by kernel_rfl) (by kernel_rfl) v xT w
theorem e_hasUW (v : Value) (xT : TypeId) (w : World) : (Instr.typeAssert (.iface 44 v) xT 72 true).run Tryd.prog w = .ok (.tuple #[.iface 44 v, .bool true]) w := run_typeAssert_hasB Tryd.underlying72 (by kernel_rfl) v xT w
theorem e_hasULW (v : Value) (xT : TypeId) (w : World) : (Instr.typeAssert (.iface 44 v) xT 73 true).run Tryd.prog w = .ok (.tuple #[.nilIface, .bool false]) w := run_typeAssert_lacksB Tryd.underlying73 (by kernel_rfl) (by kernel_rfl) v xT w
set_option maxRecDepth 20000 in
theorem as_missEF (v tgt : Value) (h0 h1 : Value) (n : Int) (w : World) : Calls Tryd.prog 26 #[.iface 31 v, tgt, .agg #[h0, h1, .int .u64 n], .iface 64 (.agg #[hnd 47])] w fun e w' => e = .returned (.bool false) ∧ Up w w' := by
  have x42 := @run_callFunc_extern Tryd.prog 27 _ ReflectliteType.typeOf Tryd.func27 (by kernel_rfl) (by kernel_rfl) (by kernel_rfl) (by kernel_rfl)
  have x102 := @run_callFunc_extern Tryd.prog 56 _ (ReflectliteType.relation "AssignableTo" ReflectliteType.assignableTo) Tryd.func56 (by kernel_rfl) (by kernel_rfl) (by kernel_rfl) (by kernel_rfl)
  have h1 := e_typeOfE
  have h2 := e_methodAssignableTo
  have h3 := e_assignEF
  have h4 := e_hasAsE
  have h5 := e_hasUE
  have h6 := e_hasULE
  go_enter Tryd.func26, Tryd.ntmps26
  go_wp2_with fail
  refine wp_loop_rounds 1 ?_
  rw [rounds_succ]
  go_wp2
  go_ret
  exact ⟨rfl, (Up.refl _).alloc _⟩

set_option maxRecDepth 20000 in
theorem as_missEW (v tgt : Value) (h0 h1 : Value) (n : Int) (w : World) : Calls Tryd.prog 26 #[.iface 31 v, tgt, .agg #[h0, h1, .int .u64 n], .iface 64 (.agg #[hnd 44])] w fun e w' => e = .returned (.bool false) ∧ Up w w' := by
  have x42 := @run_callFunc_extern Tryd.prog 27 _ ReflectliteType.typeOf Tryd.func27 (by kernel_rfl) (by kernel_rfl) (by kernel_rfl) (by kernel_rfl)
  have x102 := @run_callFunc_extern Tryd.prog 56 _ (ReflectliteType.relation "AssignableTo" ReflectliteType.assignableTo) Tryd.func56 (by kernel_rfl) (by kernel_rfl) (by kernel_rfl) (by kernel_rfl)
  have h1 := e_typeOfE
  have h2 := e_methodAssignableTo
  have h3 := e_assignEW
  have h4 := e_hasAsE
  have h5 := e_hasUE
  have h6 := e_hasULE
  go_enter Tryd.func26, Tryd.ntmps26
  go_wp2_with fail
  refine wp_loop_rounds 1 ?_
  rw [rounds_succ]
  go_wp2
  go_ret
  exact ⟨rfl, (Up.refl _).alloc _⟩

set_option maxRecDepth 20000 in
set_option maxHeartbeats 4000000 in
theorem as_hitF (e t a : Addr) (old tgt : Value) (w : World) (ha : w.cell? a = some (.pointer (some t))) (ht : w.cell? t = some old) (hf : w.frozen? t = false) :
    Calls Tryd.prog 26 #[.iface 47 (.pointer (some e)), tgt, .agg #[hnd 48, .pointer (some a), .int .u64 150], .iface 64 (.agg #[hnd 47])] w fun ev w' => ev = .returned (.bool true) ∧ ∃ w2, Up w w2 ∧ w' = w2.setCell t (.pointer (some e)) := by
  have x42 := @run_callFunc_extern Tryd.prog 27 _ ReflectliteType.typeOf Tryd.func27 (by kernel_rfl) (by kernel_rfl) (by kernel_rfl) (by kernel_rfl)
  have x102 := @run_callFunc_extern Tryd.prog 56 _ (ReflectliteType.relation "AssignableTo" ReflectliteType.assignableTo) Tryd.func56 (by kernel_rfl) (by kernel_rfl) (by kernel_rfl) (by kernel_rfl)
  have x38 := @run_callFunc_extern Tryd.prog 23 _ (fun args => ReflectliteValue.unpack (args.getD 0 (.tuple #[]))) Tryd.func23 (by kernel_rfl) (by kernel_rfl) (by kernel_rfl) (by kernel_rfl)
  have x58 := @run_callFunc_extern Tryd.prog 28 _ (ReflectliteValue.method (ReflectliteValue.valueError "reflectlite.Value.Elem" 0) ReflectliteValue.elem) Tryd.func28 (by kernel_rfl) (by kernel_rfl) (by kernel_rfl) (by kernel_rfl)
  have x59 := @run_callFunc_extern Tryd.prog 29 _ ReflectliteValue.set Tryd.func29 (by kernel_rfl) (by kernel_rfl) (by kernel_rfl) (by kernel_rfl)
  have h1 := e_typeOfF
  have h2 := e_methodAssignableTo
  have h3 := e_assignFF
  have h4 := e_valueOfF
  have u1 : Up w (w.alloc (.cells #[hnd 48, .pointer (some a), .int .u64 150] 54)) := (Up.refl _).alloc _
  have u2 : Up w ((w.alloc (.cells #[hnd 48, .pointer (some a), .int .u64 150] 54)).alloc (.cells #[.pointer (some e)] 47)) := ((Up.refl _).alloc _).alloc _
  have h5 := e_elemVFP a t (w.alloc (.cells #[hnd 48, .pointer (some a), .int .u64 150] 54)) (u1.cell ha)
  have h6 := e_setF t ⟨w.heap.size + 1, 0, none⟩ e old ((w.alloc (.cells #[hnd 48, .pointer (some a), .int .u64 150] 54)).alloc (.cells #[.pointer (some e)] 47)) (by go_simp) (u2.cell ht) ((u2.frozen (World.block_lt_of_cell? w t ht)).trans hf)
  clear ha ht hf u1
  replace u2 := hide u2
  go_enter Tryd.func26, Tryd.ntmps26
  go_wp2_with fail
  refine wp_loop_rounds 1 ?_
  rw [rounds_succ]
  go_wp2
  go_ret
  exact ⟨rfl, _, u2.out, rfl⟩

end Go.Proofs.YtobalfckdknbdaaDoor

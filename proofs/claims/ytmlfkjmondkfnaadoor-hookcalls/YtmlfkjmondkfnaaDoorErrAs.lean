/-
  What errors.as answers of this program's own errors, as the library's text runs.
-/
import Derived.Test.YtmlfkjmondkfnaaDoorErrFacts2
import Derived.Test.YtmlfkjmondkfnaaDoorUps
import Derived.ProofKit
import Derived.Deep.DrawnRows
namespace Go.Proofs.YtmlfkjmondkfnaaDoor
open Go.RowKit Go.Extern.Stop Go.Stop Go.Extern
attribute [local go_sem ↓] Go.wp_at_zero Go.wp_at_succ

theorem e_hasAsE (v : Value) (xT : TypeId) (w : World) : (Instr.typeAssert (.iface 31 v) xT 132 true).run Tryd.prog w = .ok (.tuple #[.nilIface, .bool false]) w := run_typeAssert_lacksB Tryd.underlying132 (by kernel_rfl) (by kernel_rfl) v xT w
theorem e_hasUE (v : Value) (xT : TypeId) (w : World) : (Instr.typeAssert (.iface 31 v) xT 135 true).run Tryd.prog w = .ok (.tuple #[.nilIface, .bool false]) w := run_typeAssert_lacksB Tryd.underlying135 (by kernel_rfl) (by kernel_rfl) v xT w
theorem e_hasULE (v : Value) (xT : TypeId) (w : World) : (Instr.typeAssert (.iface 31 v) xT 136 true).run Tryd.prog w = .ok (.tuple #[.nilIface, .bool false]) w := run_typeAssert_lacksB Tryd.underlying136 (by kernel_rfl) (by kernel_rfl) v xT w
theorem e_hasAsF (v : Value) (xT : TypeId) (w : World) : (Instr.typeAssert (.iface 33 v) xT 132 true).run Tryd.prog w = .ok (.tuple #[.nilIface, .bool false]) w := run_typeAssert_lacksB Tryd.underlying132 (by kernel_rfl) (by kernel_rfl) v xT w
theorem e_hasUF (v : Value) (xT : TypeId) (w : World) : (Instr.typeAssert (.iface 33 v) xT 135 true).run Tryd.prog w = .ok (.tuple #[.nilIface, .bool false]) w := run_typeAssert_lacksB Tryd.underlying135 (by kernel_rfl) (by kernel_rfl) v xT w
theorem e_hasULF (v : Value) (xT : TypeId) (w : World) : (Instr.typeAssert (.iface 33 v) xT 136 true).run Tryd.prog w = .ok (.tuple #[.iface 33 v, .bool true]) w := run_typeAssert_hasB Tryd.underlying136 (by kernel_rfl) v xT w
theorem e_hasAsW (v : Value) (xT : TypeId) (w : World) : (Instr.typeAssert (.iface 119 v) xT 132 true).run Tryd.prog w = .ok (.tuple #[.nilIface, .bool false]) w := run_typeAssert_lacksB Tryd.underlying132 (by kernel_rfl) (by kernel_rfl) v xT w
theorem e_hasUW (v : Value) (xT : TypeId) (w : World) : (Instr.typeAssert (.iface 119 v) xT 135 true).run Tryd.prog w = .ok (.tuple #[.iface 119 v, .bool true]) w := run_typeAssert_hasB Tryd.underlying135 (by kernel_rfl) v xT w
theorem e_hasULW (v : Value) (xT : TypeId) (w : World) : (Instr.typeAssert (.iface 119 v) xT 136 true).run Tryd.prog w = .ok (.tuple #[.nilIface, .bool false]) w := run_typeAssert_lacksB Tryd.underlying136 (by kernel_rfl) (by kernel_rfl) v xT w
theorem e_hasAsM (v : Value) (xT : TypeId) (w : World) : (Instr.typeAssert (.iface 23 v) xT 132 true).run Tryd.prog w = .ok (.tuple #[.nilIface, .bool false]) w := run_typeAssert_lacksB Tryd.underlying132 (by kernel_rfl) (by kernel_rfl) v xT w
theorem e_hasUM (v : Value) (xT : TypeId) (w : World) : (Instr.typeAssert (.iface 23 v) xT 135 true).run Tryd.prog w = .ok (.tuple #[.nilIface, .bool false]) w := run_typeAssert_lacksB Tryd.underlying135 (by kernel_rfl) (by kernel_rfl) v xT w
theorem e_hasULM (v : Value) (xT : TypeId) (w : World) : (Instr.typeAssert (.iface 23 v) xT 136 true).run Tryd.prog w = .ok (.tuple #[.nilIface, .bool false]) w := run_typeAssert_lacksB Tryd.underlying136 (by kernel_rfl) (by kernel_rfl) v xT w

set_option maxRecDepth 20000 in
theorem as_missEF (v tgt : Value) (h0 h1 : Value) (n : Int) (w : World) : Calls Tryd.prog 42 #[.iface 31 v, tgt, .agg #[h0, h1, .int .u64 n], .iface 128 (.agg #[hnd 33])] w fun e w' => e = .returned (.bool false) ∧ Up w w' := by
  have x42 := @run_callFunc_extern Tryd.prog 43 _ ReflectliteType.typeOf Tryd.func43 (by kernel_rfl) (by kernel_rfl) (by kernel_rfl) (by kernel_rfl)
  have x102 := @run_callFunc_extern Tryd.prog 114 _ (ReflectliteType.relation "AssignableTo" ReflectliteType.assignableTo) Tryd.func114 (by kernel_rfl) (by kernel_rfl) (by kernel_rfl) (by kernel_rfl)
  have h1 := e_typeOfE
  have h2 := e_methodAssignableTo
  have h3 := e_assignEF
  have h4 := e_hasAsE
  have h5 := e_hasUE
  have h6 := e_hasULE
  go_enter Tryd.func42, Tryd.ntmps42
  go_wp2_with fail
  refine wp_loop_rounds 1 ?_
  rw [rounds_succ]
  go_wp2
  go_ret
  exact ⟨rfl, (Up.refl _).alloc _⟩

set_option maxRecDepth 20000 in
theorem as_missEW (v tgt : Value) (h0 h1 : Value) (n : Int) (w : World) : Calls Tryd.prog 42 #[.iface 31 v, tgt, .agg #[h0, h1, .int .u64 n], .iface 128 (.agg #[hnd 119])] w fun e w' => e = .returned (.bool false) ∧ Up w w' := by
  have x42 := @run_callFunc_extern Tryd.prog 43 _ ReflectliteType.typeOf Tryd.func43 (by kernel_rfl) (by kernel_rfl) (by kernel_rfl) (by kernel_rfl)
  have x102 := @run_callFunc_extern Tryd.prog 114 _ (ReflectliteType.relation "AssignableTo" ReflectliteType.assignableTo) Tryd.func114 (by kernel_rfl) (by kernel_rfl) (by kernel_rfl) (by kernel_rfl)
  have h1 := e_typeOfE
  have h2 := e_methodAssignableTo
  have h3 := e_assignEW
  have h4 := e_hasAsE
  have h5 := e_hasUE
  have h6 := e_hasULE
  go_enter Tryd.func42, Tryd.ntmps42
  go_wp2_with fail
  refine wp_loop_rounds 1 ?_
  rw [rounds_succ]
  go_wp2
  go_ret
  exact ⟨rfl, (Up.refl _).alloc _⟩

set_option maxRecDepth 20000 in
theorem as_missEM (v tgt : Value) (h0 h1 : Value) (n : Int) (w : World) : Calls Tryd.prog 42 #[.iface 31 v, tgt, .agg #[h0, h1, .int .u64 n], .iface 128 (.agg #[hnd 23])] w fun e w' => e = .returned (.bool false) ∧ Up w w' := by
  have x42 := @run_callFunc_extern Tryd.prog 43 _ ReflectliteType.typeOf Tryd.func43 (by kernel_rfl) (by kernel_rfl) (by kernel_rfl) (by kernel_rfl)
  have x102 := @run_callFunc_extern Tryd.prog 114 _ (ReflectliteType.relation "AssignableTo" ReflectliteType.assignableTo) Tryd.func114 (by kernel_rfl) (by kernel_rfl) (by kernel_rfl) (by kernel_rfl)
  have h1 := e_typeOfE
  have h2 := e_methodAssignableTo
  have h3 := e_assignEM
  have h4 := e_hasAsE
  have h5 := e_hasUE
  have h6 := e_hasULE
  go_enter Tryd.func42, Tryd.ntmps42
  go_wp2_with fail
  refine wp_loop_rounds 1 ?_
  rw [rounds_succ]
  go_wp2
  go_ret
  exact ⟨rfl, (Up.refl _).alloc _⟩

set_option maxRecDepth 20000 in
theorem as_missMF (v tgt : Value) (h0 h1 : Value) (n : Int) (w : World) : Calls Tryd.prog 42 #[.iface 23 v, tgt, .agg #[h0, h1, .int .u64 n], .iface 128 (.agg #[hnd 33])] w fun e w' => e = .returned (.bool false) ∧ Up w w' := by
  have x42 := @run_callFunc_extern Tryd.prog 43 _ ReflectliteType.typeOf Tryd.func43 (by kernel_rfl) (by kernel_rfl) (by kernel_rfl) (by kernel_rfl)
  have x102 := @run_callFunc_extern Tryd.prog 114 _ (ReflectliteType.relation "AssignableTo" ReflectliteType.assignableTo) Tryd.func114 (by kernel_rfl) (by kernel_rfl) (by kernel_rfl) (by kernel_rfl)
  have h1 := e_typeOfM
  have h2 := e_methodAssignableTo
  have h3 := e_assignMF
  have h4 := e_hasAsM
  have h5 := e_hasUM
  have h6 := e_hasULM
  go_enter Tryd.func42, Tryd.ntmps42
  go_wp2_with fail
  refine wp_loop_rounds 1 ?_
  rw [rounds_succ]
  go_wp2
  go_ret
  exact ⟨rfl, (Up.refl _).alloc _⟩

set_option maxRecDepth 20000 in
theorem as_missMW (v tgt : Value) (h0 h1 : Value) (n : Int) (w : World) : Calls Tryd.prog 42 #[.iface 23 v, tgt, .agg #[h0, h1, .int .u64 n], .iface 128 (.agg #[hnd 119])] w fun e w' => e = .returned (.bool false) ∧ Up w w' := by
  have x42 := @run_callFunc_extern Tryd.prog 43 _ ReflectliteType.typeOf Tryd.func43 (by kernel_rfl) (by kernel_rfl) (by kernel_rfl) (by kernel_rfl)
  have x102 := @run_callFunc_extern Tryd.prog 114 _ (ReflectliteType.relation "AssignableTo" ReflectliteType.assignableTo) Tryd.func114 (by kernel_rfl) (by kernel_rfl) (by kernel_rfl) (by kernel_rfl)
  have h1 := e_typeOfM
  have h2 := e_methodAssignableTo
  have h3 := e_assignMW
  have h4 := e_hasAsM
  have h5 := e_hasUM
  have h6 := e_hasULM
  go_enter Tryd.func42, Tryd.ntmps42
  go_wp2_with fail
  refine wp_loop_rounds 1 ?_
  rw [rounds_succ]
  go_wp2
  go_ret
  exact ⟨rfl, (Up.refl _).alloc _⟩

set_option maxRecDepth 20000 in
set_option maxHeartbeats 4000000 in
theorem as_hitF (e t a : Addr) (old tgt : Value) (w : World) (ha : w.cell? a = some (.pointer (some t))) (ht : w.cell? t = some old) (hf : w.frozen? t = false) :
    Calls Tryd.prog 42 #[.iface 33 (.pointer (some e)), tgt, .agg #[hnd 35, .pointer (some a), .int .u64 150], .iface 128 (.agg #[hnd 33])] w fun ev w' => ev = .returned (.bool true) ∧ ∃ w2, Up w w2 ∧ w' = w2.setCell t (.pointer (some e)) := by
  have x42 := @run_callFunc_extern Tryd.prog 43 _ ReflectliteType.typeOf Tryd.func43 (by kernel_rfl) (by kernel_rfl) (by kernel_rfl) (by kernel_rfl)
  have x102 := @run_callFunc_extern Tryd.prog 114 _ (ReflectliteType.relation "AssignableTo" ReflectliteType.assignableTo) Tryd.func114 (by kernel_rfl) (by kernel_rfl) (by kernel_rfl) (by kernel_rfl)
  have x38 := @run_callFunc_extern Tryd.prog 39 _ (fun args => ReflectliteValue.unpack (args.getD 0 (.tuple #[]))) Tryd.func39 (by kernel_rfl) (by kernel_rfl) (by kernel_rfl) (by kernel_rfl)
  have x58 := @run_callFunc_extern Tryd.prog 67 _ (ReflectliteValue.method (ReflectliteValue.valueError "reflectlite.Value.Elem" 0) ReflectliteValue.elem) Tryd.func67 (by kernel_rfl) (by kernel_rfl) (by kernel_rfl) (by kernel_rfl)
  have x59 := @run_callFunc_extern Tryd.prog 68 _ ReflectliteValue.set Tryd.func68 (by kernel_rfl) (by kernel_rfl) (by kernel_rfl) (by kernel_rfl)
  have h1 := e_typeOfF
  have h2 := e_methodAssignableTo
  have h3 := e_assignFF
  have h4 := e_valueOfF
  have u1 : Up w (w.alloc (.cells #[hnd 35, .pointer (some a), .int .u64 150] 91)) := (Up.refl _).alloc _
  have u2 : Up w ((w.alloc (.cells #[hnd 35, .pointer (some a), .int .u64 150] 91)).alloc (.cells #[.pointer (some e)] 33)) := ((Up.refl _).alloc _).alloc _
  have h5 := e_elemVFP a t (w.alloc (.cells #[hnd 35, .pointer (some a), .int .u64 150] 91)) (u1.cell ha)
  have h6 := e_setF t ⟨w.heap.size + 1, 0, none⟩ e old ((w.alloc (.cells #[hnd 35, .pointer (some a), .int .u64 150] 91)).alloc (.cells #[.pointer (some e)] 33)) (by go_simp) (u2.cell ht) ((u2.frozen (World.block_lt_of_cell? w t ht)).trans hf)
  clear ha ht hf u1
  replace u2 := hide u2
  go_enter Tryd.func42, Tryd.ntmps42
  go_wp2_with fail
  refine wp_loop_rounds 1 ?_
  rw [rounds_succ]
  go_wp2
  go_ret
  exact ⟨rfl, _, u2.out, rfl⟩

set_option maxRecDepth 20000 in
set_option maxHeartbeats 4000000 in
theorem as_hitM (e t a : Addr) (old tgt : Value) (w : World) (ha : w.cell? a = some (.pointer (some t))) (ht : w.cell? t = some old) (hf : w.frozen? t = false) :
    Calls Tryd.prog 42 #[.iface 23 (.pointer (some e)), tgt, .agg #[hnd 102, .pointer (some a), .int .u64 150], .iface 128 (.agg #[hnd 23])] w fun ev w' => ev = .returned (.bool true) ∧ ∃ w2, Up w w2 ∧ w' = w2.setCell t (.pointer (some e)) := by
  have x42 := @run_callFunc_extern Tryd.prog 43 _ ReflectliteType.typeOf Tryd.func43 (by kernel_rfl) (by kernel_rfl) (by kernel_rfl) (by kernel_rfl)
  have x102 := @run_callFunc_extern Tryd.prog 114 _ (ReflectliteType.relation "AssignableTo" ReflectliteType.assignableTo) Tryd.func114 (by kernel_rfl) (by kernel_rfl) (by kernel_rfl) (by kernel_rfl)
  have x38 := @run_callFunc_extern Tryd.prog 39 _ (fun args => ReflectliteValue.unpack (args.getD 0 (.tuple #[]))) Tryd.func39 (by kernel_rfl) (by kernel_rfl) (by kernel_rfl) (by kernel_rfl)
  have x58 := @run_callFunc_extern Tryd.prog 67 _ (ReflectliteValue.method (ReflectliteValue.valueError "reflectlite.Value.Elem" 0) ReflectliteValue.elem) Tryd.func67 (by kernel_rfl) (by kernel_rfl) (by kernel_rfl) (by kernel_rfl)
  have x59 := @run_callFunc_extern Tryd.prog 68 _ ReflectliteValue.set Tryd.func68 (by kernel_rfl) (by kernel_rfl) (by kernel_rfl) (by kernel_rfl)
  have h1 := e_typeOfM
  have h2 := e_methodAssignableTo
  have h3 := e_assignMM
  have h4 := e_valueOfM
  have u1 : Up w (w.alloc (.cells #[hnd 102, .pointer (some a), .int .u64 150] 91)) := (Up.refl _).alloc _
  have u2 : Up w ((w.alloc (.cells #[hnd 102, .pointer (some a), .int .u64 150] 91)).alloc (.cells #[.pointer (some e)] 23)) := ((Up.refl _).alloc _).alloc _
  have h5 := e_elemVMP a t (w.alloc (.cells #[hnd 102, .pointer (some a), .int .u64 150] 91)) (u1.cell ha)
  have h6 := e_setM t ⟨w.heap.size + 1, 0, none⟩ e old ((w.alloc (.cells #[hnd 102, .pointer (some a), .int .u64 150] 91)).alloc (.cells #[.pointer (some e)] 23)) (by go_simp) (u2.cell ht) ((u2.frozen (World.block_lt_of_cell? w t ht)).trans hf)
  clear ha ht hf u1
  replace u2 := hide u2
  go_enter Tryd.func42, Tryd.ntmps42
  go_wp2_with fail
  refine wp_loop_rounds 1 ?_
  rw [rounds_succ]
  go_wp2
  go_ret
  exact ⟨rfl, _, u2.out, rfl⟩

end Go.Proofs.YtmlfkjmondkfnaaDoor

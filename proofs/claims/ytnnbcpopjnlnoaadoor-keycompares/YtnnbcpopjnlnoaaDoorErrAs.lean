/-
  What errors.as answers of this program's own errors, as the library's text runs.
-/
import Derived.Test.YtnnbcpopjnlnoaaDoorErrFacts2
import Derived.Test.YtnnbcpopjnlnoaaDoorUps
import Derived.ProofKit
import Derived.Deep.DrawnRows
namespace Go.Proofs.YtnnbcpopjnlnoaaDoor
open Go.RowKit Go.Extern.Stop Go.Stop Go.Extern
attribute [local go_sem ↓] Go.wp_at_zero Go.wp_at_succ

theorem e_hasAsE (v : Value) (xT : TypeId) (w : World) : (Instr.typeAssert (.iface 76 v) xT 138 true).run Tryd.prog w = .ok (.tuple #[.nilIface, .bool false]) w := run_typeAssert_lacksB Tryd.underlying138 (by kernel_rfl) (by kernel_rfl) v xT w
theorem e_hasUE (v : Value) (xT : TypeId) (w : World) : (Instr.typeAssert (.iface 76 v) xT 141 true).run Tryd.prog w = .ok (.tuple #[.nilIface, .bool false]) w := run_typeAssert_lacksB Tryd.underlying141 (by kernel_rfl) (by kernel_rfl) v xT w
theorem e_hasULE (v : Value) (xT : TypeId) (w : World) : (Instr.typeAssert (.iface 76 v) xT 142 true).run Tryd.prog w = .ok (.tuple #[.nilIface, .bool false]) w := run_typeAssert_lacksB Tryd.underlying142 (by kernel_rfl) (by kernel_rfl) v xT w
theorem e_hasAsF (v : Value) (xT : TypeId) (w : World) : (Instr.typeAssert (.iface 79 v) xT 138 true).run Tryd.prog w = .ok (.tuple #[.nilIface, .bool false]) w := run_typeAssert_lacksB Tryd.underlying138 (by kernel_rfl) (by kernel_rfl) v xT w
theorem e_hasUF (v : Value) (xT : TypeId) (w : World) : (Instr.typeAssert (.iface 79 v) xT 141 true).run Tryd.prog w = .ok (.tuple #[.nilIface, .bool false]) w := run_typeAssert_lacksB Tryd.underlying141 (by kernel_rfl) (by kernel_rfl) v xT w
theorem e_hasULF (v : Value) (xT : TypeId) (w : World) : (Instr.typeAssert (.iface 79 v) xT 142 true).run Tryd.prog w = .ok (.tuple #[.iface 79 v, .bool true]) w := run_typeAssert_hasB Tryd.underlying142 (by kernel_rfl) v xT w
theorem e_hasAsW (v : Value) (xT : TypeId) (w : World) : (Instr.typeAssert (.iface 87 v) xT 138 true).run Tryd.prog w = .ok (.tuple #[.nilIface, .bool false]) w := run_typeAssert_lacksB Tryd.underlying138 (by kernel_rfl) (by kernel_rfl) v xT w
theorem e_hasUW (v : Value) (xT : TypeId) (w : World) : (Instr.typeAssert (.iface 87 v) xT 141 true).run Tryd.prog w = .ok (.tuple #[.iface 87 v, .bool true]) w := run_typeAssert_hasB Tryd.underlying141 (by kernel_rfl) v xT w
theorem e_hasULW (v : Value) (xT : TypeId) (w : World) : (Instr.typeAssert (.iface 87 v) xT 142 true).run Tryd.prog w = .ok (.tuple #[.nilIface, .bool false]) w := run_typeAssert_lacksB Tryd.underlying142 (by kernel_rfl) (by kernel_rfl) v xT w
theorem e_hasAsM (v : Value) (xT : TypeId) (w : World) : (Instr.typeAssert (.iface 96 v) xT 138 true).run Tryd.prog w = .ok (.tuple #[.nilIface, .bool false]) w := run_typeAssert_lacksB Tryd.underlying138 (by kernel_rfl) (by kernel_rfl) v xT w
theorem e_hasUM (v : Value) (xT : TypeId) (w : World) : (Instr.typeAssert (.iface 96 v) xT 141 true).run Tryd.prog w = .ok (.tuple #[.nilIface, .bool false]) w := run_typeAssert_lacksB Tryd.underlying141 (by kernel_rfl) (by kernel_rfl) v xT w
theorem e_hasULM (v : Value) (xT : TypeId) (w : World) : (Instr.typeAssert (.iface 96 v) xT 142 true).run Tryd.prog w = .ok (.tuple #[.nilIface, .bool false]) w := run_typeAssert_lacksB Tryd.underlying142 (by kernel_rfl) (by kernel_rfl) v xT w

set_option maxRecDepth 20000 in
theorem as_missEF (v tgt : Value) (h0 h1 : Value) (n : Int) (w : World) : Calls Tryd.prog 53 #[.iface 76 v, tgt, .agg #[h0, h1, .int .u64 n], .iface 133 (.agg #[hnd 79])] w fun e w' => e = .returned (.bool false) ∧ Up w w' := by
  have x42 := @run_callFunc_extern Tryd.prog 69 _ ReflectliteType.typeOf Tryd.func69 (by kernel_rfl) (by kernel_rfl) (by kernel_rfl) (by kernel_rfl)
  have x102 := @run_callFunc_extern Tryd.prog 116 _ (ReflectliteType.relation "AssignableTo" ReflectliteType.assignableTo) Tryd.func116 (by kernel_rfl) (by kernel_rfl) (by kernel_rfl) (by kernel_rfl)
  have h1 := e_typeOfE
  have h2 := e_methodAssignableTo
  have h3 := e_assignEF
  have h4 := e_hasAsE
  have h5 := e_hasUE
  have h6 := e_hasULE
  go_enter Tryd.func53, Tryd.ntmps53
  go_wp2_with fail
  refine wp_loop_rounds 1 ?_
  rw [rounds_succ]
  go_wp2
  go_ret
  exact ⟨rfl, (Up.refl _).alloc _⟩

set_option maxRecDepth 20000 in
theorem as_missEW (v tgt : Value) (h0 h1 : Value) (n : Int) (w : World) : Calls Tryd.prog 53 #[.iface 76 v, tgt, .agg #[h0, h1, .int .u64 n], .iface 133 (.agg #[hnd 87])] w fun e w' => e = .returned (.bool false) ∧ Up w w' := by
  have x42 := @run_callFunc_extern Tryd.prog 69 _ ReflectliteType.typeOf Tryd.func69 (by kernel_rfl) (by kernel_rfl) (by kernel_rfl) (by kernel_rfl)
  have x102 := @run_callFunc_extern Tryd.prog 116 _ (ReflectliteType.relation "AssignableTo" ReflectliteType.assignableTo) Tryd.func116 (by kernel_rfl) (by kernel_rfl) (by kernel_rfl) (by kernel_rfl)
  have h1 := e_typeOfE
  have h2 := e_methodAssignableTo
  have h3 := e_assignEW
  have h4 := e_hasAsE
  have h5 := e_hasUE
  have h6 := e_hasULE
  go_enter Tryd.func53, Tryd.ntmps53
  go_wp2_with fail
  refine wp_loop_rounds 1 ?_
  rw [rounds_succ]
  go_wp2
  go_ret
  exact ⟨rfl, (Up.refl _).alloc _⟩

set_option maxRecDepth 20000 in
theorem as_missEM (v tgt : Value) (h0 h1 : Value) (n : Int) (w : World) : Calls Tryd.prog 53 #[.iface 76 v, tgt, .agg #[h0, h1, .int .u64 n], .iface 133 (.agg #[hnd 96])] w fun e w' => e = .returned (.bool false) ∧ Up w w' := by
  have x42 := @run_callFunc_extern Tryd.prog 69 _ ReflectliteType.typeOf Tryd.func69 (by kernel_rfl) (by kernel_rfl) (by kernel_rfl) (by kernel_rfl)
  have x102 := @run_callFunc_extern Tryd.prog 116 _ (ReflectliteType.relation "AssignableTo" ReflectliteType.assignableTo) Tryd.func116 (by kernel_rfl) (by kernel_rfl) (by kernel_rfl) (by kernel_rfl)
  have h1 := e_typeOfE
  have h2 := e_methodAssignableTo
  have h3 := e_assignEM
  have h4 := e_hasAsE
  have h5 := e_hasUE
  have h6 := e_hasULE
  go_enter Tryd.func53, Tryd.ntmps53
  go_wp2_with fail
  refine wp_loop_rounds 1 ?_
  rw [rounds_succ]
  go_wp2
  go_ret
  exact ⟨rfl, (Up.refl _).alloc _⟩

set_option maxRecDepth 20000 in
theorem as_missMF (v tgt : Value) (h0 h1 : Value) (n : Int) (w : World) : Calls Tryd.prog 53 #[.iface 96 v, tgt, .agg #[h0, h1, .int .u64 n], .iface 133 (.agg #[hnd 79])] w fun e w' => e = .returned (.bool false) ∧ Up w w' := by
  have x42 := @run_callFunc_extern Tryd.prog 69 _ ReflectliteType.typeOf Tryd.func69 (by kernel_rfl) (by kernel_rfl) (by kernel_rfl) (by kernel_rfl)
  have x102 := @run_callFunc_extern Tryd.prog 116 _ (ReflectliteType.relation "AssignableTo" ReflectliteType.assignableTo) Tryd.func116 (by kernel_rfl) (by kernel_rfl) (by kernel_rfl) (by kernel_rfl)
  have h1 := e_typeOfM
  have h2 := e_methodAssignableTo
  have h3 := e_assignMF
  have h4 := e_hasAsM
  have h5 := e_hasUM
  have h6 := e_hasULM
  go_enter Tryd.func53, Tryd.ntmps53
  go_wp2_with fail
  refine wp_loop_rounds 1 ?_
  rw [rounds_succ]
  go_wp2
  go_ret
  exact ⟨rfl, (Up.refl _).alloc _⟩

set_option maxRecDepth 20000 in
theorem as_missMW (v tgt : Value) (h0 h1 : Value) (n : Int) (w : World) : Calls Tryd.prog 53 #[.iface 96 v, tgt, .agg #[h0, h1, .int .u64 n], .iface 133 (.agg #[hnd 87])] w fun e w' => e = .returned (.bool false) ∧ Up w w' := by
  have x42 := @run_callFunc_extern Tryd.prog 69 _ ReflectliteType.typeOf Tryd.func69 (by kernel_rfl) (by kernel_rfl) (by kernel_rfl) (by kernel_rfl)
  have x102 := @run_callFunc_extern Tryd.prog 116 _ (ReflectliteType.relation "AssignableTo" ReflectliteType.assignableTo) Tryd.func116 (by kernel_rfl) (by kernel_rfl) (by kernel_rfl) (by kernel_rfl)
  have h1 := e_typeOfM
  have h2 := e_methodAssignableTo
  have h3 := e_assignMW
  have h4 := e_hasAsM
  have h5 := e_hasUM
  have h6 := e_hasULM
  go_enter Tryd.func53, Tryd.ntmps53
  go_wp2_with fail
  refine wp_loop_rounds 1 ?_
  rw [rounds_succ]
  go_wp2
  go_ret
  exact ⟨rfl, (Up.refl _).alloc _⟩

set_option maxRecDepth 20000 in
set_option maxHeartbeats 4000000 in
theorem as_hitF (e t a : Addr) (old tgt : Value) (w : World) (ha : w.cell? a = some (.pointer (some t))) (ht : w.cell? t = some old) (hf : w.frozen? t = false) :
    Calls Tryd.prog 53 #[.iface 79 (.pointer (some e)), tgt, .agg #[hnd 81, .pointer (some a), .int .u64 150], .iface 133 (.agg #[hnd 79])] w fun ev w' => ev = .returned (.bool true) ∧ ∃ w2, Up w w2 ∧ w' = w2.setCell t (.pointer (some e)) := by
  have x42 := @run_callFunc_extern Tryd.prog 69 _ ReflectliteType.typeOf Tryd.func69 (by kernel_rfl) (by kernel_rfl) (by kernel_rfl) (by kernel_rfl)
  have x102 := @run_callFunc_extern Tryd.prog 116 _ (ReflectliteType.relation "AssignableTo" ReflectliteType.assignableTo) Tryd.func116 (by kernel_rfl) (by kernel_rfl) (by kernel_rfl) (by kernel_rfl)
  have x38 := @run_callFunc_extern Tryd.prog 50 _ (fun args => ReflectliteValue.unpack (args.getD 0 (.tuple #[]))) Tryd.func50 (by kernel_rfl) (by kernel_rfl) (by kernel_rfl) (by kernel_rfl)
  have x58 := @run_callFunc_extern Tryd.prog 70 _ (ReflectliteValue.method (ReflectliteValue.valueError "reflectlite.Value.Elem" 0) ReflectliteValue.elem) Tryd.func70 (by kernel_rfl) (by kernel_rfl) (by kernel_rfl) (by kernel_rfl)
  have x59 := @run_callFunc_extern Tryd.prog 71 _ ReflectliteValue.set Tryd.func71 (by kernel_rfl) (by kernel_rfl) (by kernel_rfl) (by kernel_rfl)
  have h1 := e_typeOfF
  have h2 := e_methodAssignableTo
  have h3 := e_assignFF
  have h4 := e_valueOfF
  have u1 : Up w (w.alloc (.cells #[hnd 81, .pointer (some a), .int .u64 150] 112)) := (Up.refl _).alloc _
  have u2 : Up w ((w.alloc (.cells #[hnd 81, .pointer (some a), .int .u64 150] 112)).alloc (.cells #[.pointer (some e)] 79)) := ((Up.refl _).alloc _).alloc _
  have h5 := e_elemVFP a t (w.alloc (.cells #[hnd 81, .pointer (some a), .int .u64 150] 112)) (u1.cell ha)
  have h6 := e_setF t ⟨w.heap.size + 1, 0, none⟩ e old ((w.alloc (.cells #[hnd 81, .pointer (some a), .int .u64 150] 112)).alloc (.cells #[.pointer (some e)] 79)) (by go_simp) (u2.cell ht) ((u2.frozen (World.block_lt_of_cell? w t ht)).trans hf)
  clear ha ht hf u1
  replace u2 := hide u2
  go_enter Tryd.func53, Tryd.ntmps53
  go_wp2_with fail
  refine wp_loop_rounds 1 ?_
  rw [rounds_succ]
  go_wp2
  go_ret
  exact ⟨rfl, _, u2.out, rfl⟩

set_option maxRecDepth 20000 in
set_option maxHeartbeats 4000000 in
theorem as_hitM (e t a : Addr) (old tgt : Value) (w : World) (ha : w.cell? a = some (.pointer (some t))) (ht : w.cell? t = some old) (hf : w.frozen? t = false) :
    Calls Tryd.prog 53 #[.iface 96 (.pointer (some e)), tgt, .agg #[hnd 97, .pointer (some a), .int .u64 150], .iface 133 (.agg #[hnd 96])] w fun ev w' => ev = .returned (.bool true) ∧ ∃ w2, Up w w2 ∧ w' = w2.setCell t (.pointer (some e)) := by
  have x42 := @run_callFunc_extern Tryd.prog 69 _ ReflectliteType.typeOf Tryd.func69 (by kernel_rfl) (by kernel_rfl) (by kernel_rfl) (by kernel_rfl)
  have x102 := @run_callFunc_extern Tryd.prog 116 _ (ReflectliteType.relation "AssignableTo" ReflectliteType.assignableTo) Tryd.func116 (by kernel_rfl) (by kernel_rfl) (by kernel_rfl) (by kernel_rfl)
  have x38 := @run_callFunc_extern Tryd.prog 50 _ (fun args => ReflectliteValue.unpack (args.getD 0 (.tuple #[]))) Tryd.func50 (by kernel_rfl) (by kernel_rfl) (by kernel_rfl) (by kernel_rfl)
  have x58 := @run_callFunc_extern Tryd.prog 70 _ (ReflectliteValue.method (ReflectliteValue.valueError "reflectlite.Value.Elem" 0) ReflectliteValue.elem) Tryd.func70 (by kernel_rfl) (by kernel_rfl) (by kernel_rfl) (by kernel_rfl)
  have x59 := @run_callFunc_extern Tryd.prog 71 _ ReflectliteValue.set Tryd.func71 (by kernel_rfl) (by kernel_rfl) (by kernel_rfl) (by kernel_rfl)
  have h1 := e_typeOfM
  have h2 := e_methodAssignableTo
  have h3 := e_assignMM
  have h4 := e_valueOfM
  have u1 : Up w (w.alloc (.cells #[hnd 97, .pointer (some a), .int .u64 150] 112)) := (Up.refl _).alloc _
  have u2 : Up w ((w.alloc (.cells #[hnd 97, .pointer (some a), .int .u64 150] 112)).alloc (.cells #[.pointer (some e)] 96)) := ((Up.refl _).alloc _).alloc _
  have h5 := e_elemVMP a t (w.alloc (.cells #[hnd 97, .pointer (some a), .int .u64 150] 112)) (u1.cell ha)
  have h6 := e_setM t ⟨w.heap.size + 1, 0, none⟩ e old ((w.alloc (.cells #[hnd 97, .pointer (some a), .int .u64 150] 112)).alloc (.cells #[.pointer (some e)] 96)) (by go_simp) (u2.cell ht) ((u2.frozen (World.block_lt_of_cell? w t ht)).trans hf)
  clear ha ht hf u1
  replace u2 := hide u2
  go_enter Tryd.func53, Tryd.ntmps53
  go_wp2_with fail
  refine wp_loop_rounds 1 ?_
  rw [rounds_succ]
  go_wp2
  go_ret
  exact ⟨rfl, _, u2.out, rfl⟩

end Go.Proofs.YtnnbcpopjnlnoaaDoor

/-
  What errors.as answers of this program's own errors, as the library's text runs.
  What a fault unwraps to, and what errors.as answers of one, as the texts run.
  What errors.as answers of a fault with another error, as the texts run.
  What errors.As answers of this program's errors, out of what errors.as does, as the library's text runs.
-/
import Derived.Test.YtnokokhbcfkifaaGreatDoorErrFactsG
import Derived.Test.YtnokokhbcfkifaaGreatDoorUps
import Derived.ProofKit
import Derived.Deep.DrawnRows
namespace Go.Proofs.YtnokokhbcfkifaaGreatDoor
open Go.RowKit Go.Extern.Stop Go.Stop Go.Extern
attribute [local go_sem ↓] Go.wp_at_zero Go.wp_at_succ

theorem e_hasAsE (v : Value) (xT : TypeId) (w : World) : (Instr.typeAssert (.iface 56 v) xT 171 true).run Tryz.prog w = .ok (.tuple #[.nilIface, .bool false]) w := run_typeAssert_lacksB Tryz.underlying171 (by kernel_rfl) (by kernel_rfl) v xT w
theorem e_hasUE (v : Value) (xT : TypeId) (w : World) : (Instr.typeAssert (.iface 56 v) xT 174 true).run Tryz.prog w = .ok (.tuple #[.nilIface, .bool false]) w := run_typeAssert_lacksB Tryz.underlying174 (by kernel_rfl) (by kernel_rfl) v xT w
theorem e_hasULE (v : Value) (xT : TypeId) (w : World) : (Instr.typeAssert (.iface 56 v) xT 175 true).run Tryz.prog w = .ok (.tuple #[.nilIface, .bool false]) w := run_typeAssert_lacksB Tryz.underlying175 (by kernel_rfl) (by kernel_rfl) v xT w
theorem e_hasAsF (v : Value) (xT : TypeId) (w : World) : (Instr.typeAssert (.iface 106 v) xT 171 true).run Tryz.prog w = .ok (.tuple #[.nilIface, .bool false]) w := run_typeAssert_lacksB Tryz.underlying171 (by kernel_rfl) (by kernel_rfl) v xT w
theorem e_hasUF (v : Value) (xT : TypeId) (w : World) : (Instr.typeAssert (.iface 106 v) xT 174 true).run Tryz.prog w = .ok (.tuple #[.nilIface, .bool false]) w := run_typeAssert_lacksB Tryz.underlying174 (by kernel_rfl) (by kernel_rfl) v xT w
theorem e_hasULF (v : Value) (xT : TypeId) (w : World) : (Instr.typeAssert (.iface 106 v) xT 175 true).run Tryz.prog w = .ok (.tuple #[.iface 106 v, .bool true]) w := run_typeAssert_hasB Tryz.underlying175 (by kernel_rfl) v xT w
theorem e_hasAsW (v : Value) (xT : TypeId) (w : World) : (Instr.typeAssert (.iface 98 v) xT 171 true).run Tryz.prog w = .ok (.tuple #[.nilIface, .bool false]) w := run_typeAssert_lacksB Tryz.underlying171 (by kernel_rfl) (by kernel_rfl) v xT w
theorem e_hasUW (v : Value) (xT : TypeId) (w : World) : (Instr.typeAssert (.iface 98 v) xT 174 true).run Tryz.prog w = .ok (.tuple #[.iface 98 v, .bool true]) w := run_typeAssert_hasB Tryz.underlying174 (by kernel_rfl) v xT w
theorem e_hasULW (v : Value) (xT : TypeId) (w : World) : (Instr.typeAssert (.iface 98 v) xT 175 true).run Tryz.prog w = .ok (.tuple #[.nilIface, .bool false]) w := run_typeAssert_lacksB Tryz.underlying175 (by kernel_rfl) (by kernel_rfl) v xT w
theorem e_hasAsM (v : Value) (xT : TypeId) (w : World) : (Instr.typeAssert (.iface 147 v) xT 171 true).run Tryz.prog w = .ok (.tuple #[.nilIface, .bool false]) w := run_typeAssert_lacksB Tryz.underlying171 (by kernel_rfl) (by kernel_rfl) v xT w
theorem e_hasUM (v : Value) (xT : TypeId) (w : World) : (Instr.typeAssert (.iface 147 v) xT 174 true).run Tryz.prog w = .ok (.tuple #[.nilIface, .bool false]) w := run_typeAssert_lacksB Tryz.underlying174 (by kernel_rfl) (by kernel_rfl) v xT w
theorem e_hasULM (v : Value) (xT : TypeId) (w : World) : (Instr.typeAssert (.iface 147 v) xT 175 true).run Tryz.prog w = .ok (.tuple #[.nilIface, .bool false]) w := run_typeAssert_lacksB Tryz.underlying175 (by kernel_rfl) (by kernel_rfl) v xT w

set_option maxRecDepth 20000 in
theorem as_missEF (v tgt : Value) (h0 h1 : Value) (n : Int) (w : World) : Calls Tryz.prog 70 #[.iface 56 v, tgt, .agg #[h0, h1, .int .u64 n], .iface 166 (.agg #[hnd 106])] w fun e w' => e = .returned (.bool false) ∧ Up w w' := by
  have x42 := @run_callFunc_extern Tryz.prog 87 _ ReflectliteType.typeOf Tryz.func87 (by kernel_rfl) (by kernel_rfl) (by kernel_rfl) (by kernel_rfl)
  have x102 := @run_callFunc_extern Tryz.prog 160 _ (ReflectliteType.relation "AssignableTo" ReflectliteType.assignableTo) Tryz.func160 (by kernel_rfl) (by kernel_rfl) (by kernel_rfl) (by kernel_rfl)
  have h1 := e_typeOfE
  have h2 := e_methodAssignableTo
  have h3 := e_assignEF
  have h4 := e_hasAsE
  have h5 := e_hasUE
  have h6 := e_hasULE
  go_enter Tryz.func70, Tryz.ntmps70
  go_wp2_with fail
  refine wp_loop_rounds 1 ?_
  rw [rounds_succ]
  go_wp2
  go_ret
  exact ⟨rfl, (Up.refl _).alloc _⟩

set_option maxRecDepth 20000 in
theorem as_missEW (v tgt : Value) (h0 h1 : Value) (n : Int) (w : World) : Calls Tryz.prog 70 #[.iface 56 v, tgt, .agg #[h0, h1, .int .u64 n], .iface 166 (.agg #[hnd 98])] w fun e w' => e = .returned (.bool false) ∧ Up w w' := by
  have x42 := @run_callFunc_extern Tryz.prog 87 _ ReflectliteType.typeOf Tryz.func87 (by kernel_rfl) (by kernel_rfl) (by kernel_rfl) (by kernel_rfl)
  have x102 := @run_callFunc_extern Tryz.prog 160 _ (ReflectliteType.relation "AssignableTo" ReflectliteType.assignableTo) Tryz.func160 (by kernel_rfl) (by kernel_rfl) (by kernel_rfl) (by kernel_rfl)
  have h1 := e_typeOfE
  have h2 := e_methodAssignableTo
  have h3 := e_assignEW
  have h4 := e_hasAsE
  have h5 := e_hasUE
  have h6 := e_hasULE
  go_enter Tryz.func70, Tryz.ntmps70
  go_wp2_with fail
  refine wp_loop_rounds 1 ?_
  rw [rounds_succ]
  go_wp2
  go_ret
  exact ⟨rfl, (Up.refl _).alloc _⟩

set_option maxRecDepth 20000 in
theorem as_missEM (v tgt : Value) (h0 h1 : Value) (n : Int) (w : World) : Calls Tryz.prog 70 #[.iface 56 v, tgt, .agg #[h0, h1, .int .u64 n], .iface 166 (.agg #[hnd 147])] w fun e w' => e = .returned (.bool false) ∧ Up w w' := by
  have x42 := @run_callFunc_extern Tryz.prog 87 _ ReflectliteType.typeOf Tryz.func87 (by kernel_rfl) (by kernel_rfl) (by kernel_rfl) (by kernel_rfl)
  have x102 := @run_callFunc_extern Tryz.prog 160 _ (ReflectliteType.relation "AssignableTo" ReflectliteType.assignableTo) Tryz.func160 (by kernel_rfl) (by kernel_rfl) (by kernel_rfl) (by kernel_rfl)
  have h1 := e_typeOfE
  have h2 := e_methodAssignableTo
  have h3 := e_assignEM
  have h4 := e_hasAsE
  have h5 := e_hasUE
  have h6 := e_hasULE
  go_enter Tryz.func70, Tryz.ntmps70
  go_wp2_with fail
  refine wp_loop_rounds 1 ?_
  rw [rounds_succ]
  go_wp2
  go_ret
  exact ⟨rfl, (Up.refl _).alloc _⟩

set_option maxRecDepth 20000 in
theorem as_missMF (v tgt : Value) (h0 h1 : Value) (n : Int) (w : World) : Calls Tryz.prog 70 #[.iface 147 v, tgt, .agg #[h0, h1, .int .u64 n], .iface 166 (.agg #[hnd 106])] w fun e w' => e = .returned (.bool false) ∧ Up w w' := by
  have x42 := @run_callFunc_extern Tryz.prog 87 _ ReflectliteType.typeOf Tryz.func87 (by kernel_rfl) (by kernel_rfl) (by kernel_rfl) (by kernel_rfl)
  have x102 := @run_callFunc_extern Tryz.prog 160 _ (ReflectliteType.relation "AssignableTo" ReflectliteType.assignableTo) Tryz.func160 (by kernel_rfl) (by kernel_rfl) (by kernel_rfl) (by kernel_rfl)
  have h1 := e_typeOfM
  have h2 := e_methodAssignableTo
  have h3 := e_assignMF
  have h4 := e_hasAsM
  have h5 := e_hasUM
  have h6 := e_hasULM
  go_enter Tryz.func70, Tryz.ntmps70
  go_wp2_with fail
  refine wp_loop_rounds 1 ?_
  rw [rounds_succ]
  go_wp2
  go_ret
  exact ⟨rfl, (Up.refl _).alloc _⟩

set_option maxRecDepth 20000 in
theorem as_missMW (v tgt : Value) (h0 h1 : Value) (n : Int) (w : World) : Calls Tryz.prog 70 #[.iface 147 v, tgt, .agg #[h0, h1, .int .u64 n], .iface 166 (.agg #[hnd 98])] w fun e w' => e = .returned (.bool false) ∧ Up w w' := by
  have x42 := @run_callFunc_extern Tryz.prog 87 _ ReflectliteType.typeOf Tryz.func87 (by kernel_rfl) (by kernel_rfl) (by kernel_rfl) (by kernel_rfl)
  have x102 := @run_callFunc_extern Tryz.prog 160 _ (ReflectliteType.relation "AssignableTo" ReflectliteType.assignableTo) Tryz.func160 (by kernel_rfl) (by kernel_rfl) (by kernel_rfl) (by kernel_rfl)
  have h1 := e_typeOfM
  have h2 := e_methodAssignableTo
  have h3 := e_assignMW
  have h4 := e_hasAsM
  have h5 := e_hasUM
  have h6 := e_hasULM
  go_enter Tryz.func70, Tryz.ntmps70
  go_wp2_with fail
  refine wp_loop_rounds 1 ?_
  rw [rounds_succ]
  go_wp2
  go_ret
  exact ⟨rfl, (Up.refl _).alloc _⟩

set_option maxRecDepth 20000 in
set_option maxHeartbeats 4000000 in
theorem as_hitF (e t a : Addr) (old tgt : Value) (w : World) (ha : w.cell? a = some (.pointer (some t))) (ht : w.cell? t = some old) (hf : w.frozen? t = false) :
    Calls Tryz.prog 70 #[.iface 106 (.pointer (some e)), tgt, .agg #[hnd 107, .pointer (some a), .int .u64 150], .iface 166 (.agg #[hnd 106])] w fun ev w' => ev = .returned (.bool true) ∧ ∃ w2, Up w w2 ∧ w' = w2.setCell t (.pointer (some e)) := by
  have x42 := @run_callFunc_extern Tryz.prog 87 _ ReflectliteType.typeOf Tryz.func87 (by kernel_rfl) (by kernel_rfl) (by kernel_rfl) (by kernel_rfl)
  have x102 := @run_callFunc_extern Tryz.prog 160 _ (ReflectliteType.relation "AssignableTo" ReflectliteType.assignableTo) Tryz.func160 (by kernel_rfl) (by kernel_rfl) (by kernel_rfl) (by kernel_rfl)
  have x38 := @run_callFunc_extern Tryz.prog 67 _ (fun args => ReflectliteValue.unpack (args.getD 0 (.tuple #[]))) Tryz.func67 (by kernel_rfl) (by kernel_rfl) (by kernel_rfl) (by kernel_rfl)
  have x58 := @run_callFunc_extern Tryz.prog 88 _ (ReflectliteValue.method (ReflectliteValue.valueError "reflectlite.Value.Elem" 0) ReflectliteValue.elem) Tryz.func88 (by kernel_rfl) (by kernel_rfl) (by kernel_rfl) (by kernel_rfl)
  have x59 := @run_callFunc_extern Tryz.prog 89 _ ReflectliteValue.set Tryz.func89 (by kernel_rfl) (by kernel_rfl) (by kernel_rfl) (by kernel_rfl)
  have h1 := e_typeOfF
  have h2 := e_methodAssignableTo
  have h3 := e_assignFF
  have h4 := e_valueOfF
  have u1 : Up w (w.alloc (.cells #[hnd 107, .pointer (some a), .int .u64 150] 135)) := (Up.refl _).alloc _
  have u2 : Up w ((w.alloc (.cells #[hnd 107, .pointer (some a), .int .u64 150] 135)).alloc (.cells #[.pointer (some e)] 106)) := ((Up.refl _).alloc _).alloc _
  have h5 := e_elemVFP a t (w.alloc (.cells #[hnd 107, .pointer (some a), .int .u64 150] 135)) (u1.cell ha)
  have h6 := e_setF t ⟨w.heap.size + 1, 0, none⟩ e old ((w.alloc (.cells #[hnd 107, .pointer (some a), .int .u64 150] 135)).alloc (.cells #[.pointer (some e)] 106)) (by go_simp) (u2.cell ht) ((u2.frozen (World.block_lt_of_cell? w t ht)).trans hf)
  clear ha ht hf u1
  replace u2 := hide u2
  go_enter Tryz.func70, Tryz.ntmps70
  go_wp2_with fail
  refine wp_loop_rounds 1 ?_
  rw [rounds_succ]
  go_wp2
  go_ret
  exact ⟨rfl, _, u2.out, rfl⟩

end Go.Proofs.YtnokokhbcfkifaaGreatDoor

namespace Go.Proofs.YtnokokhbcfkifaaGreatDoor
open Go.RowKit Go.Extern.Stop Go.Stop Go.Extern
attribute [local go_sem ↓] Go.wp_at_zero Go.wp_at_succ

/-- A fault in memory. -/
def FaultAt (w : World) (b o : Nat) (s : ByteArray) (err pan : Value) : Prop :=
  w.cell? ⟨b, o, none⟩ = some (.string s) ∧ w.cell? ⟨b, o + 1, none⟩ = some err ∧ w.cell? ⟨b, o + 2, none⟩ = some pan
theorem FaultAt.up {w w' : World} {b o : Nat} {s : ByteArray} {err pan : Value} (h : FaultAt w b o s err pan) (hu : Up w w') : FaultAt w' b o s err pan := ⟨hu.cell h.1, hu.cell h.2.1, hu.cell h.2.2⟩

theorem e_methodUnwrapF (h : Value) (w : World) : (Go.method 343 106 h "Unwrap").run Tryz.prog w = .ok (154, h) w := by kernel_rfl
/-- It bears an error that was told. -/
theorem unwrap_err (b o : Nat) (s : ByteArray) (et : TypeId) (ev pan : Value) (w : World) (h : FaultAt w b o s (.iface et ev) pan) :
    Calls Tryz.prog 154 #[.pointer (some ⟨b, o, none⟩)] w fun e w' => e = .returned (.slice (some ⟨w.heap.size, 0, none⟩) 2 2) ∧ w' = w.alloc (.cells #[.iface 56 (.int .i64 50), .iface et ev] 46) := by
  obtain ⟨c0, c1, c2⟩ := h
  go_enter Tryz.func154, Tryz.ntmps154
  go_wp2
  go_ret
  exact ⟨rfl, rfl⟩
/-- It bears a panic with an error. -/
theorem unwrap_pan (b o : Nat) (s : ByteArray) (et : TypeId) (ev : Value) (w : World) (h : FaultAt w b o s .nilIface (.iface et ev)) (hp : ∀ (xT : TypeId) (w : World), (Instr.typeAssert (.iface et ev) xT 46 true).run Tryz.prog w = .ok (.tuple #[.iface et ev, .bool true]) w) :
    Calls Tryz.prog 154 #[.pointer (some ⟨b, o, none⟩)] w fun e w' => e = .returned (.slice (some ⟨w.heap.size, 0, none⟩) 2 2) ∧ w' = w.alloc (.cells #[.iface 56 (.int .i64 50), .iface et ev] 46) := by
  obtain ⟨c0, c1, c2⟩ := h
  go_enter Tryz.func154, Tryz.ntmps154
  go_wp2
  go_ret
  exact ⟨rfl, rfl⟩
/-- It bears a panic with whatever else. -/
theorem unwrap_one (b o : Nat) (s : ByteArray) (et : TypeId) (ev : Value) (w : World) (h : FaultAt w b o s .nilIface (.iface et ev)) (hp : ∀ (xT : TypeId) (w : World), (Instr.typeAssert (.iface et ev) xT 46 true).run Tryz.prog w = .ok (.tuple #[.nilIface, .bool false]) w) :
    Calls Tryz.prog 154 #[.pointer (some ⟨b, o, none⟩)] w fun e w' => e = .returned (.slice (some ⟨w.heap.size, 0, none⟩) 1 1) ∧ w' = w.alloc (.cells #[.iface 56 (.int .i64 50)] 46) := by
  obtain ⟨c0, c1, c2⟩ := h
  go_enter Tryz.func154, Tryz.ntmps154
  go_wp2
  go_ret
  exact ⟨rfl, rfl⟩

set_option maxRecDepth 20000 in
set_option maxHeartbeats 4000000 in
/-- A fault that unwraps to its number alone. -/
theorem as_oneW (b o : Nat) (h0 h1 tgt : Value) (n : Int) (w : World) (hU : ∀ w', Up w w' → Calls Tryz.prog 154 #[.pointer (some ⟨b, o, none⟩)] w' fun e w'' => e = .returned (.slice (some ⟨w'.heap.size, 0, none⟩) 1 1) ∧ w'' = w'.alloc (.cells #[.iface 56 (.int .i64 50)] 46)) :
    Calls Tryz.prog 70 #[.iface 106 (.pointer (some ⟨b, o, none⟩)), tgt, .agg #[h0, h1, .int .u64 n], .iface 166 (.agg #[hnd 98])] w fun e w' => e = .returned (.bool false) ∧ Up w w' := by
  have x42 := @run_callFunc_extern Tryz.prog 87 _ ReflectliteType.typeOf Tryz.func87 (by kernel_rfl) (by kernel_rfl) (by kernel_rfl) (by kernel_rfl)
  have x102 := @run_callFunc_extern Tryz.prog 160 _ (ReflectliteType.relation "AssignableTo" ReflectliteType.assignableTo) Tryz.func160 (by kernel_rfl) (by kernel_rfl) (by kernel_rfl) (by kernel_rfl)
  have f1 := e_typeOfF
  have f2 := e_methodAssignableTo
  have f3 := e_assignFW
  have f4 := e_hasAsF
  have f5 := e_hasUF
  have f6 := e_hasULF
  have f7 := e_methodUnwrapF
  have HU := hide hU
  clear hU
  go_enter Tryz.func70, Tryz.ntmps70
  go_wp2_with fail
  refine wp_loop_rounds 1 ?_
  rw [rounds_succ]
  go_wp2_with fail
  go_at_call 154
  refine (HU.out _ ((Up.refl _).alloc _)).mono ?_
  rintro _ w2 ⟨rfl, hw2⟩
  have g0 : w2.cell? ⟨w.heap.size, 0, none⟩ = some h0 := by rw [hw2]; go_simp
  have g1 : w2.cell? ⟨w.heap.size, 1, none⟩ = some h1 := by rw [hw2]; go_simp
  have g2 : w2.cell? ⟨w.heap.size, 2, none⟩ = some (.int .u64 n) := by rw [hw2]; go_simp
  have k0 : w2.cell? ⟨w.heap.size + 1, 0, none⟩ = some (.iface 56 (.int .i64 50)) := by rw [hw2]; go_simp
  have u2 : Hid (Up w w2) := by rw [hw2]; exact ((Up.refl _).alloc _).alloc _
  clear HU hw2
  go_wp2_with fail
  refine wp_loop_rounds 2 ?_
  rw [rounds_succ]
  go_wp2_with fail
  go_at_call 70
  refine (as_missEW _ _ _ _ _ _).mono ?_
  rintro _ w3 ⟨rfl, hu3⟩
  replace u2 := hide (u2.out.trans hu3)
  clear hu3 g0 g1 g2 k0
  go_wp2_with fail
  rw [rounds_succ]
  go_wp2
  go_ret
  exact ⟨rfl, u2.out⟩

set_option maxRecDepth 20000 in
set_option maxHeartbeats 4000000 in
/-- A fault that unwraps to its number alone. -/
theorem as_oneM (b o : Nat) (h0 h1 tgt : Value) (n : Int) (w : World) (hU : ∀ w', Up w w' → Calls Tryz.prog 154 #[.pointer (some ⟨b, o, none⟩)] w' fun e w'' => e = .returned (.slice (some ⟨w'.heap.size, 0, none⟩) 1 1) ∧ w'' = w'.alloc (.cells #[.iface 56 (.int .i64 50)] 46)) :
    Calls Tryz.prog 70 #[.iface 106 (.pointer (some ⟨b, o, none⟩)), tgt, .agg #[h0, h1, .int .u64 n], .iface 166 (.agg #[hnd 147])] w fun e w' => e = .returned (.bool false) ∧ Up w w' := by
  have x42 := @run_callFunc_extern Tryz.prog 87 _ ReflectliteType.typeOf Tryz.func87 (by kernel_rfl) (by kernel_rfl) (by kernel_rfl) (by kernel_rfl)
  have x102 := @run_callFunc_extern Tryz.prog 160 _ (ReflectliteType.relation "AssignableTo" ReflectliteType.assignableTo) Tryz.func160 (by kernel_rfl) (by kernel_rfl) (by kernel_rfl) (by kernel_rfl)
  have f1 := e_typeOfF
  have f2 := e_methodAssignableTo
  have f3 := e_assignFM
  have f4 := e_hasAsF
  have f5 := e_hasUF
  have f6 := e_hasULF
  have f7 := e_methodUnwrapF
  have HU := hide hU
  clear hU
  go_enter Tryz.func70, Tryz.ntmps70
  go_wp2_with fail
  refine wp_loop_rounds 1 ?_
  rw [rounds_succ]
  go_wp2_with fail
  go_at_call 154
  refine (HU.out _ ((Up.refl _).alloc _)).mono ?_
  rintro _ w2 ⟨rfl, hw2⟩
  have g0 : w2.cell? ⟨w.heap.size, 0, none⟩ = some h0 := by rw [hw2]; go_simp
  have g1 : w2.cell? ⟨w.heap.size, 1, none⟩ = some h1 := by rw [hw2]; go_simp
  have g2 : w2.cell? ⟨w.heap.size, 2, none⟩ = some (.int .u64 n) := by rw [hw2]; go_simp
  have k0 : w2.cell? ⟨w.heap.size + 1, 0, none⟩ = some (.iface 56 (.int .i64 50)) := by rw [hw2]; go_simp
  have u2 : Hid (Up w w2) := by rw [hw2]; exact ((Up.refl _).alloc _).alloc _
  clear HU hw2
  go_wp2_with fail
  refine wp_loop_rounds 2 ?_
  rw [rounds_succ]
  go_wp2_with fail
  go_at_call 70
  refine (as_missEM _ _ _ _ _ _).mono ?_
  rintro _ w3 ⟨rfl, hu3⟩
  replace u2 := hide (u2.out.trans hu3)
  clear hu3 g0 g1 g2 k0
  go_wp2_with fail
  rw [rounds_succ]
  go_wp2
  go_ret
  exact ⟨rfl, u2.out⟩

end Go.Proofs.YtnokokhbcfkifaaGreatDoor

namespace Go.Proofs.YtnokokhbcfkifaaGreatDoor
open Go.RowKit Go.Extern.Stop Go.Stop Go.Extern
attribute [local go_sem ↓] Go.wp_at_zero Go.wp_at_succ


set_option maxRecDepth 20000 in
set_option maxHeartbeats 4000000 in
/-- A fault that unwraps to its number and another error, which is not found. -/
theorem as_twoW_miss (b o : Nat) (et : TypeId) (ev h0 h1 tgt : Value) (n : Int) (w : World) (hU : ∀ w', Up w w' → Calls Tryz.prog 154 #[.pointer (some ⟨b, o, none⟩)] w' fun e w'' => e = .returned (.slice (some ⟨w'.heap.size, 0, none⟩) 2 2) ∧ w'' = w'.alloc (.cells #[.iface 56 (.int .i64 50), .iface et ev] 46))
    (hA : ∀ w', Up w w' → Calls Tryz.prog 70 #[.iface et ev, tgt, .agg #[h0, h1, .int .u64 n], .iface 166 (.agg #[hnd 98])] w' fun e w'' => e = .returned (.bool false) ∧ Up w' w'') :
    Calls Tryz.prog 70 #[.iface 106 (.pointer (some ⟨b, o, none⟩)), tgt, .agg #[h0, h1, .int .u64 n], .iface 166 (.agg #[hnd 98])] w fun e w'' => e = .returned (.bool false) ∧ Up w w'' := by
  have x42 := @run_callFunc_extern Tryz.prog 87 _ ReflectliteType.typeOf Tryz.func87 (by kernel_rfl) (by kernel_rfl) (by kernel_rfl) (by kernel_rfl)
  have x102 := @run_callFunc_extern Tryz.prog 160 _ (ReflectliteType.relation "AssignableTo" ReflectliteType.assignableTo) Tryz.func160 (by kernel_rfl) (by kernel_rfl) (by kernel_rfl) (by kernel_rfl)
  have f1 := e_typeOfF
  have f2 := e_methodAssignableTo
  have f3 := e_assignFW
  have f4 := e_hasAsF
  have f5 := e_hasUF
  have f6 := e_hasULF
  have f7 := e_methodUnwrapF
  have HU := hide hU
  have HA := hide hA
  clear hU hA
  go_enter Tryz.func70, Tryz.ntmps70
  go_wp2_with fail
  refine wp_loop_rounds 1 ?_
  rw [rounds_succ]
  go_wp2_with fail
  go_at_call 154
  refine (HU.out _ ((Up.refl _).alloc _)).mono ?_
  rintro _ w2 ⟨rfl, hw2⟩
  have g0 : w2.cell? ⟨w.heap.size, 0, none⟩ = some h0 := by rw [hw2]; go_simp
  have g1 : w2.cell? ⟨w.heap.size, 1, none⟩ = some h1 := by rw [hw2]; go_simp
  have g2 : w2.cell? ⟨w.heap.size, 2, none⟩ = some (.int .u64 n) := by rw [hw2]; go_simp
  have k0 : w2.cell? ⟨w.heap.size + 1, 0, none⟩ = some (.iface 56 (.int .i64 50)) := by rw [hw2]; go_simp
  have k1 : w2.cell? ⟨w.heap.size + 1, 1, none⟩ = some (.iface et ev) := by rw [hw2]; go_simp
  have u2 : Hid (Up w w2) := by rw [hw2]; exact ((Up.refl _).alloc _).alloc _
  clear HU hw2
  go_wp2_with fail
  refine wp_loop_rounds 3 ?_
  rw [rounds_succ]
  go_wp2_with fail
  go_at_call 70
  refine (as_missEW _ _ _ _ _ _).mono ?_
  rintro _ w3 ⟨rfl, hu3⟩
  replace u2 := hide (u2.out.trans hu3)
  replace g0 := hu3.cell g0
  replace g1 := hu3.cell g1
  replace g2 := hu3.cell g2
  replace k1 := hu3.cell k1
  clear hu3 k0
  go_wp2_with fail
  rw [rounds_succ]
  go_wp2_with fail
  go_at_call 70
  refine (HA.out _ u2.out).mono ?_
  rintro _ w4 ⟨rfl, hu4⟩
  replace u2 := hide (u2.out.trans hu4)
  clear hu4 g0 g1 g2 k1
  go_wp2_with fail
  rw [rounds_succ]
  go_wp2
  go_ret
  exact ⟨rfl, u2.out⟩

set_option maxRecDepth 20000 in
set_option maxHeartbeats 4000000 in
/-- A fault that unwraps to its number and another error, which is not found. -/
theorem as_twoM_miss (b o : Nat) (et : TypeId) (ev h0 h1 tgt : Value) (n : Int) (w : World) (hU : ∀ w', Up w w' → Calls Tryz.prog 154 #[.pointer (some ⟨b, o, none⟩)] w' fun e w'' => e = .returned (.slice (some ⟨w'.heap.size, 0, none⟩) 2 2) ∧ w'' = w'.alloc (.cells #[.iface 56 (.int .i64 50), .iface et ev] 46))
    (hA : ∀ w', Up w w' → Calls Tryz.prog 70 #[.iface et ev, tgt, .agg #[h0, h1, .int .u64 n], .iface 166 (.agg #[hnd 147])] w' fun e w'' => e = .returned (.bool false) ∧ Up w' w'') :
    Calls Tryz.prog 70 #[.iface 106 (.pointer (some ⟨b, o, none⟩)), tgt, .agg #[h0, h1, .int .u64 n], .iface 166 (.agg #[hnd 147])] w fun e w'' => e = .returned (.bool false) ∧ Up w w'' := by
  have x42 := @run_callFunc_extern Tryz.prog 87 _ ReflectliteType.typeOf Tryz.func87 (by kernel_rfl) (by kernel_rfl) (by kernel_rfl) (by kernel_rfl)
  have x102 := @run_callFunc_extern Tryz.prog 160 _ (ReflectliteType.relation "AssignableTo" ReflectliteType.assignableTo) Tryz.func160 (by kernel_rfl) (by kernel_rfl) (by kernel_rfl) (by kernel_rfl)
  have f1 := e_typeOfF
  have f2 := e_methodAssignableTo
  have f3 := e_assignFM
  have f4 := e_hasAsF
  have f5 := e_hasUF
  have f6 := e_hasULF
  have f7 := e_methodUnwrapF
  have HU := hide hU
  have HA := hide hA
  clear hU hA
  go_enter Tryz.func70, Tryz.ntmps70
  go_wp2_with fail
  refine wp_loop_rounds 1 ?_
  rw [rounds_succ]
  go_wp2_with fail
  go_at_call 154
  refine (HU.out _ ((Up.refl _).alloc _)).mono ?_
  rintro _ w2 ⟨rfl, hw2⟩
  have g0 : w2.cell? ⟨w.heap.size, 0, none⟩ = some h0 := by rw [hw2]; go_simp
  have g1 : w2.cell? ⟨w.heap.size, 1, none⟩ = some h1 := by rw [hw2]; go_simp
  have g2 : w2.cell? ⟨w.heap.size, 2, none⟩ = some (.int .u64 n) := by rw [hw2]; go_simp
  have k0 : w2.cell? ⟨w.heap.size + 1, 0, none⟩ = some (.iface 56 (.int .i64 50)) := by rw [hw2]; go_simp
  have k1 : w2.cell? ⟨w.heap.size + 1, 1, none⟩ = some (.iface et ev) := by rw [hw2]; go_simp
  have u2 : Hid (Up w w2) := by rw [hw2]; exact ((Up.refl _).alloc _).alloc _
  clear HU hw2
  go_wp2_with fail
  refine wp_loop_rounds 3 ?_
  rw [rounds_succ]
  go_wp2_with fail
  go_at_call 70
  refine (as_missEM _ _ _ _ _ _).mono ?_
  rintro _ w3 ⟨rfl, hu3⟩
  replace u2 := hide (u2.out.trans hu3)
  replace g0 := hu3.cell g0
  replace g1 := hu3.cell g1
  replace g2 := hu3.cell g2
  replace k1 := hu3.cell k1
  clear hu3 k0
  go_wp2_with fail
  rw [rounds_succ]
  go_wp2_with fail
  go_at_call 70
  refine (HA.out _ u2.out).mono ?_
  rintro _ w4 ⟨rfl, hu4⟩
  replace u2 := hide (u2.out.trans hu4)
  clear hu4 g0 g1 g2 k1
  go_wp2_with fail
  rw [rounds_succ]
  go_wp2
  go_ret
  exact ⟨rfl, u2.out⟩

set_option maxRecDepth 20000 in
set_option maxHeartbeats 4000000 in
/-- A fault that unwraps to its number and another error, which is found. -/
theorem as_twoM_hit (b o : Nat) (et : TypeId) (ev h0 h1 tgt : Value) (n : Int) (ta : Addr) (u : Value) (w : World) (hU : ∀ w', Up w w' → Calls Tryz.prog 154 #[.pointer (some ⟨b, o, none⟩)] w' fun e w'' => e = .returned (.slice (some ⟨w'.heap.size, 0, none⟩) 2 2) ∧ w'' = w'.alloc (.cells #[.iface 56 (.int .i64 50), .iface et ev] 46))
    (hA : ∀ w', Up w w' → Calls Tryz.prog 70 #[.iface et ev, tgt, .agg #[h0, h1, .int .u64 n], .iface 166 (.agg #[hnd 147])] w' fun e w'' => e = .returned (.bool true) ∧ ∃ w4, Up w' w4 ∧ w'' = w4.setCell ta u) :
    Calls Tryz.prog 70 #[.iface 106 (.pointer (some ⟨b, o, none⟩)), tgt, .agg #[h0, h1, .int .u64 n], .iface 166 (.agg #[hnd 147])] w fun e w'' => e = .returned (.bool true) ∧ ∃ w4, Up w w4 ∧ w'' = w4.setCell ta u := by
  have x42 := @run_callFunc_extern Tryz.prog 87 _ ReflectliteType.typeOf Tryz.func87 (by kernel_rfl) (by kernel_rfl) (by kernel_rfl) (by kernel_rfl)
  have x102 := @run_callFunc_extern Tryz.prog 160 _ (ReflectliteType.relation "AssignableTo" ReflectliteType.assignableTo) Tryz.func160 (by kernel_rfl) (by kernel_rfl) (by kernel_rfl) (by kernel_rfl)
  have f1 := e_typeOfF
  have f2 := e_methodAssignableTo
  have f3 := e_assignFM
  have f4 := e_hasAsF
  have f5 := e_hasUF
  have f6 := e_hasULF
  have f7 := e_methodUnwrapF
  have HU := hide hU
  have HA := hide hA
  clear hU hA
  go_enter Tryz.func70, Tryz.ntmps70
  go_wp2_with fail
  refine wp_loop_rounds 1 ?_
  rw [rounds_succ]
  go_wp2_with fail
  go_at_call 154
  refine (HU.out _ ((Up.refl _).alloc _)).mono ?_
  rintro _ w2 ⟨rfl, hw2⟩
  have g0 : w2.cell? ⟨w.heap.size, 0, none⟩ = some h0 := by rw [hw2]; go_simp
  have g1 : w2.cell? ⟨w.heap.size, 1, none⟩ = some h1 := by rw [hw2]; go_simp
  have g2 : w2.cell? ⟨w.heap.size, 2, none⟩ = some (.int .u64 n) := by rw [hw2]; go_simp
  have k0 : w2.cell? ⟨w.heap.size + 1, 0, none⟩ = some (.iface 56 (.int .i64 50)) := by rw [hw2]; go_simp
  have k1 : w2.cell? ⟨w.heap.size + 1, 1, none⟩ = some (.iface et ev) := by rw [hw2]; go_simp
  have u2 : Hid (Up w w2) := by rw [hw2]; exact ((Up.refl _).alloc _).alloc _
  clear HU hw2
  go_wp2_with fail
  refine wp_loop_rounds 3 ?_
  rw [rounds_succ]
  go_wp2_with fail
  go_at_call 70
  refine (as_missEM _ _ _ _ _ _).mono ?_
  rintro _ w3 ⟨rfl, hu3⟩
  replace u2 := hide (u2.out.trans hu3)
  replace g0 := hu3.cell g0
  replace g1 := hu3.cell g1
  replace g2 := hu3.cell g2
  replace k1 := hu3.cell k1
  clear hu3 k0
  go_wp2_with fail
  rw [rounds_succ]
  go_wp2_with fail
  go_at_call 70
  refine (HA.out _ u2.out).mono ?_
  rintro _ w4 ⟨rfl, w5, hu5, hw4⟩
  have u5 := hide (u2.out.trans hu5)
  replace hw4 := hide hw4
  clear hu5 g0 g1 g2 k1
  go_wp2
  go_ret
  exact ⟨rfl, w5, u5.out, hw4.out⟩

end Go.Proofs.YtnokokhbcfkifaaGreatDoor

namespace Go.Proofs.YtnokokhbcfkifaaGreatDoor
open Go.RowKit Go.Extern.Stop Go.Stop Go.Extern
attribute [local go_sem ↓] Go.wp_at_zero Go.wp_at_succ

theorem run_store_hnd (P : Program) (w : World) (a : Addr) (m : Mode) (t : Nat) : (store a (hnd t) m).run P w = stored P w a (hnd t) m := run_store P w a _ m rfl
attribute [local go_sem] run_store_hnd
/-- What the library's variable holds: the type of errors. -/
def TabE (w : World) : Prop := w.cell? ⟨0, 0, none⟩ = some (.iface 166 (.agg #[hnd 46]))
theorem TabE.up {w w' : World} (h : TabE w) (hu : Up w w') : TabE w' := hu.cell h
theorem errAs_nil (t : Value) (w : World) : Calls Tryz.prog 43 #[.nilIface, t] w fun e w' => e = .returned (.bool false) ∧ w' = w := by
  go_enter Tryz.func43, Tryz.ntmps43
  go_wp2
  go_ret
  exact ⟨rfl, rfl⟩

set_option maxRecDepth 20000 in
set_option maxHeartbeats 4000000 in
theorem errAsW (et : TypeId) (ev : Value) (ta : Addr) (w : World) (Q : Ending → World → Prop) (hg : TabE w)
    (hA : ∀ w' a, Up w w' → w'.cell? a = some (.pointer (some ta)) → Calls Tryz.prog 70 #[.iface et ev, .iface 105 (.pointer (some ta)), .agg #[hnd 105, .pointer (some a), .int .u64 150], .iface 166 (.agg #[hnd 98])] w' fun e w'' => ∃ bb, e = .returned (.bool bb) ∧ Q e w'') :
    Calls Tryz.prog 43 #[.iface et ev, .iface 105 (.pointer (some ta))] w Q := by
  have x38 := @run_callFunc_extern Tryz.prog 67 _ (fun args => ReflectliteValue.unpack (args.getD 0 (.tuple #[]))) Tryz.func67 (by kernel_rfl) (by kernel_rfl) (by kernel_rfl) (by kernel_rfl)
  have x39 := @run_callFunc_extern Tryz.prog 68 _ (ReflectliteValue.methodAny (ReflectliteValue.valueError "reflectlite.Value.Type" 0) (fun t _ _ _ => ReflectliteType.toType t)) Tryz.func68 (by kernel_rfl) (by kernel_rfl) (by kernel_rfl) (by kernel_rfl)
  have x40 := @run_callFunc_extern Tryz.prog 69 _ (ReflectliteValue.method (ReflectliteValue.valueError "reflectlite.Value.IsNil" 0) ReflectliteValue.isNil) Tryz.func69 (by kernel_rfl) (by kernel_rfl) (by kernel_rfl) (by kernel_rfl)
  have x89 := @run_callFunc_extern Tryz.prog 146 _ (ReflectliteType.abiMethod fun t => do pure (.int .u8 (← Rtype.kind t))) Tryz.func146 (by kernel_rfl) (by kernel_rfl) (by kernel_rfl) (by kernel_rfl)
  have x104 := @run_callFunc_extern Tryz.prog 162 _ (ReflectliteType.method ReflectliteType.elem) Tryz.func162 (by kernel_rfl) (by kernel_rfl) (by kernel_rfl) (by kernel_rfl)
  have x105 := @run_callFunc_extern Tryz.prog 163 _ (ReflectliteType.relation "Implements" ReflectliteType.implements_) Tryz.func163 (by kernel_rfl) (by kernel_rfl) (by kernel_rfl) (by kernel_rfl)
  have f1 := e_valueOfWP
  have f2 := e_typeWP
  have f3 := e_methodKind
  have f4 := e_methodElem
  have f5 := e_methodImplements
  have f6 := e_kindWP
  have f7 := e_kindW
  have f8 := e_elemWP
  have f9 := e_implementsW
  have uW : Up w ((w.alloc (.cells #[.pointer (some ta)] 105)).alloc (.cells #[hnd 105, .pointer (some ⟨w.heap.size, 0, none⟩), .int .u64 150] 135)) := ((Up.refl _).alloc _).alloc _
  have g1 : ((w.alloc (.cells #[.pointer (some ta)] 105)).alloc (.cells #[hnd 105, .pointer (some ⟨w.heap.size, 0, none⟩), .int .u64 150] 135)).cell? ⟨0, 0, none⟩ = some (.iface 166 (.agg #[hnd 46])) := uW.cell hg
  have f10 := e_isNilWP ⟨w.heap.size, 0, none⟩ ta ((w.alloc (.cells #[.pointer (some ta)] 105)).alloc (.cells #[hnd 105, .pointer (some ⟨w.heap.size, 0, none⟩), .int .u64 150] 135)) (by go_simp)
  have HA := hide hA
  replace uW := hide uW
  clear hA hg
  go_enter Tryz.func43, Tryz.ntmps43
  go_wp2_with fail
  go_at_call 70
  refine (HA.out _ ⟨w.heap.size, 0, none⟩ uW.out (by go_simp)).mono ?_
  rintro _ w3 ⟨bb, rfl, hq⟩
  replace hq := hide hq
  clear g1
  go_wp2
  exact hq.out

set_option maxRecDepth 20000 in
set_option maxHeartbeats 4000000 in
theorem errAsF (et : TypeId) (ev : Value) (ta : Addr) (w : World) (Q : Ending → World → Prop) (hg : TabE w)
    (hA : ∀ w' a, Up w w' → w'.cell? a = some (.pointer (some ta)) → Calls Tryz.prog 70 #[.iface et ev, .iface 107 (.pointer (some ta)), .agg #[hnd 107, .pointer (some a), .int .u64 150], .iface 166 (.agg #[hnd 106])] w' fun e w'' => ∃ bb, e = .returned (.bool bb) ∧ Q e w'') :
    Calls Tryz.prog 43 #[.iface et ev, .iface 107 (.pointer (some ta))] w Q := by
  have x38 := @run_callFunc_extern Tryz.prog 67 _ (fun args => ReflectliteValue.unpack (args.getD 0 (.tuple #[]))) Tryz.func67 (by kernel_rfl) (by kernel_rfl) (by kernel_rfl) (by kernel_rfl)
  have x39 := @run_callFunc_extern Tryz.prog 68 _ (ReflectliteValue.methodAny (ReflectliteValue.valueError "reflectlite.Value.Type" 0) (fun t _ _ _ => ReflectliteType.toType t)) Tryz.func68 (by kernel_rfl) (by kernel_rfl) (by kernel_rfl) (by kernel_rfl)
  have x40 := @run_callFunc_extern Tryz.prog 69 _ (ReflectliteValue.method (ReflectliteValue.valueError "reflectlite.Value.IsNil" 0) ReflectliteValue.isNil) Tryz.func69 (by kernel_rfl) (by kernel_rfl) (by kernel_rfl) (by kernel_rfl)
  have x89 := @run_callFunc_extern Tryz.prog 146 _ (ReflectliteType.abiMethod fun t => do pure (.int .u8 (← Rtype.kind t))) Tryz.func146 (by kernel_rfl) (by kernel_rfl) (by kernel_rfl) (by kernel_rfl)
  have x104 := @run_callFunc_extern Tryz.prog 162 _ (ReflectliteType.method ReflectliteType.elem) Tryz.func162 (by kernel_rfl) (by kernel_rfl) (by kernel_rfl) (by kernel_rfl)
  have x105 := @run_callFunc_extern Tryz.prog 163 _ (ReflectliteType.relation "Implements" ReflectliteType.implements_) Tryz.func163 (by kernel_rfl) (by kernel_rfl) (by kernel_rfl) (by kernel_rfl)
  have f1 := e_valueOfFP
  have f2 := e_typeFP
  have f3 := e_methodKind
  have f4 := e_methodElem
  have f5 := e_methodImplements
  have f6 := e_kindFP
  have f7 := e_kindF
  have f8 := e_elemFP
  have f9 := e_implementsF
  have uW : Up w ((w.alloc (.cells #[.pointer (some ta)] 107)).alloc (.cells #[hnd 107, .pointer (some ⟨w.heap.size, 0, none⟩), .int .u64 150] 135)) := ((Up.refl _).alloc _).alloc _
  have g1 : ((w.alloc (.cells #[.pointer (some ta)] 107)).alloc (.cells #[hnd 107, .pointer (some ⟨w.heap.size, 0, none⟩), .int .u64 150] 135)).cell? ⟨0, 0, none⟩ = some (.iface 166 (.agg #[hnd 46])) := uW.cell hg
  have f10 := e_isNilFP ⟨w.heap.size, 0, none⟩ ta ((w.alloc (.cells #[.pointer (some ta)] 107)).alloc (.cells #[hnd 107, .pointer (some ⟨w.heap.size, 0, none⟩), .int .u64 150] 135)) (by go_simp)
  have HA := hide hA
  replace uW := hide uW
  clear hA hg
  go_enter Tryz.func43, Tryz.ntmps43
  go_wp2_with fail
  go_at_call 70
  refine (HA.out _ ⟨w.heap.size, 0, none⟩ uW.out (by go_simp)).mono ?_
  rintro _ w3 ⟨bb, rfl, hq⟩
  replace hq := hide hq
  clear g1
  go_wp2
  exact hq.out

end Go.Proofs.YtnokokhbcfkifaaGreatDoor

/-
  What errors.As answers of this program's errors, out of what errors.as does, as the library's text runs.
-/
import Derived.Test.YtmlfkjmondkfnaaDoorErrTwo
namespace Go.Proofs.YtmlfkjmondkfnaaDoor
open Go.RowKit Go.Extern.Stop Go.Stop Go.Extern
attribute [local go_sem ↓] Go.wp_at_zero Go.wp_at_succ

theorem run_store_hnd (P : Program) (w : World) (a : Addr) (m : Mode) (t : Nat) : (store a (hnd t) m).run P w = stored P w a (hnd t) m := run_store P w a _ m rfl
attribute [local go_sem] run_store_hnd
/-- What the library's variable holds: the type of errors. -/
def TabE (w : World) : Prop := w.cell? ⟨0, 0, none⟩ = some (.iface 128 (.agg #[hnd 27]))
theorem TabE.up {w w' : World} (h : TabE w) (hu : Up w w') : TabE w' := hu.cell h
theorem errAs_nil (t : Value) (w : World) : Calls Tryd.prog 12 #[.nilIface, t] w fun e w' => e = .returned (.bool false) ∧ w' = w := by
  go_enter Tryd.func12, Tryd.ntmps12
  go_wp2
  go_ret
  exact ⟨rfl, rfl⟩

set_option maxRecDepth 20000 in
set_option maxHeartbeats 4000000 in
theorem errAsW (et : TypeId) (ev : Value) (ta : Addr) (w : World) (Q : Ending → World → Prop) (hg : TabE w)
    (hA : ∀ w' a, Up w w' → w'.cell? a = some (.pointer (some ta)) → Calls Tryd.prog 42 #[.iface et ev, .iface 120 (.pointer (some ta)), .agg #[hnd 120, .pointer (some a), .int .u64 150], .iface 128 (.agg #[hnd 119])] w' fun e w'' => ∃ bb, e = .returned (.bool bb) ∧ Q e w'') :
    Calls Tryd.prog 12 #[.iface et ev, .iface 120 (.pointer (some ta))] w Q := by
  have x38 := @run_callFunc_extern Tryd.prog 39 _ (fun args => ReflectliteValue.unpack (args.getD 0 (.tuple #[]))) Tryd.func39 (by kernel_rfl) (by kernel_rfl) (by kernel_rfl) (by kernel_rfl)
  have x39 := @run_callFunc_extern Tryd.prog 40 _ (ReflectliteValue.methodAny (ReflectliteValue.valueError "reflectlite.Value.Type" 0) (fun t _ _ _ => ReflectliteType.toType t)) Tryd.func40 (by kernel_rfl) (by kernel_rfl) (by kernel_rfl) (by kernel_rfl)
  have x40 := @run_callFunc_extern Tryd.prog 41 _ (ReflectliteValue.method (ReflectliteValue.valueError "reflectlite.Value.IsNil" 0) ReflectliteValue.isNil) Tryd.func41 (by kernel_rfl) (by kernel_rfl) (by kernel_rfl) (by kernel_rfl)
  have x89 := @run_callFunc_extern Tryd.prog 101 _ (ReflectliteType.abiMethod fun t => do pure (.int .u8 (← Rtype.kind t))) Tryd.func101 (by kernel_rfl) (by kernel_rfl) (by kernel_rfl) (by kernel_rfl)
  have x104 := @run_callFunc_extern Tryd.prog 116 _ (ReflectliteType.method ReflectliteType.elem) Tryd.func116 (by kernel_rfl) (by kernel_rfl) (by kernel_rfl) (by kernel_rfl)
  have x105 := @run_callFunc_extern Tryd.prog 117 _ (ReflectliteType.relation "Implements" ReflectliteType.implements_) Tryd.func117 (by kernel_rfl) (by kernel_rfl) (by kernel_rfl) (by kernel_rfl)
  have f1 := e_valueOfWP
  have f2 := e_typeWP
  have f3 := e_methodKind
  have f4 := e_methodElem
  have f5 := e_methodImplements
  have f6 := e_kindWP
  have f7 := e_kindW
  have f8 := e_elemWP
  have f9 := e_implementsW
  have uW : Up w ((w.alloc (.cells #[.pointer (some ta)] 120)).alloc (.cells #[hnd 120, .pointer (some ⟨w.heap.size, 0, none⟩), .int .u64 150] 91)) := ((Up.refl _).alloc _).alloc _
  have g1 : ((w.alloc (.cells #[.pointer (some ta)] 120)).alloc (.cells #[hnd 120, .pointer (some ⟨w.heap.size, 0, none⟩), .int .u64 150] 91)).cell? ⟨0, 0, none⟩ = some (.iface 128 (.agg #[hnd 27])) := uW.cell hg
  have f10 := e_isNilWP ⟨w.heap.size, 0, none⟩ ta ((w.alloc (.cells #[.pointer (some ta)] 120)).alloc (.cells #[hnd 120, .pointer (some ⟨w.heap.size, 0, none⟩), .int .u64 150] 91)) (by go_simp)
  have HA := hide hA
  replace uW := hide uW
  clear hA hg
  go_enter Tryd.func12, Tryd.ntmps12
  go_wp2_with fail
  go_at_call 42
  refine (HA.out _ ⟨w.heap.size, 0, none⟩ uW.out (by go_simp)).mono ?_
  rintro _ w3 ⟨bb, rfl, hq⟩
  replace hq := hide hq
  clear g1
  go_wp2
  exact hq.out

set_option maxRecDepth 20000 in
set_option maxHeartbeats 4000000 in
theorem errAsF (et : TypeId) (ev : Value) (ta : Addr) (w : World) (Q : Ending → World → Prop) (hg : TabE w)
    (hA : ∀ w' a, Up w w' → w'.cell? a = some (.pointer (some ta)) → Calls Tryd.prog 42 #[.iface et ev, .iface 35 (.pointer (some ta)), .agg #[hnd 35, .pointer (some a), .int .u64 150], .iface 128 (.agg #[hnd 33])] w' fun e w'' => ∃ bb, e = .returned (.bool bb) ∧ Q e w'') :
    Calls Tryd.prog 12 #[.iface et ev, .iface 35 (.pointer (some ta))] w Q := by
  have x38 := @run_callFunc_extern Tryd.prog 39 _ (fun args => ReflectliteValue.unpack (args.getD 0 (.tuple #[]))) Tryd.func39 (by kernel_rfl) (by kernel_rfl) (by kernel_rfl) (by kernel_rfl)
  have x39 := @run_callFunc_extern Tryd.prog 40 _ (ReflectliteValue.methodAny (ReflectliteValue.valueError "reflectlite.Value.Type" 0) (fun t _ _ _ => ReflectliteType.toType t)) Tryd.func40 (by kernel_rfl) (by kernel_rfl) (by kernel_rfl) (by kernel_rfl)
  have x40 := @run_callFunc_extern Tryd.prog 41 _ (ReflectliteValue.method (ReflectliteValue.valueError "reflectlite.Value.IsNil" 0) ReflectliteValue.isNil) Tryd.func41 (by kernel_rfl) (by kernel_rfl) (by kernel_rfl) (by kernel_rfl)
  have x89 := @run_callFunc_extern Tryd.prog 101 _ (ReflectliteType.abiMethod fun t => do pure (.int .u8 (← Rtype.kind t))) Tryd.func101 (by kernel_rfl) (by kernel_rfl) (by kernel_rfl) (by kernel_rfl)
  have x104 := @run_callFunc_extern Tryd.prog 116 _ (ReflectliteType.method ReflectliteType.elem) Tryd.func116 (by kernel_rfl) (by kernel_rfl) (by kernel_rfl) (by kernel_rfl)
  have x105 := @run_callFunc_extern Tryd.prog 117 _ (ReflectliteType.relation "Implements" ReflectliteType.implements_) Tryd.func117 (by kernel_rfl) (by kernel_rfl) (by kernel_rfl) (by kernel_rfl)
  have f1 := e_valueOfFP
  have f2 := e_typeFP
  have f3 := e_methodKind
  have f4 := e_methodElem
  have f5 := e_methodImplements
  have f6 := e_kindFP
  have f7 := e_kindF
  have f8 := e_elemFP
  have f9 := e_implementsF
  have uW : Up w ((w.alloc (.cells #[.pointer (some ta)] 35)).alloc (.cells #[hnd 35, .pointer (some ⟨w.heap.size, 0, none⟩), .int .u64 150] 91)) := ((Up.refl _).alloc _).alloc _
  have g1 : ((w.alloc (.cells #[.pointer (some ta)] 35)).alloc (.cells #[hnd 35, .pointer (some ⟨w.heap.size, 0, none⟩), .int .u64 150] 91)).cell? ⟨0, 0, none⟩ = some (.iface 128 (.agg #[hnd 27])) := uW.cell hg
  have f10 := e_isNilFP ⟨w.heap.size, 0, none⟩ ta ((w.alloc (.cells #[.pointer (some ta)] 35)).alloc (.cells #[hnd 35, .pointer (some ⟨w.heap.size, 0, none⟩), .int .u64 150] 91)) (by go_simp)
  have HA := hide hA
  replace uW := hide uW
  clear hA hg
  go_enter Tryd.func12, Tryd.ntmps12
  go_wp2_with fail
  go_at_call 42
  refine (HA.out _ ⟨w.heap.size, 0, none⟩ uW.out (by go_simp)).mono ?_
  rintro _ w3 ⟨bb, rfl, hq⟩
  replace hq := hide hq
  clear g1
  go_wp2
  exact hq.out

set_option maxRecDepth 20000 in
set_option maxHeartbeats 4000000 in
theorem errAsM (et : TypeId) (ev : Value) (ta : Addr) (w : World) (Q : Ending → World → Prop) (hg : TabE w)
    (hA : ∀ w' a, Up w w' → w'.cell? a = some (.pointer (some ta)) → Calls Tryd.prog 42 #[.iface et ev, .iface 102 (.pointer (some ta)), .agg #[hnd 102, .pointer (some a), .int .u64 150], .iface 128 (.agg #[hnd 23])] w' fun e w'' => ∃ bb, e = .returned (.bool bb) ∧ Q e w'') :
    Calls Tryd.prog 12 #[.iface et ev, .iface 102 (.pointer (some ta))] w Q := by
  have x38 := @run_callFunc_extern Tryd.prog 39 _ (fun args => ReflectliteValue.unpack (args.getD 0 (.tuple #[]))) Tryd.func39 (by kernel_rfl) (by kernel_rfl) (by kernel_rfl) (by kernel_rfl)
  have x39 := @run_callFunc_extern Tryd.prog 40 _ (ReflectliteValue.methodAny (ReflectliteValue.valueError "reflectlite.Value.Type" 0) (fun t _ _ _ => ReflectliteType.toType t)) Tryd.func40 (by kernel_rfl) (by kernel_rfl) (by kernel_rfl) (by kernel_rfl)
  have x40 := @run_callFunc_extern Tryd.prog 41 _ (ReflectliteValue.method (ReflectliteValue.valueError "reflectlite.Value.IsNil" 0) ReflectliteValue.isNil) Tryd.func41 (by kernel_rfl) (by kernel_rfl) (by kernel_rfl) (by kernel_rfl)
  have x89 := @run_callFunc_extern Tryd.prog 101 _ (ReflectliteType.abiMethod fun t => do pure (.int .u8 (← Rtype.kind t))) Tryd.func101 (by kernel_rfl) (by kernel_rfl) (by kernel_rfl) (by kernel_rfl)
  have x104 := @run_callFunc_extern Tryd.prog 116 _ (ReflectliteType.method ReflectliteType.elem) Tryd.func116 (by kernel_rfl) (by kernel_rfl) (by kernel_rfl) (by kernel_rfl)
  have x105 := @run_callFunc_extern Tryd.prog 117 _ (ReflectliteType.relation "Implements" ReflectliteType.implements_) Tryd.func117 (by kernel_rfl) (by kernel_rfl) (by kernel_rfl) (by kernel_rfl)
  have f1 := e_valueOfMP
  have f2 := e_typeMP
  have f3 := e_methodKind
  have f4 := e_methodElem
  have f5 := e_methodImplements
  have f6 := e_kindMP
  have f7 := e_kindM
  have f8 := e_elemMP
  have f9 := e_implementsM
  have uW : Up w ((w.alloc (.cells #[.pointer (some ta)] 102)).alloc (.cells #[hnd 102, .pointer (some ⟨w.heap.size, 0, none⟩), .int .u64 150] 91)) := ((Up.refl _).alloc _).alloc _
  have g1 : ((w.alloc (.cells #[.pointer (some ta)] 102)).alloc (.cells #[hnd 102, .pointer (some ⟨w.heap.size, 0, none⟩), .int .u64 150] 91)).cell? ⟨0, 0, none⟩ = some (.iface 128 (.agg #[hnd 27])) := uW.cell hg
  have f10 := e_isNilMP ⟨w.heap.size, 0, none⟩ ta ((w.alloc (.cells #[.pointer (some ta)] 102)).alloc (.cells #[hnd 102, .pointer (some ⟨w.heap.size, 0, none⟩), .int .u64 150] 91)) (by go_simp)
  have HA := hide hA
  replace uW := hide uW
  clear hA hg
  go_enter Tryd.func12, Tryd.ntmps12
  go_wp2_with fail
  go_at_call 42
  refine (HA.out _ ⟨w.heap.size, 0, none⟩ uW.out (by go_simp)).mono ?_
  rintro _ w3 ⟨bb, rfl, hq⟩
  replace hq := hide hq
  clear g1
  go_wp2
  exact hq.out

end Go.Proofs.YtmlfkjmondkfnaaDoor

/-
  What errors.As answers of this program's errors, out of what errors.as does, as the library's text runs.
-/
import Derived.Test.YtobalfckdknbdaaDoorErrTwo
namespace Go.Proofs.YtobalfckdknbdaaDoor
open Go.RowKit Go.Extern.Stop Go.Stop Go.Extern
attribute [local go_sem ↓] Go.wp_at_zero Go.wp_at_succ

theorem run_store_hnd (P : Program) (w : World) (a : Addr) (m : Mode) (t : Nat) : (store a (hnd t) m).run P w = stored P w a (hnd t) m := run_store P w a _ m rfl
attribute [local go_sem] run_store_hnd
/-- What the library's variable holds: the type of errors. -/
def TabE (w : World) : Prop := w.cell? ⟨0, 0, none⟩ = some (.iface 64 (.agg #[hnd 28]))
theorem TabE.up {w w' : World} (h : TabE w) (hu : Up w w') : TabE w' := hu.cell h
theorem errAs_nil (t : Value) (w : World) : Calls Tryd.prog 19 #[.nilIface, t] w fun e w' => e = .returned (.bool false) ∧ w' = w := by
  go_enter Tryd.func19, Tryd.ntmps19
  go_wp2
  go_ret
  exact ⟨rfl, rfl⟩

set_option maxRecDepth 20000 in
set_option maxHeartbeats 4000000 in
theorem errAsW (et : TypeId) (ev : Value) (ta : Addr) (w : World) (Q : Ending → World → Prop) (hg : TabE w)
    (hA : ∀ w' a, Up w w' → w'.cell? a = some (.pointer (some ta)) → Calls Tryd.prog 26 #[.iface et ev, .iface 46 (.pointer (some ta)), .agg #[hnd 46, .pointer (some a), .int .u64 150], .iface 64 (.agg #[hnd 44])] w' fun e w'' => ∃ bb, e = .returned (.bool bb) ∧ Q e w'') :
    Calls Tryd.prog 19 #[.iface et ev, .iface 46 (.pointer (some ta))] w Q := by
  have x38 := @run_callFunc_extern Tryd.prog 23 _ (fun args => ReflectliteValue.unpack (args.getD 0 (.tuple #[]))) Tryd.func23 (by kernel_rfl) (by kernel_rfl) (by kernel_rfl) (by kernel_rfl)
  have x39 := @run_callFunc_extern Tryd.prog 24 _ (ReflectliteValue.methodAny (ReflectliteValue.valueError "reflectlite.Value.Type" 0) (fun t _ _ _ => ReflectliteType.toType t)) Tryd.func24 (by kernel_rfl) (by kernel_rfl) (by kernel_rfl) (by kernel_rfl)
  have x40 := @run_callFunc_extern Tryd.prog 25 _ (ReflectliteValue.method (ReflectliteValue.valueError "reflectlite.Value.IsNil" 0) ReflectliteValue.isNil) Tryd.func25 (by kernel_rfl) (by kernel_rfl) (by kernel_rfl) (by kernel_rfl)
  have x89 := @run_callFunc_extern Tryd.prog 44 _ (ReflectliteType.abiMethod fun t => do pure (.int .u8 (← Rtype.kind t))) Tryd.func44 (by kernel_rfl) (by kernel_rfl) (by kernel_rfl) (by kernel_rfl)
  have x104 := @run_callFunc_extern Tryd.prog 58 _ (ReflectliteType.method ReflectliteType.elem) Tryd.func58 (by kernel_rfl) (by kernel_rfl) (by kernel_rfl) (by kernel_rfl)
  have x105 := @run_callFunc_extern Tryd.prog 59 _ (ReflectliteType.relation "Implements" ReflectliteType.implements_) Tryd.func59 (by kernel_rfl) (by kernel_rfl) (by kernel_rfl) (by kernel_rfl)
  have f1 := e_valueOfWP
  have f2 := e_typeWP
  have f3 := e_methodKind
  have f4 := e_methodElem
  have f5 := e_methodImplements
  have f6 := e_kindWP
  have f7 := e_kindW
  have f8 := e_elemWP
  have f9 := e_implementsW
  have uW : Up w ((w.alloc (.cells #[.pointer (some ta)] 46)).alloc (.cells #[hnd 46, .pointer (some ⟨w.heap.size, 0, none⟩), .int .u64 150] 54)) := ((Up.refl _).alloc _).alloc _
  have g1 : ((w.alloc (.cells #[.pointer (some ta)] 46)).alloc (.cells #[hnd 46, .pointer (some ⟨w.heap.size, 0, none⟩), .int .u64 150] 54)).cell? ⟨0, 0, none⟩ = some (.iface 64 (.agg #[hnd 28])) := uW.cell hg
  have f10 := e_isNilWP ⟨w.heap.size, 0, none⟩ ta ((w.alloc (.cells #[.pointer (some ta)] 46)).alloc (.cells #[hnd 46, .pointer (some ⟨w.heap.size, 0, none⟩), .int .u64 150] 54)) (by go_simp)
  have HA := hide hA
  replace uW := hide uW
  clear hA hg
  go_enter Tryd.func19, Tryd.ntmps19
  go_wp2_with fail
  go_at_call 26
  refine (HA.out _ ⟨w.heap.size, 0, none⟩ uW.out (by go_simp)).mono ?_
  rintro _ w3 ⟨bb, rfl, hq⟩
  replace hq := hide hq
  clear g1
  go_wp2
  exact hq.out

set_option maxRecDepth 20000 in
set_option maxHeartbeats 4000000 in
theorem errAsF (et : TypeId) (ev : Value) (ta : Addr) (w : World) (Q : Ending → World → Prop) (hg : TabE w)
    (hA : ∀ w' a, Up w w' → w'.cell? a = some (.pointer (some ta)) → Calls Tryd.prog 26 #[.iface et ev, .iface 48 (.pointer (some ta)), .agg #[hnd 48, .pointer (some a), .int .u64 150], .iface 64 (.agg #[hnd 47])] w' fun e w'' => ∃ bb, e = .returned (.bool bb) ∧ Q e w'') :
    Calls Tryd.prog 19 #[.iface et ev, .iface 48 (.pointer (some ta))] w Q := by
  have x38 := @run_callFunc_extern Tryd.prog 23 _ (fun args => ReflectliteValue.unpack (args.getD 0 (.tuple #[]))) Tryd.func23 (by kernel_rfl) (by kernel_rfl) (by kernel_rfl) (by kernel_rfl)
  have x39 := @run_callFunc_extern Tryd.prog 24 _ (ReflectliteValue.methodAny (ReflectliteValue.valueError "reflectlite.Value.Type" 0) (fun t _ _ _ => ReflectliteType.toType t)) Tryd.func24 (by kernel_rfl) (by kernel_rfl) (by kernel_rfl) (by kernel_rfl)
  have x40 := @run_callFunc_extern Tryd.prog 25 _ (ReflectliteValue.method (ReflectliteValue.valueError "reflectlite.Value.IsNil" 0) ReflectliteValue.isNil) Tryd.func25 (by kernel_rfl) (by kernel_rfl) (by kernel_rfl) (by kernel_rfl)
  have x89 := @run_callFunc_extern Tryd.prog 44 _ (ReflectliteType.abiMethod fun t => do pure (.int .u8 (← Rtype.kind t))) Tryd.func44 (by kernel_rfl) (by kernel_rfl) (by kernel_rfl) (by kernel_rfl)
  have x104 := @run_callFunc_extern Tryd.prog 58 _ (ReflectliteType.method ReflectliteType.elem) Tryd.func58 (by kernel_rfl) (by kernel_rfl) (by kernel_rfl) (by kernel_rfl)
  have x105 := @run_callFunc_extern Tryd.prog 59 _ (ReflectliteType.relation "Implements" ReflectliteType.implements_) Tryd.func59 (by kernel_rfl) (by kernel_rfl) (by kernel_rfl) (by kernel_rfl)
  have f1 := e_valueOfFP
  have f2 := e_typeFP
  have f3 := e_methodKind
  have f4 := e_methodElem
  have f5 := e_methodImplements
  have f6 := e_kindFP
  have f7 := e_kindF
  have f8 := e_elemFP
  have f9 := e_implementsF
  have uW : Up w ((w.alloc (.cells #[.pointer (some ta)] 48)).alloc (.cells #[hnd 48, .pointer (some ⟨w.heap.size, 0, none⟩), .int .u64 150] 54)) := ((Up.refl _).alloc _).alloc _
  have g1 : ((w.alloc (.cells #[.pointer (some ta)] 48)).alloc (.cells #[hnd 48, .pointer (some ⟨w.heap.size, 0, none⟩), .int .u64 150] 54)).cell? ⟨0, 0, none⟩ = some (.iface 64 (.agg #[hnd 28])) := uW.cell hg
  have f10 := e_isNilFP ⟨w.heap.size, 0, none⟩ ta ((w.alloc (.cells #[.pointer (some ta)] 48)).alloc (.cells #[hnd 48, .pointer (some ⟨w.heap.size, 0, none⟩), .int .u64 150] 54)) (by go_simp)
  have HA := hide hA
  replace uW := hide uW
  clear hA hg
  go_enter Tryd.func19, Tryd.ntmps19
  go_wp2_with fail
  go_at_call 26
  refine (HA.out _ ⟨w.heap.size, 0, none⟩ uW.out (by go_simp)).mono ?_
  rintro _ w3 ⟨bb, rfl, hq⟩
  replace hq := hide hq
  clear g1
  go_wp2
  exact hq.out

end Go.Proofs.YtobalfckdknbdaaDoor

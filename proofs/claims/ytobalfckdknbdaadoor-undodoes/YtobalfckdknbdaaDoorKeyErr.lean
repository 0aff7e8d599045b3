/-
  The class of a number that is an error by itself: what errors.As answers of it, and what rialtohelp's Class does, as their texts run.
-/
import Derived.Test.YtobalfckdknbdaaDoorErrClass
namespace Go.Proofs.YtobalfckdknbdaaDoor
open Go.RowKit Go.Extern.Stop Go.Stop Go.Extern
attribute [local go_sem ↓] Go.wp_at_zero Go.wp_at_succ
attribute [local go_sem] run_store_hnd

theorem e_valueOfE (z : Int) (w : World) : (ReflectliteValue.unpack (.iface 31 (.int .i64 z))).run Tryd.prog w = .ok (.agg #[hnd 31, .pointer (some ⟨w.heap.size, 0, none⟩), .int .u64 130]) (w.alloc (.cells #[.int .i64 z] 31)) := by kernel_rfl
theorem e_mkE (p : Addr) (w : World) : (ReflectliteValue.mk 31 p ReflectliteValue.flagAddr).run Tryd.prog w = .ok (.agg #[hnd 31, .pointer (some p), .int .u64 386]) w := by kernel_rfl
theorem e_elemVEP (a p : Addr) (W : World) (ha : W.cell? a = some (.pointer (some p))) :
    (ReflectliteValue.method (ReflectliteValue.valueError "reflectlite.Value.Elem" 0) ReflectliteValue.elem #[.agg #[hnd 49, .pointer (some a), .int .u64 150]]).run Tryd.prog W = .ok (.agg #[hnd 31, .pointer (some p), .int .u64 386]) W := by
  rw [rlm]
  simp only [Sem.run_bind, e_partsEP, Result.andThen]
  simp [ReflectliteValue.elem, loadVar, isAgg, underlying, Tryd.underlying49, ha, Result.andThen, e_elemOfEP, e_mkE]
theorem e_partsAE (a : Addr) (w : World) : (ReflectliteValue.parts (.agg #[hnd 31, .pointer (some a), .int .u64 386])).run Tryd.prog w = .ok (some (31, a, 386)) w := by kernel_rfl
theorem e_partsVE (a : Addr) (w : World) : (ReflectliteValue.parts (.agg #[hnd 31, .pointer (some a), .int .u64 130])).run Tryd.prog w = .ok (some (31, a, 130)) w := by kernel_rfl
theorem e_directE (w : World) : (Rtype.directlyAssignable 31 31).run Tryd.prog w = .ok true w := by kernel_rfl
theorem e_setE (ta b : Addr) (z : Int) (old : Value) (W : World) (hb : W.cell? b = some (.int .i64 z)) (ht : W.cell? ta = some old) (hf : W.frozen? ta = false) :
    (ReflectliteValue.set #[.agg #[hnd 31, .pointer (some ta), .int .u64 386], .agg #[hnd 31, .pointer (some b), .int .u64 130]]).run Tryd.prog W = .ok (.tuple #[]) (W.setCell ta (.int .i64 z)) := by
  rw [rls]
  simp only [Sem.run_bind, e_partsAE, e_partsVE, Result.andThen]
  simp [ReflectliteValue.flagAddr, loadVar, isAgg, underlying, Tryd.underlying31, hb, Result.andThen, e_directE, storeVar, Value.cells, storeCells, Addr.add]
  rw [run_store Tryd.prog W ta _ _ (by rfl)]
  simp [ht, hf]

set_option maxRecDepth 20000 in
set_option maxHeartbeats 4000000 in
theorem as_hitE (z : Int) (t a : Addr) (old tgt : Value) (w : World) (ha : w.cell? a = some (.pointer (some t))) (ht : w.cell? t = some old) (hf : w.frozen? t = false) :
    Calls Tryd.prog 26 #[.iface 31 (.int .i64 z), tgt, .agg #[hnd 49, .pointer (some a), .int .u64 150], .iface 64 (.agg #[hnd 31])] w fun ev w' => ev = .returned (.bool true) ∧ ∃ w2, Up w w2 ∧ w' = w2.setCell t (.int .i64 z) := by
  have x42 := @run_callFunc_extern Tryd.prog 27 _ ReflectliteType.typeOf Tryd.func27 (by kernel_rfl) (by kernel_rfl) (by kernel_rfl) (by kernel_rfl)
  have x102 := @run_callFunc_extern Tryd.prog 56 _ (ReflectliteType.relation "AssignableTo" ReflectliteType.assignableTo) Tryd.func56 (by kernel_rfl) (by kernel_rfl) (by kernel_rfl) (by kernel_rfl)
  have x38 := @run_callFunc_extern Tryd.prog 23 _ (fun args => ReflectliteValue.unpack (args.getD 0 (.tuple #[]))) Tryd.func23 (by kernel_rfl) (by kernel_rfl) (by kernel_rfl) (by kernel_rfl)
  have x58 := @run_callFunc_extern Tryd.prog 28 _ (ReflectliteValue.method (ReflectliteValue.valueError "reflectlite.Value.Elem" 0) ReflectliteValue.elem) Tryd.func28 (by kernel_rfl) (by kernel_rfl) (by kernel_rfl) (by kernel_rfl)
  have x59 := @run_callFunc_extern Tryd.prog 29 _ ReflectliteValue.set Tryd.func29 (by kernel_rfl) (by kernel_rfl) (by kernel_rfl) (by kernel_rfl)
  have h1 := e_typeOfE
  have h2 := e_methodAssignableTo
  have h3 := e_assignEE
  have h4 := e_valueOfE
  have u1 : Up w (w.alloc (.cells #[hnd 49, .pointer (some a), .int .u64 150] 54)) := (Up.refl _).alloc _
  have u2 : Up w ((w.alloc (.cells #[hnd 49, .pointer (some a), .int .u64 150] 54)).alloc (.cells #[.int .i64 z] 31)) := ((Up.refl _).alloc _).alloc _
  have h5 := e_elemVEP a t (w.alloc (.cells #[hnd 49, .pointer (some a), .int .u64 150] 54)) (u1.cell ha)
  have h6 := e_setE t ⟨w.heap.size + 1, 0, none⟩ z old ((w.alloc (.cells #[hnd 49, .pointer (some a), .int .u64 150] 54)).alloc (.cells #[.int .i64 z] 31)) (by go_simp) (u2.cell ht) ((u2.frozen (World.block_lt_of_cell? w t ht)).trans hf)
  clear ha ht hf u1
  replace u2 := hide u2
  go_enter Tryd.func26, Tryd.ntmps26
  go_wp2_with fail
  refine wp_loop_rounds 1 ?_
  rw [rounds_succ]
  go_wp2
  go_ret
  exact ⟨rfl, _, u2.out, rfl⟩

set_option maxRecDepth 20000 in
set_option maxHeartbeats 4000000 in
theorem errAsE (et : TypeId) (ev : Value) (ta : Addr) (w : World) (Q : Ending → World → Prop) (hg : TabE w)
    (hA : ∀ w' a, Up w w' → w'.cell? a = some (.pointer (some ta)) → Calls Tryd.prog 26 #[.iface et ev, .iface 49 (.pointer (some ta)), .agg #[hnd 49, .pointer (some a), .int .u64 150], .iface 64 (.agg #[hnd 31])] w' fun e w'' => ∃ bb, e = .returned (.bool bb) ∧ Q e w'') :
    Calls Tryd.prog 19 #[.iface et ev, .iface 49 (.pointer (some ta))] w Q := by
  have x38 := @run_callFunc_extern Tryd.prog 23 _ (fun args => ReflectliteValue.unpack (args.getD 0 (.tuple #[]))) Tryd.func23 (by kernel_rfl) (by kernel_rfl) (by kernel_rfl) (by kernel_rfl)
  have x39 := @run_callFunc_extern Tryd.prog 24 _ (ReflectliteValue.methodAny (ReflectliteValue.valueError "reflectlite.Value.Type" 0) (fun t _ _ _ => ReflectliteType.toType t)) Tryd.func24 (by kernel_rfl) (by kernel_rfl) (by kernel_rfl) (by kernel_rfl)
  have x40 := @run_callFunc_extern Tryd.prog 25 _ (ReflectliteValue.method (ReflectliteValue.valueError "reflectlite.Value.IsNil" 0) ReflectliteValue.isNil) Tryd.func25 (by kernel_rfl) (by kernel_rfl) (by kernel_rfl) (by kernel_rfl)
  have x89 := @run_callFunc_extern Tryd.prog 44 _ (ReflectliteType.abiMethod fun t => do pure (.int .u8 (← Rtype.kind t))) Tryd.func44 (by kernel_rfl) (by kernel_rfl) (by kernel_rfl) (by kernel_rfl)
  have x104 := @run_callFunc_extern Tryd.prog 58 _ (ReflectliteType.method ReflectliteType.elem) Tryd.func58 (by kernel_rfl) (by kernel_rfl) (by kernel_rfl) (by kernel_rfl)
  have x105 := @run_callFunc_extern Tryd.prog 59 _ (ReflectliteType.relation "Implements" ReflectliteType.implements_) Tryd.func59 (by kernel_rfl) (by kernel_rfl) (by kernel_rfl) (by kernel_rfl)
  have f1 := e_valueOfEP
  have f2 := e_typeEP
  have f3 := e_methodKind
  have f4 := e_methodElem
  have f5 := e_methodImplements
  have f6 := e_kindEP
  have f7 := e_kindE
  have f8 := e_elemEP
  have f9 := e_implementsE
  have uW : Up w ((w.alloc (.cells #[.pointer (some ta)] 49)).alloc (.cells #[hnd 49, .pointer (some ⟨w.heap.size, 0, none⟩), .int .u64 150] 54)) := ((Up.refl _).alloc _).alloc _
  have g1 : ((w.alloc (.cells #[.pointer (some ta)] 49)).alloc (.cells #[hnd 49, .pointer (some ⟨w.heap.size, 0, none⟩), .int .u64 150] 54)).cell? ⟨0, 0, none⟩ = some (.iface 64 (.agg #[hnd 28])) := uW.cell hg
  have f10 := e_isNilEP ⟨w.heap.size, 0, none⟩ ta ((w.alloc (.cells #[.pointer (some ta)] 49)).alloc (.cells #[hnd 49, .pointer (some ⟨w.heap.size, 0, none⟩), .int .u64 150] 54)) (by go_simp)
  have HA := hide hA
  replace uW := hide uW
  clear hA hg
  go_enter Tryd.func19, Tryd.ntmps19
  go_wp2_with fail
  go_at_call 26
  refine (HA.out _ ⟨w.heap.size, 0, none⟩ uW.out (by go_simp)).mono ?_
  rintro _ w3 ⟨bb, rfl, hq⟩
  replace hq := hide hq
  clear g1
  go_wp2
  exact hq.out

theorem As_missEF (v : Value) (ta : Addr) (w : World) (hg : TabE w) : Calls Tryd.prog 19 #[.iface 31 v, .iface 48 (.pointer (some ta))] w (Missed w) := by
  refine errAsF _ _ _ w _ hg fun w' a hu _ => (as_missEF v _ _ _ _ w').mono ?_
  rintro _ w3 ⟨rfl, hu3⟩
  exact ⟨false, rfl, rfl, hu.trans hu3⟩
theorem As_missEW (v : Value) (ta : Addr) (w : World) (hg : TabE w) : Calls Tryd.prog 19 #[.iface 31 v, .iface 46 (.pointer (some ta))] w (Missed w) := by
  refine errAsW _ _ _ w _ hg fun w' a hu _ => (as_missEW v _ _ _ _ w').mono ?_
  rintro _ w3 ⟨rfl, hu3⟩
  exact ⟨false, rfl, rfl, hu.trans hu3⟩
theorem As_hitE (z : Int) (ta : Addr) (old : Value) (w : World) (hg : TabE w) (ht : w.cell? ta = some old) (hf : w.frozen? ta = false) :
    Calls Tryd.prog 19 #[.iface 31 (.int .i64 z), .iface 49 (.pointer (some ta))] w (Found w ta (.int .i64 z)) := by
  refine errAsE _ _ _ w _ hg fun w' a hu ha => (as_hitE z ta a old _ w' ha (hu.cell ht) ((hu.frozen (World.block_lt_of_cell? w ta ht)).trans hf)).mono ?_
  rintro _ w3 ⟨rfl, w2, hu2, rfl⟩
  exact ⟨true, rfl, rfl, w2, hu.trans hu2, rfl⟩

set_option maxRecDepth 20000 in
set_option maxHeartbeats 4000000 in
/-- The class of a number. -/
theorem class_num (z : Int) (w : World) (hg : TabE w) :
    Calls Tryd.prog 12 #[.iface 31 (.int .i64 z)] w fun e w' => e = .returned (.int .i64 z) ∧ Up w w' := by
  have HG := hide hg
  clear hg
  go_enter Tryd.func12, Tryd.ntmps12
  go_wp2_with fail
  go_at_call 19
  refine (As_missEW _ _ _ (HG.out.up ((Up.refl _).alloc _))).mono ?_
  rintro _ w1 ⟨rfl, hu1⟩
  have u1 : Hid (Up w w1) := ((Up.refl _).alloc _).trans hu1
  clear hu1
  go_wp2_with fail
  go_at_call 19
  refine (As_missEF _ _ _ (HG.out.up (u1.out.alloc _))).mono ?_
  rintro _ w2 ⟨rfl, hu2⟩
  have u2 : Hid (Up w w2) := (u1.out.alloc _).trans hu2
  clear hu2 u1
  go_wp2_with fail
  go_at_call 19
  refine (As_hitE z ⟨w2.heap.size, 0, none⟩ (.int .i64 0) _ (HG.out.up (u2.out.alloc _)) (by go_simp) (by go_simp)).mono ?_
  rintro _ w3 ⟨rfl, w4, hu4, hw3⟩
  have k0 : w3.cell? ⟨w2.heap.size, 0, none⟩ = some (.int .i64 z) := by
    rw [hw3]
    exact World.cell?_setCell_same _ _ _ (hu4.cell (v := .int .i64 0) (by go_simp))
  have u3 : Hid (Up w w3) := by rw [hw3]; exact ((u2.out.alloc _).trans hu4).setCell u2.out.size _
  clear hw3 hu4
  go_wp2
  go_ret
  exact ⟨rfl, u3.out⟩
/-- Of none. -/
theorem class_nil (w : World) : Calls Tryd.prog 12 #[.nilIface] w fun e w' => e = .returned (.int .i64 0) ∧ Up w w' := by
  go_enter Tryd.func12, Tryd.ntmps12
  go_wp2
  go_ret
  exact ⟨rfl, Up.refl _⟩

end Go.Proofs.YtobalfckdknbdaaDoor

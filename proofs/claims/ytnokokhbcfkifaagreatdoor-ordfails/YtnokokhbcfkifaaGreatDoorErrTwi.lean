/-
  errors.As of a Twice; rialtohelp's Class and Who of it, as their texts run.
-/
import Derived.Test.YtnokokhbcfkifaaGreatDoorErrHelpG
namespace Go.Proofs.YtnokokhbcfkifaaGreatDoor
open Go.ChangeShapes Go.WideShapes Go.ChangeAt Go.RowKit
open Go.RowKit Go.Extern.Stop Go.Stop Go.Extern
set_option linter.unusedVariables false
set_option maxRecDepth 20000
attribute [local go_sem ↓] Go.wp_at_zero Go.wp_at_succ

theorem e_valueOfW (e : Addr) (w : World) : (ReflectliteValue.unpack (.iface 98 (.pointer (some e)))).run Tryz.prog w = .ok (.agg #[hnd 98, .pointer (some ⟨w.heap.size, 0, none⟩), .int .u64 150]) (w.alloc (.cells #[.pointer (some e)] 98)) := by kernel_rfl
theorem e_mkW (p : Addr) (w : World) : (ReflectliteValue.mk 98 p ReflectliteValue.flagAddr).run Tryz.prog w = .ok (.agg #[hnd 98, .pointer (some p), .int .u64 406]) w := by kernel_rfl
theorem e_elemVWP (a p : Addr) (W : World) (ha : W.cell? a = some (.pointer (some p))) :
    (ReflectliteValue.method (ReflectliteValue.valueError "reflectlite.Value.Elem" 0) ReflectliteValue.elem #[.agg #[hnd 105, .pointer (some a), .int .u64 150]]).run Tryz.prog W = .ok (.agg #[hnd 98, .pointer (some p), .int .u64 406]) W := by
  rw [rlm]
  simp only [Sem.run_bind, e_partsWP, Result.andThen]
  simp [ReflectliteValue.elem, loadVar, isAgg, underlying, Tryz.underlying105, ha, Result.andThen, e_elemOfWP, e_mkW]
theorem e_partsAW (a : Addr) (w : World) : (ReflectliteValue.parts (.agg #[hnd 98, .pointer (some a), .int .u64 406])).run Tryz.prog w = .ok (some (98, a, 406)) w := by kernel_rfl
theorem e_partsVW (a : Addr) (w : World) : (ReflectliteValue.parts (.agg #[hnd 98, .pointer (some a), .int .u64 150])).run Tryz.prog w = .ok (some (98, a, 150)) w := by kernel_rfl
theorem e_directW (w : World) : (Rtype.directlyAssignable 98 98).run Tryz.prog w = .ok true w := by kernel_rfl
theorem e_setW (ta b e : Addr) (old : Value) (W : World) (hb : W.cell? b = some (.pointer (some e))) (ht : W.cell? ta = some old) (hf : W.frozen? ta = false) :
    (ReflectliteValue.set #[.agg #[hnd 98, .pointer (some ta), .int .u64 406], .agg #[hnd 98, .pointer (some b), .int .u64 150]]).run Tryz.prog W = .ok (.tuple #[]) (W.setCell ta (.pointer (some e))) := by
  rw [rls]
  simp only [Sem.run_bind, e_partsAW, e_partsVW, Result.andThen]
  simp [ReflectliteValue.flagAddr, loadVar, isAgg, underlying, Tryz.underlying98, hb, Result.andThen, e_directW, storeVar, Value.cells, storeCells, Addr.add]
  rw [run_store Tryz.prog W ta _ _ (by rfl)]
  simp [ht, hf]

set_option maxRecDepth 20000 in
set_option maxHeartbeats 4000000 in
theorem as_hitW (e t a : Addr) (old tgt : Value) (w : World) (ha : w.cell? a = some (.pointer (some t))) (ht : w.cell? t = some old) (hf : w.frozen? t = false) :
    Calls Tryz.prog 70 #[.iface 98 (.pointer (some e)), tgt, .agg #[hnd 105, .pointer (some a), .int .u64 150], .iface 166 (.agg #[hnd 98])] w fun ev w' => ev = .returned (.bool true) ∧ ∃ w2, Up w w2 ∧ w' = w2.setCell t (.pointer (some e)) := by
  have x42 := @run_callFunc_extern Tryz.prog 87 _ ReflectliteType.typeOf Tryz.func87 (by kernel_rfl) (by kernel_rfl) (by kernel_rfl) (by kernel_rfl)
  have x102 := @run_callFunc_extern Tryz.prog 160 _ (ReflectliteType.relation "AssignableTo" ReflectliteType.assignableTo) Tryz.func160 (by kernel_rfl) (by kernel_rfl) (by kernel_rfl) (by kernel_rfl)
  have x38 := @run_callFunc_extern Tryz.prog 67 _ (fun args => ReflectliteValue.unpack (args.getD 0 (.tuple #[]))) Tryz.func67 (by kernel_rfl) (by kernel_rfl) (by kernel_rfl) (by kernel_rfl)
  have x58 := @run_callFunc_extern Tryz.prog 88 _ (ReflectliteValue.method (ReflectliteValue.valueError "reflectlite.Value.Elem" 0) ReflectliteValue.elem) Tryz.func88 (by kernel_rfl) (by kernel_rfl) (by kernel_rfl) (by kernel_rfl)
  have x59 := @run_callFunc_extern Tryz.prog 89 _ ReflectliteValue.set Tryz.func89 (by kernel_rfl) (by kernel_rfl) (by kernel_rfl) (by kernel_rfl)
  have h1 := e_typeOfW
  have h2 := e_methodAssignableTo
  have h3 := e_assignWW
  have h4 := e_valueOfW
  have u1 : Up w (w.alloc (.cells #[hnd 105, .pointer (some a), .int .u64 150] 135)) := (Up.refl _).alloc _
  have u2 : Up w ((w.alloc (.cells #[hnd 105, .pointer (some a), .int .u64 150] 135)).alloc (.cells #[.pointer (some e)] 98)) := ((Up.refl _).alloc _).alloc _
  have h5 := e_elemVWP a t (w.alloc (.cells #[hnd 105, .pointer (some a), .int .u64 150] 135)) (u1.cell ha)
  have h6 := e_setW t ⟨w.heap.size + 1, 0, none⟩ e old ((w.alloc (.cells #[hnd 105, .pointer (some a), .int .u64 150] 135)).alloc (.cells #[.pointer (some e)] 98)) (by go_simp) (u2.cell ht) ((u2.frozen (World.block_lt_of_cell? w t ht)).trans hf)
  clear ha ht hf u1
  replace u2 := hide u2
  go_enter Tryz.func70, Tryz.ntmps70
  go_wp2_with fail
  refine wp_loop_rounds 1 ?_
  rw [rounds_succ]
  go_wp2
  go_ret
  exact ⟨rfl, _, u2.out, rfl⟩

theorem As_hitW (e ta : Addr) (old : Value) (w : World) (hg : TabE w) (ht : w.cell? ta = some old) (hf : w.frozen? ta = false) :
    Calls Tryz.prog 43 #[.iface 98 (.pointer (some e)), .iface 105 (.pointer (some ta))] w (Found w ta (.pointer (some e))) := by
  refine errAsW _ _ _ w _ hg fun w' a hu ha => (as_hitW e ta a old _ w' ha (hu.cell ht) ((hu.frozen (World.block_lt_of_cell? w ta ht)).trans hf)).mono ?_
  rintro _ w3 ⟨rfl, w2, hu2, rfl⟩
  exact ⟨true, rfl, rfl, w2, hu.trans hu2, rfl⟩


/-- A Twice: where, and whose. -/
def TwiceAt (w : World) (b : Nat) (id : Int) : Prop := w.cell? ⟨b, 1, none⟩ = some (.int .i64 id)
set_option maxHeartbeats 4000000 in
theorem class_twice (b : Nat) (w : World) (hg : TabE w) :
    Calls Tryz.prog 22 #[.iface 98 (.pointer (some ⟨b, 0, none⟩))] w fun e w' => e = .returned (.int .i64 80) ∧ Up w w' := by
  have HG := hide hg
  clear hg
  go_enter Tryz.func22, Tryz.ntmps22
  go_wp2_with fail
  go_at_call 43
  refine (As_hitW ⟨b, 0, none⟩ ⟨w.heap.size, 0, none⟩ (.pointer none) _ (HG.out.up ((Up.refl _).alloc _)) (by go_simp) (by go_simp)).mono ?_
  rintro _ w3 ⟨rfl, w2, hu2, hw3⟩
  have k0 : w3.cell? ⟨w.heap.size, 0, none⟩ = some (.pointer (some ⟨b, 0, none⟩)) := by
    rw [hw3]
    exact World.cell?_setCell_same _ _ _ (hu2.cell (v := .pointer none) (by go_simp))
  have u3 : Hid (Up w w3) := by rw [hw3]; exact (((Up.refl w).alloc _).trans hu2).setCell (Nat.le_refl _) _
  clear hw3 hu2
  go_wp2
  go_ret
  exact ⟨rfl, u3.out⟩
set_option maxHeartbeats 4000000 in
theorem who_twice (b : Nat) (id : Int) (w : World) (hg : TabE w) (ht : TwiceAt w b id) :
    Calls Tryz.prog 23 #[.iface 98 (.pointer (some ⟨b, 0, none⟩))] w fun e w' => e = .returned (.int .i64 id) ∧ Up w w' := by
  have HG := hide hg
  have HT := hide ht
  clear hg ht
  go_enter Tryz.func23, Tryz.ntmps23
  go_wp2_with fail
  go_at_call 43
  refine (As_hitW ⟨b, 0, none⟩ ⟨w.heap.size, 0, none⟩ (.pointer none) _ (HG.out.up ((Up.refl _).alloc _)) (by go_simp) (by go_simp)).mono ?_
  rintro _ w3 ⟨rfl, w2, hu2, hw3⟩
  have k0 : w3.cell? ⟨w.heap.size, 0, none⟩ = some (.pointer (some ⟨b, 0, none⟩)) := by
    rw [hw3]
    exact World.cell?_setCell_same _ _ _ (hu2.cell (v := .pointer none) (by go_simp))
  have u3 : Hid (Up w w3) := by rw [hw3]; exact (((Up.refl w).alloc _).trans hu2).setCell (Nat.le_refl _) _
  have t1 : w3.cell? ⟨b, 1, none⟩ = some (.int .i64 id) := u3.out.cell HT.out
  clear hw3 hu2
  go_wp2
  go_ret
  exact ⟨rfl, u3.out⟩
end Go.Proofs.YtnokokhbcfkifaaGreatDoor

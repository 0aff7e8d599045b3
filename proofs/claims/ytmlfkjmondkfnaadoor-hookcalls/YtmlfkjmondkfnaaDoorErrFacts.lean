/-
  Closed facts on the model's entries for the library's reflection, at this program's types, and the laws on those that read or write memory; for errors.As and errors.Is.
-/
import Derived.Test.YtmlfkjmondkfnaaDoorProg
import Derived.KernelRfl
import Derived.WalkKit
import Derived.LaidEql
import Derived.Stop.Asserts
import Derived.RowKitTokens
namespace Go.Proofs.YtmlfkjmondkfnaaDoor
open Go.RowKit Go.Extern.Stop Go.Stop Go.Extern

/-- A type's handle. -/
def hnd (t : Nat) : Value := .pointer (some ⟨2, t, none⟩)
theorem e_methodKind (h : Value) (w : World) : (Go.method 284 128 (.agg #[h]) "Kind").run Tryd.prog w = .ok (101, h) w := by kernel_rfl
theorem e_methodElem (h : Value) (w : World) : (Go.method 284 128 (.agg #[h]) "Elem").run Tryd.prog w = .ok (116, .agg #[h]) w := by kernel_rfl
theorem e_methodImplements (h : Value) (w : World) : (Go.method 284 128 (.agg #[h]) "Implements").run Tryd.prog w = .ok (117, .agg #[h]) w := by kernel_rfl
theorem e_methodAssignableTo (h : Value) (w : World) : (Go.method 284 128 (.agg #[h]) "AssignableTo").run Tryd.prog w = .ok (114, .agg #[h]) w := by kernel_rfl
theorem rlm (z : Sem Value) (f : TypeId → Addr → Nat → Nat → Sem Value) (v : Value) :
    ReflectliteValue.method z f #[v] = (do match ← ReflectliteValue.parts v with | none => z | some (t, a, fl) => f t a fl (fl % 32)) := rfl

/-! Errors of type E. -/
theorem e_valueOfEP (t : Addr) (w : World) : (ReflectliteValue.unpack (.iface 121 (.pointer (some t)))).run Tryd.prog w = .ok (.agg #[hnd 121, .pointer (some ⟨w.heap.size, 0, none⟩), .int .u64 150]) (w.alloc (.cells #[.pointer (some t)] 121)) := by kernel_rfl
theorem e_typeEP (a : Addr) (w : World) : (ReflectliteValue.methodAny (ReflectliteValue.valueError "reflectlite.Value.Type" 0) (fun t _ _ _ => ReflectliteType.toType t) #[.agg #[hnd 121, .pointer (some a), .int .u64 150]]).run Tryd.prog w = .ok ((.iface 128 (.agg #[hnd 121]))) w := by kernel_rfl
theorem e_kindEP (w : World) : ((ReflectliteType.abiMethod fun t => (fun a : Nat => Value.int IntKind.u8 (a : Int)) <$> Rtype.kind t) #[hnd 121]).run Tryd.prog w = .ok (.int .u8 22) w := by kernel_rfl
theorem e_kindE (w : World) : ((ReflectliteType.abiMethod fun t => (fun a : Nat => Value.int IntKind.u8 (a : Int)) <$> Rtype.kind t) #[hnd 31]).run Tryd.prog w = .ok (.int .u8 2) w := by kernel_rfl
theorem e_partsEP (a : Addr) (w : World) : (ReflectliteValue.parts (.agg #[hnd 121, .pointer (some a), .int .u64 150])).run Tryd.prog w = .ok (some (121, a, 150)) w := by kernel_rfl
theorem e_isNilEP (a p : Addr) (W : World) (ha : W.cell? a = some (.pointer (some p))) :
    (ReflectliteValue.method (ReflectliteValue.valueError "reflectlite.Value.IsNil" 0) ReflectliteValue.isNil #[.agg #[hnd 121, .pointer (some a), .int .u64 150]]).run Tryd.prog W = .ok (.bool false) W := by
  rw [rlm]
  simp only [Sem.run_bind, e_partsEP, Result.andThen]
  simp [ReflectliteValue.isNil, loadVar, isAgg, underlying, Tryd.underlying121, ha, Result.andThen]
theorem e_elemEP (w : World) : (ReflectliteType.method ReflectliteType.elem #[.agg #[hnd 121]]).run Tryd.prog w = .ok ((.iface 128 (.agg #[hnd 31]))) w := by kernel_rfl
theorem e_implementsE (w : World) : (ReflectliteType.relation "Implements" ReflectliteType.implements_ #[.agg #[hnd 31], (.iface 128 (.agg #[hnd 27]))]).run Tryd.prog w = .ok (.bool true) w := by kernel_rfl
theorem e_typeOfE (v : Value) (w : World) : (ReflectliteType.typeOf #[.iface 31 v]).run Tryd.prog w = .ok ((.iface 128 (.agg #[hnd 31]))) w := by kernel_rfl
theorem e_elemOfEP (w : World) : (Rtype.elem? 121).run Tryd.prog w = .ok (some 31) w := by kernel_rfl

/-! Errors of type F. -/
theorem e_valueOfFP (t : Addr) (w : World) : (ReflectliteValue.unpack (.iface 35 (.pointer (some t)))).run Tryd.prog w = .ok (.agg #[hnd 35, .pointer (some ⟨w.heap.size, 0, none⟩), .int .u64 150]) (w.alloc (.cells #[.pointer (some t)] 35)) := by kernel_rfl
theorem e_typeFP (a : Addr) (w : World) : (ReflectliteValue.methodAny (ReflectliteValue.valueError "reflectlite.Value.Type" 0) (fun t _ _ _ => ReflectliteType.toType t) #[.agg #[hnd 35, .pointer (some a), .int .u64 150]]).run Tryd.prog w = .ok ((.iface 128 (.agg #[hnd 35]))) w := by kernel_rfl
theorem e_kindFP (w : World) : ((ReflectliteType.abiMethod fun t => (fun a : Nat => Value.int IntKind.u8 (a : Int)) <$> Rtype.kind t) #[hnd 35]).run Tryd.prog w = .ok (.int .u8 22) w := by kernel_rfl
theorem e_kindF (w : World) : ((ReflectliteType.abiMethod fun t => (fun a : Nat => Value.int IntKind.u8 (a : Int)) <$> Rtype.kind t) #[hnd 33]).run Tryd.prog w = .ok (.int .u8 22) w := by kernel_rfl
theorem e_partsFP (a : Addr) (w : World) : (ReflectliteValue.parts (.agg #[hnd 35, .pointer (some a), .int .u64 150])).run Tryd.prog w = .ok (some (35, a, 150)) w := by kernel_rfl
theorem e_isNilFP (a p : Addr) (W : World) (ha : W.cell? a = some (.pointer (some p))) :
    (ReflectliteValue.method (ReflectliteValue.valueError "reflectlite.Value.IsNil" 0) ReflectliteValue.isNil #[.agg #[hnd 35, .pointer (some a), .int .u64 150]]).run Tryd.prog W = .ok (.bool false) W := by
  rw [rlm]
  simp only [Sem.run_bind, e_partsFP, Result.andThen]
  simp [ReflectliteValue.isNil, loadVar, isAgg, underlying, Tryd.underlying35, ha, Result.andThen]
theorem e_elemFP (w : World) : (ReflectliteType.method ReflectliteType.elem #[.agg #[hnd 35]]).run Tryd.prog w = .ok ((.iface 128 (.agg #[hnd 33]))) w := by kernel_rfl
theorem e_implementsF (w : World) : (ReflectliteType.relation "Implements" ReflectliteType.implements_ #[.agg #[hnd 33], (.iface 128 (.agg #[hnd 27]))]).run Tryd.prog w = .ok (.bool true) w := by kernel_rfl
theorem e_typeOfF (v : Value) (w : World) : (ReflectliteType.typeOf #[.iface 33 v]).run Tryd.prog w = .ok ((.iface 128 (.agg #[hnd 33]))) w := by kernel_rfl
theorem e_elemOfFP (w : World) : (Rtype.elem? 35).run Tryd.prog w = .ok (some 33) w := by kernel_rfl

/-! Errors of type W. -/
theorem e_valueOfWP (t : Addr) (w : World) : (ReflectliteValue.unpack (.iface 120 (.pointer (some t)))).run Tryd.prog w = .ok (.agg #[hnd 120, .pointer (some ⟨w.heap.size, 0, none⟩), .int .u64 150]) (w.alloc (.cells #[.pointer (some t)] 120)) := by kernel_rfl
theorem e_typeWP (a : Addr) (w : World) : (ReflectliteValue.methodAny (ReflectliteValue.valueError "reflectlite.Value.Type" 0) (fun t _ _ _ => ReflectliteType.toType t) #[.agg #[hnd 120, .pointer (some a), .int .u64 150]]).run Tryd.prog w = .ok ((.iface 128 (.agg #[hnd 120]))) w := by kernel_rfl
theorem e_kindWP (w : World) : ((ReflectliteType.abiMethod fun t => (fun a : Nat => Value.int IntKind.u8 (a : Int)) <$> Rtype.kind t) #[hnd 120]).run Tryd.prog w = .ok (.int .u8 22) w := by kernel_rfl
theorem e_kindW (w : World) : ((ReflectliteType.abiMethod fun t => (fun a : Nat => Value.int IntKind.u8 (a : Int)) <$> Rtype.kind t) #[hnd 119]).run Tryd.prog w = .ok (.int .u8 22) w := by kernel_rfl
theorem e_partsWP (a : Addr) (w : World) : (ReflectliteValue.parts (.agg #[hnd 120, .pointer (some a), .int .u64 150])).run Tryd.prog w = .ok (some (120, a, 150)) w := by kernel_rfl
theorem e_isNilWP (a p : Addr) (W : World) (ha : W.cell? a = some (.pointer (some p))) :
    (ReflectliteValue.method (ReflectliteValue.valueError "reflectlite.Value.IsNil" 0) ReflectliteValue.isNil #[.agg #[hnd 120, .pointer (some a), .int .u64 150]]).run Tryd.prog W = .ok (.bool false) W := by
  rw [rlm]
  simp only [Sem.run_bind, e_partsWP, Result.andThen]
  simp [ReflectliteValue.isNil, loadVar, isAgg, underlying, Tryd.underlying120, ha, Result.andThen]
theorem e_elemWP (w : World) : (ReflectliteType.method ReflectliteType.elem #[.agg #[hnd 120]]).run Tryd.prog w = .ok ((.iface 128 (.agg #[hnd 119]))) w := by kernel_rfl
theorem e_implementsW (w : World) : (ReflectliteType.relation "Implements" ReflectliteType.implements_ #[.agg #[hnd 119], (.iface 128 (.agg #[hnd 27]))]).run Tryd.prog w = .ok (.bool true) w := by kernel_rfl
theorem e_typeOfW (v : Value) (w : World) : (ReflectliteType.typeOf #[.iface 119 v]).run Tryd.prog w = .ok ((.iface 128 (.agg #[hnd 119]))) w := by kernel_rfl
theorem e_elemOfWP (w : World) : (Rtype.elem? 120).run Tryd.prog w = .ok (some 119) w := by kernel_rfl

/-! Errors of type M. -/
theorem e_valueOfMP (t : Addr) (w : World) : (ReflectliteValue.unpack (.iface 102 (.pointer (some t)))).run Tryd.prog w = .ok (.agg #[hnd 102, .pointer (some ⟨w.heap.size, 0, none⟩), .int .u64 150]) (w.alloc (.cells #[.pointer (some t)] 102)) := by kernel_rfl
theorem e_typeMP (a : Addr) (w : World) : (ReflectliteValue.methodAny (ReflectliteValue.valueError "reflectlite.Value.Type" 0) (fun t _ _ _ => ReflectliteType.toType t) #[.agg #[hnd 102, .pointer (some a), .int .u64 150]]).run Tryd.prog w = .ok ((.iface 128 (.agg #[hnd 102]))) w := by kernel_rfl
theorem e_kindMP (w : World) : ((ReflectliteType.abiMethod fun t => (fun a : Nat => Value.int IntKind.u8 (a : Int)) <$> Rtype.kind t) #[hnd 102]).run Tryd.prog w = .ok (.int .u8 22) w := by kernel_rfl
theorem e_kindM (w : World) : ((ReflectliteType.abiMethod fun t => (fun a : Nat => Value.int IntKind.u8 (a : Int)) <$> Rtype.kind t) #[hnd 23]).run Tryd.prog w = .ok (.int .u8 22) w := by kernel_rfl
theorem e_partsMP (a : Addr) (w : World) : (ReflectliteValue.parts (.agg #[hnd 102, .pointer (some a), .int .u64 150])).run Tryd.prog w = .ok (some (102, a, 150)) w := by kernel_rfl
theorem e_isNilMP (a p : Addr) (W : World) (ha : W.cell? a = some (.pointer (some p))) :
    (ReflectliteValue.method (ReflectliteValue.valueError "reflectlite.Value.IsNil" 0) ReflectliteValue.isNil #[.agg #[hnd 102, .pointer (some a), .int .u64 150]]).run Tryd.prog W = .ok (.bool false) W := by
  rw [rlm]
  simp only [Sem.run_bind, e_partsMP, Result.andThen]
  simp [ReflectliteValue.isNil, loadVar, isAgg, underlying, Tryd.underlying102, ha, Result.andThen]
theorem e_elemMP (w : World) : (ReflectliteType.method ReflectliteType.elem #[.agg #[hnd 102]]).run Tryd.prog w = .ok ((.iface 128 (.agg #[hnd 23]))) w := by kernel_rfl
theorem e_implementsM (w : World) : (ReflectliteType.relation "Implements" ReflectliteType.implements_ #[.agg #[hnd 23], (.iface 128 (.agg #[hnd 27]))]).run Tryd.prog w = .ok (.bool true) w := by kernel_rfl
theorem e_typeOfM (v : Value) (w : World) : (ReflectliteType.typeOf #[.iface 23 v]).run Tryd.prog w = .ok ((.iface 128 (.agg #[hnd 23]))) w := by kernel_rfl
theorem e_elemOfMP (w : World) : (Rtype.elem? 102).run Tryd.prog w = .ok (some 23) w := by kernel_rfl
theorem e_assignEE (w : World) : (ReflectliteType.relation "AssignableTo" ReflectliteType.assignableTo #[.agg #[hnd 31], (.iface 128 (.agg #[hnd 31]))]).run Tryd.prog w = .ok (.bool true) w := by kernel_rfl
theorem e_assignEF (w : World) : (ReflectliteType.relation "AssignableTo" ReflectliteType.assignableTo #[.agg #[hnd 31], (.iface 128 (.agg #[hnd 33]))]).run Tryd.prog w = .ok (.bool false) w := by kernel_rfl
theorem e_assignEW (w : World) : (ReflectliteType.relation "AssignableTo" ReflectliteType.assignableTo #[.agg #[hnd 31], (.iface 128 (.agg #[hnd 119]))]).run Tryd.prog w = .ok (.bool false) w := by kernel_rfl
theorem e_assignEM (w : World) : (ReflectliteType.relation "AssignableTo" ReflectliteType.assignableTo #[.agg #[hnd 31], (.iface 128 (.agg #[hnd 23]))]).run Tryd.prog w = .ok (.bool false) w := by kernel_rfl
theorem e_assignFE (w : World) : (ReflectliteType.relation "AssignableTo" ReflectliteType.assignableTo #[.agg #[hnd 33], (.iface 128 (.agg #[hnd 31]))]).run Tryd.prog w = .ok (.bool false) w := by kernel_rfl
theorem e_assignFF (w : World) : (ReflectliteType.relation "AssignableTo" ReflectliteType.assignableTo #[.agg #[hnd 33], (.iface 128 (.agg #[hnd 33]))]).run Tryd.prog w = .ok (.bool true) w := by kernel_rfl
theorem e_assignFW (w : World) : (ReflectliteType.relation "AssignableTo" ReflectliteType.assignableTo #[.agg #[hnd 33], (.iface 128 (.agg #[hnd 119]))]).run Tryd.prog w = .ok (.bool false) w := by kernel_rfl
theorem e_assignFM (w : World) : (ReflectliteType.relation "AssignableTo" ReflectliteType.assignableTo #[.agg #[hnd 33], (.iface 128 (.agg #[hnd 23]))]).run Tryd.prog w = .ok (.bool false) w := by kernel_rfl
theorem e_assignWE (w : World) : (ReflectliteType.relation "AssignableTo" ReflectliteType.assignableTo #[.agg #[hnd 119], (.iface 128 (.agg #[hnd 31]))]).run Tryd.prog w = .ok (.bool false) w := by kernel_rfl
theorem e_assignWF (w : World) : (ReflectliteType.relation "AssignableTo" ReflectliteType.assignableTo #[.agg #[hnd 119], (.iface 128 (.agg #[hnd 33]))]).run Tryd.prog w = .ok (.bool false) w := by kernel_rfl
theorem e_assignWW (w : World) : (ReflectliteType.relation "AssignableTo" ReflectliteType.assignableTo #[.agg #[hnd 119], (.iface 128 (.agg #[hnd 119]))]).run Tryd.prog w = .ok (.bool true) w := by kernel_rfl
theorem e_assignWM (w : World) : (ReflectliteType.relation "AssignableTo" ReflectliteType.assignableTo #[.agg #[hnd 119], (.iface 128 (.agg #[hnd 23]))]).run Tryd.prog w = .ok (.bool false) w := by kernel_rfl
theorem e_assignME (w : World) : (ReflectliteType.relation "AssignableTo" ReflectliteType.assignableTo #[.agg #[hnd 23], (.iface 128 (.agg #[hnd 31]))]).run Tryd.prog w = .ok (.bool false) w := by kernel_rfl
theorem e_assignMF (w : World) : (ReflectliteType.relation "AssignableTo" ReflectliteType.assignableTo #[.agg #[hnd 23], (.iface 128 (.agg #[hnd 33]))]).run Tryd.prog w = .ok (.bool false) w := by kernel_rfl
theorem e_assignMW (w : World) : (ReflectliteType.relation "AssignableTo" ReflectliteType.assignableTo #[.agg #[hnd 23], (.iface 128 (.agg #[hnd 119]))]).run Tryd.prog w = .ok (.bool false) w := by kernel_rfl
theorem e_assignMM (w : World) : (ReflectliteType.relation "AssignableTo" ReflectliteType.assignableTo #[.agg #[hnd 23], (.iface 128 (.agg #[hnd 23]))]).run Tryd.prog w = .ok (.bool true) w := by kernel_rfl

end Go.Proofs.YtmlfkjmondkfnaaDoor

/-
  Closed facts on the model's entries for the library's reflection, at this program's types, and the laws on those that read or write memory; for errors.As and errors.Is.
-/
import Derived.Test.YtobalfckdknbdaaDoorProg
import Derived.KernelRfl
import Derived.WalkKit
import Derived.LaidEql
import Derived.Stop.Asserts
import Derived.RowKitTokens
namespace Go.Proofs.YtobalfckdknbdaaDoor
open Go.RowKit Go.Extern.Stop Go.Stop Go.Extern

/-- A type's handle. -/
def hnd (t : Nat) : Value := .pointer (some ⟨1, t, none⟩)
theorem e_methodKind (h : Value) (w : World) : (Go.method 210 64 (.agg #[h]) "Kind").run Tryd.prog w = .ok (44, h) w := by kernel_rfl
theorem e_methodElem (h : Value) (w : World) : (Go.method 210 64 (.agg #[h]) "Elem").run Tryd.prog w = .ok (58, .agg #[h]) w := by kernel_rfl
theorem e_methodImplements (h : Value) (w : World) : (Go.method 210 64 (.agg #[h]) "Implements").run Tryd.prog w = .ok (59, .agg #[h]) w := by kernel_rfl
theorem e_methodAssignableTo (h : Value) (w : World) : (Go.method 210 64 (.agg #[h]) "AssignableTo").run Tryd.prog w = .ok (56, .agg #[h]) w := by kernel_rfl
theorem rlm (z : Sem Value) (f : TypeId → Addr → Nat → Nat → Sem Value) (v : Value) :
    ReflectliteValue.method z f #[v] = (do match ← ReflectliteValue.parts v with | none => z | some (t, a, fl) => f t a fl (fl % 32)) := rfl

/-! Errors of type E. -/
theorem e_valueOfEP (t : Addr) (w : World) : (ReflectliteValue.unpack (.iface 49 (.pointer (some t)))).run Tryd.prog w = .ok (.agg #[hnd 49, .pointer (some ⟨w.heap.size, 0, none⟩), .int .u64 150]) (w.alloc (.cells #[.pointer (some t)] 49)) := by kernel_rfl
theorem e_typeEP (a : Addr) (w : World) : (ReflectliteValue.methodAny (ReflectliteValue.valueError "reflectlite.Value.Type" 0) (fun t _ _ _ => ReflectliteType.toType t) #[.agg #[hnd 49, .pointer (some a), .int .u64 150]]).run Tryd.prog w = .ok ((.iface 64 (.agg #[hnd 49]))) w := by kernel_rfl
theorem e_kindEP (w : World) : ((ReflectliteType.abiMethod fun t => (fun a : Nat => Value.int IntKind.u8 (a : Int)) <$> Rtype.kind t) #[hnd 49]).run Tryd.prog w = .ok (.int .u8 22) w := by kernel_rfl
theorem e_kindE (w : World) : ((ReflectliteType.abiMethod fun t => (fun a : Nat => Value.int IntKind.u8 (a : Int)) <$> Rtype.kind t) #[hnd 31]).run Tryd.prog w = .ok (.int .u8 2) w := by kernel_rfl
theorem e_partsEP (a : Addr) (w : World) : (ReflectliteValue.parts (.agg #[hnd 49, .pointer (some a), .int .u64 150])).run Tryd.prog w = .ok (some (49, a, 150)) w := by kernel_rfl
theorem e_isNilEP (a p : Addr) (W : World) (ha : W.cell? a = some (.pointer (some p))) :
    (ReflectliteValue.method (ReflectliteValue.valueError "reflectlite.Value.IsNil" 0) ReflectliteValue.isNil #[.agg #[hnd 49, .pointer (some a), .int .u64 150]]).run Tryd.prog W = .ok (.bool false) W := by
  rw [rlm]
  simp only [Sem.run_bind, e_partsEP, Result.andThen]
  simp [ReflectliteValue.isNil, loadVar, isAgg, underlying, Tryd.underlying49, ha, Result.andThen]
theorem e_elemEP (w : World) : (ReflectliteType.method ReflectliteType.elem #[.agg #[hnd 49]]).run Tryd.prog w = .ok ((.iface 64 (.agg #[hnd 31]))) w := by kernel_rfl
theorem e_implementsE (w : World) : (ReflectliteType.relation "Implements" ReflectliteType.implements_ #[.agg #[hnd 31], (.iface 64 (.agg #[hnd 28]))]).run Tryd.prog w = .ok (.bool true) w := by kernel_rfl
theorem e_typeOfE (v : Value) (w : World) : (ReflectliteType.typeOf #[.iface 31 v]).run Tryd.prog w = .ok ((.iface 64 (.agg #[hnd 31]))) w := by kernel_rfl
theorem e_elemOfEP (w : World) : (Rtype.elem? 49).run Tryd.prog w = .ok (some 31) w := by kernel_rfl

/-! Errors of type F. -/
theorem e_valueOfFP (t : Addr) (w : World) : (ReflectliteValue.unpack (.iface 48 (.pointer (some t)))).run Tryd.prog w = .ok (.agg #[hnd 48, .pointer (some ⟨w.heap.size, 0, none⟩), .int .u64 150]) (w.alloc (.cells #[.pointer (some t)] 48)) := by kernel_rfl
theorem e_typeFP (a : Addr) (w : World) : (ReflectliteValue.methodAny (ReflectliteValue.valueError "reflectlite.Value.Type" 0) (fun t _ _ _ => ReflectliteType.toType t) #[.agg #[hnd 48, .pointer (some a), .int .u64 150]]).run Tryd.prog w = .ok ((.iface 64 (.agg #[hnd 48]))) w := by kernel_rfl
theorem e_kindFP (w : World) : ((ReflectliteType.abiMethod fun t => (fun a : Nat => Value.int IntKind.u8 (a : Int)) <$> Rtype.kind t) #[hnd 48]).run Tryd.prog w = .ok (.int .u8 22) w := by kernel_rfl
theorem e_kindF (w : World) : ((ReflectliteType.abiMethod fun t => (fun a : Nat => Value.int IntKind.u8 (a : Int)) <$> Rtype.kind t) #[hnd 47]).run Tryd.prog w = .ok (.int .u8 22) w := by kernel_rfl
theorem e_partsFP (a : Addr) (w : World) : (ReflectliteValue.parts (.agg #[hnd 48, .pointer (some a), .int .u64 150])).run Tryd.prog w = .ok (some (48, a, 150)) w := by kernel_rfl
theorem e_isNilFP (a p : Addr) (W : World) (ha : W.cell? a = some (.pointer (some p))) :
    (ReflectliteValue.method (ReflectliteValue.valueError "reflectlite.Value.IsNil" 0) ReflectliteValue.isNil #[.agg #[hnd 48, .pointer (some a), .int .u64 150]]).run Tryd.prog W = .ok (.bool false) W := by
  rw [rlm]
  simp only [Sem.run_bind, e_partsFP, Result.andThen]
  simp [ReflectliteValue.isNil, loadVar, isAgg, underlying, Tryd.underlying48, ha, Result.andThen]
theorem e_elemFP (w : World) : (ReflectliteType.method ReflectliteType.elem #[.agg #[hnd 48]]).run Tryd.prog w = .ok ((.iface 64 (.agg #[hnd 47]))) w := by kernel_rfl
theorem e_implementsF (w : World) : (ReflectliteType.relation "Implements" ReflectliteType.implements_ #[.agg #[hnd 47], (.iface 64 (.agg #[hnd 28]))]).run Tryd.prog w = .ok (.bool true) w := by kernel_rfl
theorem e_typeOfF (v : Value) (w : World) : (ReflectliteType.typeOf #[.iface 47 v]).run Tryd.prog w = .ok ((.iface 64 (.agg #[hnd 47]))) w := by kernel_rfl
theorem e_elemOfFP (w : World) : (Rtype.elem? 48).run Tryd.prog w = .ok (some 47) w := by kernel_rfl

/-! Errors of type W. -/
theorem e_valueOfWP (t : Addr) (w : World) : (ReflectliteValue.unpack (.iface 46 (.pointer (some t)))).run Tryd.prog w = .ok (.agg #[hnd 46, .pointer (some ⟨w.heap.size, 0, none⟩), .int .u64 150]) (w.alloc (.cells #[.pointer (some t)] 46)) := by kernel_rfl
theorem e_typeWP (a : Addr) (w : World) : (ReflectliteValue.methodAny (ReflectliteValue.valueError "reflectlite.Value.Type" 0) (fun t _ _ _ => ReflectliteType.toType t) #[.agg #[hnd 46, .pointer (some a), .int .u64 150]]).run Tryd.prog w = .ok ((.iface 64 (.agg #[hnd 46]))) w := by kernel_rfl
theorem e_kindWP (w : World) : ((ReflectliteType.abiMethod fun t => (fun a : Nat => Value.int IntKind.u8 (a : Int)) <$> Rtype.kind t) #[hnd 46]).run Tryd.prog w = .ok (.int .u8 22) w := by kernel_rfl
theorem e_kindW (w : World) : ((ReflectliteType.abiMethod fun t => (fun a : Nat => Value.int IntKind.u8 (a : Int)) <$> Rtype.kind t) #[hnd 44]).run Tryd.prog w = .ok (.int .u8 22) w := by kernel_rfl
theorem e_partsWP (a : Addr) (w : World) : (ReflectliteValue.parts (.agg #[hnd 46, .pointer (some a), .int .u64 150])).run Tryd.prog w = .ok (some (46, a, 150)) w := by kernel_rfl
theorem e_isNilWP (a p : Addr) (W : World) (ha : W.cell? a = some (.pointer (some p))) :
    (ReflectliteValue.method (ReflectliteValue.valueError "reflectlite.Value.IsNil" 0) ReflectliteValue.isNil #[.agg #[hnd 46, .pointer (some a), .int .u64 150]]).run Tryd.prog W = .ok (.bool false) W := by
  rw [rlm]
  simp only [Sem.run_bind, e_partsWP, Result.andThen]
  simp [ReflectliteValue.isNil, loadVar, isAgg, underlying, Tryd.underlying46, ha, Result.andThen]
theorem e_elemWP (w : World) : (ReflectliteType.method ReflectliteType.elem #[.agg #[hnd 46]]).run Tryd.prog w = .ok ((.iface 64 (.agg #[hnd 44]))) w := by kernel_rfl
theorem e_implementsW (w : World) : (ReflectliteType.relation "Implements" ReflectliteType.implements_ #[.agg #[hnd 44], (.iface 64 (.agg #[hnd 28]))]).run Tryd.prog w = .ok (.bool true) w := by kernel_rfl
theorem e_typeOfW (v : Value) (w : World) : (ReflectliteType.typeOf #[.iface 44 v]).run Tryd.prog w = .ok ((.iface 64 (.agg #[hnd 44]))) w := by kernel_rfl
theorem e_elemOfWP (w : World) : (Rtype.elem? 46).run Tryd.prog w = .ok (some 44) w := by kernel_rfl

theorem e_assignEE (w : World) : (ReflectliteType.relation "AssignableTo" ReflectliteType.assignableTo #[.agg #[hnd 31], (.iface 64 (.agg #[hnd 31]))]).run Tryd.prog w = .ok (.bool true) w := by kernel_rfl
theorem e_assignEF (w : World) : (ReflectliteType.relation "AssignableTo" ReflectliteType.assignableTo #[.agg #[hnd 31], (.iface 64 (.agg #[hnd 47]))]).run Tryd.prog w = .ok (.bool false) w := by kernel_rfl
theorem e_assignEW (w : World) : (ReflectliteType.relation "AssignableTo" ReflectliteType.assignableTo #[.agg #[hnd 31], (.iface 64 (.agg #[hnd 44]))]).run Tryd.prog w = .ok (.bool false) w := by kernel_rfl
theorem e_assignFE (w : World) : (ReflectliteType.relation "AssignableTo" ReflectliteType.assignableTo #[.agg #[hnd 47], (.iface 64 (.agg #[hnd 31]))]).run Tryd.prog w = .ok (.bool false) w := by kernel_rfl
theorem e_assignFF (w : World) : (ReflectliteType.relation "AssignableTo" ReflectliteType.assignableTo #[.agg #[hnd 47], (.iface 64 (.agg #[hnd 47]))]).run Tryd.prog w = .ok (.bool true) w := by kernel_rfl
theorem e_assignFW (w : World) : (ReflectliteType.relation "AssignableTo" ReflectliteType.assignableTo #[.agg #[hnd 47], (.iface 64 (.agg #[hnd 44]))]).run Tryd.prog w = .ok (.bool false) w := by kernel_rfl
theorem e_assignWE (w : World) : (ReflectliteType.relation "AssignableTo" ReflectliteType.assignableTo #[.agg #[hnd 44], (.iface 64 (.agg #[hnd 31]))]).run Tryd.prog w = .ok (.bool false) w := by kernel_rfl
theorem e_assignWF (w : World) : (ReflectliteType.relation "AssignableTo" ReflectliteType.assignableTo #[.agg #[hnd 44], (.iface 64 (.agg #[hnd 47]))]).run Tryd.prog w = .ok (.bool false) w := by kernel_rfl
theorem e_assignWW (w : World) : (ReflectliteType.relation "AssignableTo" ReflectliteType.assignableTo #[.agg #[hnd 44], (.iface 64 (.agg #[hnd 44]))]).run Tryd.prog w = .ok (.bool true) w := by kernel_rfl
end Go.Proofs.YtobalfckdknbdaaDoor

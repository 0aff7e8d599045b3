/-
  Closed facts on the model's entries for the library's reflection, at this program's types, and the laws on those that read or write memory; for errors.As and errors.Is.
-/
import Derived.Test.YtnnbcpopjnlnoaaDoorProg
import Derived.KernelRfl
import Derived.WalkKit
import Derived.LaidEql
import Derived.Stop.Asserts
import Derived.RowKitTokens
namespace Go.Proofs.YtnnbcpopjnlnoaaDoor
open Go.RowKit Go.Extern.Stop Go.Stop Go.Extern

/-- A type's handle. -/
def hnd (t : Nat) : Value := .pointer (some ⟨3, t, none⟩)
theorem e_methodKind (h : Value) (w : World) : (Go.method 288 133 (.agg #[h]) "Kind").run Tryd.prog w = .ok (103, h) w := by kernel_rfl
theorem e_methodElem (h : Value) (w : World) : (Go.method 288 133 (.agg #[h]) "Elem").run Tryd.prog w = .ok (118, .agg #[h]) w := by kernel_rfl
theorem e_methodImplements (h : Value) (w : World) : (Go.method 288 133 (.agg #[h]) "Implements").run Tryd.prog w = .ok (119, .agg #[h]) w := by kernel_rfl
theorem e_methodAssignableTo (h : Value) (w : World) : (Go.method 288 133 (.agg #[h]) "AssignableTo").run Tryd.prog w = .ok (116, .agg #[h]) w := by kernel_rfl
theorem rlm (z : Sem Value) (f : TypeId → Addr → Nat → Nat → Sem Value) (v : Value) :
    ReflectliteValue.method z f #[v] = (do match ← ReflectliteValue.parts v with | none => z | some (t, a, fl) => f t a fl (fl % 32)) := rfl

/-! Errors of type E. -/
theorem e_valueOfEP (t : Addr) (w : World) : (ReflectliteValue.unpack (.iface 89 (.pointer (some t)))).run Tryd.prog w = .ok (.agg #[hnd 89, .pointer (some ⟨w.heap.size, 0, none⟩), .int .u64 150]) (w.alloc (.cells #[.pointer (some t)] 89)) := by kernel_rfl
theorem e_typeEP (a : Addr) (w : World) : (ReflectliteValue.methodAny (ReflectliteValue.valueError "reflectlite.Value.Type" 0) (fun t _ _ _ => ReflectliteType.toType t) #[.agg #[hnd 89, .pointer (some a), .int .u64 150]]).run Tryd.prog w = .ok ((.iface 133 (.agg #[hnd 89]))) w := by kernel_rfl
theorem e_kindEP (w : World) : ((ReflectliteType.abiMethod fun t => (fun a : Nat => Value.int IntKind.u8 (a : Int)) <$> Rtype.kind t) #[hnd 89]).run Tryd.prog w = .ok (.int .u8 22) w := by kernel_rfl
theorem e_kindE (w : World) : ((ReflectliteType.abiMethod fun t => (fun a : Nat => Value.int IntKind.u8 (a : Int)) <$> Rtype.kind t) #[hnd 76]).run Tryd.prog w = .ok (.int .u8 2) w := by kernel_rfl
theorem e_partsEP (a : Addr) (w : World) : (ReflectliteValue.parts (.agg #[hnd 89, .pointer (some a), .int .u64 150])).run Tryd.prog w = .ok (some (89, a, 150)) w := by kernel_rfl
theorem e_isNilEP (a p : Addr) (W : World) (ha : W.cell? a = some (.pointer (some p))) :
    (ReflectliteValue.method (ReflectliteValue.valueError "reflectlite.Value.IsNil" 0) ReflectliteValue.isNil #[.agg #[hnd 89, .pointer (some a), .int .u64 150]]).run Tryd.prog W = .ok (.bool false) W := by
  rw [rlm]
  simp only [Sem.run_bind, e_partsEP, Result.andThen]
  simp [ReflectliteValue.isNil, loadVar, isAgg, underlying, Tryd.underlying89, ha, Result.andThen]
theorem e_elemEP (w : World) : (ReflectliteType.method ReflectliteType.elem #[.agg #[hnd 89]]).run Tryd.prog w = .ok ((.iface 133 (.agg #[hnd 76]))) w := by kernel_rfl
theorem e_implementsE (w : World) : (ReflectliteType.relation "Implements" ReflectliteType.implements_ #[.agg #[hnd 76], (.iface 133 (.agg #[hnd 40]))]).run Tryd.prog w = .ok (.bool true) w := by kernel_rfl
theorem e_typeOfE (v : Value) (w : World) : (ReflectliteType.typeOf #[.iface 76 v]).run Tryd.prog w = .ok ((.iface 133 (.agg #[hnd 76]))) w := by kernel_rfl
theorem e_elemOfEP (w : World) : (Rtype.elem? 89).run Tryd.prog w = .ok (some 76) w := by kernel_rfl

/-! Errors of type F. -/
theorem e_valueOfFP (t : Addr) (w : World) : (ReflectliteValue.unpack (.iface 81 (.pointer (some t)))).run Tryd.prog w = .ok (.agg #[hnd 81, .pointer (some ⟨w.heap.size, 0, none⟩), .int .u64 150]) (w.alloc (.cells #[.pointer (some t)] 81)) := by kernel_rfl
theorem e_typeFP (a : Addr) (w : World) : (ReflectliteValue.methodAny (ReflectliteValue.valueError "reflectlite.Value.Type" 0) (fun t _ _ _ => ReflectliteType.toType t) #[.agg #[hnd 81, .pointer (some a), .int .u64 150]]).run Tryd.prog w = .ok ((.iface 133 (.agg #[hnd 81]))) w := by kernel_rfl
theorem e_kindFP (w : World) : ((ReflectliteType.abiMethod fun t => (fun a : Nat => Value.int IntKind.u8 (a : Int)) <$> Rtype.kind t) #[hnd 81]).run Tryd.prog w = .ok (.int .u8 22) w := by kernel_rfl
theorem e_kindF (w : World) : ((ReflectliteType.abiMethod fun t => (fun a : Nat => Value.int IntKind.u8 (a : Int)) <$> Rtype.kind t) #[hnd 79]).run Tryd.prog w = .ok (.int .u8 22) w := by kernel_rfl
theorem e_partsFP (a : Addr) (w : World) : (ReflectliteValue.parts (.agg #[hnd 81, .pointer (some a), .int .u64 150])).run Tryd.prog w = .ok (some (81, a, 150)) w := by kernel_rfl
theorem e_isNilFP (a p : Addr) (W : World) (ha : W.cell? a = some (.pointer (some p))) :
    (ReflectliteValue.method (ReflectliteValue.valueError "reflectlite.Value.IsNil" 0) ReflectliteValue.isNil #[.agg #[hnd 81, .pointer (some a), .int .u64 150]]).run Tryd.prog W = .ok (.bool false) W := by
  rw [rlm]
  simp only [Sem.run_bind, e_partsFP, Result.andThen]
  simp [ReflectliteValue.isNil, loadVar, isAgg, underlying, Tryd.underlying81, ha, Result.andThen]
theorem e_elemFP (w : World) : (ReflectliteType.method ReflectliteType.elem #[.agg #[hnd 81]]).run Tryd.prog w = .ok ((.iface 133 (.agg #[hnd 79]))) w := by kernel_rfl
theorem e_implementsF (w : World) : (ReflectliteType.relation "Implements" ReflectliteType.implements_ #[.agg #[hnd 79], (.iface 133 (.agg #[hnd 40]))]).run Tryd.prog w = .ok (.bool true) w := by kernel_rfl
theorem e_typeOfF (v : Value) (w : World) : (ReflectliteType.typeOf #[.iface 79 v]).run Tryd.prog w = .ok ((.iface 133 (.agg #[hnd 79]))) w := by kernel_rfl
theorem e_elemOfFP (w : World) : (Rtype.elem? 81).run Tryd.prog w = .ok (some 79) w := by kernel_rfl

/-! Errors of type W. -/
theorem e_valueOfWP (t : Addr) (w : World) : (ReflectliteValue.unpack (.iface 88 (.pointer (some t)))).run Tryd.prog w = .ok (.agg #[hnd 88, .pointer (some ⟨w.heap.size, 0, none⟩), .int .u64 150]) (w.alloc (.cells #[.pointer (some t)] 88)) := by kernel_rfl
theorem e_typeWP (a : Addr) (w : World) : (ReflectliteValue.methodAny (ReflectliteValue.valueError "reflectlite.Value.Type" 0) (fun t _ _ _ => ReflectliteType.toType t) #[.agg #[hnd 88, .pointer (some a), .int .u64 150]]).run Tryd.prog w = .ok ((.iface 133 (.agg #[hnd 88]))) w := by kernel_rfl
theorem e_kindWP (w : World) : ((ReflectliteType.abiMethod fun t => (fun a : Nat => Value.int IntKind.u8 (a : Int)) <$> Rtype.kind t) #[hnd 88]).run Tryd.prog w = .ok (.int .u8 22) w := by kernel_rfl
theorem e_kindW (w : World) : ((ReflectliteType.abiMethod fun t => (fun a : Nat => Value.int IntKind.u8 (a : Int)) <$> Rtype.kind t) #[hnd 87]).run Tryd.prog w = .ok (.int .u8 22) w := by kernel_rfl
theorem e_partsWP (a : Addr) (w : World) : (ReflectliteValue.parts (.agg #[hnd 88, .pointer (some a), .int .u64 150])).run Tryd.prog w = .ok (some (88, a, 150)) w := by kernel_rfl
theorem e_isNilWP (a p : Addr) (W : World) (ha : W.cell? a = some (.pointer (some p))) :
    (ReflectliteValue.method (ReflectliteValue.valueError "reflectlite.Value.IsNil" 0) ReflectliteValue.isNil #[.agg #[hnd 88, .pointer (some a), .int .u64 150]]).run Tryd.prog W = .ok (.bool false) W := by
  rw [rlm]
  simp only [Sem.run_bind, e_partsWP, Result.andThen]
  simp [ReflectliteValue.isNil, loadVar, isAgg, underlying, Tryd.underlying88, ha, Result.andThen]
theorem e_elemWP (w : World) : (ReflectliteType.method ReflectliteType.elem #[.agg #[hnd 88]]).run Tryd.prog w = .ok ((.iface 133 (.agg #[hnd 87]))) w := by kernel_rfl
theorem e_implementsW (w : World) : (ReflectliteType.relation "Implements" ReflectliteType.implements_ #[.agg #[hnd 87], (.iface 133 (.agg #[hnd 40]))]).run Tryd.prog w = .ok (.bool true) w := by kernel_rfl
theorem e_typeOfW (v : Value) (w : World) : (ReflectliteType.typeOf #[.iface 87 v]).run Tryd.prog w = .ok ((.iface 133 (.agg #[hnd 87]))) w := by kernel_rfl
theorem e_elemOfWP (w : World) : (Rtype.elem? 88).run Tryd.prog w = .ok (some 87) w := by kernel_rfl

/-! Errors of type M. -/
theorem e_valueOfMP (t : Addr) (w : World) : (ReflectliteValue.unpack (.iface 97 (.pointer (some t)))).run Tryd.prog w = .ok (.agg #[hnd 97, .pointer (some ⟨w.heap.size, 0, none⟩), .int .u64 150]) (w.alloc (.cells #[.pointer (some t)] 97)) := by kernel_rfl
theorem e_typeMP (a : Addr) (w : World) : (ReflectliteValue.methodAny (ReflectliteValue.valueError "reflectlite.Value.Type" 0) (fun t _ _ _ => ReflectliteType.toType t) #[.agg #[hnd 97, .pointer (some a), .int .u64 150]]).run Tryd.prog w = .ok ((.iface 133 (.agg #[hnd 97]))) w := by kernel_rfl
theorem e_kindMP (w : World) : ((ReflectliteType.abiMethod fun t => (fun a : Nat => Value.int IntKind.u8 (a : Int)) <$> Rtype.kind t) #[hnd 97]).run Tryd.prog w = .ok (.int .u8 22) w := by kernel_rfl
theorem e_kindM (w : World) : ((ReflectliteType.abiMethod fun t => (fun a : Nat => Value.int IntKind.u8 (a : Int)) <$> Rtype.kind t) #[hnd 96]).run Tryd.prog w = .ok (.int .u8 22) w := by kernel_rfl
theorem e_partsMP (a : Addr) (w : World) : (ReflectliteValue.parts (.agg #[hnd 97, .pointer (some a), .int .u64 150])).run Tryd.prog w = .ok (some (97, a, 150)) w := by kernel_rfl
theorem e_isNilMP (a p : Addr) (W : World) (ha : W.cell? a = some (.pointer (some p))) :
    (ReflectliteValue.method (ReflectliteValue.valueError "reflectlite.Value.IsNil" 0) ReflectliteValue.isNil #[.agg #[hnd 97, .pointer (some a), .int .u64 150]]).run Tryd.prog W = .ok (.bool false) W := by
  rw [rlm]
  simp only [Sem.run_bind, e_partsMP, Result.andThen]
  simp [ReflectliteValue.isNil, loadVar, isAgg, underlying, Tryd.underlying97, ha, Result.andThen]
theorem e_elemMP (w : World) : (ReflectliteType.method ReflectliteType.elem #[.agg #[hnd 97]]).run Tryd.prog w = .ok ((.iface 133 (.agg #[hnd 96]))) w := by kernel_rfl
theorem e_implementsM (w : World) : (ReflectliteType.relation "Implements" ReflectliteType.implements_ #[.agg #[hnd 96], (.iface 133 (.agg #[hnd 40]))]).run Tryd.prog w = .ok (.bool true) w := by kernel_rfl
theorem e_typeOfM (v : Value) (w : World) : (ReflectliteType.typeOf #[.iface 96 v]).run Tryd.prog w = .ok ((.iface 133 (.agg #[hnd 96]))) w := by kernel_rfl
theorem e_elemOfMP (w : World) : (Rtype.elem? 97).run Tryd.prog w = .ok (some 96) w := by kernel_rfl
theorem e_assignEE (w : World) : (ReflectliteType.relation "AssignableTo" ReflectliteType.assignableTo #[.agg #[hnd 76], (.iface 133 (.agg #[hnd 76]))]).run Tryd.prog w = .ok (.bool true) w := by kernel_rfl
theorem e_assignEF (w : World) : (ReflectliteType.relation "AssignableTo" ReflectliteType.assignableTo #[.agg #[hnd 76], (.iface 133 (.agg #[hnd 79]))]).run Tryd.prog w = .ok (.bool false) w := by kernel_rfl
theorem e_assignEW (w : World) : (ReflectliteType.relation "AssignableTo" ReflectliteType.assignableTo #[.agg #[hnd 76], (.iface 133 (.agg #[hnd 87]))]).run Tryd.prog w = .ok (.bool false) w := by kernel_rfl
theorem e_assignEM (w : World) : (ReflectliteType.relation "AssignableTo" ReflectliteType.assignableTo #[.agg #[hnd 76], (.iface 133 (.agg #[hnd 96]))]).run Tryd.prog w = .ok (.bool false) w := by kernel_rfl
theorem e_assignFE (w : World) : (ReflectliteType.relation "AssignableTo" ReflectliteType.assignableTo #[.agg #[hnd 79], (.iface 133 (.agg #[hnd 76]))]).run Tryd.prog w = .ok (.bool false) w := by kernel_rfl
theorem e_assignFF (w : World) : (ReflectliteType.relation "AssignableTo" ReflectliteType.assignableTo #[.agg #[hnd 79], (.iface 133 (.agg #[hnd 79]))]).run Tryd.prog w = .ok (.bool true) w := by kernel_rfl
theorem e_assignFW (w : World) : (ReflectliteType.relation "AssignableTo" ReflectliteType.assignableTo #[.agg #[hnd 79], (.iface 133 (.agg #[hnd 87]))]).run Tryd.prog w = .ok (.bool false) w := by kernel_rfl
theorem e_assignFM (w : World) : (ReflectliteType.relation "AssignableTo" ReflectliteType.assignableTo #[.agg #[hnd 79], (.iface 133 (.agg #[hnd 96]))]).run Tryd.prog w = .ok (.bool false) w := by kernel_rfl
theorem e_assignWE (w : World) : (ReflectliteType.relation "AssignableTo" ReflectliteType.assignableTo #[.agg #[hnd 87], (.iface 133 (.agg #[hnd 76]))]).run Tryd.prog w = .ok (.bool false) w := by kernel_rfl
theorem e_assignWF (w : World) : (ReflectliteType.relation "AssignableTo" ReflectliteType.assignableTo #[.agg #[hnd 87], (.iface 133 (.agg #[hnd 79]))]).run Tryd.prog w = .ok (.bool false) w := by kernel_rfl
theorem e_assignWW (w : World) : (ReflectliteType.relation "AssignableTo" ReflectliteType.assignableTo #[.agg #[hnd 87], (.iface 133 (.agg #[hnd 87]))]).run Tryd.prog w = .ok (.bool true) w := by kernel_rfl
theorem e_assignWM (w : World) : (ReflectliteType.relation "AssignableTo" ReflectliteType.assignableTo #[.agg #[hnd 87], (.iface 133 (.agg #[hnd 96]))]).run Tryd.prog w = .ok (.bool false) w := by kernel_rfl
theorem e_assignME (w : World) : (ReflectliteType.relation "AssignableTo" ReflectliteType.assignableTo #[.agg #[hnd 96], (.iface 133 (.agg #[hnd 76]))]).run Tryd.prog w = .ok (.bool false) w := by kernel_rfl
theorem e_assignMF (w : World) : (ReflectliteType.relation "AssignableTo" ReflectliteType.assignableTo #[.agg #[hnd 96], (.iface 133 (.agg #[hnd 79]))]).run Tryd.prog w = .ok (.bool false) w := by kernel_rfl
theorem e_assignMW (w : World) : (ReflectliteType.relation "AssignableTo" ReflectliteType.assignableTo #[.agg #[hnd 96], (.iface 133 (.agg #[hnd 87]))]).run Tryd.prog w = .ok (.bool false) w := by kernel_rfl
theorem e_assignMM (w : World) : (ReflectliteType.relation "AssignableTo" ReflectliteType.assignableTo #[.agg #[hnd 96], (.iface 133 (.agg #[hnd 96]))]).run Tryd.prog w = .ok (.bool true) w := by kernel_rfl

end Go.Proofs.YtnnbcpopjnlnoaaDoor

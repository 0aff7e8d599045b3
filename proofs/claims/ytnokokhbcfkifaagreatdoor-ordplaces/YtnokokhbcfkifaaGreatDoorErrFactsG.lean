/-
  Closed facts on the model's entries for the library's reflection, at this program's types, and the laws on those that read or write memory; for errors.As and errors.Is.
  More of them: what errors.as writes where it finds its target.
-/
import Derived.Test.YtnokokhbcfkifaaGreatDoorProg
import Derived.KernelRfl
import Derived.WalkKit
import Derived.LaidEql
import Derived.Stop.Asserts
import Derived.RowKitTokens
namespace Go.Proofs.YtnokokhbcfkifaaGreatDoor
open Go.RowKit Go.Extern.Stop Go.Stop Go.Extern

/-- A type's handle. -/
def hnd (t : Nat) : Value := .pointer (some ⟨3, t, none⟩)
theorem e_methodKind (h : Value) (w : World) : (Go.method 343 166 (.agg #[h]) "Kind").run Tryz.prog w = .ok (146, h) w := by kernel_rfl
theorem e_methodElem (h : Value) (w : World) : (Go.method 343 166 (.agg #[h]) "Elem").run Tryz.prog w = .ok (162, .agg #[h]) w := by kernel_rfl
theorem e_methodImplements (h : Value) (w : World) : (Go.method 343 166 (.agg #[h]) "Implements").run Tryz.prog w = .ok (163, .agg #[h]) w := by kernel_rfl
theorem e_methodAssignableTo (h : Value) (w : World) : (Go.method 343 166 (.agg #[h]) "AssignableTo").run Tryz.prog w = .ok (160, .agg #[h]) w := by kernel_rfl
theorem rlm (z : Sem Value) (f : TypeId → Addr → Nat → Nat → Sem Value) (v : Value) :
    ReflectliteValue.method z f #[v] = (do match ← ReflectliteValue.parts v with | none => z | some (t, a, fl) => f t a fl (fl % 32)) := rfl

/-! Errors of type E. -/
theorem e_valueOfEP (t : Addr) (w : World) : (ReflectliteValue.unpack (.iface 108 (.pointer (some t)))).run Tryz.prog w = .ok (.agg #[hnd 108, .pointer (some ⟨w.heap.size, 0, none⟩), .int .u64 150]) (w.alloc (.cells #[.pointer (some t)] 108)) := by kernel_rfl
theorem e_typeEP (a : Addr) (w : World) : (ReflectliteValue.methodAny (ReflectliteValue.valueError "reflectlite.Value.Type" 0) (fun t _ _ _ => ReflectliteType.toType t) #[.agg #[hnd 108, .pointer (some a), .int .u64 150]]).run Tryz.prog w = .ok ((.iface 166 (.agg #[hnd 108]))) w := by kernel_rfl
theorem e_kindEP (w : World) : ((ReflectliteType.abiMethod fun t => (fun a : Nat => Value.int IntKind.u8 (a : Int)) <$> Rtype.kind t) #[hnd 108]).run Tryz.prog w = .ok (.int .u8 22) w := by kernel_rfl
theorem e_kindE (w : World) : ((ReflectliteType.abiMethod fun t => (fun a : Nat => Value.int IntKind.u8 (a : Int)) <$> Rtype.kind t) #[hnd 56]).run Tryz.prog w = .ok (.int .u8 2) w := by kernel_rfl
theorem e_partsEP (a : Addr) (w : World) : (ReflectliteValue.parts (.agg #[hnd 108, .pointer (some a), .int .u64 150])).run Tryz.prog w = .ok (some (108, a, 150)) w := by kernel_rfl
theorem e_isNilEP (a p : Addr) (W : World) (ha : W.cell? a = some (.pointer (some p))) :
    (ReflectliteValue.method (ReflectliteValue.valueError "reflectlite.Value.IsNil" 0) ReflectliteValue.isNil #[.agg #[hnd 108, .pointer (some a), .int .u64 150]]).run Tryz.prog W = .ok (.bool false) W := by
  rw [rlm]
  simp only [Sem.run_bind, e_partsEP, Result.andThen]
  simp [ReflectliteValue.isNil, loadVar, isAgg, underlying, Tryz.underlying108, ha, Result.andThen]
theorem e_elemEP (w : World) : (ReflectliteType.method ReflectliteType.elem #[.agg #[hnd 108]]).run Tryz.prog w = .ok ((.iface 166 (.agg #[hnd 56]))) w := by kernel_rfl
theorem e_implementsE (w : World) : (ReflectliteType.relation "Implements" ReflectliteType.implements_ #[.agg #[hnd 56], (.iface 166 (.agg #[hnd 46]))]).run Tryz.prog w = .ok (.bool true) w := by kernel_rfl
theorem e_typeOfE (v : Value) (w : World) : (ReflectliteType.typeOf #[.iface 56 v]).run Tryz.prog w = .ok ((.iface 166 (.agg #[hnd 56]))) w := by kernel_rfl
theorem e_elemOfEP (w : World) : (Rtype.elem? 108).run Tryz.prog w = .ok (some 56) w := by kernel_rfl

/-! Errors of type F. -/
theorem e_valueOfFP (t : Addr) (w : World) : (ReflectliteValue.unpack (.iface 107 (.pointer (some t)))).run Tryz.prog w = .ok (.agg #[hnd 107, .pointer (some ⟨w.heap.size, 0, none⟩), .int .u64 150]) (w.alloc (.cells #[.pointer (some t)] 107)) := by kernel_rfl
theorem e_typeFP (a : Addr) (w : World) : (ReflectliteValue.methodAny (ReflectliteValue.valueError "reflectlite.Value.Type" 0) (fun t _ _ _ => ReflectliteType.toType t) #[.agg #[hnd 107, .pointer (some a), .int .u64 150]]).run Tryz.prog w = .ok ((.iface 166 (.agg #[hnd 107]))) w := by kernel_rfl
theorem e_kindFP (w : World) : ((ReflectliteType.abiMethod fun t => (fun a : Nat => Value.int IntKind.u8 (a : Int)) <$> Rtype.kind t) #[hnd 107]).run Tryz.prog w = .ok (.int .u8 22) w := by kernel_rfl
theorem e_kindF (w : World) : ((ReflectliteType.abiMethod fun t => (fun a : Nat => Value.int IntKind.u8 (a : Int)) <$> Rtype.kind t) #[hnd 106]).run Tryz.prog w = .ok (.int .u8 22) w := by kernel_rfl
theorem e_partsFP (a : Addr) (w : World) : (ReflectliteValue.parts (.agg #[hnd 107, .pointer (some a), .int .u64 150])).run Tryz.prog w = .ok (some (107, a, 150)) w := by kernel_rfl
theorem e_isNilFP (a p : Addr) (W : World) (ha : W.cell? a = some (.pointer (some p))) :
    (ReflectliteValue.method (ReflectliteValue.valueError "reflectlite.Value.IsNil" 0) ReflectliteValue.isNil #[.agg #[hnd 107, .pointer (some a), .int .u64 150]]).run Tryz.prog W = .ok (.bool false) W := by
  rw [rlm]
  simp only [Sem.run_bind, e_partsFP, Result.andThen]
  simp [ReflectliteValue.isNil, loadVar, isAgg, underlying, Tryz.underlying107, ha, Result.andThen]
theorem e_elemFP (w : World) : (ReflectliteType.method ReflectliteType.elem #[.agg #[hnd 107]]).run Tryz.prog w = .ok ((.iface 166 (.agg #[hnd 106]))) w := by kernel_rfl
theorem e_implementsF (w : World) : (ReflectliteType.relation "Implements" ReflectliteType.implements_ #[.agg #[hnd 106], (.iface 166 (.agg #[hnd 46]))]).run Tryz.prog w = .ok (.bool true) w := by kernel_rfl
theorem e_typeOfF (v : Value) (w : World) : (ReflectliteType.typeOf #[.iface 106 v]).run Tryz.prog w = .ok ((.iface 166 (.agg #[hnd 106]))) w := by kernel_rfl
theorem e_elemOfFP (w : World) : (Rtype.elem? 107).run Tryz.prog w = .ok (some 106) w := by kernel_rfl

/-! Errors of type W. -/
theorem e_valueOfWP (t : Addr) (w : World) : (ReflectliteValue.unpack (.iface 105 (.pointer (some t)))).run Tryz.prog w = .ok (.agg #[hnd 105, .pointer (some ⟨w.heap.size, 0, none⟩), .int .u64 150]) (w.alloc (.cells #[.pointer (some t)] 105)) := by kernel_rfl
theorem e_typeWP (a : Addr) (w : World) : (ReflectliteValue.methodAny (ReflectliteValue.valueError "reflectlite.Value.Type" 0) (fun t _ _ _ => ReflectliteType.toType t) #[.agg #[hnd 105, .pointer (some a), .int .u64 150]]).run Tryz.prog w = .ok ((.iface 166 (.agg #[hnd 105]))) w := by kernel_rfl
theorem e_kindWP (w : World) : ((ReflectliteType.abiMethod fun t => (fun a : Nat => Value.int IntKind.u8 (a : Int)) <$> Rtype.kind t) #[hnd 105]).run Tryz.prog w = .ok (.int .u8 22) w := by kernel_rfl
theorem e_kindW (w : World) : ((ReflectliteType.abiMethod fun t => (fun a : Nat => Value.int IntKind.u8 (a : Int)) <$> Rtype.kind t) #[hnd 98]).run Tryz.prog w = .ok (.int .u8 22) w := by kernel_rfl
theorem e_partsWP (a : Addr) (w : World) : (ReflectliteValue.parts (.agg #[hnd 105, .pointer (some a), .int .u64 150])).run Tryz.prog w = .ok (some (105, a, 150)) w := by kernel_rfl
theorem e_isNilWP (a p : Addr) (W : World) (ha : W.cell? a = some (.pointer (some p))) :
    (ReflectliteValue.method (ReflectliteValue.valueError "reflectlite.Value.IsNil" 0) ReflectliteValue.isNil #[.agg #[hnd 105, .pointer (some a), .int .u64 150]]).run Tryz.prog W = .ok (.bool false) W := by
  rw [rlm]
  simp only [Sem.run_bind, e_partsWP, Result.andThen]
  simp [ReflectliteValue.isNil, loadVar, isAgg, underlying, Tryz.underlying105, ha, Result.andThen]
theorem e_elemWP (w : World) : (ReflectliteType.method ReflectliteType.elem #[.agg #[hnd 105]]).run Tryz.prog w = .ok ((.iface 166 (.agg #[hnd 98]))) w := by kernel_rfl
theorem e_implementsW (w : World) : (ReflectliteType.relation "Implements" ReflectliteType.implements_ #[.agg #[hnd 98], (.iface 166 (.agg #[hnd 46]))]).run Tryz.prog w = .ok (.bool true) w := by kernel_rfl
theorem e_typeOfW (v : Value) (w : World) : (ReflectliteType.typeOf #[.iface 98 v]).run Tryz.prog w = .ok ((.iface 166 (.agg #[hnd 98]))) w := by kernel_rfl
theorem e_elemOfWP (w : World) : (Rtype.elem? 105).run Tryz.prog w = .ok (some 98) w := by kernel_rfl

theorem e_kindM (w : World) : ((ReflectliteType.abiMethod fun t => (fun a : Nat => Value.int IntKind.u8 (a : Int)) <$> Rtype.kind t) #[hnd 147]).run Tryz.prog w = .ok (.int .u8 22) w := by kernel_rfl
theorem e_implementsM (w : World) : (ReflectliteType.relation "Implements" ReflectliteType.implements_ #[.agg #[hnd 147], (.iface 166 (.agg #[hnd 46]))]).run Tryz.prog w = .ok (.bool true) w := by kernel_rfl
theorem e_typeOfM (v : Value) (w : World) : (ReflectliteType.typeOf #[.iface 147 v]).run Tryz.prog w = .ok ((.iface 166 (.agg #[hnd 147]))) w := by kernel_rfl
theorem e_assignEE (w : World) : (ReflectliteType.relation "AssignableTo" ReflectliteType.assignableTo #[.agg #[hnd 56], (.iface 166 (.agg #[hnd 56]))]).run Tryz.prog w = .ok (.bool true) w := by kernel_rfl
theorem e_assignEF (w : World) : (ReflectliteType.relation "AssignableTo" ReflectliteType.assignableTo #[.agg #[hnd 56], (.iface 166 (.agg #[hnd 106]))]).run Tryz.prog w = .ok (.bool false) w := by kernel_rfl
theorem e_assignEW (w : World) : (ReflectliteType.relation "AssignableTo" ReflectliteType.assignableTo #[.agg #[hnd 56], (.iface 166 (.agg #[hnd 98]))]).run Tryz.prog w = .ok (.bool false) w := by kernel_rfl
theorem e_assignEM (w : World) : (ReflectliteType.relation "AssignableTo" ReflectliteType.assignableTo #[.agg #[hnd 56], (.iface 166 (.agg #[hnd 147]))]).run Tryz.prog w = .ok (.bool false) w := by kernel_rfl
theorem e_assignFE (w : World) : (ReflectliteType.relation "AssignableTo" ReflectliteType.assignableTo #[.agg #[hnd 106], (.iface 166 (.agg #[hnd 56]))]).run Tryz.prog w = .ok (.bool false) w := by kernel_rfl
theorem e_assignFF (w : World) : (ReflectliteType.relation "AssignableTo" ReflectliteType.assignableTo #[.agg #[hnd 106], (.iface 166 (.agg #[hnd 106]))]).run Tryz.prog w = .ok (.bool true) w := by kernel_rfl
theorem e_assignFW (w : World) : (ReflectliteType.relation "AssignableTo" ReflectliteType.assignableTo #[.agg #[hnd 106], (.iface 166 (.agg #[hnd 98]))]).run Tryz.prog w = .ok (.bool false) w := by kernel_rfl
theorem e_assignFM (w : World) : (ReflectliteType.relation "AssignableTo" ReflectliteType.assignableTo #[.agg #[hnd 106], (.iface 166 (.agg #[hnd 147]))]).run Tryz.prog w = .ok (.bool false) w := by kernel_rfl
theorem e_assignWE (w : World) : (ReflectliteType.relation "AssignableTo" ReflectliteType.assignableTo #[.agg #[hnd 98], (.iface 166 (.agg #[hnd 56]))]).run Tryz.prog w = .ok (.bool false) w := by kernel_rfl
theorem e_assignWF (w : World) : (ReflectliteType.relation "AssignableTo" ReflectliteType.assignableTo #[.agg #[hnd 98], (.iface 166 (.agg #[hnd 106]))]).run Tryz.prog w = .ok (.bool false) w := by kernel_rfl
theorem e_assignWW (w : World) : (ReflectliteType.relation "AssignableTo" ReflectliteType.assignableTo #[.agg #[hnd 98], (.iface 166 (.agg #[hnd 98]))]).run Tryz.prog w = .ok (.bool true) w := by kernel_rfl
theorem e_assignWM (w : World) : (ReflectliteType.relation "AssignableTo" ReflectliteType.assignableTo #[.agg #[hnd 98], (.iface 166 (.agg #[hnd 147]))]).run Tryz.prog w = .ok (.bool false) w := by kernel_rfl
theorem e_assignME (w : World) : (ReflectliteType.relation "AssignableTo" ReflectliteType.assignableTo #[.agg #[hnd 147], (.iface 166 (.agg #[hnd 56]))]).run Tryz.prog w = .ok (.bool false) w := by kernel_rfl
theorem e_assignMF (w : World) : (ReflectliteType.relation "AssignableTo" ReflectliteType.assignableTo #[.agg #[hnd 147], (.iface 166 (.agg #[hnd 106]))]).run Tryz.prog w = .ok (.bool false) w := by kernel_rfl
theorem e_assignMW (w : World) : (ReflectliteType.relation "AssignableTo" ReflectliteType.assignableTo #[.agg #[hnd 147], (.iface 166 (.agg #[hnd 98]))]).run Tryz.prog w = .ok (.bool false) w := by kernel_rfl
theorem e_assignMM (w : World) : (ReflectliteType.relation "AssignableTo" ReflectliteType.assignableTo #[.agg #[hnd 147], (.iface 166 (.agg #[hnd 147]))]).run Tryz.prog w = .ok (.bool true) w := by kernel_rfl

end Go.Proofs.YtnokokhbcfkifaaGreatDoor

namespace Go.Proofs.YtnokokhbcfkifaaGreatDoor
open Go.RowKit Go.Extern.Stop Go.Stop Go.Extern

theorem rls (v x : Value) : ReflectliteValue.set #[v, x] = (do
    let (some (dst, a, fl), some (src, b, _)) := (← ReflectliteValue.parts v, ← ReflectliteValue.parts x)
      | unsupported (.noEntry "extern/(internal/reflectlite.Value).Set.zeroValue")
    if fl / ReflectliteValue.flagAddr % 2 == 0 then unsupported (.noEntry "extern/(internal/reflectlite.Value).Set.unaddressable")
    let val ← loadVar src b
    if ← Rtype.directlyAssignable dst src then storeVar dst a val
    else if ← Rtype.implements dst src then
      if (← Rtype.kind src) == 20 then
        match val with
        | .nilIface => unsupported (.noEntry "extern/reflectlite: a nil value of one interface type handed on as a value of another")
        | _ => storeVar dst a val
      else storeVar dst a (.iface src val)
    else panicString ("reflectlite.Set: value of type " ++ (← Rtype.spelt src) ++ " is not assignable to type " ++ (← Rtype.spelt dst))
    pure (.tuple #[])) := rfl

theorem e_valueOfF (e : Addr) (w : World) : (ReflectliteValue.unpack (.iface 106 (.pointer (some e)))).run Tryz.prog w = .ok (.agg #[hnd 106, .pointer (some ⟨w.heap.size, 0, none⟩), .int .u64 150]) (w.alloc (.cells #[.pointer (some e)] 106)) := by kernel_rfl
theorem e_mkF (p : Addr) (w : World) : (ReflectliteValue.mk 106 p ReflectliteValue.flagAddr).run Tryz.prog w = .ok (.agg #[hnd 106, .pointer (some p), .int .u64 406]) w := by kernel_rfl
theorem e_elemVFP (a p : Addr) (W : World) (ha : W.cell? a = some (.pointer (some p))) :
    (ReflectliteValue.method (ReflectliteValue.valueError "reflectlite.Value.Elem" 0) ReflectliteValue.elem #[.agg #[hnd 107, .pointer (some a), .int .u64 150]]).run Tryz.prog W = .ok (.agg #[hnd 106, .pointer (some p), .int .u64 406]) W := by
  rw [rlm]
  simp only [Sem.run_bind, e_partsFP, Result.andThen]
  simp [ReflectliteValue.elem, loadVar, isAgg, underlying, Tryz.underlying107, ha, Result.andThen, e_elemOfFP, e_mkF]
theorem e_partsAF (a : Addr) (w : World) : (ReflectliteValue.parts (.agg #[hnd 106, .pointer (some a), .int .u64 406])).run Tryz.prog w = .ok (some (106, a, 406)) w := by kernel_rfl
theorem e_partsVF (a : Addr) (w : World) : (ReflectliteValue.parts (.agg #[hnd 106, .pointer (some a), .int .u64 150])).run Tryz.prog w = .ok (some (106, a, 150)) w := by kernel_rfl
theorem e_directF (w : World) : (Rtype.directlyAssignable 106 106).run Tryz.prog w = .ok true w := by kernel_rfl
theorem e_setF (ta b e : Addr) (old : Value) (W : World) (hb : W.cell? b = some (.pointer (some e))) (ht : W.cell? ta = some old) (hf : W.frozen? ta = false) :
    (ReflectliteValue.set #[.agg #[hnd 106, .pointer (some ta), .int .u64 406], .agg #[hnd 106, .pointer (some b), .int .u64 150]]).run Tryz.prog W = .ok (.tuple #[]) (W.setCell ta (.pointer (some e))) := by
  rw [rls]
  simp only [Sem.run_bind, e_partsAF, e_partsVF, Result.andThen]
  simp [ReflectliteValue.flagAddr, loadVar, isAgg, underlying, Tryz.underlying106, hb, Result.andThen, e_directF, storeVar, Value.cells, storeCells, Addr.add]
  rw [run_store Tryz.prog W ta _ _ (by rfl)]
  simp [ht, hf]

theorem e_valueOfM (e : Addr) (w : World) : (ReflectliteValue.unpack (.iface 147 (.pointer (some e)))).run Tryz.prog w = .ok (.agg #[hnd 147, .pointer (some ⟨w.heap.size, 0, none⟩), .int .u64 150]) (w.alloc (.cells #[.pointer (some e)] 147)) := by kernel_rfl
theorem e_mkM (p : Addr) (w : World) : (ReflectliteValue.mk 147 p ReflectliteValue.flagAddr).run Tryz.prog w = .ok (.agg #[hnd 147, .pointer (some p), .int .u64 406]) w := by kernel_rfl
theorem e_partsAM (a : Addr) (w : World) : (ReflectliteValue.parts (.agg #[hnd 147, .pointer (some a), .int .u64 406])).run Tryz.prog w = .ok (some (147, a, 406)) w := by kernel_rfl
theorem e_partsVM (a : Addr) (w : World) : (ReflectliteValue.parts (.agg #[hnd 147, .pointer (some a), .int .u64 150])).run Tryz.prog w = .ok (some (147, a, 150)) w := by kernel_rfl
theorem e_directM (w : World) : (Rtype.directlyAssignable 147 147).run Tryz.prog w = .ok true w := by kernel_rfl
theorem e_setM (ta b e : Addr) (old : Value) (W : World) (hb : W.cell? b = some (.pointer (some e))) (ht : W.cell? ta = some old) (hf : W.frozen? ta = false) :
    (ReflectliteValue.set #[.agg #[hnd 147, .pointer (some ta), .int .u64 406], .agg #[hnd 147, .pointer (some b), .int .u64 150]]).run Tryz.prog W = .ok (.tuple #[]) (W.setCell ta (.pointer (some e))) := by
  rw [rls]
  simp only [Sem.run_bind, e_partsAM, e_partsVM, Result.andThen]
  simp [ReflectliteValue.flagAddr, loadVar, isAgg, underlying, Tryz.underlying147, hb, Result.andThen, e_directM, storeVar, Value.cells, storeCells, Addr.add]
  rw [run_store Tryz.prog W ta _ _ (by rfl)]
  simp [ht, hf]

end Go.Proofs.YtnokokhbcfkifaaGreatDoor

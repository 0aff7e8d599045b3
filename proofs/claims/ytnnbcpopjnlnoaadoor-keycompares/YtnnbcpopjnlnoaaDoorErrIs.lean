/-
  What errors.Is answers of this program's errors where the target is an error's number, as the library's text runs.
-/
import Derived.Test.YtnnbcpopjnlnoaaDoorErrUn
namespace Go.Proofs.YtnnbcpopjnlnoaaDoor
open Go.RowKit Go.Extern.Stop Go.Stop Go.Extern
attribute [local go_sem ↓] Go.wp_at_zero Go.wp_at_succ

theorem eq_iface_int {P : Program} {ti tn : TypeId} {ms : Array (String × TypeId)} {k : IntKind} (hi : P.underlying ti = some (.interface ms)) (hn : P.underlying tn = some (.int k)) (hc : (P.info? tn).map (fun i => i.comparable) = some true) (a b : Int) (w : World) :
    (binOp .eql ti (.iface tn (.int k a)) (.iface tn (.int k b))).run P w = .ok (.bool (a == b)) w := by
  obtain ⟨i, hinfo, hcomp⟩ := Option.map_eq_some_iff.1 hc
  have e : (Op.equalIn 10000 ti (.iface tn (.int k a)) (.iface tn (.int k b))).run P w = .ok (a == b) w := by
    have h : ∀ d : Nat, (Op.equalIn (d + 2) ti (.iface tn (.int k a)) (.iface tn (.int k b))).run P w = .ok (a == b) w := fun d => by
      simp [Op.equalIn, run_underlying hi, run_underlying hn, typeInfo, hinfo, hcomp]
    exact h 9998
  simp only [binOp, Op.equal, Op.maxDepth, Sem.run_bind]
  rw [e]
  rfl
theorem e_hasIsE (v : Value) (xT : TypeId) (w : World) : (Instr.typeAssert (.iface 76 v) xT 155 true).run Tryd.prog w = .ok (.tuple #[.nilIface, .bool false]) w := run_typeAssert_lacksB Tryd.underlying155 (by kernel_rfl) (by kernel_rfl) v xT w
theorem e_hasIsF (v : Value) (xT : TypeId) (w : World) : (Instr.typeAssert (.iface 79 v) xT 155 true).run Tryd.prog w = .ok (.tuple #[.nilIface, .bool false]) w := run_typeAssert_lacksB Tryd.underlying155 (by kernel_rfl) (by kernel_rfl) v xT w
theorem e_hasIsW (v : Value) (xT : TypeId) (w : World) : (Instr.typeAssert (.iface 87 v) xT 155 true).run Tryd.prog w = .ok (.tuple #[.nilIface, .bool false]) w := run_typeAssert_lacksB Tryd.underlying155 (by kernel_rfl) (by kernel_rfl) v xT w
theorem e_hasIsM (v : Value) (xT : TypeId) (w : World) : (Instr.typeAssert (.iface 96 v) xT 155 true).run Tryd.prog w = .ok (.tuple #[.nilIface, .bool false]) w := run_typeAssert_lacksB Tryd.underlying155 (by kernel_rfl) (by kernel_rfl) v xT w

/-- Two numbers. -/
theorem is_num (a b : Int) (w : World) : Calls Tryd.prog 84 #[.iface 76 (.int .i64 a), .iface 76 (.int .i64 b), .bool true] w fun e w' => e = .returned (.bool (a == b)) ∧ w' = w := by
  have f1 := eq_iface_int (P := Tryd.prog) (ti := 40) (tn := 76) (k := .i64) Tryd.underlying40 Tryd.underlying76 (by kernel_rfl)
  have f2 := e_hasIsE
  have f3 := e_hasUE
  have f4 := e_hasULE
  go_enter Tryd.func84, Tryd.ntmps84
  go_wp2_with fail
  refine wp_loop_rounds 1 ?_
  rw [rounds_succ]
  cases h : (a == b) with
  | true =>
    go_wp2
    go_ret
    exact ⟨by rw [h]; rfl, rfl⟩
  | false =>
    go_wp2
    go_ret
    exact ⟨by rw [h]; rfl, rfl⟩

set_option maxRecDepth 20000 in
set_option maxHeartbeats 4000000 in
/-- A fault is its number. -/
theorem is_fault (b o n : Nat) (L : Array Value) (w : World) (hn : 1 ≤ n) (hL : L[0]? = some (.iface 76 (.int .i64 50))) (hU : Calls Tryd.prog 108 #[.pointer (some ⟨b, o, none⟩)] w fun e w'' => e = .returned (.slice (some ⟨w.heap.size, 0, none⟩) n n) ∧ w'' = w.alloc (.cells L 40)) :
    Calls Tryd.prog 84 #[.iface 79 (.pointer (some ⟨b, o, none⟩)), .iface 76 (.int .i64 50), .bool true] w fun e w' => e = .returned (.bool true) ∧ Up w w' := by
  have f1 := run_eql_iface_types (P := Tryd.prog) (ti := 40) 79 76 (.pointer (some ⟨b, o, none⟩)) (.int .i64 50) Tryd.underlying40 (by decide)
  have f2 := e_hasIsF
  have f3 := e_hasUF
  have f4 := e_hasULF
  have f7 := e_methodUnwrapF
  have HU := hide hU
  have t0 : decide ((0 : Int) < n) = true := decide_eq_true (by omega)
  clear hU
  go_enter Tryd.func84, Tryd.ntmps84
  go_wp2_with fail
  refine wp_loop_rounds 1 ?_
  rw [rounds_succ]
  go_wp2_with fail
  go_at_call 108
  refine HU.out.mono ?_
  rintro _ w2 ⟨rfl, hw2⟩
  have k0 : w2.cell? ⟨w.heap.size, 0, none⟩ = some (.iface 76 (.int .i64 50)) := by
    rw [hw2]
    simp [hL]
  have u2 : Hid (Up w w2) := by rw [hw2]; exact (Up.refl _).alloc _
  clear HU hw2 hL
  go_wp2_with fail
  refine wp_loop_rounds 1 ?_
  rw [rounds_succ]
  go_wp2_with fail
  go_at_call 84
  refine (is_num _ _ _).mono ?_
  rintro _ w3 ⟨rfl, hw3⟩
  replace u2 : Hid (Up w w3) := by rw [hw3]; exact u2
  clear hw3 k0
  go_wp2
  go_ret
  exact ⟨rfl, u2.out⟩
theorem e_methodComparable (h : Value) (w : World) : (Go.method 288 133 (.agg #[h]) "Comparable").run Tryd.prog w = .ok (117, .agg #[h]) w := by kernel_rfl
theorem e_comparableE (w : World) : (ReflectliteType.method (fun t => do Go.Extern.Rtype.noPackHeld "Comparable" t; (fun a : TypeInfo => Value.bool a.comparable) <$> typeInfo t) #[.agg #[hnd 76]]).run Tryd.prog w = .ok (.bool true) w := by kernel_rfl
set_option maxRecDepth 20000 in
theorem errIs_fault (b o : Nat) (w : World) (hA : ∀ w', Up w w' → Calls Tryd.prog 84 #[.iface 79 (.pointer (some ⟨b, o, none⟩)), .iface 76 (.int .i64 50), .bool true] w' fun e w'' => e = .returned (.bool true) ∧ Up w' w'') :
    Calls Tryd.prog 78 #[.iface 79 (.pointer (some ⟨b, o, none⟩)), .iface 76 (.int .i64 50)] w fun e w' => e = .returned (.bool true) ∧ Up w w' := by
  have x42 := @run_callFunc_extern Tryd.prog 69 _ ReflectliteType.typeOf Tryd.func69 (by kernel_rfl) (by kernel_rfl) (by kernel_rfl) (by kernel_rfl)
  have x103 := @run_callFunc_extern Tryd.prog 117 _ (ReflectliteType.method (fun t => do Go.Extern.Rtype.noPackHeld "Comparable" t; pure (.bool (← typeInfo t).comparable))) Tryd.func117 (by kernel_rfl) (by kernel_rfl) (by kernel_rfl) (by kernel_rfl)
  have f1 := e_typeOfE
  have f2 := e_methodComparable
  have f3 := e_comparableE
  have HA := hide hA
  clear hA
  go_enter Tryd.func78, Tryd.ntmps78
  go_wp2_with fail
  go_at_call 84
  refine (HA.out _ (Up.refl _)).mono ?_
  rintro _ w2 ⟨rfl, hu2⟩
  replace hu2 := hide hu2
  go_wp2
  go_ret
  exact ⟨rfl, hu2.out⟩

end Go.Proofs.YtnnbcpopjnlnoaaDoor

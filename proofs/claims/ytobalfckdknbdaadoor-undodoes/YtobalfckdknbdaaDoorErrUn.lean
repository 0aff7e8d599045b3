/-
  What a fault unwraps to, and what errors.as answers of one, as the texts run.
-/
import Derived.Test.YtobalfckdknbdaaDoorErrAs
namespace Go.Proofs.YtobalfckdknbdaaDoor
open Go.RowKit Go.Extern.Stop Go.Stop Go.Extern
attribute [local go_sem ↓] Go.wp_at_zero Go.wp_at_succ

/-- A fault in memory. -/
def FaultAt (w : World) (b o : Nat) (s : ByteArray) (err pan : Value) : Prop :=
  w.cell? ⟨b, o, none⟩ = some (.string s) ∧ w.cell? ⟨b, o + 1, none⟩ = some err ∧ w.cell? ⟨b, o + 2, none⟩ = some pan
theorem FaultAt.up {w w' : World} {b o : Nat} {s : ByteArray} {err pan : Value} (h : FaultAt w b o s err pan) (hu : Up w w') : FaultAt w' b o s err pan := ⟨hu.cell h.1, hu.cell h.2.1, hu.cell h.2.2⟩

theorem e_methodUnwrapF (h : Value) (w : World) : (Go.method 210 47 h "Unwrap").run Tryd.prog w = .ok (51, h) w := by kernel_rfl
/-- It bears an error that was told. -/
theorem unwrap_err (b o : Nat) (s : ByteArray) (et : TypeId) (ev pan : Value) (w : World) (h : FaultAt w b o s (.iface et ev) pan) :
    Calls Tryd.prog 51 #[.pointer (some ⟨b, o, none⟩)] w fun e w' => e = .returned (.slice (some ⟨w.heap.size, 0, none⟩) 2 2) ∧ w' = w.alloc (.cells #[.iface 31 (.int .i64 50), .iface et ev] 28) := by
  obtain ⟨c0, c1, c2⟩ := h
  go_enter Tryd.func51, Tryd.ntmps51
  go_wp2
  go_ret
  exact ⟨rfl, rfl⟩
/-- It bears a panic with an error. -/
theorem unwrap_pan (b o : Nat) (s : ByteArray) (et : TypeId) (ev : Value) (w : World) (h : FaultAt w b o s .nilIface (.iface et ev)) (hp : ∀ (xT : TypeId) (w : World), (Instr.typeAssert (.iface et ev) xT 28 true).run Tryd.prog w = .ok (.tuple #[.iface et ev, .bool true]) w) :
    Calls Tryd.prog 51 #[.pointer (some ⟨b, o, none⟩)] w fun e w' => e = .returned (.slice (some ⟨w.heap.size, 0, none⟩) 2 2) ∧ w' = w.alloc (.cells #[.iface 31 (.int .i64 50), .iface et ev] 28) := by
  obtain ⟨c0, c1, c2⟩ := h
  go_enter Tryd.func51, Tryd.ntmps51
  go_wp2
  go_ret
  exact ⟨rfl, rfl⟩
/-- It bears a panic with whatever else. -/
theorem unwrap_one (b o : Nat) (s : ByteArray) (et : TypeId) (ev : Value) (w : World) (h : FaultAt w b o s .nilIface (.iface et ev)) (hp : ∀ (xT : TypeId) (w : World), (Instr.typeAssert (.iface et ev) xT 28 true).run Tryd.prog w = .ok (.tuple #[.nilIface, .bool false]) w) :
    Calls Tryd.prog 51 #[.pointer (some ⟨b, o, none⟩)] w fun e w' => e = .returned (.slice (some ⟨w.heap.size, 0, none⟩) 1 1) ∧ w' = w.alloc (.cells #[.iface 31 (.int .i64 50)] 28) := by
  obtain ⟨c0, c1, c2⟩ := h
  go_enter Tryd.func51, Tryd.ntmps51
  go_wp2
  go_ret
  exact ⟨rfl, rfl⟩

set_option maxRecDepth 20000 in
set_option maxHeartbeats 4000000 in
/-- A fault that unwraps to its number alone. -/
theorem as_oneW (b o : Nat) (h0 h1 tgt : Value) (n : Int) (w : World) (hU : ∀ w', Up w w' → Calls Tryd.prog 51 #[.pointer (some ⟨b, o, none⟩)] w' fun e w'' => e = .returned (.slice (some ⟨w'.heap.size, 0, none⟩) 1 1) ∧ w'' = w'.alloc (.cells #[.iface 31 (.int .i64 50)] 28)) :
    Calls Tryd.prog 26 #[.iface 47 (.pointer (some ⟨b, o, none⟩)), tgt, .agg #[h0, h1, .int .u64 n], .iface 64 (.agg #[hnd 44])] w fun e w' => e = .returned (.bool false) ∧ Up w w' := by
  have x42 := @run_callFunc_extern Tryd.prog 27 _ ReflectliteType.typeOf Tryd.func27 (by kernel_rfl) (by kernel_rfl) (by kernel_rfl) (by kernel_rfl)
  have x102 := @run_callFunc_extern Tryd.prog 56 _ (ReflectliteType.relation "AssignableTo" ReflectliteType.assignableTo) Tryd.func56 (by kernel_rfl) (by kernel_rfl) (by kernel_rfl) (by kernel_rfl)
  have f1 := e_typeOfF
  have f2 := e_methodAssignableTo
  have f3 := e_assignFW
  have f4 := e_hasAsF
  have f5 := e_hasUF
  have f6 := e_hasULF
  have f7 := e_methodUnwrapF
  have HU := hide hU
  clear hU
  go_enter Tryd.func26, Tryd.ntmps26
  go_wp2_with fail
  refine wp_loop_rounds 1 ?_
  rw [rounds_succ]
  go_wp2_with fail
  go_at_call 51
  refine (HU.out _ ((Up.refl _).alloc _)).mono ?_
  rintro _ w2 ⟨rfl, hw2⟩
  have g0 : w2.cell? ⟨w.heap.size, 0, none⟩ = some h0 := by rw [hw2]; go_simp
  have g1 : w2.cell? ⟨w.heap.size, 1, none⟩ = some h1 := by rw [hw2]; go_simp
  have g2 : w2.cell? ⟨w.heap.size, 2, none⟩ = some (.int .u64 n) := by rw [hw2]; go_simp
  have k0 : w2.cell? ⟨w.heap.size + 1, 0, none⟩ = some (.iface 31 (.int .i64 50)) := by rw [hw2]; go_simp
  have u2 : Hid (Up w w2) := by rw [hw2]; exact ((Up.refl _).alloc _).alloc _
  clear HU hw2
  go_wp2_with fail
  refine wp_loop_rounds 2 ?_
  rw [rounds_succ]
  go_wp2_with fail
  go_at_call 26
  refine (as_missEW _ _ _ _ _ _).mono ?_
  rintro _ w3 ⟨rfl, hu3⟩
  replace u2 := hide (u2.out.trans hu3)
  clear hu3 g0 g1 g2 k0
  go_wp2_with fail
  rw [rounds_succ]
  go_wp2
  go_ret
  exact ⟨rfl, u2.out⟩

end Go.Proofs.YtobalfckdknbdaaDoor

/-
  rialtolaw16.does by what Do tells.
-/
import Derived.Test.YtobalfckdknbdaaDoorUdDls
import Derived.Test.YtobalfckdknbdaaDoorUdDo
namespace Go.Proofs.YtobalfckdknbdaaDoor
open Go.RowKit
set_option linter.unusedVariables false
set_option maxRecDepth 20000
attribute [local go_sem ↓] Go.wp_at_zero Go.wp_at_succ

theorem ta_nil (xT : TypeId) (w : World) : (Instr.typeAssert .nilIface xT 3 true).run Tryd.prog w = .ok (.tuple #[.int .i64 0, .bool false]) w := by
  have z : (zeroValue 3).run Tryd.prog w = .ok (.int .i64 0) w := by kernel_rfl
  simp [Instr.typeAssert, run_underlying Tryd.underlying3, z]
theorem ta_int (xT : TypeId) (n : Int) (w : World) : (Instr.typeAssert (.iface 3 (.int .i64 n)) xT 3 true).run Tryd.prog w = .ok (.tuple #[.int .i64 n, .bool true]) w := by
  simp [Instr.typeAssert, run_underlying Tryd.underlying3]

/-- The deferred closure where nothing panicked. -/
theorem does_idle (q : Addr) (w : World) :
    CallsD Tryd.prog 17 #[.pointer (some q)] .returning w fun e u' w' => e = .returned (.tuple #[]) ∧ u' = .returning ∧ w' = w := by
  refine callsD_of_wpS Tryd.func17 rfl fun c₀ cs hu => ?_
  rw [show (#[.pointer (some q)] ++ Array.replicate (Tryd.f17.ntmps - #[Value.pointer (some q)].size) undef : Array Value) = #[.pointer (some q), undef, undef, undef, undef, undef, undef, undef, undef, undef] from rfl]
  apply wpS_seq
  apply wpS_region
  simp [wpOpsS, go_sem, recoverD, hu, Exit.thenS, ta_nil]
  refine wpS_of_wp ?_
  go_wp2
  cases c₀
  simp_all [bodyPostS, results, Tryd.results17]

/-- The deferred closure where an int was panicked with. -/
theorem does_catch (qb : Nat) (n old : Int) (w : World) (h1 : w.cell? ⟨qb, 0, none⟩ = some (.int .i64 old)) (hf : w.frozen? ⟨qb, 0, none⟩ = false) :
    CallsD Tryd.prog 17 #[.pointer (some ⟨qb, 0, none⟩)] (.panicking [{ v := .iface 3 (.int .i64 n), recovered := false }]) w fun e u' w' => e = .returned (.tuple #[]) ∧ u' = .panicking [{ v := .iface 3 (.int .i64 n), recovered := true }] ∧ w' = w.setCell ⟨qb, 0, none⟩ (.int .i64 n) := by
  refine callsD_of_wpS Tryd.func17 rfl fun c₀ cs hu => ?_
  rw [show (#[.pointer (some ⟨qb, 0, none⟩)] ++ Array.replicate (Tryd.f17.ntmps - #[Value.pointer (some ⟨qb, 0, none⟩)].size) undef : Array Value) = #[.pointer (some ⟨qb, 0, none⟩), undef, undef, undef, undef, undef, undef, undef, undef, undef] from rfl]
  apply wpS_seq
  apply wpS_region
  simp [wpOpsS, go_sem, recoverD, hu, Exit.thenS, ta_int]
  refine wpS_of_wp ?_
  go_wp2
  simp [bodyPostS, results, Tryd.results17]

set_option maxHeartbeats 4000000 in
theorem does_ret (T : Nat) (fv ev : Value) (hev : ev = .nilIface ∨ ∃ t v, ev = .iface t v) (Q : World → Prop) (w : World)
    (hD : ∀ x, Up w x → x.heap.size = w.heap.size + 1 → Calls Tryd.prog 18 #[.pointer (some ⟨T, 0, none⟩), fv] x fun e y => e = .returned ev ∧ Q y ∧ (x.cell? ⟨w.heap.size, 0, none⟩ = some (.int .i64 0) → x.frozen? ⟨w.heap.size, 0, none⟩ = false → y.cell? ⟨w.heap.size, 0, none⟩ = some (.int .i64 0) ∧ y.frozen? ⟨w.heap.size, 0, none⟩ = false))
    (hQ : ∀ x y, Q x → Chg (fun z => z = w.heap.size) x y → Q y) :
    Calls Tryd.prog 8 #[.pointer (some ⟨T, 0, none⟩), fv] w fun e w' => e = .returned (.tuple #[ev, .int .i64 0]) ∧ Q w' := by
  have hmf : ∀ (fn : Fn) (first cap : Array Value) (w : World), (Instr.makeFunc fn first cap).run Tryd.prog w = .ok (.func fn first cap) w := fun _ _ _ _ => rfl
  have HD := hide (hD _ ((Up.refl w).alloc (.cells #[.int .i64 0] 3)) (by simp))
  have HQ := hide hQ
  have c0 : (w.alloc (.cells #[.int .i64 0] 3)).cell? ⟨w.heap.size, 0, none⟩ = some (.int .i64 0) := by go_simp
  have f0 : (w.alloc (.cells #[.int .i64 0] 3)).frozen? ⟨w.heap.size, 0, none⟩ = false := by simp
  have HCF := hide (⟨c0, f0⟩ : _ ∧ _)
  clear hD hQ c0 f0
  go_enter_defers Tryd.func8, Tryd.ntmps8
  go_wp2_with fail
  refine HD.out.mono ?_
  rintro _ y ⟨rfl, hQy, hy⟩
  obtain ⟨c1, f1⟩ := hy HCF.out.1 HCF.out.2
  have HQY := hide hQy
  have c2 : (y.setCell ⟨w.heap.size, 0, none⟩ (.int .i64 0)).cell? ⟨w.heap.size, 0, none⟩ = some (.int .i64 0) := World.cell?_setCell_same _ _ _ c1
  have HQ2 := hide (HQ.out _ _ hQy (Chg.chT (Chg.refl _ y) 0 (.int .i64 0)))
  clear hQy hy HD HCF
  dsimp only
  go_wp2
  refine leaves_cons (f := 17) (args := #[.pointer (some ⟨w.heap.size, 0, none⟩)]) (by simp) (by simp [go_sem]) ?_
  refine (does_idle _ _).mono ?_
  rintro e u' w'' ⟨rfl, rfl, rfl⟩
  simp [Leaves, settle, results, Tryd.results8, go_sem, c2]
  exact HQ2.out

set_option maxHeartbeats 4000000 in
theorem does_pan (T : Nat) (fv : Value) (n : Int) (Q : World → Prop) (w : World)
    (hD : ∀ x, Up w x → x.heap.size = w.heap.size + 1 → Calls Tryd.prog 18 #[.pointer (some ⟨T, 0, none⟩), fv] x fun e y => e = .panicked [{ v := .iface 3 (.int .i64 n), recovered := false }] ∧ Q y ∧ (x.cell? ⟨w.heap.size, 0, none⟩ = some (.int .i64 0) → x.frozen? ⟨w.heap.size, 0, none⟩ = false → y.cell? ⟨w.heap.size, 0, none⟩ = some (.int .i64 0) ∧ y.frozen? ⟨w.heap.size, 0, none⟩ = false))
    (hQ : ∀ x y, Q x → Chg (fun z => z = w.heap.size) x y → Q y) :
    Calls Tryd.prog 8 #[.pointer (some ⟨T, 0, none⟩), fv] w fun e w' => e = .returned (.tuple #[.nilIface, .int .i64 n]) ∧ Q w' := by
  have hmf : ∀ (fn : Fn) (first cap : Array Value) (w : World), (Instr.makeFunc fn first cap).run Tryd.prog w = .ok (.func fn first cap) w := fun _ _ _ _ => rfl
  have HD := hide (hD _ ((Up.refl w).alloc (.cells #[.int .i64 0] 3)) (by simp))
  have HQ := hide hQ
  have c0 : (w.alloc (.cells #[.int .i64 0] 3)).cell? ⟨w.heap.size, 0, none⟩ = some (.int .i64 0) := by go_simp
  have f0 : (w.alloc (.cells #[.int .i64 0] 3)).frozen? ⟨w.heap.size, 0, none⟩ = false := by simp
  have HCF := hide (⟨c0, f0⟩ : _ ∧ _)
  clear hD hQ c0 f0
  go_enter_defers Tryd.func8, Tryd.ntmps8
  go_wp2_with fail
  refine HD.out.mono ?_
  rintro _ y ⟨rfl, hQy, hy⟩
  obtain ⟨c1, f1⟩ := hy HCF.out.1 HCF.out.2
  have c2 : (y.setCell ⟨w.heap.size, 0, none⟩ (.int .i64 n)).cell? ⟨w.heap.size, 0, none⟩ = some (.int .i64 n) := World.cell?_setCell_same _ _ _ c1
  have HQ2 := hide (HQ.out _ _ hQy (Chg.chT (Chg.refl _ y) 0 (.int .i64 n)))
  clear hQy hy HD HCF
  dsimp only
  refine leaves_cons (f := 17) (args := #[.pointer (some ⟨w.heap.size, 0, none⟩)]) (by simp) (by simp [go_sem]) ?_
  refine (does_catch _ n 0 _ c1 f1).mono ?_
  rintro e u' w'' ⟨rfl, rfl, rfl⟩
  simp [Leaves, settle, results, Tryd.results8, go_sem, c2]
  exact HQ2.out

end Go.Proofs.YtobalfckdknbdaaDoor

/-
  What the statements' own user code does (rialtolaw6), as its text runs (a trial).
-/
import Derived.Test.YtmlfkjmondkfnaaDoorErrClass
import Derived.Laws.Panics
namespace Go.Proofs.YtmlfkjmondkfnaaDoor
open Go.RowKit
attribute [local go_sem ↓] Go.wp_at_zero Go.wp_at_succ

theorem known1_calls (w : World) : Calls Tryd.prog 35 #[] w fun e w' => e = .panicked [{ v := .iface 3 (.int .i64 5), recovered := false }] ∧ w' = w := by
  go_enter Tryd.func35, Tryd.ntmps35
  go_wp2
  exact ⟨rfl, rfl, rfl⟩
theorem known1_enter (w : World) : (callFunc 35 #[]).run Tryd.prog w = .ok (.enter 35 #[]) w := by
  simp [go_sem]
theorem e_out (w : World) : ∃ sg, (Instr.indexAt 29 (.slice none 0 0) (.int .i64 0)).run Tryd.prog w = .halt (.panic (.iface 8 (.agg #[.int .i64 0, .int .i64 0, .bool sg, .int .u8 0]))) w.drew := by
  simp [Instr.indexAt, run_underlying Tryd.underlying29, asIntOf, boundsPanic, runtimePanic, goPanic, go_sem]
  exact ⟨rfl, rfl⟩
set_option maxRecDepth 20000 in
theorem l2_calls (w : World) : Calls Tryd.prog 11 #[.slice none 0 0] w fun e w' => ∃ sg, e = .panicked [{ v := .iface 8 (.agg #[.int .i64 0, .int .i64 0, .bool sg, .int .u8 0]), recovered := false }] ∧ w' = w.drew := by
  obtain ⟨sg, hx⟩ := e_out w
  go_enter Tryd.func11, Tryd.ntmps11
  go_wp2
  exact ⟨rfl, sg, rfl, rfl⟩
set_option maxRecDepth 20000 in
theorem runs1_two (how : Int) (c : Int) (cb mb hb nb : Nat) (q : Addr) (w : World) (k0 : w.cell? ⟨cb, 0, none⟩ = some (.int .i64 c)) (kf : w.frozen? ⟨cb, 0, none⟩ = false) (k1 : w.cell? ⟨hb, 0, none⟩ = some (.int .i64 how)) (k2 : w.cell? ⟨mb, 0, none⟩ = some (.pointer (some q))) (hne : ¬ cb = hb) (hne2 : ¬ cb = mb) (hh : bits .and .i64 how 7 = 2) :
    Calls Tryd.prog 10 #[.pointer (some ⟨cb, 0, none⟩), .pointer (some ⟨hb, 0, none⟩), .pointer (some ⟨mb, 0, none⟩), .pointer (some ⟨nb, 0, none⟩)] w fun e w' => e = .panicked [{ v := .iface 23 (.pointer (some q)), recovered := false }] ∧ w' = w.setCell ⟨cb, 0, none⟩ (.int .i64 (wrap64 (c + 1))) := by
  go_enter Tryd.func10, Tryd.ntmps10
  go_wp2_with fail
  exact ⟨rfl, rfl, rfl⟩

end Go.Proofs.YtmlfkjmondkfnaaDoor

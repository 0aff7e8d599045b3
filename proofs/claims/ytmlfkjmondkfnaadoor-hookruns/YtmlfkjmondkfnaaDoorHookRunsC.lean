/-
  What the user code of HookRuns does, as its text runs (a trial).
-/
import Derived.Test.YtmlfkjmondkfnaaDoorHookKnown
namespace Go.Proofs.YtmlfkjmondkfnaaDoor
open Go.RowKit
set_option linter.unusedVariables false
attribute [local go_sem ↓] Go.wp_at_zero Go.wp_at_succ

theorem runs1_enter (cap : Array Value) (w : World) : (callFunc 10 cap).run Tryd.prog w = .ok (.enter 10 cap) w := by
  simp [go_sem]

set_option maxRecDepth 20000 in
theorem runs1_0 (cb hb mb nb : Nat) (how n : Int) (q : Addr) (w : World) (k0 : w.cell? ⟨cb, 0, none⟩ = some (.int .i64 0)) (kf : w.frozen? ⟨cb, 0, none⟩ = false) (k1 : w.cell? ⟨hb, 0, none⟩ = some (.int .i64 how)) (k2 : w.cell? ⟨mb, 0, none⟩ = some (.pointer (some q))) (k3 : w.cell? ⟨nb, 0, none⟩ = some (.int .i64 n)) (x1 : ¬ cb = hb) (x2 : ¬ cb = mb) (x3 : ¬ cb = nb) (hh : bits .and .i64 how 7 = 0) :
    Calls Tryd.prog 10 #[.pointer (some ⟨cb, 0, none⟩), .pointer (some ⟨hb, 0, none⟩), .pointer (some ⟨mb, 0, none⟩), .pointer (some ⟨nb, 0, none⟩)] w fun e w' => e = .returned .nilIface ∧ w' = w.setCell ⟨cb, 0, none⟩ (.int .i64 1) := by
  go_enter Tryd.func10, Tryd.ntmps10
  go_wp2
  go_ret
  exact ⟨rfl, rfl⟩

set_option maxRecDepth 20000 in
theorem runs1_7 (cb hb mb nb : Nat) (how n : Int) (q : Addr) (w : World) (k0 : w.cell? ⟨cb, 0, none⟩ = some (.int .i64 0)) (kf : w.frozen? ⟨cb, 0, none⟩ = false) (k1 : w.cell? ⟨hb, 0, none⟩ = some (.int .i64 how)) (k2 : w.cell? ⟨mb, 0, none⟩ = some (.pointer (some q))) (k3 : w.cell? ⟨nb, 0, none⟩ = some (.int .i64 n)) (x1 : ¬ cb = hb) (x2 : ¬ cb = mb) (x3 : ¬ cb = nb) (hh : bits .and .i64 how 7 = 7) :
    Calls Tryd.prog 10 #[.pointer (some ⟨cb, 0, none⟩), .pointer (some ⟨hb, 0, none⟩), .pointer (some ⟨mb, 0, none⟩), .pointer (some ⟨nb, 0, none⟩)] w fun e w' => e = .returned .nilIface ∧ w' = w.setCell ⟨cb, 0, none⟩ (.int .i64 1) := by
  go_enter Tryd.func10, Tryd.ntmps10
  go_wp2
  go_ret
  exact ⟨rfl, rfl⟩

set_option maxRecDepth 20000 in
theorem runs1_1 (cb hb mb nb : Nat) (how n : Int) (q : Addr) (w : World) (k0 : w.cell? ⟨cb, 0, none⟩ = some (.int .i64 0)) (kf : w.frozen? ⟨cb, 0, none⟩ = false) (k1 : w.cell? ⟨hb, 0, none⟩ = some (.int .i64 how)) (k2 : w.cell? ⟨mb, 0, none⟩ = some (.pointer (some q))) (k3 : w.cell? ⟨nb, 0, none⟩ = some (.int .i64 n)) (x1 : ¬ cb = hb) (x2 : ¬ cb = mb) (x3 : ¬ cb = nb) (hh : bits .and .i64 how 7 = 1) :
    Calls Tryd.prog 10 #[.pointer (some ⟨cb, 0, none⟩), .pointer (some ⟨hb, 0, none⟩), .pointer (some ⟨mb, 0, none⟩), .pointer (some ⟨nb, 0, none⟩)] w fun e w' => e = .returned (.iface 23 (.pointer (some q))) ∧ w' = w.setCell ⟨cb, 0, none⟩ (.int .i64 1) := by
  go_enter Tryd.func10, Tryd.ntmps10
  go_wp2
  go_ret
  exact ⟨rfl, rfl⟩

set_option maxRecDepth 20000 in
theorem runs1_2 (cb hb mb nb : Nat) (how n : Int) (q : Addr) (w : World) (k0 : w.cell? ⟨cb, 0, none⟩ = some (.int .i64 0)) (kf : w.frozen? ⟨cb, 0, none⟩ = false) (k1 : w.cell? ⟨hb, 0, none⟩ = some (.int .i64 how)) (k2 : w.cell? ⟨mb, 0, none⟩ = some (.pointer (some q))) (k3 : w.cell? ⟨nb, 0, none⟩ = some (.int .i64 n)) (x1 : ¬ cb = hb) (x2 : ¬ cb = mb) (x3 : ¬ cb = nb) (hh : bits .and .i64 how 7 = 2) :
    Calls Tryd.prog 10 #[.pointer (some ⟨cb, 0, none⟩), .pointer (some ⟨hb, 0, none⟩), .pointer (some ⟨mb, 0, none⟩), .pointer (some ⟨nb, 0, none⟩)] w fun e w' => e = .panicked [{ v := .iface 23 (.pointer (some q)), recovered := false }] ∧ w' = w.setCell ⟨cb, 0, none⟩ (.int .i64 1) := by
  go_enter Tryd.func10, Tryd.ntmps10
  go_wp2
  exact ⟨rfl, rfl, rfl⟩

set_option maxRecDepth 20000 in
theorem runs1_3 (cb hb mb nb : Nat) (how n : Int) (q : Addr) (w : World) (k0 : w.cell? ⟨cb, 0, none⟩ = some (.int .i64 0)) (kf : w.frozen? ⟨cb, 0, none⟩ = false) (k1 : w.cell? ⟨hb, 0, none⟩ = some (.int .i64 how)) (k2 : w.cell? ⟨mb, 0, none⟩ = some (.pointer (some q))) (k3 : w.cell? ⟨nb, 0, none⟩ = some (.int .i64 n)) (x1 : ¬ cb = hb) (x2 : ¬ cb = mb) (x3 : ¬ cb = nb) (hh : bits .and .i64 how 7 = 3) :
    Calls Tryd.prog 10 #[.pointer (some ⟨cb, 0, none⟩), .pointer (some ⟨hb, 0, none⟩), .pointer (some ⟨mb, 0, none⟩), .pointer (some ⟨nb, 0, none⟩)] w fun e w' => e = .panicked [{ v := .iface 3 (.int .i64 n), recovered := false }] ∧ w' = w.setCell ⟨cb, 0, none⟩ (.int .i64 1) := by
  go_enter Tryd.func10, Tryd.ntmps10
  go_wp2
  exact ⟨rfl, rfl, rfl⟩

set_option maxRecDepth 20000 in
theorem runs1_5 (cb hb mb nb : Nat) (how n : Int) (q : Addr) (w : World) (k0 : w.cell? ⟨cb, 0, none⟩ = some (.int .i64 0)) (kf : w.frozen? ⟨cb, 0, none⟩ = false) (k1 : w.cell? ⟨hb, 0, none⟩ = some (.int .i64 how)) (k2 : w.cell? ⟨mb, 0, none⟩ = some (.pointer (some q))) (k3 : w.cell? ⟨nb, 0, none⟩ = some (.int .i64 n)) (x1 : ¬ cb = hb) (x2 : ¬ cb = mb) (x3 : ¬ cb = nb) (hh : bits .and .i64 how 7 = 5) :
    Calls Tryd.prog 10 #[.pointer (some ⟨cb, 0, none⟩), .pointer (some ⟨hb, 0, none⟩), .pointer (some ⟨mb, 0, none⟩), .pointer (some ⟨nb, 0, none⟩)] w fun e w' => e = .returned (.iface 31 (.int .i64 70)) ∧ w' = w.setCell ⟨cb, 0, none⟩ (.int .i64 1) := by
  go_enter Tryd.func10, Tryd.ntmps10
  go_wp2
  go_ret
  exact ⟨rfl, rfl⟩

set_option maxRecDepth 20000 in
theorem runs1_6 (cb hb mb nb : Nat) (how n : Int) (q : Addr) (w : World) (k0 : w.cell? ⟨cb, 0, none⟩ = some (.int .i64 0)) (kf : w.frozen? ⟨cb, 0, none⟩ = false) (k1 : w.cell? ⟨hb, 0, none⟩ = some (.int .i64 how)) (k2 : w.cell? ⟨mb, 0, none⟩ = some (.pointer (some q))) (k3 : w.cell? ⟨nb, 0, none⟩ = some (.int .i64 n)) (x1 : ¬ cb = hb) (x2 : ¬ cb = mb) (x3 : ¬ cb = nb) (hh : bits .and .i64 how 7 = 6) :
    Calls Tryd.prog 10 #[.pointer (some ⟨cb, 0, none⟩), .pointer (some ⟨hb, 0, none⟩), .pointer (some ⟨mb, 0, none⟩), .pointer (some ⟨nb, 0, none⟩)] w fun e w' => e = .panicked [{ v := .iface 9 (.string ⟨#[116, 101, 120, 116]⟩), recovered := false }] ∧ w' = w.setCell ⟨cb, 0, none⟩ (.int .i64 1) := by
  go_enter Tryd.func10, Tryd.ntmps10
  go_wp2
  exact ⟨rfl, rfl, rfl⟩

set_option maxRecDepth 20000 in
theorem runs1_4 (cb hb mb nb : Nat) (how n : Int) (q : Addr) (w : World) (k0 : w.cell? ⟨cb, 0, none⟩ = some (.int .i64 0)) (kf : w.frozen? ⟨cb, 0, none⟩ = false) (k1 : w.cell? ⟨hb, 0, none⟩ = some (.int .i64 how)) (k2 : w.cell? ⟨mb, 0, none⟩ = some (.pointer (some q))) (k3 : w.cell? ⟨nb, 0, none⟩ = some (.int .i64 n)) (x1 : ¬ cb = hb) (x2 : ¬ cb = mb) (x3 : ¬ cb = nb) (hh : bits .and .i64 how 7 = 4) :
    Calls Tryd.prog 10 #[.pointer (some ⟨cb, 0, none⟩), .pointer (some ⟨hb, 0, none⟩), .pointer (some ⟨mb, 0, none⟩), .pointer (some ⟨nb, 0, none⟩)] w fun e w' => ∃ sg, e = .panicked [{ v := .iface 8 (.agg #[.int .i64 0, .int .i64 0, .bool sg, .int .u8 0]), recovered := false }] ∧ w' = (w.setCell ⟨cb, 0, none⟩ (.int .i64 1)).drew := by
  go_enter Tryd.func10, Tryd.ntmps10
  go_wp2_with fail
  go_at_call 11
  refine (l2_calls _).mono ?_
  rintro _ w2 ⟨sg, rfl, rfl⟩
  exact ⟨rfl, sg, rfl, rfl⟩

end Go.Proofs.YtmlfkjmondkfnaaDoor

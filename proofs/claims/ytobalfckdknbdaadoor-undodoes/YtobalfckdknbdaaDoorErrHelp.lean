/-
  errors.As of a fault, of a mark, of a number: whole; and what rialtohelp's Struck, Where and Class answer of a fault, as their texts run.
-/
import Derived.Test.YtobalfckdknbdaaDoorErrAsW
namespace Go.Proofs.YtobalfckdknbdaaDoor
open Go.RowKit Go.Extern.Stop Go.Stop Go.Extern
attribute [local go_sem ↓] Go.wp_at_zero Go.wp_at_succ

/-- The call found its target, and wrote it. -/
def Found (w : World) (ta : Addr) (u : Value) (e : Ending) (w' : World) : Prop := e = .returned (.bool true) ∧ ∃ w2, Up w w2 ∧ w' = w2.setCell ta u
/-- It did not. -/
def Missed (w : World) (e : Ending) (w' : World) : Prop := e = .returned (.bool false) ∧ Up w w'

theorem As_hitF (e ta : Addr) (old : Value) (w : World) (hg : TabE w) (ht : w.cell? ta = some old) (hf : w.frozen? ta = false) :
    Calls Tryd.prog 19 #[.iface 47 (.pointer (some e)), .iface 48 (.pointer (some ta))] w (Found w ta (.pointer (some e))) := by
  refine errAsF _ _ _ w _ hg fun w' a hu ha => (as_hitF e ta a old _ w' ha (hu.cell ht) ((hu.frozen (World.block_lt_of_cell? w ta ht)).trans hf)).mono ?_
  rintro _ w3 ⟨rfl, w2, hu2, rfl⟩
  exact ⟨true, rfl, rfl, w2, hu.trans hu2, rfl⟩

theorem e_toII (v : Value) (w : World) : (Instr.typeAssert (.iface 3 v) 20 3 true).run Tryd.prog w = .ok (.tuple #[v, .bool true]) w := by kernel_rfl
theorem e_toIS (v : Value) (w : World) : (Instr.typeAssert (.iface 9 v) 20 3 true).run Tryd.prog w = .ok (.tuple #[.int .i64 0, .bool false]) w := by kernel_rfl
theorem e_toIB (v : Value) (w : World) : (Instr.typeAssert (.iface 8 v) 20 3 true).run Tryd.prog w = .ok (.tuple #[.int .i64 0, .bool false]) w := by kernel_rfl
theorem e_toIN (w : World) : (Instr.typeAssert .nilIface 20 3 true).run Tryd.prog w = .ok (.tuple #[.int .i64 0, .bool false]) w := by kernel_rfl

end Go.Proofs.YtobalfckdknbdaaDoor

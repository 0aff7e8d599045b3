/-
  What errors.Is answers of this program's errors where the target is an error's number, as the library's text runs.
-/
import Derived.Test.YtobalfckdknbdaaDoorErrUn
namespace Go.Proofs.YtobalfckdknbdaaDoor
open Go.RowKit Go.Extern.Stop Go.Stop Go.Extern
attribute [local go_sem ↓] Go.wp_at_zero Go.wp_at_succ

theorem eq_iface_int {P : Program} {ti tn : TypeId} {ms : Array (String × TypeId)} {k : IntKind} (hi : P.underlying ti = some (.interface ms)) (hn : P.underlying tn = some (.int k)) (hc : (P.info? tn).map (fun i => i.comparable) = some true) (a b : Int) (w : World) :
    (binOp .eql ti (.iface tn (.int k a)) (.iface tn (.int k b))).run P w = .ok (.bool (a == b)) w := by
  obtain ⟨i, hinfo, hcomp⟩ := Option.map_eq_some_iff.1 hc
  have e : (Op.equalIn 10000 ti (.iface tn (.int k a)) (.iface tn (.int k b))).run P w = .ok (a == b) w := by
    have h : ∀ d : Nat, (Op.equalIn (d + 2) ti (.iface tn (.int k a)) (.iface tn (.int k b))).run P w = .ok (a == b) w := fun d => by
      simp [Op.equalIn, run_underlying hi, run_underlying hn, typeInfo, hinfo, hcomp]
    exact h 9998
  simp only [binOp, Op.equal, Op.maxDepth, Sem.run_bind]
  rw [e]
  rfl
end Go.Proofs.YtobalfckdknbdaaDoor

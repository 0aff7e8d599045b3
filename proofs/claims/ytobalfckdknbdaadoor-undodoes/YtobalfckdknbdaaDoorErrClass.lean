/-
  What rialtohelp's Where, Class and Wraps answer of a fault, as their texts run.
-/
import Derived.Test.YtobalfckdknbdaaDoorErrHelp
import Derived.Test.YtobalfckdknbdaaDoorErrIs
namespace Go.Proofs.YtobalfckdknbdaaDoor
open Go.RowKit Go.Extern.Stop Go.Stop Go.Extern
attribute [local go_sem ↓] Go.wp_at_zero Go.wp_at_succ

theorem fault_oneW (b o : Nat) (ta : Addr) (w : World) (hg : TabE w) (hU : ∀ w', Up w w' → Calls Tryd.prog 51 #[.pointer (some ⟨b, o, none⟩)] w' fun e w'' => e = .returned (.slice (some ⟨w'.heap.size, 0, none⟩) 1 1) ∧ w'' = w'.alloc (.cells #[.iface 31 (.int .i64 50)] 28)) :
    Calls Tryd.prog 19 #[.iface 47 (.pointer (some ⟨b, o, none⟩)), .iface 46 (.pointer (some ta))] w (Missed w) := by
  refine errAsW _ _ _ w _ hg fun w' a hu _ => (as_oneW b o _ _ _ _ w' (fun w'' h => hU w'' (hu.trans h))).mono ?_
  rintro _ w3 ⟨rfl, hu3⟩
  exact ⟨false, rfl, rfl, hu.trans hu3⟩
theorem fault_twoW (b o : Nat) (et : TypeId) (ev : Value) (ta : Addr) (w : World) (hg : TabE w) (hU : ∀ w', Up w w' → Calls Tryd.prog 51 #[.pointer (some ⟨b, o, none⟩)] w' fun e w'' => e = .returned (.slice (some ⟨w'.heap.size, 0, none⟩) 2 2) ∧ w'' = w'.alloc (.cells #[.iface 31 (.int .i64 50), .iface et ev] 28))
    (hA : ∀ (tgt h0 h1 : Value) (n : Int) (w' : World), Calls Tryd.prog 26 #[.iface et ev, tgt, .agg #[h0, h1, .int .u64 n], .iface 64 (.agg #[hnd 44])] w' fun e w'' => e = .returned (.bool false) ∧ Up w' w'') :
    Calls Tryd.prog 19 #[.iface 47 (.pointer (some ⟨b, o, none⟩)), .iface 46 (.pointer (some ta))] w (Missed w) := by
  refine errAsW _ _ _ w _ hg fun w' a hu _ => (as_twoW_miss b o et ev _ _ _ _ w' (fun w'' h => hU w'' (hu.trans h)) (fun w'' _ => hA _ _ _ _ w'')).mono ?_
  rintro _ w3 ⟨rfl, hu3⟩
  exact ⟨false, rfl, rfl, hu.trans hu3⟩


set_option maxRecDepth 20000 in
set_option maxHeartbeats 4000000 in
/-- The class of a fault. -/
theorem class_fault (b o : Nat) (s : ByteArray) (err pan : Value) (w : World) (hg : TabE w) (h : FaultAt w b o s err pan) (hW : ∀ (w' : World) (ta : Addr), Up w w' → Calls Tryd.prog 19 #[.iface 47 (.pointer (some ⟨b, o, none⟩)), .iface 46 (.pointer (some ta))] w' (Missed w')) :
    Calls Tryd.prog 12 #[.iface 47 (.pointer (some ⟨b, o, none⟩))] w fun e w' => e = .returned (.int .i64 50) ∧ Up w w' := by
  have H := hide h
  have HG := hide hg
  have HW := hide hW
  clear h hg hW
  go_enter Tryd.func12, Tryd.ntmps12
  go_wp2_with fail
  go_at_call 19
  refine (HW.out _ _ ((Up.refl _).alloc _)).mono ?_
  rintro _ w1 ⟨rfl, hu1⟩
  have u1 : Hid (Up w w1) := ((Up.refl _).alloc _).trans hu1
  clear hu1
  go_wp2_with fail
  go_at_call 19
  refine (As_hitF ⟨b, o, none⟩ ⟨w1.heap.size, 0, none⟩ (.pointer none) _ (HG.out.up (u1.out.alloc _)) (by go_simp) (by go_simp)).mono ?_
  rintro _ w3 ⟨rfl, w2, hu2, hw3⟩
  have k0 : w3.cell? ⟨w1.heap.size, 0, none⟩ = some (.pointer (some ⟨b, o, none⟩)) := by
    rw [hw3]
    exact World.cell?_setCell_same _ _ _ (hu2.cell (v := .pointer none) (by go_simp))
  have u3 : Hid (Up w w3) := by rw [hw3]; exact ((u1.out.alloc _).trans hu2).setCell u1.out.size _
  obtain ⟨c0, c1, c2⟩ := H.out.up u3.out
  clear hw3 hu2
  go_wp2
  go_ret
  exact ⟨rfl, u3.out⟩

end Go.Proofs.YtobalfckdknbdaaDoor

/-
  What rialtohelp's Where, Class and Wraps answer of a fault, as their texts run.
-/
import Derived.Test.YtnnbcpopjnlnoaaDoorErrHelp
import Derived.Test.YtnnbcpopjnlnoaaDoorErrIs
namespace Go.Proofs.YtnnbcpopjnlnoaaDoor
open Go.RowKit Go.Extern.Stop Go.Stop Go.Extern
attribute [local go_sem ↓] Go.wp_at_zero Go.wp_at_succ

theorem fault_oneW (b o : Nat) (ta : Addr) (w : World) (hg : TabE w) (hU : ∀ w', Up w w' → Calls Tryd.prog 108 #[.pointer (some ⟨b, o, none⟩)] w' fun e w'' => e = .returned (.slice (some ⟨w'.heap.size, 0, none⟩) 1 1) ∧ w'' = w'.alloc (.cells #[.iface 76 (.int .i64 50)] 40)) :
    Calls Tryd.prog 32 #[.iface 79 (.pointer (some ⟨b, o, none⟩)), .iface 88 (.pointer (some ta))] w (Missed w) := by
  refine errAsW _ _ _ w _ hg fun w' a hu _ => (as_oneW b o _ _ _ _ w' (fun w'' h => hU w'' (hu.trans h))).mono ?_
  rintro _ w3 ⟨rfl, hu3⟩
  exact ⟨false, rfl, rfl, hu.trans hu3⟩
theorem fault_twoW (b o : Nat) (et : TypeId) (ev : Value) (ta : Addr) (w : World) (hg : TabE w) (hU : ∀ w', Up w w' → Calls Tryd.prog 108 #[.pointer (some ⟨b, o, none⟩)] w' fun e w'' => e = .returned (.slice (some ⟨w'.heap.size, 0, none⟩) 2 2) ∧ w'' = w'.alloc (.cells #[.iface 76 (.int .i64 50), .iface et ev] 40))
    (hA : ∀ (tgt h0 h1 : Value) (n : Int) (w' : World), Calls Tryd.prog 53 #[.iface et ev, tgt, .agg #[h0, h1, .int .u64 n], .iface 133 (.agg #[hnd 87])] w' fun e w'' => e = .returned (.bool false) ∧ Up w' w'') :
    Calls Tryd.prog 32 #[.iface 79 (.pointer (some ⟨b, o, none⟩)), .iface 88 (.pointer (some ta))] w (Missed w) := by
  refine errAsW _ _ _ w _ hg fun w' a hu _ => (as_twoW_miss b o et ev _ _ _ _ w' (fun w'' h => hU w'' (hu.trans h)) (fun w'' _ => hA _ _ _ _ w'')).mono ?_
  rintro _ w3 ⟨rfl, hu3⟩
  exact ⟨false, rfl, rfl, hu.trans hu3⟩

set_option maxRecDepth 20000 in
set_option maxHeartbeats 4000000 in
/-- Where a fault was. -/
theorem where_fault (b o : Nat) (s : ByteArray) (err pan : Value) (w : World) (hg : TabE w) (h : FaultAt w b o s err pan) (hW : ∀ (w' : World) (ta : Addr), Up w w' → Calls Tryd.prog 32 #[.iface 79 (.pointer (some ⟨b, o, none⟩)), .iface 88 (.pointer (some ta))] w' (Missed w')) :
    Calls Tryd.prog 18 #[.iface 79 (.pointer (some ⟨b, o, none⟩))] w fun e w' => e = .returned (.string s) ∧ Up w w' := by
  have H := hide h
  have HG := hide hg
  have HW := hide hW
  clear h hg hW
  go_enter Tryd.func18, Tryd.ntmps18
  go_wp2_with fail
  go_at_call 32
  refine (HW.out _ _ ((Up.refl _).alloc _)).mono ?_
  rintro _ w1 ⟨rfl, hu1⟩
  have u1 : Hid (Up w w1) := ((Up.refl _).alloc _).trans hu1
  clear hu1
  go_wp2_with fail
  go_at_call 32
  refine (As_hitF ⟨b, o, none⟩ ⟨w1.heap.size, 0, none⟩ (.pointer none) _ (HG.out.up (u1.out.alloc _)) (by go_simp) (by go_simp)).mono ?_
  rintro _ w3 ⟨rfl, w2, hu2, hw3⟩
  have k0 : w3.cell? ⟨w1.heap.size, 0, none⟩ = some (.pointer (some ⟨b, o, none⟩)) := by
    rw [hw3]
    exact World.cell?_setCell_same _ _ _ (hu2.cell (v := .pointer none) (by go_simp))
  have u3 : Hid (Up w w3) := by rw [hw3]; exact ((u1.out.alloc _).trans hu2).setCell u1.out.size _
  obtain ⟨c0, c1, c2⟩ := H.out.up u3.out
  clear hw3 hu2
  go_wp2
  go_ret
  exact ⟨rfl, u3.out⟩

set_option maxRecDepth 20000 in
set_option maxHeartbeats 4000000 in
/-- The class of a fault. -/
theorem class_fault (b o : Nat) (s : ByteArray) (err pan : Value) (w : World) (hg : TabE w) (h : FaultAt w b o s err pan) (hW : ∀ (w' : World) (ta : Addr), Up w w' → Calls Tryd.prog 32 #[.iface 79 (.pointer (some ⟨b, o, none⟩)), .iface 88 (.pointer (some ta))] w' (Missed w')) :
    Calls Tryd.prog 17 #[.iface 79 (.pointer (some ⟨b, o, none⟩))] w fun e w' => e = .returned (.int .i64 50) ∧ Up w w' := by
  have H := hide h
  have HG := hide hg
  have HW := hide hW
  clear h hg hW
  go_enter Tryd.func17, Tryd.ntmps17
  go_wp2_with fail
  go_at_call 32
  refine (HW.out _ _ ((Up.refl _).alloc _)).mono ?_
  rintro _ w1 ⟨rfl, hu1⟩
  have u1 : Hid (Up w w1) := ((Up.refl _).alloc _).trans hu1
  clear hu1
  go_wp2_with fail
  go_at_call 32
  refine (As_hitF ⟨b, o, none⟩ ⟨w1.heap.size, 0, none⟩ (.pointer none) _ (HG.out.up (u1.out.alloc _)) (by go_simp) (by go_simp)).mono ?_
  rintro _ w3 ⟨rfl, w2, hu2, hw3⟩
  have k0 : w3.cell? ⟨w1.heap.size, 0, none⟩ = some (.pointer (some ⟨b, o, none⟩)) := by
    rw [hw3]
    exact World.cell?_setCell_same _ _ _ (hu2.cell (v := .pointer none) (by go_simp))
  have u3 : Hid (Up w w3) := by rw [hw3]; exact ((u1.out.alloc _).trans hu2).setCell u1.out.size _
  obtain ⟨c0, c1, c2⟩ := H.out.up u3.out
  clear hw3 hu2
  go_wp2
  go_ret
  exact ⟨rfl, u3.out⟩

end Go.Proofs.YtnnbcpopjnlnoaaDoor

/-
  What rialtohelp's Where, Class and Wraps answer of a fault, as their texts run.
-/
import Derived.Test.YtmlfkjmondkfnaaDoorErrHelp
import Derived.Test.YtmlfkjmondkfnaaDoorErrIs
namespace Go.Proofs.YtmlfkjmondkfnaaDoor
open Go.RowKit Go.Extern.Stop Go.Stop Go.Extern
attribute [local go_sem ↓] Go.wp_at_zero Go.wp_at_succ

theorem fault_oneW (b o : Nat) (ta : Addr) (w : World) (hg : TabE w) (hU : ∀ w', Up w w' → Calls Tryd.prog 107 #[.pointer (some ⟨b, o, none⟩)] w' fun e w'' => e = .returned (.slice (some ⟨w'.heap.size, 0, none⟩) 1 1) ∧ w'' = w'.alloc (.cells #[.iface 31 (.int .i64 50)] 27)) :
    Calls Tryd.prog 12 #[.iface 33 (.pointer (some ⟨b, o, none⟩)), .iface 120 (.pointer (some ta))] w (Missed w) := by
  refine errAsW _ _ _ w _ hg fun w' a hu _ => (as_oneW b o _ _ _ _ w' (fun w'' h => hU w'' (hu.trans h))).mono ?_
  rintro _ w3 ⟨rfl, hu3⟩
  exact ⟨false, rfl, rfl, hu.trans hu3⟩
theorem fault_twoW (b o : Nat) (et : TypeId) (ev : Value) (ta : Addr) (w : World) (hg : TabE w) (hU : ∀ w', Up w w' → Calls Tryd.prog 107 #[.pointer (some ⟨b, o, none⟩)] w' fun e w'' => e = .returned (.slice (some ⟨w'.heap.size, 0, none⟩) 2 2) ∧ w'' = w'.alloc (.cells #[.iface 31 (.int .i64 50), .iface et ev] 27))
    (hA : ∀ (tgt h0 h1 : Value) (n : Int) (w' : World), Calls Tryd.prog 42 #[.iface et ev, tgt, .agg #[h0, h1, .int .u64 n], .iface 128 (.agg #[hnd 119])] w' fun e w'' => e = .returned (.bool false) ∧ Up w' w'') :
    Calls Tryd.prog 12 #[.iface 33 (.pointer (some ⟨b, o, none⟩)), .iface 120 (.pointer (some ta))] w (Missed w) := by
  refine errAsW _ _ _ w _ hg fun w' a hu _ => (as_twoW_miss b o et ev _ _ _ _ w' (fun w'' h => hU w'' (hu.trans h)) (fun w'' _ => hA _ _ _ _ w'')).mono ?_
  rintro _ w3 ⟨rfl, hu3⟩
  exact ⟨false, rfl, rfl, hu.trans hu3⟩

set_option maxRecDepth 20000 in
set_option maxHeartbeats 4000000 in
/-- Where a fault was. -/
theorem where_fault (b o : Nat) (s : ByteArray) (err pan : Value) (w : World) (hg : TabE w) (h : FaultAt w b o s err pan) (hW : ∀ (w' : World) (ta : Addr), Up w w' → Calls Tryd.prog 12 #[.iface 33 (.pointer (some ⟨b, o, none⟩)), .iface 120 (.pointer (some ta))] w' (Missed w')) :
    Calls Tryd.prog 34 #[.iface 33 (.pointer (some ⟨b, o, none⟩))] w fun e w' => e = .returned (.string s) ∧ Up w w' := by
  have H := hide h
  have HG := hide hg
  have HW := hide hW
  clear h hg hW
  go_enter Tryd.func34, Tryd.ntmps34
  go_wp2_with fail
  go_at_call 12
  refine (HW.out _ _ ((Up.refl _).alloc _)).mono ?_
  rintro _ w1 ⟨rfl, hu1⟩
  have u1 : Hid (Up w w1) := ((Up.refl _).alloc _).trans hu1
  clear hu1
  go_wp2_with fail
  go_at_call 12
  refine (As_hitF ⟨b, o, none⟩ ⟨w1.heap.size, 0, none⟩ (.pointer none) _ (HG.out.up (u1.out.alloc _)) (by go_simp) (by go_simp)).mono ?_
  rintro _ w3 ⟨rfl, w2, hu2, hw3⟩
  have k0 : w3.cell? ⟨w1.heap.size, 0, none⟩ = some (.pointer (some ⟨b, o, none⟩)) := by
    rw [hw3]
    exact World.cell?_setCell_same _ _ _ (hu2.cell (v := .pointer none) (by go_simp))
  have u3 : Hid (Up w w3) := by rw [hw3]; exact ((u1.out.alloc _).trans hu2).setCell u1.out.size _
  obtain ⟨c0, c1, c2⟩ := H.out.up u3.out
  clear hw3 hu2
  go_wp2
  go_ret
  exact ⟨rfl, u3.out⟩

set_option maxRecDepth 20000 in
set_option maxHeartbeats 4000000 in
/-- The class of a fault. -/
theorem class_fault (b o : Nat) (s : ByteArray) (err pan : Value) (w : World) (hg : TabE w) (h : FaultAt w b o s err pan) (hW : ∀ (w' : World) (ta : Addr), Up w w' → Calls Tryd.prog 12 #[.iface 33 (.pointer (some ⟨b, o, none⟩)), .iface 120 (.pointer (some ta))] w' (Missed w')) :
    Calls Tryd.prog 33 #[.iface 33 (.pointer (some ⟨b, o, none⟩))] w fun e w' => e = .returned (.int .i64 50) ∧ Up w w' := by
  have H := hide h
  have HG := hide hg
  have HW := hide hW
  clear h hg hW
  go_enter Tryd.func33, Tryd.ntmps33
  go_wp2_with fail
  go_at_call 12
  refine (HW.out _ _ ((Up.refl _).alloc _)).mono ?_
  rintro _ w1 ⟨rfl, hu1⟩
  have u1 : Hid (Up w w1) := ((Up.refl _).alloc _).trans hu1
  clear hu1
  go_wp2_with fail
  go_at_call 12
  refine (As_hitF ⟨b, o, none⟩ ⟨w1.heap.size, 0, none⟩ (.pointer none) _ (HG.out.up (u1.out.alloc _)) (by go_simp) (by go_simp)).mono ?_
  rintro _ w3 ⟨rfl, w2, hu2, hw3⟩
  have k0 : w3.cell? ⟨w1.heap.size, 0, none⟩ = some (.pointer (some ⟨b, o, none⟩)) := by
    rw [hw3]
    exact World.cell?_setCell_same _ _ _ (hu2.cell (v := .pointer none) (by go_simp))
  have u3 : Hid (Up w w3) := by rw [hw3]; exact ((u1.out.alloc _).trans hu2).setCell u1.out.size _
  obtain ⟨c0, c1, c2⟩ := H.out.up u3.out
  clear hw3 hu2
  go_wp2
  go_ret
  exact ⟨rfl, u3.out⟩

set_option maxRecDepth 20000 in
set_option maxHeartbeats 4000000 in
/-- A fault wraps its number. -/
theorem wraps_no (b o : Nat) (w : World) (hI : ∀ w', Up w w' → Calls Tryd.prog 13 #[.iface 33 (.pointer (some ⟨b, o, none⟩)), .iface 31 (.int .i64 50)] w' fun e w'' => e = .returned (.bool true) ∧ Up w' w'') :
    Calls Tryd.prog 14 #[.iface 33 (.pointer (some ⟨b, o, none⟩)), .bool false] w fun e w' => e = .returned (.bool true) ∧ Up w w' := by
  have HI := hide hI
  clear hI
  go_enter Tryd.func14, Tryd.ntmps14
  go_wp2_with fail
  go_at_call 13
  refine (HI.out _ (Up.refl _)).mono ?_
  rintro _ w1 ⟨rfl, hu1⟩
  replace hu1 := hide hu1
  go_wp2
  go_ret
  exact ⟨rfl, hu1.out.alloc _⟩
set_option maxRecDepth 20000 in
set_option maxHeartbeats 4000000 in
/-- And the mark. -/
theorem wraps_yes (b o : Nat) (u : Value) (w : World) (hI : ∀ w', Up w w' → Calls Tryd.prog 13 #[.iface 33 (.pointer (some ⟨b, o, none⟩)), .iface 31 (.int .i64 50)] w' fun e w'' => e = .returned (.bool true) ∧ Up w' w'')
    (hM : ∀ (w' : World) (ta : Addr) (old : Value), Up w w' → w'.cell? ta = some old → w'.frozen? ta = false → Calls Tryd.prog 12 #[.iface 33 (.pointer (some ⟨b, o, none⟩)), .iface 102 (.pointer (some ta))] w' (Found w' ta u)) :
    Calls Tryd.prog 14 #[.iface 33 (.pointer (some ⟨b, o, none⟩)), .bool true] w fun e w' => e = .returned (.bool true) ∧ Up w w' := by
  have HI := hide hI
  have HM := hide hM
  clear hI hM
  go_enter Tryd.func14, Tryd.ntmps14
  go_wp2_with fail
  go_at_call 13
  refine (HI.out _ (Up.refl _)).mono ?_
  rintro _ w1 ⟨rfl, hu1⟩
  replace hu1 := hide hu1
  go_wp2_with fail
  go_at_call 12
  refine (HM.out _ _ (.pointer none) (hu1.out.alloc _) (by go_simp) (by go_simp)).mono ?_
  rintro _ w3 ⟨rfl, w2, hu2, hw3⟩
  have u3 : Hid (Up w w3) := by rw [hw3]; exact ((hu1.out.alloc _).trans hu2).setCell hu1.out.size _
  clear hw3 hu2
  go_wp2
  go_ret
  exact ⟨rfl, u3.out⟩

end Go.Proofs.YtmlfkjmondkfnaaDoor

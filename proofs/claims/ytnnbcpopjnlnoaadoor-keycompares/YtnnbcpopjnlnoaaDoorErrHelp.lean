/-
  errors.As of a fault, of a mark, of a number: whole; and what rialtohelp's Struck, Where and Class answer of a fault, as their texts run.
-/
import Derived.Test.YtnnbcpopjnlnoaaDoorErrAsW
namespace Go.Proofs.YtnnbcpopjnlnoaaDoor
open Go.RowKit Go.Extern.Stop Go.Stop Go.Extern
attribute [local go_sem ↓] Go.wp_at_zero Go.wp_at_succ

/-- The call found its target, and wrote it. -/
def Found (w : World) (ta : Addr) (u : Value) (e : Ending) (w' : World) : Prop := e = .returned (.bool true) ∧ ∃ w2, Up w w2 ∧ w' = w2.setCell ta u
/-- It did not. -/
def Missed (w : World) (e : Ending) (w' : World) : Prop := e = .returned (.bool false) ∧ Up w w'

theorem As_hitF (e ta : Addr) (old : Value) (w : World) (hg : TabE w) (ht : w.cell? ta = some old) (hf : w.frozen? ta = false) :
    Calls Tryd.prog 32 #[.iface 79 (.pointer (some e)), .iface 81 (.pointer (some ta))] w (Found w ta (.pointer (some e))) := by
  refine errAsF _ _ _ w _ hg fun w' a hu ha => (as_hitF e ta a old _ w' ha (hu.cell ht) ((hu.frozen (World.block_lt_of_cell? w ta ht)).trans hf)).mono ?_
  rintro _ w3 ⟨rfl, w2, hu2, rfl⟩
  exact ⟨true, rfl, rfl, w2, hu.trans hu2, rfl⟩

theorem As_hitM (e ta : Addr) (old : Value) (w : World) (hg : TabE w) (ht : w.cell? ta = some old) (hf : w.frozen? ta = false) :
    Calls Tryd.prog 32 #[.iface 96 (.pointer (some e)), .iface 97 (.pointer (some ta))] w (Found w ta (.pointer (some e))) := by
  refine errAsM _ _ _ w _ hg fun w' a hu ha => (as_hitM e ta a old _ w' ha (hu.cell ht) ((hu.frozen (World.block_lt_of_cell? w ta ht)).trans hf)).mono ?_
  rintro _ w3 ⟨rfl, w2, hu2, rfl⟩
  exact ⟨true, rfl, rfl, w2, hu.trans hu2, rfl⟩

theorem As_missEM (v : Value) (ta : Addr) (w : World) (hg : TabE w) : Calls Tryd.prog 32 #[.iface 76 v, .iface 97 (.pointer (some ta))] w (Missed w) := by
  refine errAsM _ _ _ w _ hg fun w' a hu _ => (as_missEM v _ _ _ _ w').mono ?_
  rintro _ w3 ⟨rfl, hu3⟩
  exact ⟨false, rfl, rfl, hu.trans hu3⟩
theorem e_toMI (v : Value) (w : World) : (Instr.typeAssert (.iface 3 v) 20 96 true).run Tryd.prog w = .ok (.tuple #[.pointer none, .bool false]) w := by kernel_rfl
theorem e_toII (v : Value) (w : World) : (Instr.typeAssert (.iface 3 v) 20 3 true).run Tryd.prog w = .ok (.tuple #[v, .bool true]) w := by kernel_rfl
theorem e_toMS (v : Value) (w : World) : (Instr.typeAssert (.iface 9 v) 20 96 true).run Tryd.prog w = .ok (.tuple #[.pointer none, .bool false]) w := by kernel_rfl
theorem e_toIS (v : Value) (w : World) : (Instr.typeAssert (.iface 9 v) 20 3 true).run Tryd.prog w = .ok (.tuple #[.int .i64 0, .bool false]) w := by kernel_rfl
theorem e_toMM (v : Value) (w : World) : (Instr.typeAssert (.iface 96 v) 20 96 true).run Tryd.prog w = .ok (.tuple #[v, .bool true]) w := by kernel_rfl
theorem e_toIM (v : Value) (w : World) : (Instr.typeAssert (.iface 96 v) 20 3 true).run Tryd.prog w = .ok (.tuple #[.int .i64 0, .bool false]) w := by kernel_rfl
theorem e_toMB (v : Value) (w : World) : (Instr.typeAssert (.iface 8 v) 20 96 true).run Tryd.prog w = .ok (.tuple #[.pointer none, .bool false]) w := by kernel_rfl
theorem e_toIB (v : Value) (w : World) : (Instr.typeAssert (.iface 8 v) 20 3 true).run Tryd.prog w = .ok (.tuple #[.int .i64 0, .bool false]) w := by kernel_rfl
theorem e_toMN (w : World) : (Instr.typeAssert .nilIface 20 96 true).run Tryd.prog w = .ok (.tuple #[.pointer none, .bool false]) w := by kernel_rfl
theorem e_toIN (w : World) : (Instr.typeAssert .nilIface 20 3 true).run Tryd.prog w = .ok (.tuple #[.int .i64 0, .bool false]) w := by kernel_rfl

set_option maxRecDepth 20000 in
set_option maxHeartbeats 4000000 in
/-- A fault that a panic with a number made. -/
theorem struck_int (b o : Nat) (s : ByteArray) (n : Int) (w : World) (hg : TabE w) (h : FaultAt w b o s .nilIface (.iface 3 (.int .i64 n))) :
    Calls Tryd.prog 22 #[.iface 79 (.pointer (some ⟨b, o, none⟩))] w fun e w' => e = .returned (.int .i64 n) ∧ Up w w' := by
  have H := hide h
  have HG := hide hg
  clear h hg
  go_enter Tryd.func22, Tryd.ntmps22
  go_wp2_with fail
  go_at_call 32
  refine (As_hitF ⟨b, o, none⟩ ⟨w.heap.size, 0, none⟩ (.pointer none) _ (HG.out.up ((Up.refl _).alloc _)) (by go_simp) (by go_simp)).mono ?_
  rintro _ w3 ⟨rfl, w2, hu2, hw3⟩
  have k0 : w3.cell? ⟨w.heap.size, 0, none⟩ = some (.pointer (some ⟨b, o, none⟩)) := by
    rw [hw3]
    exact World.cell?_setCell_same _ _ _ (hu2.cell (v := .pointer none) (by go_simp))
  have u3 : Hid (Up w w3) := by rw [hw3]; exact (((Up.refl _).alloc _).trans hu2).setCell (Nat.le_refl _) _
  obtain ⟨c0, c1, c2⟩ := H.out.up u3.out
  clear hw3 hu2
  have uM := (Up.refl w3).alloc (.cells #[.pointer none] 96)
  have k1 := uM.cell k0
  have d0 := uM.cell c0
  have d1 := uM.cell c1
  have d2 := uM.cell c2
  replace u3 := hide (u3.out.trans uM)
  clear uM c0 c1 c2
  have q1 := e_toMI
  have q2 := e_toII
  go_wp2
  go_ret
  exact ⟨rfl, u3.out⟩

set_option maxRecDepth 20000 in
set_option maxHeartbeats 4000000 in
/-- A fault that a panic with a text made. -/
theorem struck_str (b o : Nat) (s : ByteArray) (t : ByteArray) (w : World) (hg : TabE w) (h : FaultAt w b o s .nilIface (.iface 9 (.string t))) :
    Calls Tryd.prog 22 #[.iface 79 (.pointer (some ⟨b, o, none⟩))] w fun e w' => e = .returned (.int .i64 0) ∧ Up w w' := by
  have H := hide h
  have HG := hide hg
  clear h hg
  go_enter Tryd.func22, Tryd.ntmps22
  go_wp2_with fail
  go_at_call 32
  refine (As_hitF ⟨b, o, none⟩ ⟨w.heap.size, 0, none⟩ (.pointer none) _ (HG.out.up ((Up.refl _).alloc _)) (by go_simp) (by go_simp)).mono ?_
  rintro _ w3 ⟨rfl, w2, hu2, hw3⟩
  have k0 : w3.cell? ⟨w.heap.size, 0, none⟩ = some (.pointer (some ⟨b, o, none⟩)) := by
    rw [hw3]
    exact World.cell?_setCell_same _ _ _ (hu2.cell (v := .pointer none) (by go_simp))
  have u3 : Hid (Up w w3) := by rw [hw3]; exact (((Up.refl _).alloc _).trans hu2).setCell (Nat.le_refl _) _
  obtain ⟨c0, c1, c2⟩ := H.out.up u3.out
  clear hw3 hu2
  have uM := (Up.refl w3).alloc (.cells #[.pointer none] 96)
  have k1 := uM.cell k0
  have d0 := uM.cell c0
  have d1 := uM.cell c1
  have d2 := uM.cell c2
  replace u3 := hide (u3.out.trans uM)
  clear uM c0 c1 c2
  have q1 := e_toMS
  have q2 := e_toIS
  go_wp2
  go_ret
  exact ⟨rfl, u3.out⟩

set_option maxRecDepth 20000 in
set_option maxHeartbeats 4000000 in
/-- A fault that a panic of the runtime made. -/
theorem struck_bounds (b o : Nat) (s : ByteArray) (v : Value) (w : World) (hg : TabE w) (h : FaultAt w b o s .nilIface (.iface 8 v)) :
    Calls Tryd.prog 22 #[.iface 79 (.pointer (some ⟨b, o, none⟩))] w fun e w' => e = .returned (.int .i64 0) ∧ Up w w' := by
  have H := hide h
  have HG := hide hg
  clear h hg
  go_enter Tryd.func22, Tryd.ntmps22
  go_wp2_with fail
  go_at_call 32
  refine (As_hitF ⟨b, o, none⟩ ⟨w.heap.size, 0, none⟩ (.pointer none) _ (HG.out.up ((Up.refl _).alloc _)) (by go_simp) (by go_simp)).mono ?_
  rintro _ w3 ⟨rfl, w2, hu2, hw3⟩
  have k0 : w3.cell? ⟨w.heap.size, 0, none⟩ = some (.pointer (some ⟨b, o, none⟩)) := by
    rw [hw3]
    exact World.cell?_setCell_same _ _ _ (hu2.cell (v := .pointer none) (by go_simp))
  have u3 : Hid (Up w w3) := by rw [hw3]; exact (((Up.refl _).alloc _).trans hu2).setCell (Nat.le_refl _) _
  obtain ⟨c0, c1, c2⟩ := H.out.up u3.out
  clear hw3 hu2
  have uM := (Up.refl w3).alloc (.cells #[.pointer none] 96)
  have k1 := uM.cell k0
  have d0 := uM.cell c0
  have d1 := uM.cell c1
  have d2 := uM.cell c2
  replace u3 := hide (u3.out.trans uM)
  clear uM c0 c1 c2
  have q1 := e_toMB
  have q2 := e_toIB
  go_wp2
  go_ret
  exact ⟨rfl, u3.out⟩

set_option maxRecDepth 20000 in
set_option maxHeartbeats 4000000 in
/-- A fault that a panic with a mark made. -/
theorem struck_mark (b o : Nat) (s : ByteArray) (q : Addr) (n : Int) (w : World) (hg : TabE w) (h : FaultAt w b o s .nilIface (.iface 96 (.pointer (some q)))) (hq : w.cell? q = some (.int .i64 n)) :
    Calls Tryd.prog 22 #[.iface 79 (.pointer (some ⟨b, o, none⟩))] w fun e w' => e = .returned (.int .i64 n) ∧ Up w w' := by
  have H := hide h
  have HG := hide hg
  clear h hg
  go_enter Tryd.func22, Tryd.ntmps22
  go_wp2_with fail
  go_at_call 32
  refine (As_hitF ⟨b, o, none⟩ ⟨w.heap.size, 0, none⟩ (.pointer none) _ (HG.out.up ((Up.refl _).alloc _)) (by go_simp) (by go_simp)).mono ?_
  rintro _ w3 ⟨rfl, w2, hu2, hw3⟩
  have k0 : w3.cell? ⟨w.heap.size, 0, none⟩ = some (.pointer (some ⟨b, o, none⟩)) := by
    rw [hw3]
    exact World.cell?_setCell_same _ _ _ (hu2.cell (v := .pointer none) (by go_simp))
  have u3 : Hid (Up w w3) := by rw [hw3]; exact (((Up.refl _).alloc _).trans hu2).setCell (Nat.le_refl _) _
  obtain ⟨c0, c1, c2⟩ := H.out.up u3.out
  clear hw3 hu2
  have uM := (Up.refl w3).alloc (.cells #[.pointer none] 96)
  have k1 := uM.cell k0
  have d0 := uM.cell c0
  have d1 := uM.cell c1
  have d2 := uM.cell c2
  replace u3 := hide (u3.out.trans uM)
  have hq2 := u3.out.cell hq
  clear hq
  clear uM c0 c1 c2
  have q1 := e_toMM
  have q2 := e_toIM
  go_wp2
  go_ret
  exact ⟨rfl, u3.out⟩

set_option maxRecDepth 20000 in
set_option maxHeartbeats 4000000 in
/-- A fault that a mark told made. -/
theorem struck_told (b o : Nat) (s : ByteArray) (q : Addr) (n : Int) (w : World) (hg : TabE w) (h : FaultAt w b o s (.iface 96 (.pointer (some q))) .nilIface) (hq : w.cell? q = some (.int .i64 n)) :
    Calls Tryd.prog 22 #[.iface 79 (.pointer (some ⟨b, o, none⟩))] w fun e w' => e = .returned (.int .i64 n) ∧ Up w w' := by
  have H := hide h
  have HG := hide hg
  clear h hg
  go_enter Tryd.func22, Tryd.ntmps22
  go_wp2_with fail
  go_at_call 32
  refine (As_hitF ⟨b, o, none⟩ ⟨w.heap.size, 0, none⟩ (.pointer none) _ (HG.out.up ((Up.refl _).alloc _)) (by go_simp) (by go_simp)).mono ?_
  rintro _ w3 ⟨rfl, w2, hu2, hw3⟩
  have k0 : w3.cell? ⟨w.heap.size, 0, none⟩ = some (.pointer (some ⟨b, o, none⟩)) := by
    rw [hw3]
    exact World.cell?_setCell_same _ _ _ (hu2.cell (v := .pointer none) (by go_simp))
  have u3 : Hid (Up w w3) := by rw [hw3]; exact (((Up.refl _).alloc _).trans hu2).setCell (Nat.le_refl _) _
  obtain ⟨c0, c1, c2⟩ := H.out.up u3.out
  clear hw3 hu2
  have uM := (Up.refl w3).alloc (.cells #[.pointer none] 96)
  have k1 := uM.cell k0
  have d0 := uM.cell c0
  have d1 := uM.cell c1
  have d2 := uM.cell c2
  have uw3 := u3
  replace u3 := hide (u3.out.trans uM)
  have hq3 := uw3.out.cell hq
  clear hq
  clear uM c0 c1 c2
  have q1 := e_toMN
  have q2 := e_toIN
  go_wp2_with fail
  go_at_call 32
  refine (As_hitM q ⟨w3.heap.size, 0, none⟩ (.pointer none) _ (HG.out.up u3.out) (by go_simp) (by go_simp)).mono ?_
  rintro _ w5 ⟨rfl, w4, hu4, hw5⟩
  have m0 : w5.cell? ⟨w3.heap.size, 0, none⟩ = some (.pointer (some q)) := by
    rw [hw5]
    exact World.cell?_setCell_same _ _ _ (hu4.cell (v := .pointer none) (by go_simp))
  have u5 : Up w3 w5 := by rw [hw5]; exact (((Up.refl _).alloc _).trans hu4).setCell (Nat.le_refl _) _
  have k2 := u5.cell k0
  have m1 := u5.cell hq3
  replace u3 := hide (uw3.out.trans u5)
  clear hw5 hu4 u5 k1 d0 d1 d2 k0
  go_wp2
  go_ret
  exact ⟨rfl, u3.out⟩

set_option maxRecDepth 20000 in
set_option maxHeartbeats 4000000 in
/-- A fault that an error with a number made. -/
theorem struck_num (b o : Nat) (s : ByteArray) (v : Value) (w : World) (hg : TabE w) (h : FaultAt w b o s (.iface 76 v) .nilIface) :
    Calls Tryd.prog 22 #[.iface 79 (.pointer (some ⟨b, o, none⟩))] w fun e w' => e = .returned (.int .i64 0) ∧ Up w w' := by
  have H := hide h
  have HG := hide hg
  clear h hg
  go_enter Tryd.func22, Tryd.ntmps22
  go_wp2_with fail
  go_at_call 32
  refine (As_hitF ⟨b, o, none⟩ ⟨w.heap.size, 0, none⟩ (.pointer none) _ (HG.out.up ((Up.refl _).alloc _)) (by go_simp) (by go_simp)).mono ?_
  rintro _ w3 ⟨rfl, w2, hu2, hw3⟩
  have k0 : w3.cell? ⟨w.heap.size, 0, none⟩ = some (.pointer (some ⟨b, o, none⟩)) := by
    rw [hw3]
    exact World.cell?_setCell_same _ _ _ (hu2.cell (v := .pointer none) (by go_simp))
  have u3 : Hid (Up w w3) := by rw [hw3]; exact (((Up.refl _).alloc _).trans hu2).setCell (Nat.le_refl _) _
  obtain ⟨c0, c1, c2⟩ := H.out.up u3.out
  clear hw3 hu2
  have uM := (Up.refl w3).alloc (.cells #[.pointer none] 96)
  have k1 := uM.cell k0
  have d0 := uM.cell c0
  have d1 := uM.cell c1
  have d2 := uM.cell c2
  replace u3 := hide (u3.out.trans uM)
  clear uM c0 c1 c2
  have q1 := e_toMN
  have q2 := e_toIN
  go_wp2_with fail
  go_at_call 32
  refine (As_missEM _ ⟨w3.heap.size, 0, none⟩ _ (HG.out.up u3.out)).mono ?_
  rintro _ w5 ⟨rfl, hu5⟩
  replace k1 := hu5.cell k1
  replace d1 := hu5.cell d1
  replace d2 := hu5.cell d2
  replace u3 := hide (u3.out.trans hu5)
  clear hu5 d0 k0
  go_wp2
  go_ret
  exact ⟨rfl, u3.out⟩

end Go.Proofs.YtnnbcpopjnlnoaaDoor

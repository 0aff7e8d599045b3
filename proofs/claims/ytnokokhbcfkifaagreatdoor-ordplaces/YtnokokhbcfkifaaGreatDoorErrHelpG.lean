/-
  errors.As of a fault, of a mark, of a number: whole; and what rialtohelp's Struck, Where and Class answer of a fault, as their texts run.
  What errors.Is answers of this program's errors where the target is an error's number, as the library's text runs.
  What rialtohelp's Where, Class and Wraps answer of a fault, as their texts run.
  errors.Is of a fault and a number, whole.
-/
import Derived.Test.YtnokokhbcfkifaaGreatDoorErrAsG
namespace Go.Proofs.YtnokokhbcfkifaaGreatDoor
open Go.RowKit Go.Extern.Stop Go.Stop Go.Extern
attribute [local go_sem ↓] Go.wp_at_zero Go.wp_at_succ

/-- The call found its target, and wrote it. -/
def Found (w : World) (ta : Addr) (u : Value) (e : Ending) (w' : World) : Prop := e = .returned (.bool true) ∧ ∃ w2, Up w w2 ∧ w' = w2.setCell ta u
/-- It did not. -/
def Missed (w : World) (e : Ending) (w' : World) : Prop := e = .returned (.bool false) ∧ Up w w'

theorem As_hitF (e ta : Addr) (old : Value) (w : World) (hg : TabE w) (ht : w.cell? ta = some old) (hf : w.frozen? ta = false) :
    Calls Tryz.prog 43 #[.iface 106 (.pointer (some e)), .iface 107 (.pointer (some ta))] w (Found w ta (.pointer (some e))) := by
  refine errAsF _ _ _ w _ hg fun w' a hu ha => (as_hitF e ta a old _ w' ha (hu.cell ht) ((hu.frozen (World.block_lt_of_cell? w ta ht)).trans hf)).mono ?_
  rintro _ w3 ⟨rfl, w2, hu2, rfl⟩
  exact ⟨true, rfl, rfl, w2, hu.trans hu2, rfl⟩

theorem e_toMI (v : Value) (w : World) : (Instr.typeAssert (.iface 3 v) 20 147 true).run Tryz.prog w = .ok (.tuple #[.pointer none, .bool false]) w := by kernel_rfl
theorem e_toII (v : Value) (w : World) : (Instr.typeAssert (.iface 3 v) 20 3 true).run Tryz.prog w = .ok (.tuple #[v, .bool true]) w := by kernel_rfl
theorem e_toMS (v : Value) (w : World) : (Instr.typeAssert (.iface 9 v) 20 147 true).run Tryz.prog w = .ok (.tuple #[.pointer none, .bool false]) w := by kernel_rfl
theorem e_toIS (v : Value) (w : World) : (Instr.typeAssert (.iface 9 v) 20 3 true).run Tryz.prog w = .ok (.tuple #[.int .i64 0, .bool false]) w := by kernel_rfl
theorem e_toMM (v : Value) (w : World) : (Instr.typeAssert (.iface 147 v) 20 147 true).run Tryz.prog w = .ok (.tuple #[v, .bool true]) w := by kernel_rfl
theorem e_toIM (v : Value) (w : World) : (Instr.typeAssert (.iface 147 v) 20 3 true).run Tryz.prog w = .ok (.tuple #[.int .i64 0, .bool false]) w := by kernel_rfl
theorem e_toMB (v : Value) (w : World) : (Instr.typeAssert (.iface 8 v) 20 147 true).run Tryz.prog w = .ok (.tuple #[.pointer none, .bool false]) w := by kernel_rfl
theorem e_toIB (v : Value) (w : World) : (Instr.typeAssert (.iface 8 v) 20 3 true).run Tryz.prog w = .ok (.tuple #[.int .i64 0, .bool false]) w := by kernel_rfl
theorem e_toMN (w : World) : (Instr.typeAssert .nilIface 20 147 true).run Tryz.prog w = .ok (.tuple #[.pointer none, .bool false]) w := by kernel_rfl
theorem e_toIN (w : World) : (Instr.typeAssert .nilIface 20 3 true).run Tryz.prog w = .ok (.tuple #[.int .i64 0, .bool false]) w := by kernel_rfl

end Go.Proofs.YtnokokhbcfkifaaGreatDoor

namespace Go.Proofs.YtnokokhbcfkifaaGreatDoor
open Go.RowKit Go.Extern.Stop Go.Stop Go.Extern
attribute [local go_sem ↓] Go.wp_at_zero Go.wp_at_succ

theorem eq_iface_int {P : Program} {ti tn : TypeId} {ms : Array (String × TypeId)} {k : IntKind} (hi : P.underlying ti = some (.interface ms)) (hn : P.underlying tn = some (.int k)) (hc : (P.info? tn).map (fun i => i.comparable) = some true) (a b : Int) (w : World) :
    (binOp .eql ti (.iface tn (.int k a)) (.iface tn (.int k b))).run P w = .ok (.bool (a == b)) w := by
  obtain ⟨i, hinfo, hcomp⟩ := Option.map_eq_some_iff.1 hc
  have e : (Op.equalIn 10000 ti (.iface tn (.int k a)) (.iface tn (.int k b))).run P w = .ok (a == b) w := by
    have h : ∀ d : Nat, (Op.equalIn (d + 2) ti (.iface tn (.int k a)) (.iface tn (.int k b))).run P w = .ok (a == b) w := fun d => by
      simp [Op.equalIn, run_underlying hi, run_underlying hn, typeInfo, hinfo, hcomp]
    exact h 9998
  simp only [binOp, Op.equal, Op.maxDepth, Sem.run_bind]
  rw [e]
  rfl
theorem e_hasIsE (v : Value) (xT : TypeId) (w : World) : (Instr.typeAssert (.iface 56 v) xT 208 true).run Tryz.prog w = .ok (.tuple #[.nilIface, .bool false]) w := run_typeAssert_lacksB Tryz.underlying208 (by kernel_rfl) (by kernel_rfl) v xT w
theorem e_hasIsF (v : Value) (xT : TypeId) (w : World) : (Instr.typeAssert (.iface 106 v) xT 208 true).run Tryz.prog w = .ok (.tuple #[.nilIface, .bool false]) w := run_typeAssert_lacksB Tryz.underlying208 (by kernel_rfl) (by kernel_rfl) v xT w
theorem e_hasIsW (v : Value) (xT : TypeId) (w : World) : (Instr.typeAssert (.iface 98 v) xT 208 true).run Tryz.prog w = .ok (.tuple #[.nilIface, .bool false]) w := run_typeAssert_lacksB Tryz.underlying208 (by kernel_rfl) (by kernel_rfl) v xT w
theorem e_hasIsM (v : Value) (xT : TypeId) (w : World) : (Instr.typeAssert (.iface 147 v) xT 208 true).run Tryz.prog w = .ok (.tuple #[.nilIface, .bool false]) w := run_typeAssert_lacksB Tryz.underlying208 (by kernel_rfl) (by kernel_rfl) v xT w

/-- Two numbers. -/
theorem is_num (a b : Int) (w : World) : Calls Tryz.prog 127 #[.iface 56 (.int .i64 a), .iface 56 (.int .i64 b), .bool true] w fun e w' => e = .returned (.bool (a == b)) ∧ w' = w := by
  have f1 := eq_iface_int (P := Tryz.prog) (ti := 46) (tn := 56) (k := .i64) Tryz.underlying46 Tryz.underlying56 (by kernel_rfl)
  have f2 := e_hasIsE
  have f3 := e_hasUE
  have f4 := e_hasULE
  go_enter Tryz.func127, Tryz.ntmps127
  go_wp2_with fail
  refine wp_loop_rounds 1 ?_
  rw [rounds_succ]
  cases h : (a == b) with
  | true =>
    go_wp2
    go_ret
    exact ⟨by rw [h]; rfl, rfl⟩
  | false =>
    go_wp2
    go_ret
    exact ⟨by rw [h]; rfl, rfl⟩

set_option maxRecDepth 20000 in
set_option maxHeartbeats 4000000 in
/-- A fault is its number. -/
theorem is_fault (b o n : Nat) (L : Array Value) (w : World) (hn : 1 ≤ n) (hL : L[0]? = some (.iface 56 (.int .i64 50))) (hU : Calls Tryz.prog 154 #[.pointer (some ⟨b, o, none⟩)] w fun e w'' => e = .returned (.slice (some ⟨w.heap.size, 0, none⟩) n n) ∧ w'' = w.alloc (.cells L 46)) :
    Calls Tryz.prog 127 #[.iface 106 (.pointer (some ⟨b, o, none⟩)), .iface 56 (.int .i64 50), .bool true] w fun e w' => e = .returned (.bool true) ∧ Up w w' := by
  have f1 := run_eql_iface_types (P := Tryz.prog) (ti := 46) 106 56 (.pointer (some ⟨b, o, none⟩)) (.int .i64 50) Tryz.underlying46 (by decide)
  have f2 := e_hasIsF
  have f3 := e_hasUF
  have f4 := e_hasULF
  have f7 := e_methodUnwrapF
  have HU := hide hU
  have t0 : decide ((0 : Int) < n) = true := decide_eq_true (by omega)
  clear hU
  go_enter Tryz.func127, Tryz.ntmps127
  go_wp2_with fail
  refine wp_loop_rounds 1 ?_
  rw [rounds_succ]
  go_wp2_with fail
  go_at_call 154
  refine HU.out.mono ?_
  rintro _ w2 ⟨rfl, hw2⟩
  have k0 : w2.cell? ⟨w.heap.size, 0, none⟩ = some (.iface 56 (.int .i64 50)) := by
    rw [hw2]
    simp [hL]
  have u2 : Hid (Up w w2) := by rw [hw2]; exact (Up.refl _).alloc _
  clear HU hw2 hL
  go_wp2_with fail
  refine wp_loop_rounds 1 ?_
  rw [rounds_succ]
  go_wp2_with fail
  go_at_call 127
  refine (is_num _ _ _).mono ?_
  rintro _ w3 ⟨rfl, hw3⟩
  replace u2 : Hid (Up w w3) := by rw [hw3]; exact u2
  clear hw3 k0
  go_wp2
  go_ret
  exact ⟨rfl, u2.out⟩
theorem e_methodComparable (h : Value) (w : World) : (Go.method 343 166 (.agg #[h]) "Comparable").run Tryz.prog w = .ok (161, .agg #[h]) w := by kernel_rfl
theorem e_comparableE (w : World) : (ReflectliteType.method (fun t => do Go.Extern.Rtype.noPackHeld "Comparable" t; (fun a : TypeInfo => Value.bool a.comparable) <$> typeInfo t) #[.agg #[hnd 56]]).run Tryz.prog w = .ok (.bool true) w := by kernel_rfl
set_option maxRecDepth 20000 in
theorem errIs_fault (b o : Nat) (w : World) (hA : ∀ w', Up w w' → Calls Tryz.prog 127 #[.iface 106 (.pointer (some ⟨b, o, none⟩)), .iface 56 (.int .i64 50), .bool true] w' fun e w'' => e = .returned (.bool true) ∧ Up w' w'') :
    Calls Tryz.prog 121 #[.iface 106 (.pointer (some ⟨b, o, none⟩)), .iface 56 (.int .i64 50)] w fun e w' => e = .returned (.bool true) ∧ Up w w' := by
  have x42 := @run_callFunc_extern Tryz.prog 87 _ ReflectliteType.typeOf Tryz.func87 (by kernel_rfl) (by kernel_rfl) (by kernel_rfl) (by kernel_rfl)
  have x103 := @run_callFunc_extern Tryz.prog 161 _ (ReflectliteType.method (fun t => do Go.Extern.Rtype.noPackHeld "Comparable" t; pure (.bool (← typeInfo t).comparable))) Tryz.func161 (by kernel_rfl) (by kernel_rfl) (by kernel_rfl) (by kernel_rfl)
  have f1 := e_typeOfE
  have f2 := e_methodComparable
  have f3 := e_comparableE
  have HA := hide hA
  clear hA
  go_enter Tryz.func121, Tryz.ntmps121
  go_wp2_with fail
  go_at_call 127
  refine (HA.out _ (Up.refl _)).mono ?_
  rintro _ w2 ⟨rfl, hu2⟩
  replace hu2 := hide hu2
  go_wp2
  go_ret
  exact ⟨rfl, hu2.out⟩

end Go.Proofs.YtnokokhbcfkifaaGreatDoor

namespace Go.Proofs.YtnokokhbcfkifaaGreatDoor
open Go.RowKit Go.Extern.Stop Go.Stop Go.Extern
attribute [local go_sem ↓] Go.wp_at_zero Go.wp_at_succ

theorem fault_oneW (b o : Nat) (ta : Addr) (w : World) (hg : TabE w) (hU : ∀ w', Up w w' → Calls Tryz.prog 154 #[.pointer (some ⟨b, o, none⟩)] w' fun e w'' => e = .returned (.slice (some ⟨w'.heap.size, 0, none⟩) 1 1) ∧ w'' = w'.alloc (.cells #[.iface 56 (.int .i64 50)] 46)) :
    Calls Tryz.prog 43 #[.iface 106 (.pointer (some ⟨b, o, none⟩)), .iface 105 (.pointer (some ta))] w (Missed w) := by
  refine errAsW _ _ _ w _ hg fun w' a hu _ => (as_oneW b o _ _ _ _ w' (fun w'' h => hU w'' (hu.trans h))).mono ?_
  rintro _ w3 ⟨rfl, hu3⟩
  exact ⟨false, rfl, rfl, hu.trans hu3⟩
theorem fault_twoW (b o : Nat) (et : TypeId) (ev : Value) (ta : Addr) (w : World) (hg : TabE w) (hU : ∀ w', Up w w' → Calls Tryz.prog 154 #[.pointer (some ⟨b, o, none⟩)] w' fun e w'' => e = .returned (.slice (some ⟨w'.heap.size, 0, none⟩) 2 2) ∧ w'' = w'.alloc (.cells #[.iface 56 (.int .i64 50), .iface et ev] 46))
    (hA : ∀ (tgt h0 h1 : Value) (n : Int) (w' : World), Calls Tryz.prog 70 #[.iface et ev, tgt, .agg #[h0, h1, .int .u64 n], .iface 166 (.agg #[hnd 98])] w' fun e w'' => e = .returned (.bool false) ∧ Up w' w'') :
    Calls Tryz.prog 43 #[.iface 106 (.pointer (some ⟨b, o, none⟩)), .iface 105 (.pointer (some ta))] w (Missed w) := by
  refine errAsW _ _ _ w _ hg fun w' a hu _ => (as_twoW_miss b o et ev _ _ _ _ w' (fun w'' h => hU w'' (hu.trans h)) (fun w'' _ => hA _ _ _ _ w'')).mono ?_
  rintro _ w3 ⟨rfl, hu3⟩
  exact ⟨false, rfl, rfl, hu.trans hu3⟩


set_option maxRecDepth 20000 in
set_option maxHeartbeats 4000000 in
/-- The class of a fault. -/
theorem class_fault (b o : Nat) (s : ByteArray) (err pan : Value) (w : World) (hg : TabE w) (h : FaultAt w b o s err pan) (hW : ∀ (w' : World) (ta : Addr), Up w w' → Calls Tryz.prog 43 #[.iface 106 (.pointer (some ⟨b, o, none⟩)), .iface 105 (.pointer (some ta))] w' (Missed w')) :
    Calls Tryz.prog 22 #[.iface 106 (.pointer (some ⟨b, o, none⟩))] w fun e w' => e = .returned (.int .i64 50) ∧ Up w w' := by
  have H := hide h
  have HG := hide hg
  have HW := hide hW
  clear h hg hW
  go_enter Tryz.func22, Tryz.ntmps22
  go_wp2_with fail
  go_at_call 43
  refine (HW.out _ _ ((Up.refl _).alloc _)).mono ?_
  rintro _ w1 ⟨rfl, hu1⟩
  have u1 : Hid (Up w w1) := ((Up.refl _).alloc _).trans hu1
  clear hu1
  go_wp2_with fail
  go_at_call 43
  refine (As_hitF ⟨b, o, none⟩ ⟨w1.heap.size, 0, none⟩ (.pointer none) _ (HG.out.up (u1.out.alloc _)) (by go_simp) (by go_simp)).mono ?_
  rintro _ w3 ⟨rfl, w2, hu2, hw3⟩
  have k0 : w3.cell? ⟨w1.heap.size, 0, none⟩ = some (.pointer (some ⟨b, o, none⟩)) := by
    rw [hw3]
    exact World.cell?_setCell_same _ _ _ (hu2.cell (v := .pointer none) (by go_simp))
  have u3 : Hid (Up w w3) := by rw [hw3]; exact ((u1.out.alloc _).trans hu2).setCell u1.out.size _
  obtain ⟨c0, c1, c2⟩ := H.out.up u3.out
  clear hw3 hu2
  go_wp2
  go_ret
  exact ⟨rfl, u3.out⟩

end Go.Proofs.YtnokokhbcfkifaaGreatDoor

namespace Go.Proofs.YtnokokhbcfkifaaGreatDoor
open Go.RowKit Go.Extern.Stop Go.Stop Go.Extern
attribute [local go_sem ↓] Go.wp_at_zero Go.wp_at_succ

theorem errIs50 (b o n : Nat) (L : Array Value) (w : World) (hn : 1 ≤ n) (hL : L[0]? = some (.iface 56 (.int .i64 50))) (hU : ∀ w', Up w w' → Calls Tryz.prog 154 #[.pointer (some ⟨b, o, none⟩)] w' fun e w'' => e = .returned (.slice (some ⟨w'.heap.size, 0, none⟩) n n) ∧ w'' = w'.alloc (.cells L 46)) :
    Calls Tryz.prog 121 #[.iface 106 (.pointer (some ⟨b, o, none⟩)), .iface 56 (.int .i64 50)] w fun e w' => e = .returned (.bool true) ∧ Up w w' :=
  errIs_fault b o w fun w' hu => is_fault b o n L w' hn hL (hU w' hu)

set_option maxRecDepth 20000 in
set_option maxHeartbeats 4000000 in
/-- A fault is the number that it bears. -/
theorem is_fault2 (b o : Nat) (t : Int) (w : World) (ht : ((50 : Int) == t) = false) (hU : Calls Tryz.prog 154 #[.pointer (some ⟨b, o, none⟩)] w fun e w'' => e = .returned (.slice (some ⟨w.heap.size, 0, none⟩) 2 2) ∧ w'' = w.alloc (.cells #[.iface 56 (.int .i64 50), .iface 56 (.int .i64 t)] 46)) :
    Calls Tryz.prog 127 #[.iface 106 (.pointer (some ⟨b, o, none⟩)), .iface 56 (.int .i64 t), .bool true] w fun e w' => e = .returned (.bool true) ∧ Up w w' := by
  have f1 := run_eql_iface_types (P := Tryz.prog) (ti := 46) 106 56 (.pointer (some ⟨b, o, none⟩)) (.int .i64 t) Tryz.underlying46 (by decide)
  have f2 := e_hasIsF
  have f3 := e_hasUF
  have f4 := e_hasULF
  have f7 := e_methodUnwrapF
  have HU := hide hU
  clear hU
  go_enter Tryz.func127, Tryz.ntmps127
  go_wp2_with fail
  refine wp_loop_rounds 1 ?_
  rw [rounds_succ]
  go_wp2_with fail
  go_at_call 154
  refine HU.out.mono ?_
  rintro _ w2 ⟨rfl, hw2⟩
  have k0 : w2.cell? ⟨w.heap.size, 0, none⟩ = some (.iface 56 (.int .i64 50)) := by rw [hw2]; go_simp
  have k1 : w2.cell? ⟨w.heap.size, 1, none⟩ = some (.iface 56 (.int .i64 t)) := by rw [hw2]; go_simp
  have u2 : Hid (Up w w2) := by rw [hw2]; exact (Up.refl _).alloc _
  clear HU hw2
  go_wp2_with fail
  refine wp_loop_rounds 2 ?_
  rw [rounds_succ]
  go_wp2_with (go_at_call 127; refine (is_num _ _ _).mono ?_; rintro _ w3 ⟨rfl, hw3⟩; obtain rfl : w2 = w3 := hw3.symm)
  rw [rounds_succ]
  go_wp2_with (go_at_call 127; refine (is_num _ _ _).mono ?_; rintro _ w3 ⟨rfl, hw3⟩; obtain rfl : w2 = w3 := hw3.symm)
  go_ret
  exact ⟨rfl, u2.out⟩

set_option maxRecDepth 20000 in
theorem errIs_num (b o : Nat) (t : Int) (w : World) (hA : ∀ w', Up w w' → Calls Tryz.prog 127 #[.iface 106 (.pointer (some ⟨b, o, none⟩)), .iface 56 (.int .i64 t), .bool true] w' fun e w'' => e = .returned (.bool true) ∧ Up w' w'') :
    Calls Tryz.prog 121 #[.iface 106 (.pointer (some ⟨b, o, none⟩)), .iface 56 (.int .i64 t)] w fun e w' => e = .returned (.bool true) ∧ Up w w' := by
  have x42 := @run_callFunc_extern Tryz.prog 87 _ ReflectliteType.typeOf Tryz.func87 (by kernel_rfl) (by kernel_rfl) (by kernel_rfl) (by kernel_rfl)
  have x103 := @run_callFunc_extern Tryz.prog 161 _ (ReflectliteType.method (fun t => do Go.Extern.Rtype.noPackHeld "Comparable" t; pure (.bool (← typeInfo t).comparable))) Tryz.func161 (by kernel_rfl) (by kernel_rfl) (by kernel_rfl) (by kernel_rfl)
  have f1 := e_typeOfE
  have f2 := e_methodComparable
  have f3 := e_comparableE
  have HA := hide hA
  clear hA
  go_enter Tryz.func121, Tryz.ntmps121
  go_wp2_with fail
  go_at_call 127
  refine (HA.out _ (Up.refl _)).mono ?_
  rintro _ w2 ⟨rfl, hu2⟩
  replace hu2 := hide hu2
  go_wp2
  go_ret
  exact ⟨rfl, hu2.out⟩

end Go.Proofs.YtnokokhbcfkifaaGreatDoor

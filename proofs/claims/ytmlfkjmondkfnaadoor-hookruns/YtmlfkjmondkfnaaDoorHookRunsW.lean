/-
  HookRuns, walked (a trial).
-/
import Derived.Test.YtmlfkjmondkfnaaDoorHookRunsC
import Derived.Test.YtmlfkjmondkfnaaDoorErrIs2
import Derived.Test.YtmlfkjmondkfnaaDoorQuietUp
namespace Go.Proofs.YtmlfkjmondkfnaaDoor
open Go.RowKit
set_option linter.unusedVariables false
attribute [local go_sem ↓] Go.wp_at_zero Go.wp_at_succ

theorem and_7 (a : Int) : ∃ k : Nat, k < 8 ∧ bits .and .i64 a 7 = k := by
  have h : (BitVec.ofInt 64 a &&& BitVec.ofInt 64 7).toNat < 8 := by
    rw [BitVec.toNat_and]
    have h7 : (BitVec.ofInt 64 7).toNat = 7 := by decide
    rw [h7]
    exact Nat.lt_of_le_of_lt Nat.and_le_right (by decide)
  refine ⟨(BitVec.ofInt 64 a &&& BitVec.ofInt 64 7).toNat, h, ?_⟩
  show IntKind.i64.wrap ((BitVec.ofInt 64 a &&& BitVec.ofInt 64 7).toNat : Int) = _
  generalize (BitVec.ofInt 64 a &&& BitVec.ofInt 64 7).toNat = k at h
  have := IntKind.wrap_i64 (k : Int)
  rw [this]
  omega

/-- What lies in memory behind the user code. -/
structure Ran (w0 : World) (cb hb nb : Nat) (q : Addr) (how n : Int) (x : World) : Prop where
  calls : x.cell? ⟨cb, 0, none⟩ = some (.int .i64 1)
  how : x.cell? ⟨hb, 0, none⟩ = some (.int .i64 how)
  num : x.cell? ⟨nb, 0, none⟩ = some (.int .i64 n)
  mark : x.cell? q = some (.int .i64 n)
  below : Below w0.heap.size w0 x
theorem Ran.of {w0 W w' : World} {cb hb nb qb : Nat} {how n : Int} (h0 : Up w0 W) (hu : Up W w') (k0 : W.cell? ⟨cb, 0, none⟩ = some (.int .i64 0)) (k1 : W.cell? ⟨hb, 0, none⟩ = some (.int .i64 how)) (k3 : W.cell? ⟨nb, 0, none⟩ = some (.int .i64 n)) (kq : W.cell? ⟨qb, 0, none⟩ = some (.int .i64 n))
    (x1 : ¬ cb = hb) (x3 : ¬ cb = nb) (xq : ¬ cb = qb) (hc : w0.heap.size ≤ cb) : Ran w0 cb hb nb ⟨qb, 0, none⟩ how n (w'.setCell ⟨cb, 0, none⟩ (.int .i64 1)) := by
  have ho : ∀ b v, ¬ cb = b → W.cell? ⟨b, 0, none⟩ = some v → (w'.setCell ⟨cb, 0, none⟩ (.int .i64 1)).cell? ⟨b, 0, none⟩ = some v := fun b v hb hv =>
    (World.cell?_setCell_other _ _ _ _ (fun e => hb (congrArg Addr.block e))).trans (hu.cell hv)
  exact ⟨World.cell?_setCell_same _ _ _ (hu.cell k0), ho _ _ x1 k1, ho _ _ x3 k3, ho _ _ xq kq, ((h0.trans hu).setCell hc _).below⟩
theorem Ran.on {w0 x y : World} {cb hb nb B : Nat} {q : Addr} {how n : Int} (h : Ran w0 cb hb nb q how n x) (hb' : Below B x y) (h1 : cb < B) (h2 : hb < B) (h3 : nb < B) (h4 : q.block < B) (h5 : w0.heap.size ≤ B) : Ran w0 cb hb nb q how n y :=
  ⟨(hb'.cell (p := ⟨cb, 0, none⟩) h1).trans h.calls, (hb'.cell (p := ⟨hb, 0, none⟩) h2).trans h.how, (hb'.cell (p := ⟨nb, 0, none⟩) h3).trans h.num, (hb'.cell (p := q) h4).trans h.mark, Below.trans h.below (Below.mono hb' h5)⟩
theorem faultM_hit (b o : Nat) (q ta : Addr) (old : Value) (w : World) (hg : TabE w) (ht : w.cell? ta = some old) (hf : w.frozen? ta = false) (hU : ∀ w', Up w w' → Calls Tryd.prog 107 #[.pointer (some ⟨b, o, none⟩)] w' fun e w'' => e = .returned (.slice (some ⟨w'.heap.size, 0, none⟩) 2 2) ∧ w'' = w'.alloc (.cells #[.iface 31 (.int .i64 50), .iface 23 (.pointer (some q))] 27)) :
    Calls Tryd.prog 12 #[.iface 33 (.pointer (some ⟨b, o, none⟩)), .iface 102 (.pointer (some ta))] w (Found w ta (.pointer (some q))) := by
  refine errAsM _ _ _ w _ hg fun w' a hu ha => (as_twoM_hit b o _ _ _ _ _ _ ta (.pointer (some q)) w' (fun w'' h => hU w'' (hu.trans h)) (fun w'' h => as_hitM q ta a old _ w'' (h.cell ha) ((hu.trans h).cell ht) (((hu.trans h).frozen (World.block_lt_of_cell? w ta ht)).trans hf))).mono ?_
  rintro _ w3 ⟨rfl, w4, hu4, rfl⟩
  exact ⟨true, rfl, rfl, w4, hu.trans hu4, rfl⟩
theorem e_errM (v : Value) (xT : TypeId) (w : World) : (Instr.typeAssert (.iface 23 v) xT 27 true).run Tryd.prog w = .ok (.tuple #[.iface 23 v, .bool true]) w := run_typeAssert_hasB Tryd.underlying27 (by kernel_rfl) v xT w
theorem e_errB (v : Value) (xT : TypeId) (w : World) : (Instr.typeAssert (.iface 8 v) xT 27 true).run Tryd.prog w = .ok (.tuple #[.iface 8 v, .bool true]) w := run_typeAssert_hasB Tryd.underlying27 (by kernel_rfl) v xT w
theorem e_errS (v : Value) (xT : TypeId) (w : World) : (Instr.typeAssert (.iface 9 v) xT 27 true).run Tryd.prog w = .ok (.tuple #[.nilIface, .bool false]) w := run_typeAssert_lacksB Tryd.underlying27 (by kernel_rfl) (by kernel_rfl) v xT w
theorem e_strS (v : Value) (w : World) : (Instr.typeAssert (.iface 9 v) 20 9 true).run Tryd.prog w = .ok (.tuple #[v, .bool true]) w := by kernel_rfl
theorem Ran.drew {w0 x : World} {cb hb nb : Nat} {q : Addr} {how n : Int} (h : Ran w0 cb hb nb q how n x) : Ran w0 cb hb nb q how n x.drew := ⟨h.calls, h.how, h.num, h.mark, h.below.drew⟩
theorem Keeps.set {B : Nat} {w : World} {a : Addr} {v : Value} (ha : a.block < B) : Keeps B w (w.setCell a v) :=
  ⟨by simp, fun b hb _ => Below.heap_setCell w a v b (fun e => by omega)⟩


set_option maxRecDepth 20000 in
set_option maxHeartbeats 8000000 in
theorem hookRuns_0 (s0 : ByteArray) (a1 a2 : Int) (w : World) (w0 : s0.size ≤ maxLen) (hT : TabE w) (hh : bits .and .i64 a1 7 = 0) :
    Calls Tryd.prog 3 #[.string s0, .int .i64 a1, .int .i64 a2] w fun e w' => e = .returned (.bool true) ∧ Up w w' := by
  have hmf : ∀ (fn : Fn) (first cap : Array Value) (w : World), (Instr.makeFunc fn first cap).run Tryd.prog w = .ok (.func fn first cap) w := fun _ _ _ _ => rfl
  have HT := hide hT
  go_enter Tryd.func3, Tryd.ntmps3
  go_wp2_with fail
  go_at_call 8
  refine (known_calls _ (hT.up (((Up.refl _).alloc _).alloc _))).mono ?_
  rintro _ w1 ⟨rfl, hu1⟩
  clear hT
  have k1 : w1.cell? ⟨w.heap.size, 0, none⟩ = some (.int .i64 a1) := hu1.cell (by go_simp)
  have k3 : w1.cell? ⟨w.heap.size + 1, 0, none⟩ = some (.int .i64 a2) := hu1.cell (by go_simp)
  have u1 : Hid (Up w w1) := (((Up.refl _).alloc _).alloc _).trans hu1
  have hsz : w.heap.size + 1 < w1.heap.size := by have := hu1.size; simp at this; omega
  clear hu1
  unfold maxLen at w0
  by_cases h0 : (100 : Int) < s0.size
  · have t0 : decide ((100 : Int) < s0.size) = true := decide_eq_true h0
    clear h0
    go_wp2
    go_ret
    exact ⟨rfl, u1.out⟩
  have t0 : decide ((100 : Int) < s0.size) = false := decide_eq_false h0
  have hs0 : s0.size ≤ 281474976710656 := by omega
  clear h0
  have hlt0 : w.heap.size < w1.heap.size := by omega
  go_wp2_with fail
  obtain ⟨W, hW⟩ : ∃ W, W = ((w1.alloc (.cells #[.int .i64 a2] 25)).alloc (.cells #[.pointer (some ⟨w1.heap.size, 0, none⟩)] 23)).alloc (.cells #[.int .i64 0] 3) := ⟨_, rfl⟩
  have uW : Hid (Up w1 W) := by rw [hW]; exact (((Up.refl _).alloc _).alloc _).alloc _
  have z0 : W.cell? ⟨w1.heap.size + 1 + 1, 0, none⟩ = some (.int .i64 0) := by rw [hW]; go_simp
  have zf : W.frozen? ⟨w1.heap.size + 1 + 1, 0, none⟩ = false := by rw [hW]; go_simp
  have z2 : W.cell? ⟨w1.heap.size + 1, 0, none⟩ = some (.pointer (some ⟨w1.heap.size, 0, none⟩)) := by rw [hW]; go_simp
  have zq : W.cell? ⟨w1.heap.size, 0, none⟩ = some (.int .i64 a2) := by rw [hW]; go_simp
  have hWs : W.heap.size = w1.heap.size + 1 + 1 + 1 := by rw [hW]; simp
  have z1 := uW.out.cell k1
  have z3 := uW.out.cell k3
  rw [← hW]
  clear hW k1 k3
  have HR : Hid (∀ w', Up W w' → Ran w (w1.heap.size + 1 + 1) w.heap.size (w.heap.size + 1) ⟨w1.heap.size, 0, none⟩ a1 a2 (w'.setCell ⟨w1.heap.size + 1 + 1, 0, none⟩ (.int .i64 1))) := fun w' hu =>
    Ran.of (u1.out.trans uW.out) hu z0 z1 z3 zq (by omega) (by omega) (by omega) (by omega)
  go_at_call 9
  refine (run_ok s0 10 #[.pointer (some ⟨w1.heap.size + 1 + 1, 0, none⟩), .pointer (some ⟨w.heap.size, 0, none⟩), .pointer (some ⟨w1.heap.size + 1, 0, none⟩), .pointer (some ⟨w.heap.size + 1, 0, none⟩)] (Ran w (w1.heap.size + 1 + 1) w.heap.size (w.heap.size + 1) ⟨w1.heap.size, 0, none⟩ a1 a2) W (runs1_enter _) (fun w' hu => (runs1_0 (w1.heap.size + 1 + 1) w.heap.size (w1.heap.size + 1) (w.heap.size + 1) a1 a2 ⟨w1.heap.size, 0, none⟩ w' (hu.cell z0) ((hu.frozen (p := ⟨w1.heap.size + 1 + 1, 0, none⟩) (by show w1.heap.size + 1 + 1 < _; omega)).trans zf) (hu.cell z1) (hu.cell z2) (hu.cell z3) (by omega) (by omega) (by omega) hh).mono ?_)).mono ?_
  · rintro _ w2 ⟨rfl, rfl⟩
    exact ⟨rfl, Keeps.set (by show w1.heap.size + 1 + 1 < _; omega), HR.out w' hu⟩
  rintro _ w3 ⟨rfl, w2, hr, hb⟩
  have R3 := hide (hr.on hb (by omega) (by omega) (by omega) (by show w1.heap.size < _; omega) (by omega))
  clear hr hb z0 z1 z2 z3 zf zq HR
  have r0 := R3.out.calls
  have r1 := ((Up.refl w3).alloc (.cells #[.pointer none] 33)).cell R3.out.how
  go_wp2
  go_ret
  exact ⟨rfl, Below.alloc R3.out.below R3.out.below.size _⟩

set_option maxRecDepth 20000 in
set_option maxHeartbeats 8000000 in
theorem hookRuns_7 (s0 : ByteArray) (a1 a2 : Int) (w : World) (w0 : s0.size ≤ maxLen) (hT : TabE w) (hh : bits .and .i64 a1 7 = 7) :
    Calls Tryd.prog 3 #[.string s0, .int .i64 a1, .int .i64 a2] w fun e w' => e = .returned (.bool true) ∧ Up w w' := by
  have hmf : ∀ (fn : Fn) (first cap : Array Value) (w : World), (Instr.makeFunc fn first cap).run Tryd.prog w = .ok (.func fn first cap) w := fun _ _ _ _ => rfl
  have HT := hide hT
  go_enter Tryd.func3, Tryd.ntmps3
  go_wp2_with fail
  go_at_call 8
  refine (known_calls _ (hT.up (((Up.refl _).alloc _).alloc _))).mono ?_
  rintro _ w1 ⟨rfl, hu1⟩
  clear hT
  have k1 : w1.cell? ⟨w.heap.size, 0, none⟩ = some (.int .i64 a1) := hu1.cell (by go_simp)
  have k3 : w1.cell? ⟨w.heap.size + 1, 0, none⟩ = some (.int .i64 a2) := hu1.cell (by go_simp)
  have u1 : Hid (Up w w1) := (((Up.refl _).alloc _).alloc _).trans hu1
  have hsz : w.heap.size + 1 < w1.heap.size := by have := hu1.size; simp at this; omega
  clear hu1
  unfold maxLen at w0
  by_cases h0 : (100 : Int) < s0.size
  · have t0 : decide ((100 : Int) < s0.size) = true := decide_eq_true h0
    clear h0
    go_wp2
    go_ret
    exact ⟨rfl, u1.out⟩
  have t0 : decide ((100 : Int) < s0.size) = false := decide_eq_false h0
  have hs0 : s0.size ≤ 281474976710656 := by omega
  clear h0
  have hlt0 : w.heap.size < w1.heap.size := by omega
  go_wp2_with fail
  obtain ⟨W, hW⟩ : ∃ W, W = ((w1.alloc (.cells #[.int .i64 a2] 25)).alloc (.cells #[.pointer (some ⟨w1.heap.size, 0, none⟩)] 23)).alloc (.cells #[.int .i64 0] 3) := ⟨_, rfl⟩
  have uW : Hid (Up w1 W) := by rw [hW]; exact (((Up.refl _).alloc _).alloc _).alloc _
  have z0 : W.cell? ⟨w1.heap.size + 1 + 1, 0, none⟩ = some (.int .i64 0) := by rw [hW]; go_simp
  have zf : W.frozen? ⟨w1.heap.size + 1 + 1, 0, none⟩ = false := by rw [hW]; go_simp
  have z2 : W.cell? ⟨w1.heap.size + 1, 0, none⟩ = some (.pointer (some ⟨w1.heap.size, 0, none⟩)) := by rw [hW]; go_simp
  have zq : W.cell? ⟨w1.heap.size, 0, none⟩ = some (.int .i64 a2) := by rw [hW]; go_simp
  have hWs : W.heap.size = w1.heap.size + 1 + 1 + 1 := by rw [hW]; simp
  have z1 := uW.out.cell k1
  have z3 := uW.out.cell k3
  rw [← hW]
  clear hW k1 k3
  have HR : Hid (∀ w', Up W w' → Ran w (w1.heap.size + 1 + 1) w.heap.size (w.heap.size + 1) ⟨w1.heap.size, 0, none⟩ a1 a2 (w'.setCell ⟨w1.heap.size + 1 + 1, 0, none⟩ (.int .i64 1))) := fun w' hu =>
    Ran.of (u1.out.trans uW.out) hu z0 z1 z3 zq (by omega) (by omega) (by omega) (by omega)
  go_at_call 9
  refine (run_ok s0 10 #[.pointer (some ⟨w1.heap.size + 1 + 1, 0, none⟩), .pointer (some ⟨w.heap.size, 0, none⟩), .pointer (some ⟨w1.heap.size + 1, 0, none⟩), .pointer (some ⟨w.heap.size + 1, 0, none⟩)] (Ran w (w1.heap.size + 1 + 1) w.heap.size (w.heap.size + 1) ⟨w1.heap.size, 0, none⟩ a1 a2) W (runs1_enter _) (fun w' hu => (runs1_7 (w1.heap.size + 1 + 1) w.heap.size (w1.heap.size + 1) (w.heap.size + 1) a1 a2 ⟨w1.heap.size, 0, none⟩ w' (hu.cell z0) ((hu.frozen (p := ⟨w1.heap.size + 1 + 1, 0, none⟩) (by show w1.heap.size + 1 + 1 < _; omega)).trans zf) (hu.cell z1) (hu.cell z2) (hu.cell z3) (by omega) (by omega) (by omega) hh).mono ?_)).mono ?_
  · rintro _ w2 ⟨rfl, rfl⟩
    exact ⟨rfl, Keeps.set (by show w1.heap.size + 1 + 1 < _; omega), HR.out w' hu⟩
  rintro _ w3 ⟨rfl, w2, hr, hb⟩
  have R3 := hide (hr.on hb (by omega) (by omega) (by omega) (by show w1.heap.size < _; omega) (by omega))
  clear hr hb z0 z1 z2 z3 zf zq HR
  have r0 := R3.out.calls
  have r1 := ((Up.refl w3).alloc (.cells #[.pointer none] 33)).cell R3.out.how
  go_wp2
  go_ret
  exact ⟨rfl, Below.alloc R3.out.below R3.out.below.size _⟩

set_option maxRecDepth 20000 in
set_option maxHeartbeats 8000000 in
theorem hookRuns_1 (s0 : ByteArray) (a1 a2 : Int) (w : World) (w0 : s0.size ≤ maxLen) (hT : TabE w) (hh : bits .and .i64 a1 7 = 1) :
    Calls Tryd.prog 3 #[.string s0, .int .i64 a1, .int .i64 a2] w fun e w' => e = .returned (.bool true) ∧ Up w w' := by
  have hmf : ∀ (fn : Fn) (first cap : Array Value) (w : World), (Instr.makeFunc fn first cap).run Tryd.prog w = .ok (.func fn first cap) w := fun _ _ _ _ => rfl
  have HT := hide hT
  go_enter Tryd.func3, Tryd.ntmps3
  go_wp2_with fail
  go_at_call 8
  refine (known_calls _ (hT.up (((Up.refl _).alloc _).alloc _))).mono ?_
  rintro _ w1 ⟨rfl, hu1⟩
  clear hT
  have k1 : w1.cell? ⟨w.heap.size, 0, none⟩ = some (.int .i64 a1) := hu1.cell (by go_simp)
  have k3 : w1.cell? ⟨w.heap.size + 1, 0, none⟩ = some (.int .i64 a2) := hu1.cell (by go_simp)
  have u1 : Hid (Up w w1) := (((Up.refl _).alloc _).alloc _).trans hu1
  have hsz : w.heap.size + 1 < w1.heap.size := by have := hu1.size; simp at this; omega
  clear hu1
  unfold maxLen at w0
  by_cases h0 : (100 : Int) < s0.size
  · have t0 : decide ((100 : Int) < s0.size) = true := decide_eq_true h0
    clear h0
    go_wp2
    go_ret
    exact ⟨rfl, u1.out⟩
  have t0 : decide ((100 : Int) < s0.size) = false := decide_eq_false h0
  have hs0 : s0.size ≤ 281474976710656 := by omega
  clear h0
  have hlt0 : w.heap.size < w1.heap.size := by omega
  go_wp2_with fail
  obtain ⟨W, hW⟩ : ∃ W, W = ((w1.alloc (.cells #[.int .i64 a2] 25)).alloc (.cells #[.pointer (some ⟨w1.heap.size, 0, none⟩)] 23)).alloc (.cells #[.int .i64 0] 3) := ⟨_, rfl⟩
  have uW : Hid (Up w1 W) := by rw [hW]; exact (((Up.refl _).alloc _).alloc _).alloc _
  have z0 : W.cell? ⟨w1.heap.size + 1 + 1, 0, none⟩ = some (.int .i64 0) := by rw [hW]; go_simp
  have zf : W.frozen? ⟨w1.heap.size + 1 + 1, 0, none⟩ = false := by rw [hW]; go_simp
  have z2 : W.cell? ⟨w1.heap.size + 1, 0, none⟩ = some (.pointer (some ⟨w1.heap.size, 0, none⟩)) := by rw [hW]; go_simp
  have zq : W.cell? ⟨w1.heap.size, 0, none⟩ = some (.int .i64 a2) := by rw [hW]; go_simp
  have hWs : W.heap.size = w1.heap.size + 1 + 1 + 1 := by rw [hW]; simp
  have z1 := uW.out.cell k1
  have z3 := uW.out.cell k3
  rw [← hW]
  clear hW k1 k3
  have HR : Hid (∀ w', Up W w' → Ran w (w1.heap.size + 1 + 1) w.heap.size (w.heap.size + 1) ⟨w1.heap.size, 0, none⟩ a1 a2 (w'.setCell ⟨w1.heap.size + 1 + 1, 0, none⟩ (.int .i64 1))) := fun w' hu =>
    Ran.of (u1.out.trans uW.out) hu z0 z1 z3 zq (by omega) (by omega) (by omega) (by omega)
  go_at_call 9
  refine (run_err s0 10 #[.pointer (some ⟨w1.heap.size + 1 + 1, 0, none⟩), .pointer (some ⟨w.heap.size, 0, none⟩), .pointer (some ⟨w1.heap.size + 1, 0, none⟩), .pointer (some ⟨w.heap.size + 1, 0, none⟩)] 23 (.pointer (some ⟨w1.heap.size, 0, none⟩)) (Ran w (w1.heap.size + 1 + 1) w.heap.size (w.heap.size + 1) ⟨w1.heap.size, 0, none⟩ a1 a2) W hs0 (HT.out.up (u1.out.trans uW.out)) (fun x hx => HT.out.up hx.below) (runs1_enter _) (fun w' hu => (runs1_1 (w1.heap.size + 1 + 1) w.heap.size (w1.heap.size + 1) (w.heap.size + 1) a1 a2 ⟨w1.heap.size, 0, none⟩ w' (hu.cell z0) ((hu.frozen (p := ⟨w1.heap.size + 1 + 1, 0, none⟩) (by show w1.heap.size + 1 + 1 < _; omega)).trans zf) (hu.cell z1) (hu.cell z2) (hu.cell z3) (by omega) (by omega) (by omega) hh).mono ?_)).mono ?_
  · rintro _ w2 ⟨rfl, rfl⟩
    exact ⟨rfl, Keeps.set (by show w1.heap.size + 1 + 1 < _; omega), HR.out w' hu⟩
  rintro _ w3 ⟨w2, b, rfl, hf, hr, hb⟩
  have R3 := hide (hr.on hb (by omega) (by omega) (by omega) (by show w1.heap.size < _; omega) (by omega))
  have HF := hide hf
  clear hf hr hb z0 z1 z2 z3 zf zq HR
  have uw3 : Hid (Up w w3) := R3.out.below
  have r0 := R3.out.calls
  have uf := (Up.refl w3).alloc (.cells #[.pointer none] 33)
  have r1 := uf.cell R3.out.how
  clear uf
  go_wp2_with fail
  go_at_call 12
  refine (As_hitF ⟨b, 0, none⟩ ⟨w3.heap.size, 0, none⟩ (.pointer none) _ (HT.out.up (uw3.out.alloc _)) (by go_simp) (by go_simp)).mono ?_
  rintro _ w5 ⟨rfl, w4, hu4, hw5⟩
  have k0 : w5.cell? ⟨w3.heap.size, 0, none⟩ = some (.pointer (some ⟨b, 0, none⟩)) := by
    rw [hw5]
    exact World.cell?_setCell_same _ _ _ (hu4.cell (v := .pointer none) (by go_simp))
  have u35 : Up w3 w5 := by rw [hw5]; exact (((Up.refl _).alloc _).trans hu4).setCell (Nat.le_refl _) _
  replace HF := hide (HF.out.up u35)
  have r1 := u35.cell R3.out.how
  have r3 := u35.cell R3.out.num
  have HMk := hide (u35.cell R3.out.mark)
  obtain ⟨c0, c1, c2⟩ := HF.out
  have u5 : Hid (Up w w5) := uw3.out.trans u35
  clear hw5 hu4 u35 R3 uw3 r0
  have HU : Hid (∀ x, Up w5 x → Calls Tryd.prog 107 #[.pointer (some ⟨b, 0, none⟩)] x fun e w'' => e = .returned (.slice (some ⟨x.heap.size, 0, none⟩) 2 2) ∧ w'' = x.alloc (.cells #[.iface 31 (.int .i64 50), .iface 23 (.pointer (some ⟨w1.heap.size, 0, none⟩))] 27)) := fun x hx => unwrap_err b 0 _ _ _ _ x (HF.out.up hx)
  go_wp2_with fail
  go_at_call 13
  refine (errIs50 b 0 2 #[.iface 31 (.int .i64 50), .iface 23 (.pointer (some ⟨w1.heap.size, 0, none⟩))] w5 (by decide) rfl HU.out).mono ?_
  rintro _ w6 ⟨rfl, hu6⟩
  replace k0 := hu6.cell k0
  replace r1 := hu6.cell r1
  replace r3 := hu6.cell r3
  replace HMk := hide (hu6.cell HMk.out)
  replace HF := hide (HF.out.up hu6)
  obtain ⟨c0, c1, c2⟩ := HF.out
  replace u5 := hide (u5.out.trans hu6)
  replace HU := hide (fun x hx => HU.out x (hu6.trans hx))
  clear hu6
  go_wp2_with fail
  go_at_call 14
  refine (wraps_yes b 0 (.pointer (some ⟨w1.heap.size, 0, none⟩)) w6 (fun x hx => errIs50 b 0 2 #[.iface 31 (.int .i64 50), .iface 23 (.pointer (some ⟨w1.heap.size, 0, none⟩))] x (by decide) rfl (fun y hy => HU.out y (hx.trans hy))) (fun x ta old hx ht hf => faultM_hit b 0 ⟨w1.heap.size, 0, none⟩ ta old x (HT.out.up (u5.out.trans hx)) ht hf (fun y hy => HU.out y (hx.trans hy)))).mono ?_
  rintro _ w7 ⟨rfl, hu7⟩
  replace k0 := hu7.cell k0
  replace r1 := hu7.cell r1
  replace r3 := hu7.cell r3
  replace HMk := hide (hu7.cell HMk.out)
  replace HF := hide (HF.out.up hu7)
  obtain ⟨c0, c1, c2⟩ := HF.out
  replace u5 := hide (u5.out.trans hu7)
  replace HU := hide (fun x hx => HU.out x (hu7.trans hx))
  clear hu7
  go_wp2_with fail
  refine region_up (by kernel_rfl) (by kernel_rfl) ?_
  repeat (first
    | go_big_quiet_skip
    | (go_big_quiet_want; go_big_quiet_op; go_big_quiet_on)
    | (go_big_quiet_want
       apply Exists.intro
       refine ⟨fun w' hw' => ?_, ?_⟩
       (skip
        have k0 := hw'.cell k0
        have r1 := hw'.cell r1
        have r3 := hw'.cell r3
        have c0 := hw'.cell c0
        have c1 := hw'.cell c1
        have c2 := hw'.cell c2
        go_simp
        first
        | done
        | with_reducible rfl
        | (go_at_call 15; exact quiet_call hw' (struck_told b 0 s0 ⟨w1.heap.size, 0, none⟩ a2 w' (HT.out.up (u5.out.trans hw')) (HF.out.up hw') (hw'.cell HMk.out)))
       )
       go_big_quiet_on
       try simp only [Act.put, List.setIfInBounds_toArray, List.set_cons_zero, List.set_cons_succ]))
  intro w8 hu8
  replace u5 := hide (u5.out.trans hu8)
  clear hu8 HF HU
  go_wp2
  go_ret
  exact ⟨rfl, u5.out⟩

set_option maxRecDepth 20000 in
set_option maxHeartbeats 8000000 in
theorem hookRuns_2 (s0 : ByteArray) (a1 a2 : Int) (w : World) (w0 : s0.size ≤ maxLen) (hT : TabE w) (hh : bits .and .i64 a1 7 = 2) :
    Calls Tryd.prog 3 #[.string s0, .int .i64 a1, .int .i64 a2] w fun e w' => e = .returned (.bool true) ∧ Up w w' := by
  have hmf : ∀ (fn : Fn) (first cap : Array Value) (w : World), (Instr.makeFunc fn first cap).run Tryd.prog w = .ok (.func fn first cap) w := fun _ _ _ _ => rfl
  have HT := hide hT
  go_enter Tryd.func3, Tryd.ntmps3
  go_wp2_with fail
  go_at_call 8
  refine (known_calls _ (hT.up (((Up.refl _).alloc _).alloc _))).mono ?_
  rintro _ w1 ⟨rfl, hu1⟩
  clear hT
  have k1 : w1.cell? ⟨w.heap.size, 0, none⟩ = some (.int .i64 a1) := hu1.cell (by go_simp)
  have k3 : w1.cell? ⟨w.heap.size + 1, 0, none⟩ = some (.int .i64 a2) := hu1.cell (by go_simp)
  have u1 : Hid (Up w w1) := (((Up.refl _).alloc _).alloc _).trans hu1
  have hsz : w.heap.size + 1 < w1.heap.size := by have := hu1.size; simp at this; omega
  clear hu1
  unfold maxLen at w0
  by_cases h0 : (100 : Int) < s0.size
  · have t0 : decide ((100 : Int) < s0.size) = true := decide_eq_true h0
    clear h0
    go_wp2
    go_ret
    exact ⟨rfl, u1.out⟩
  have t0 : decide ((100 : Int) < s0.size) = false := decide_eq_false h0
  have hs0 : s0.size ≤ 281474976710656 := by omega
  clear h0
  have hlt0 : w.heap.size < w1.heap.size := by omega
  go_wp2_with fail
  obtain ⟨W, hW⟩ : ∃ W, W = ((w1.alloc (.cells #[.int .i64 a2] 25)).alloc (.cells #[.pointer (some ⟨w1.heap.size, 0, none⟩)] 23)).alloc (.cells #[.int .i64 0] 3) := ⟨_, rfl⟩
  have uW : Hid (Up w1 W) := by rw [hW]; exact (((Up.refl _).alloc _).alloc _).alloc _
  have z0 : W.cell? ⟨w1.heap.size + 1 + 1, 0, none⟩ = some (.int .i64 0) := by rw [hW]; go_simp
  have zf : W.frozen? ⟨w1.heap.size + 1 + 1, 0, none⟩ = false := by rw [hW]; go_simp
  have z2 : W.cell? ⟨w1.heap.size + 1, 0, none⟩ = some (.pointer (some ⟨w1.heap.size, 0, none⟩)) := by rw [hW]; go_simp
  have zq : W.cell? ⟨w1.heap.size, 0, none⟩ = some (.int .i64 a2) := by rw [hW]; go_simp
  have hWs : W.heap.size = w1.heap.size + 1 + 1 + 1 := by rw [hW]; simp
  have z1 := uW.out.cell k1
  have z3 := uW.out.cell k3
  rw [← hW]
  clear hW k1 k3
  have HR : Hid (∀ w', Up W w' → Ran w (w1.heap.size + 1 + 1) w.heap.size (w.heap.size + 1) ⟨w1.heap.size, 0, none⟩ a1 a2 (w'.setCell ⟨w1.heap.size + 1 + 1, 0, none⟩ (.int .i64 1))) := fun w' hu =>
    Ran.of (u1.out.trans uW.out) hu z0 z1 z3 zq (by omega) (by omega) (by omega) (by omega)
  go_at_call 9
  refine (run_panics s0 10 #[.pointer (some ⟨w1.heap.size + 1 + 1, 0, none⟩), .pointer (some ⟨w.heap.size, 0, none⟩), .pointer (some ⟨w1.heap.size + 1, 0, none⟩), .pointer (some ⟨w.heap.size + 1, 0, none⟩)] 23 (.pointer (some ⟨w1.heap.size, 0, none⟩)) (Ran w (w1.heap.size + 1 + 1) w.heap.size (w.heap.size + 1) ⟨w1.heap.size, 0, none⟩ a1 a2) W hs0 (HT.out.up (u1.out.trans uW.out)) (fun x hx => HT.out.up hx.below) (by decide) (runs1_enter _) (fun w' hu => (runs1_2 (w1.heap.size + 1 + 1) w.heap.size (w1.heap.size + 1) (w.heap.size + 1) a1 a2 ⟨w1.heap.size, 0, none⟩ w' (hu.cell z0) ((hu.frozen (p := ⟨w1.heap.size + 1 + 1, 0, none⟩) (by show w1.heap.size + 1 + 1 < _; omega)).trans zf) (hu.cell z1) (hu.cell z2) (hu.cell z3) (by omega) (by omega) (by omega) hh).mono ?_)).mono ?_
  · rintro _ w2 ⟨rfl, rfl⟩
    exact ⟨rfl, Keeps.set (by show w1.heap.size + 1 + 1 < _; omega), HR.out w' hu⟩
  rintro _ w3 ⟨w2, b, rfl, hf, hr, hb⟩
  have R3 := hide (hr.on hb (by omega) (by omega) (by omega) (by show w1.heap.size < _; omega) (by omega))
  have HF := hide hf
  clear hf hr hb z0 z1 z2 z3 zf zq HR
  have uw3 : Hid (Up w w3) := R3.out.below
  have r0 := R3.out.calls
  have uf := (Up.refl w3).alloc (.cells #[.pointer none] 33)
  have r1 := uf.cell R3.out.how
  clear uf
  go_wp2_with fail
  go_at_call 12
  refine (As_hitF ⟨b, 0, none⟩ ⟨w3.heap.size, 0, none⟩ (.pointer none) _ (HT.out.up (uw3.out.alloc _)) (by go_simp) (by go_simp)).mono ?_
  rintro _ w5 ⟨rfl, w4, hu4, hw5⟩
  have k0 : w5.cell? ⟨w3.heap.size, 0, none⟩ = some (.pointer (some ⟨b, 0, none⟩)) := by
    rw [hw5]
    exact World.cell?_setCell_same _ _ _ (hu4.cell (v := .pointer none) (by go_simp))
  have u35 : Up w3 w5 := by rw [hw5]; exact (((Up.refl _).alloc _).trans hu4).setCell (Nat.le_refl _) _
  replace HF := hide (HF.out.up u35)
  have r1 := u35.cell R3.out.how
  have r3 := u35.cell R3.out.num
  have HMk := hide (u35.cell R3.out.mark)
  obtain ⟨c0, c1, c2⟩ := HF.out
  have u5 : Hid (Up w w5) := uw3.out.trans u35
  clear hw5 hu4 u35 R3 uw3 r0
  have HU : Hid (∀ x, Up w5 x → Calls Tryd.prog 107 #[.pointer (some ⟨b, 0, none⟩)] x fun e w'' => e = .returned (.slice (some ⟨x.heap.size, 0, none⟩) 2 2) ∧ w'' = x.alloc (.cells #[.iface 31 (.int .i64 50), .iface 23 (.pointer (some ⟨w1.heap.size, 0, none⟩))] 27)) := fun x hx => unwrap_pan b 0 _ _ _ x (HF.out.up hx) (fun xT w => e_errM _ xT w)
  go_wp2_with fail
  go_at_call 13
  refine (errIs50 b 0 2 #[.iface 31 (.int .i64 50), .iface 23 (.pointer (some ⟨w1.heap.size, 0, none⟩))] w5 (by decide) rfl HU.out).mono ?_
  rintro _ w6 ⟨rfl, hu6⟩
  replace k0 := hu6.cell k0
  replace r1 := hu6.cell r1
  replace r3 := hu6.cell r3
  replace HMk := hide (hu6.cell HMk.out)
  replace HF := hide (HF.out.up hu6)
  obtain ⟨c0, c1, c2⟩ := HF.out
  replace u5 := hide (u5.out.trans hu6)
  replace HU := hide (fun x hx => HU.out x (hu6.trans hx))
  clear hu6
  go_wp2_with fail
  go_at_call 14
  refine (wraps_yes b 0 (.pointer (some ⟨w1.heap.size, 0, none⟩)) w6 (fun x hx => errIs50 b 0 2 #[.iface 31 (.int .i64 50), .iface 23 (.pointer (some ⟨w1.heap.size, 0, none⟩))] x (by decide) rfl (fun y hy => HU.out y (hx.trans hy))) (fun x ta old hx ht hf => faultM_hit b 0 ⟨w1.heap.size, 0, none⟩ ta old x (HT.out.up (u5.out.trans hx)) ht hf (fun y hy => HU.out y (hx.trans hy)))).mono ?_
  rintro _ w7 ⟨rfl, hu7⟩
  replace k0 := hu7.cell k0
  replace r1 := hu7.cell r1
  replace r3 := hu7.cell r3
  replace HMk := hide (hu7.cell HMk.out)
  replace HF := hide (HF.out.up hu7)
  obtain ⟨c0, c1, c2⟩ := HF.out
  replace u5 := hide (u5.out.trans hu7)
  replace HU := hide (fun x hx => HU.out x (hu7.trans hx))
  clear hu7
  go_wp2_with fail
  refine region_up (by kernel_rfl) (by kernel_rfl) ?_
  repeat (first
    | go_big_quiet_skip
    | (go_big_quiet_want; go_big_quiet_op; go_big_quiet_on)
    | (go_big_quiet_want
       apply Exists.intro
       refine ⟨fun w' hw' => ?_, ?_⟩
       (skip
        have k0 := hw'.cell k0
        have r1 := hw'.cell r1
        have r3 := hw'.cell r3
        have c0 := hw'.cell c0
        have c1 := hw'.cell c1
        have c2 := hw'.cell c2
        go_simp
        first
        | done
        | with_reducible rfl
        | (go_at_call 15; exact quiet_call hw' (struck_mark b 0 s0 ⟨w1.heap.size, 0, none⟩ a2 w' (HT.out.up (u5.out.trans hw')) (HF.out.up hw') (hw'.cell HMk.out)))
       )
       go_big_quiet_on
       try simp only [Act.put, List.setIfInBounds_toArray, List.set_cons_zero, List.set_cons_succ]))
  intro w8 hu8
  replace u5 := hide (u5.out.trans hu8)
  clear hu8 HF HU
  go_wp2
  go_ret
  exact ⟨rfl, u5.out⟩

set_option maxRecDepth 20000 in
set_option maxHeartbeats 8000000 in
theorem hookRuns_3 (s0 : ByteArray) (a1 a2 : Int) (w : World) (w0 : s0.size ≤ maxLen) (hT : TabE w) (hh : bits .and .i64 a1 7 = 3) :
    Calls Tryd.prog 3 #[.string s0, .int .i64 a1, .int .i64 a2] w fun e w' => e = .returned (.bool true) ∧ Up w w' := by
  have hmf : ∀ (fn : Fn) (first cap : Array Value) (w : World), (Instr.makeFunc fn first cap).run Tryd.prog w = .ok (.func fn first cap) w := fun _ _ _ _ => rfl
  have HT := hide hT
  go_enter Tryd.func3, Tryd.ntmps3
  go_wp2_with fail
  go_at_call 8
  refine (known_calls _ (hT.up (((Up.refl _).alloc _).alloc _))).mono ?_
  rintro _ w1 ⟨rfl, hu1⟩
  clear hT
  have k1 : w1.cell? ⟨w.heap.size, 0, none⟩ = some (.int .i64 a1) := hu1.cell (by go_simp)
  have k3 : w1.cell? ⟨w.heap.size + 1, 0, none⟩ = some (.int .i64 a2) := hu1.cell (by go_simp)
  have u1 : Hid (Up w w1) := (((Up.refl _).alloc _).alloc _).trans hu1
  have hsz : w.heap.size + 1 < w1.heap.size := by have := hu1.size; simp at this; omega
  clear hu1
  unfold maxLen at w0
  by_cases h0 : (100 : Int) < s0.size
  · have t0 : decide ((100 : Int) < s0.size) = true := decide_eq_true h0
    clear h0
    go_wp2
    go_ret
    exact ⟨rfl, u1.out⟩
  have t0 : decide ((100 : Int) < s0.size) = false := decide_eq_false h0
  have hs0 : s0.size ≤ 281474976710656 := by omega
  clear h0
  have hlt0 : w.heap.size < w1.heap.size := by omega
  go_wp2_with fail
  obtain ⟨W, hW⟩ : ∃ W, W = ((w1.alloc (.cells #[.int .i64 a2] 25)).alloc (.cells #[.pointer (some ⟨w1.heap.size, 0, none⟩)] 23)).alloc (.cells #[.int .i64 0] 3) := ⟨_, rfl⟩
  have uW : Hid (Up w1 W) := by rw [hW]; exact (((Up.refl _).alloc _).alloc _).alloc _
  have z0 : W.cell? ⟨w1.heap.size + 1 + 1, 0, none⟩ = some (.int .i64 0) := by rw [hW]; go_simp
  have zf : W.frozen? ⟨w1.heap.size + 1 + 1, 0, none⟩ = false := by rw [hW]; go_simp
  have z2 : W.cell? ⟨w1.heap.size + 1, 0, none⟩ = some (.pointer (some ⟨w1.heap.size, 0, none⟩)) := by rw [hW]; go_simp
  have zq : W.cell? ⟨w1.heap.size, 0, none⟩ = some (.int .i64 a2) := by rw [hW]; go_simp
  have hWs : W.heap.size = w1.heap.size + 1 + 1 + 1 := by rw [hW]; simp
  have z1 := uW.out.cell k1
  have z3 := uW.out.cell k3
  rw [← hW]
  clear hW k1 k3
  have HR : Hid (∀ w', Up W w' → Ran w (w1.heap.size + 1 + 1) w.heap.size (w.heap.size + 1) ⟨w1.heap.size, 0, none⟩ a1 a2 (w'.setCell ⟨w1.heap.size + 1 + 1, 0, none⟩ (.int .i64 1))) := fun w' hu =>
    Ran.of (u1.out.trans uW.out) hu z0 z1 z3 zq (by omega) (by omega) (by omega) (by omega)
  go_at_call 9
  refine (run_panics s0 10 #[.pointer (some ⟨w1.heap.size + 1 + 1, 0, none⟩), .pointer (some ⟨w.heap.size, 0, none⟩), .pointer (some ⟨w1.heap.size + 1, 0, none⟩), .pointer (some ⟨w.heap.size + 1, 0, none⟩)] 3 (.int .i64 a2) (Ran w (w1.heap.size + 1 + 1) w.heap.size (w.heap.size + 1) ⟨w1.heap.size, 0, none⟩ a1 a2) W hs0 (HT.out.up (u1.out.trans uW.out)) (fun x hx => HT.out.up hx.below) (by decide) (runs1_enter _) (fun w' hu => (runs1_3 (w1.heap.size + 1 + 1) w.heap.size (w1.heap.size + 1) (w.heap.size + 1) a1 a2 ⟨w1.heap.size, 0, none⟩ w' (hu.cell z0) ((hu.frozen (p := ⟨w1.heap.size + 1 + 1, 0, none⟩) (by show w1.heap.size + 1 + 1 < _; omega)).trans zf) (hu.cell z1) (hu.cell z2) (hu.cell z3) (by omega) (by omega) (by omega) hh).mono ?_)).mono ?_
  · rintro _ w2 ⟨rfl, rfl⟩
    exact ⟨rfl, Keeps.set (by show w1.heap.size + 1 + 1 < _; omega), HR.out w' hu⟩
  rintro _ w3 ⟨w2, b, rfl, hf, hr, hb⟩
  have R3 := hide (hr.on hb (by omega) (by omega) (by omega) (by show w1.heap.size < _; omega) (by omega))
  have HF := hide hf
  clear hf hr hb z0 z1 z2 z3 zf zq HR
  have uw3 : Hid (Up w w3) := R3.out.below
  have r0 := R3.out.calls
  have uf := (Up.refl w3).alloc (.cells #[.pointer none] 33)
  have r1 := uf.cell R3.out.how
  clear uf
  go_wp2_with fail
  go_at_call 12
  refine (As_hitF ⟨b, 0, none⟩ ⟨w3.heap.size, 0, none⟩ (.pointer none) _ (HT.out.up (uw3.out.alloc _)) (by go_simp) (by go_simp)).mono ?_
  rintro _ w5 ⟨rfl, w4, hu4, hw5⟩
  have k0 : w5.cell? ⟨w3.heap.size, 0, none⟩ = some (.pointer (some ⟨b, 0, none⟩)) := by
    rw [hw5]
    exact World.cell?_setCell_same _ _ _ (hu4.cell (v := .pointer none) (by go_simp))
  have u35 : Up w3 w5 := by rw [hw5]; exact (((Up.refl _).alloc _).trans hu4).setCell (Nat.le_refl _) _
  replace HF := hide (HF.out.up u35)
  have r1 := u35.cell R3.out.how
  have r3 := u35.cell R3.out.num
  have HMk := hide (u35.cell R3.out.mark)
  obtain ⟨c0, c1, c2⟩ := HF.out
  have u5 : Hid (Up w w5) := uw3.out.trans u35
  clear hw5 hu4 u35 R3 uw3 r0
  have HU : Hid (∀ x, Up w5 x → Calls Tryd.prog 107 #[.pointer (some ⟨b, 0, none⟩)] x fun e w'' => e = .returned (.slice (some ⟨x.heap.size, 0, none⟩) 1 1) ∧ w'' = x.alloc (.cells #[.iface 31 (.int .i64 50)] 27)) := fun x hx => unwrap_one b 0 _ _ _ x (HF.out.up hx) (fun xT w => e_errI _ xT w)
  go_wp2_with fail
  go_at_call 13
  refine (errIs50 b 0 1 #[.iface 31 (.int .i64 50)] w5 (by decide) rfl HU.out).mono ?_
  rintro _ w6 ⟨rfl, hu6⟩
  replace k0 := hu6.cell k0
  replace r1 := hu6.cell r1
  replace r3 := hu6.cell r3
  replace HMk := hide (hu6.cell HMk.out)
  replace HF := hide (HF.out.up hu6)
  obtain ⟨c0, c1, c2⟩ := HF.out
  replace u5 := hide (u5.out.trans hu6)
  replace HU := hide (fun x hx => HU.out x (hu6.trans hx))
  clear hu6
  go_wp2_with fail
  go_at_call 14
  refine (wraps_no b 0 w6 (fun x hx => errIs50 b 0 1 #[.iface 31 (.int .i64 50)] x (by decide) rfl (fun y hy => HU.out y (hx.trans hy)))).mono ?_
  rintro _ w7 ⟨rfl, hu7⟩
  replace k0 := hu7.cell k0
  replace r1 := hu7.cell r1
  replace r3 := hu7.cell r3
  replace HMk := hide (hu7.cell HMk.out)
  replace HF := hide (HF.out.up hu7)
  obtain ⟨c0, c1, c2⟩ := HF.out
  replace u5 := hide (u5.out.trans hu7)
  replace HU := hide (fun x hx => HU.out x (hu7.trans hx))
  clear hu7
  go_wp2_with fail
  refine region_up (by kernel_rfl) (by kernel_rfl) ?_
  repeat (first
    | go_big_quiet_skip
    | (go_big_quiet_want; go_big_quiet_op; go_big_quiet_on)
    | (go_big_quiet_want
       apply Exists.intro
       refine ⟨fun w' hw' => ?_, ?_⟩
       (skip
        have k0 := hw'.cell k0
        have r1 := hw'.cell r1
        have r3 := hw'.cell r3
        have c0 := hw'.cell c0
        have c1 := hw'.cell c1
        have c2 := hw'.cell c2
        go_simp
        first
        | done
        | with_reducible rfl
        | (go_at_call 15; exact quiet_call hw' (struck_int b 0 s0 a2 w' (HT.out.up (u5.out.trans hw')) (HF.out.up hw')))
       )
       go_big_quiet_on
       try simp only [Act.put, List.setIfInBounds_toArray, List.set_cons_zero, List.set_cons_succ]))
  intro w8 hu8
  replace u5 := hide (u5.out.trans hu8)
  clear hu8 HF HU
  go_wp2
  go_ret
  exact ⟨rfl, u5.out⟩

set_option maxRecDepth 20000 in
set_option maxHeartbeats 8000000 in
theorem hookRuns_4 (s0 : ByteArray) (a1 a2 : Int) (w : World) (w0 : s0.size ≤ maxLen) (hT : TabE w) (hh : bits .and .i64 a1 7 = 4) :
    Calls Tryd.prog 3 #[.string s0, .int .i64 a1, .int .i64 a2] w fun e w' => e = .returned (.bool true) ∧ Up w w' := by
  have hmf : ∀ (fn : Fn) (first cap : Array Value) (w : World), (Instr.makeFunc fn first cap).run Tryd.prog w = .ok (.func fn first cap) w := fun _ _ _ _ => rfl
  have HT := hide hT
  go_enter Tryd.func3, Tryd.ntmps3
  go_wp2_with fail
  go_at_call 8
  refine (known_calls _ (hT.up (((Up.refl _).alloc _).alloc _))).mono ?_
  rintro _ w1 ⟨rfl, hu1⟩
  clear hT
  have k1 : w1.cell? ⟨w.heap.size, 0, none⟩ = some (.int .i64 a1) := hu1.cell (by go_simp)
  have k3 : w1.cell? ⟨w.heap.size + 1, 0, none⟩ = some (.int .i64 a2) := hu1.cell (by go_simp)
  have u1 : Hid (Up w w1) := (((Up.refl _).alloc _).alloc _).trans hu1
  have hsz : w.heap.size + 1 < w1.heap.size := by have := hu1.size; simp at this; omega
  clear hu1
  unfold maxLen at w0
  by_cases h0 : (100 : Int) < s0.size
  · have t0 : decide ((100 : Int) < s0.size) = true := decide_eq_true h0
    clear h0
    go_wp2
    go_ret
    exact ⟨rfl, u1.out⟩
  have t0 : decide ((100 : Int) < s0.size) = false := decide_eq_false h0
  have hs0 : s0.size ≤ 281474976710656 := by omega
  clear h0
  have hlt0 : w.heap.size < w1.heap.size := by omega
  go_wp2_with fail
  obtain ⟨W, hW⟩ : ∃ W, W = ((w1.alloc (.cells #[.int .i64 a2] 25)).alloc (.cells #[.pointer (some ⟨w1.heap.size, 0, none⟩)] 23)).alloc (.cells #[.int .i64 0] 3) := ⟨_, rfl⟩
  have uW : Hid (Up w1 W) := by rw [hW]; exact (((Up.refl _).alloc _).alloc _).alloc _
  have z0 : W.cell? ⟨w1.heap.size + 1 + 1, 0, none⟩ = some (.int .i64 0) := by rw [hW]; go_simp
  have zf : W.frozen? ⟨w1.heap.size + 1 + 1, 0, none⟩ = false := by rw [hW]; go_simp
  have z2 : W.cell? ⟨w1.heap.size + 1, 0, none⟩ = some (.pointer (some ⟨w1.heap.size, 0, none⟩)) := by rw [hW]; go_simp
  have zq : W.cell? ⟨w1.heap.size, 0, none⟩ = some (.int .i64 a2) := by rw [hW]; go_simp
  have hWs : W.heap.size = w1.heap.size + 1 + 1 + 1 := by rw [hW]; simp
  have z1 := uW.out.cell k1
  have z3 := uW.out.cell k3
  rw [← hW]
  clear hW k1 k3
  have HR : Hid (∀ w', Up W w' → Ran w (w1.heap.size + 1 + 1) w.heap.size (w.heap.size + 1) ⟨w1.heap.size, 0, none⟩ a1 a2 (w'.setCell ⟨w1.heap.size + 1 + 1, 0, none⟩ (.int .i64 1))) := fun w' hu =>
    Ran.of (u1.out.trans uW.out) hu z0 z1 z3 zq (by omega) (by omega) (by omega) (by omega)
  go_at_call 9
  refine (run_panicsV s0 10 #[.pointer (some ⟨w1.heap.size + 1 + 1, 0, none⟩), .pointer (some ⟨w.heap.size, 0, none⟩), .pointer (some ⟨w1.heap.size + 1, 0, none⟩), .pointer (some ⟨w.heap.size + 1, 0, none⟩)] 8 (fun _ => True) (Ran w (w1.heap.size + 1 + 1) w.heap.size (w.heap.size + 1) ⟨w1.heap.size, 0, none⟩ a1 a2) W hs0 (HT.out.up (u1.out.trans uW.out)) (fun x hx => HT.out.up hx.below) (by decide) (runs1_enter _) (fun w' hu => (runs1_4 (w1.heap.size + 1 + 1) w.heap.size (w1.heap.size + 1) (w.heap.size + 1) a1 a2 ⟨w1.heap.size, 0, none⟩ w' (hu.cell z0) ((hu.frozen (p := ⟨w1.heap.size + 1 + 1, 0, none⟩) (by show w1.heap.size + 1 + 1 < _; omega)).trans zf) (hu.cell z1) (hu.cell z2) (hu.cell z3) (by omega) (by omega) (by omega) hh).mono ?_)).mono ?_
  · rintro _ w2 ⟨sg, rfl, rfl⟩
    exact ⟨_, trivial, rfl, Keeps.set (by show w1.heap.size + 1 + 1 < _; omega), (HR.out w' hu).drew⟩
  rintro _ w3 ⟨pv, w2, b, _, rfl, hf, hr, hb⟩
  have R3 := hide (hr.on hb (by omega) (by omega) (by omega) (by show w1.heap.size < _; omega) (by omega))
  have HF := hide hf
  clear hf hr hb z0 z1 z2 z3 zf zq HR
  have uw3 : Hid (Up w w3) := R3.out.below
  have r0 := R3.out.calls
  have uf := (Up.refl w3).alloc (.cells #[.pointer none] 33)
  have r1 := uf.cell R3.out.how
  clear uf
  go_wp2_with fail
  go_at_call 12
  refine (As_hitF ⟨b, 0, none⟩ ⟨w3.heap.size, 0, none⟩ (.pointer none) _ (HT.out.up (uw3.out.alloc _)) (by go_simp) (by go_simp)).mono ?_
  rintro _ w5 ⟨rfl, w4, hu4, hw5⟩
  have k0 : w5.cell? ⟨w3.heap.size, 0, none⟩ = some (.pointer (some ⟨b, 0, none⟩)) := by
    rw [hw5]
    exact World.cell?_setCell_same _ _ _ (hu4.cell (v := .pointer none) (by go_simp))
  have u35 : Up w3 w5 := by rw [hw5]; exact (((Up.refl _).alloc _).trans hu4).setCell (Nat.le_refl _) _
  replace HF := hide (HF.out.up u35)
  have r1 := u35.cell R3.out.how
  have r3 := u35.cell R3.out.num
  have HMk := hide (u35.cell R3.out.mark)
  obtain ⟨c0, c1, c2⟩ := HF.out
  have u5 : Hid (Up w w5) := uw3.out.trans u35
  clear hw5 hu4 u35 R3 uw3 r0
  have HU : Hid (∀ x, Up w5 x → Calls Tryd.prog 107 #[.pointer (some ⟨b, 0, none⟩)] x fun e w'' => e = .returned (.slice (some ⟨x.heap.size, 0, none⟩) 2 2) ∧ w'' = x.alloc (.cells #[.iface 31 (.int .i64 50), .iface 8 pv] 27)) := fun x hx => unwrap_pan b 0 _ _ _ x (HF.out.up hx) (fun xT w => e_errB _ xT w)
  go_wp2_with fail
  go_at_call 13
  refine (errIs50 b 0 2 #[.iface 31 (.int .i64 50), .iface 8 pv] w5 (by decide) rfl HU.out).mono ?_
  rintro _ w6 ⟨rfl, hu6⟩
  replace k0 := hu6.cell k0
  replace r1 := hu6.cell r1
  replace r3 := hu6.cell r3
  replace HMk := hide (hu6.cell HMk.out)
  replace HF := hide (HF.out.up hu6)
  obtain ⟨c0, c1, c2⟩ := HF.out
  replace u5 := hide (u5.out.trans hu6)
  replace HU := hide (fun x hx => HU.out x (hu6.trans hx))
  clear hu6
  go_wp2_with fail
  go_at_call 14
  refine (wraps_no b 0 w6 (fun x hx => errIs50 b 0 2 #[.iface 31 (.int .i64 50), .iface 8 pv] x (by decide) rfl (fun y hy => HU.out y (hx.trans hy)))).mono ?_
  rintro _ w7 ⟨rfl, hu7⟩
  replace k0 := hu7.cell k0
  replace r1 := hu7.cell r1
  replace r3 := hu7.cell r3
  replace HMk := hide (hu7.cell HMk.out)
  replace HF := hide (HF.out.up hu7)
  obtain ⟨c0, c1, c2⟩ := HF.out
  replace u5 := hide (u5.out.trans hu7)
  replace HU := hide (fun x hx => HU.out x (hu7.trans hx))
  clear hu7
  have qb := e_errB
  go_wp2
  go_ret
  exact ⟨rfl, u5.out⟩

set_option maxRecDepth 20000 in
set_option maxHeartbeats 8000000 in
theorem hookRuns_5 (s0 : ByteArray) (a1 a2 : Int) (w : World) (w0 : s0.size ≤ maxLen) (hT : TabE w) (hh : bits .and .i64 a1 7 = 5) :
    Calls Tryd.prog 3 #[.string s0, .int .i64 a1, .int .i64 a2] w fun e w' => e = .returned (.bool true) ∧ Up w w' := by
  have hmf : ∀ (fn : Fn) (first cap : Array Value) (w : World), (Instr.makeFunc fn first cap).run Tryd.prog w = .ok (.func fn first cap) w := fun _ _ _ _ => rfl
  have HT := hide hT
  go_enter Tryd.func3, Tryd.ntmps3
  go_wp2_with fail
  go_at_call 8
  refine (known_calls _ (hT.up (((Up.refl _).alloc _).alloc _))).mono ?_
  rintro _ w1 ⟨rfl, hu1⟩
  clear hT
  have k1 : w1.cell? ⟨w.heap.size, 0, none⟩ = some (.int .i64 a1) := hu1.cell (by go_simp)
  have k3 : w1.cell? ⟨w.heap.size + 1, 0, none⟩ = some (.int .i64 a2) := hu1.cell (by go_simp)
  have u1 : Hid (Up w w1) := (((Up.refl _).alloc _).alloc _).trans hu1
  have hsz : w.heap.size + 1 < w1.heap.size := by have := hu1.size; simp at this; omega
  clear hu1
  unfold maxLen at w0
  by_cases h0 : (100 : Int) < s0.size
  · have t0 : decide ((100 : Int) < s0.size) = true := decide_eq_true h0
    clear h0
    go_wp2
    go_ret
    exact ⟨rfl, u1.out⟩
  have t0 : decide ((100 : Int) < s0.size) = false := decide_eq_false h0
  have hs0 : s0.size ≤ 281474976710656 := by omega
  clear h0
  have hlt0 : w.heap.size < w1.heap.size := by omega
  go_wp2_with fail
  obtain ⟨W, hW⟩ : ∃ W, W = ((w1.alloc (.cells #[.int .i64 a2] 25)).alloc (.cells #[.pointer (some ⟨w1.heap.size, 0, none⟩)] 23)).alloc (.cells #[.int .i64 0] 3) := ⟨_, rfl⟩
  have uW : Hid (Up w1 W) := by rw [hW]; exact (((Up.refl _).alloc _).alloc _).alloc _
  have z0 : W.cell? ⟨w1.heap.size + 1 + 1, 0, none⟩ = some (.int .i64 0) := by rw [hW]; go_simp
  have zf : W.frozen? ⟨w1.heap.size + 1 + 1, 0, none⟩ = false := by rw [hW]; go_simp
  have z2 : W.cell? ⟨w1.heap.size + 1, 0, none⟩ = some (.pointer (some ⟨w1.heap.size, 0, none⟩)) := by rw [hW]; go_simp
  have zq : W.cell? ⟨w1.heap.size, 0, none⟩ = some (.int .i64 a2) := by rw [hW]; go_simp
  have hWs : W.heap.size = w1.heap.size + 1 + 1 + 1 := by rw [hW]; simp
  have z1 := uW.out.cell k1
  have z3 := uW.out.cell k3
  rw [← hW]
  clear hW k1 k3
  have HR : Hid (∀ w', Up W w' → Ran w (w1.heap.size + 1 + 1) w.heap.size (w.heap.size + 1) ⟨w1.heap.size, 0, none⟩ a1 a2 (w'.setCell ⟨w1.heap.size + 1 + 1, 0, none⟩ (.int .i64 1))) := fun w' hu =>
    Ran.of (u1.out.trans uW.out) hu z0 z1 z3 zq (by omega) (by omega) (by omega) (by omega)
  go_at_call 9
  refine (run_err s0 10 #[.pointer (some ⟨w1.heap.size + 1 + 1, 0, none⟩), .pointer (some ⟨w.heap.size, 0, none⟩), .pointer (some ⟨w1.heap.size + 1, 0, none⟩), .pointer (some ⟨w.heap.size + 1, 0, none⟩)] 31 (.int .i64 70) (Ran w (w1.heap.size + 1 + 1) w.heap.size (w.heap.size + 1) ⟨w1.heap.size, 0, none⟩ a1 a2) W hs0 (HT.out.up (u1.out.trans uW.out)) (fun x hx => HT.out.up hx.below) (runs1_enter _) (fun w' hu => (runs1_5 (w1.heap.size + 1 + 1) w.heap.size (w1.heap.size + 1) (w.heap.size + 1) a1 a2 ⟨w1.heap.size, 0, none⟩ w' (hu.cell z0) ((hu.frozen (p := ⟨w1.heap.size + 1 + 1, 0, none⟩) (by show w1.heap.size + 1 + 1 < _; omega)).trans zf) (hu.cell z1) (hu.cell z2) (hu.cell z3) (by omega) (by omega) (by omega) hh).mono ?_)).mono ?_
  · rintro _ w2 ⟨rfl, rfl⟩
    exact ⟨rfl, Keeps.set (by show w1.heap.size + 1 + 1 < _; omega), HR.out w' hu⟩
  rintro _ w3 ⟨w2, b, rfl, hf, hr, hb⟩
  have R3 := hide (hr.on hb (by omega) (by omega) (by omega) (by show w1.heap.size < _; omega) (by omega))
  have HF := hide hf
  clear hf hr hb z0 z1 z2 z3 zf zq HR
  have uw3 : Hid (Up w w3) := R3.out.below
  have r0 := R3.out.calls
  have uf := (Up.refl w3).alloc (.cells #[.pointer none] 33)
  have r1 := uf.cell R3.out.how
  clear uf
  go_wp2_with fail
  go_at_call 12
  refine (As_hitF ⟨b, 0, none⟩ ⟨w3.heap.size, 0, none⟩ (.pointer none) _ (HT.out.up (uw3.out.alloc _)) (by go_simp) (by go_simp)).mono ?_
  rintro _ w5 ⟨rfl, w4, hu4, hw5⟩
  have k0 : w5.cell? ⟨w3.heap.size, 0, none⟩ = some (.pointer (some ⟨b, 0, none⟩)) := by
    rw [hw5]
    exact World.cell?_setCell_same _ _ _ (hu4.cell (v := .pointer none) (by go_simp))
  have u35 : Up w3 w5 := by rw [hw5]; exact (((Up.refl _).alloc _).trans hu4).setCell (Nat.le_refl _) _
  replace HF := hide (HF.out.up u35)
  have r1 := u35.cell R3.out.how
  have r3 := u35.cell R3.out.num
  have HMk := hide (u35.cell R3.out.mark)
  obtain ⟨c0, c1, c2⟩ := HF.out
  have u5 : Hid (Up w w5) := uw3.out.trans u35
  clear hw5 hu4 u35 R3 uw3 r0
  have HU : Hid (∀ x, Up w5 x → Calls Tryd.prog 107 #[.pointer (some ⟨b, 0, none⟩)] x fun e w'' => e = .returned (.slice (some ⟨x.heap.size, 0, none⟩) 2 2) ∧ w'' = x.alloc (.cells #[.iface 31 (.int .i64 50), .iface 31 (.int .i64 70)] 27)) := fun x hx => unwrap_err b 0 _ _ _ _ x (HF.out.up hx)
  go_wp2_with fail
  go_at_call 13
  refine (errIs50 b 0 2 #[.iface 31 (.int .i64 50), .iface 31 (.int .i64 70)] w5 (by decide) rfl HU.out).mono ?_
  rintro _ w6 ⟨rfl, hu6⟩
  replace k0 := hu6.cell k0
  replace r1 := hu6.cell r1
  replace r3 := hu6.cell r3
  replace HMk := hide (hu6.cell HMk.out)
  replace HF := hide (HF.out.up hu6)
  obtain ⟨c0, c1, c2⟩ := HF.out
  replace u5 := hide (u5.out.trans hu6)
  replace HU := hide (fun x hx => HU.out x (hu6.trans hx))
  clear hu6
  go_wp2_with fail
  go_at_call 14
  refine (wraps_no b 0 w6 (fun x hx => errIs50 b 0 2 #[.iface 31 (.int .i64 50), .iface 31 (.int .i64 70)] x (by decide) rfl (fun y hy => HU.out y (hx.trans hy)))).mono ?_
  rintro _ w7 ⟨rfl, hu7⟩
  replace k0 := hu7.cell k0
  replace r1 := hu7.cell r1
  replace r3 := hu7.cell r3
  replace HMk := hide (hu7.cell HMk.out)
  replace HF := hide (HF.out.up hu7)
  obtain ⟨c0, c1, c2⟩ := HF.out
  replace u5 := hide (u5.out.trans hu7)
  replace HU := hide (fun x hx => HU.out x (hu7.trans hx))
  clear hu7
  go_wp2_with fail
  go_at_call 13
  refine (errIs_num b 0 70 w7 (fun x hx => is_fault2 b 0 70 x rfl (HU.out x hx))).mono ?_
  rintro _ w8 ⟨rfl, hu8⟩
  replace k0 := hu8.cell k0
  replace c2 := hu8.cell c2
  replace u5 := hide (u5.out.trans hu8)
  clear hu8 HF HU
  go_wp2
  go_ret
  exact ⟨rfl, u5.out⟩

set_option maxRecDepth 20000 in
set_option maxHeartbeats 8000000 in
theorem hookRuns_6 (s0 : ByteArray) (a1 a2 : Int) (w : World) (w0 : s0.size ≤ maxLen) (hT : TabE w) (hh : bits .and .i64 a1 7 = 6) :
    Calls Tryd.prog 3 #[.string s0, .int .i64 a1, .int .i64 a2] w fun e w' => e = .returned (.bool true) ∧ Up w w' := by
  have hmf : ∀ (fn : Fn) (first cap : Array Value) (w : World), (Instr.makeFunc fn first cap).run Tryd.prog w = .ok (.func fn first cap) w := fun _ _ _ _ => rfl
  have HT := hide hT
  go_enter Tryd.func3, Tryd.ntmps3
  go_wp2_with fail
  go_at_call 8
  refine (known_calls _ (hT.up (((Up.refl _).alloc _).alloc _))).mono ?_
  rintro _ w1 ⟨rfl, hu1⟩
  clear hT
  have k1 : w1.cell? ⟨w.heap.size, 0, none⟩ = some (.int .i64 a1) := hu1.cell (by go_simp)
  have k3 : w1.cell? ⟨w.heap.size + 1, 0, none⟩ = some (.int .i64 a2) := hu1.cell (by go_simp)
  have u1 : Hid (Up w w1) := (((Up.refl _).alloc _).alloc _).trans hu1
  have hsz : w.heap.size + 1 < w1.heap.size := by have := hu1.size; simp at this; omega
  clear hu1
  unfold maxLen at w0
  by_cases h0 : (100 : Int) < s0.size
  · have t0 : decide ((100 : Int) < s0.size) = true := decide_eq_true h0
    clear h0
    go_wp2
    go_ret
    exact ⟨rfl, u1.out⟩
  have t0 : decide ((100 : Int) < s0.size) = false := decide_eq_false h0
  have hs0 : s0.size ≤ 281474976710656 := by omega
  clear h0
  have hlt0 : w.heap.size < w1.heap.size := by omega
  go_wp2_with fail
  obtain ⟨W, hW⟩ : ∃ W, W = ((w1.alloc (.cells #[.int .i64 a2] 25)).alloc (.cells #[.pointer (some ⟨w1.heap.size, 0, none⟩)] 23)).alloc (.cells #[.int .i64 0] 3) := ⟨_, rfl⟩
  have uW : Hid (Up w1 W) := by rw [hW]; exact (((Up.refl _).alloc _).alloc _).alloc _
  have z0 : W.cell? ⟨w1.heap.size + 1 + 1, 0, none⟩ = some (.int .i64 0) := by rw [hW]; go_simp
  have zf : W.frozen? ⟨w1.heap.size + 1 + 1, 0, none⟩ = false := by rw [hW]; go_simp
  have z2 : W.cell? ⟨w1.heap.size + 1, 0, none⟩ = some (.pointer (some ⟨w1.heap.size, 0, none⟩)) := by rw [hW]; go_simp
  have zq : W.cell? ⟨w1.heap.size, 0, none⟩ = some (.int .i64 a2) := by rw [hW]; go_simp
  have hWs : W.heap.size = w1.heap.size + 1 + 1 + 1 := by rw [hW]; simp
  have z1 := uW.out.cell k1
  have z3 := uW.out.cell k3
  rw [← hW]
  clear hW k1 k3
  have HR : Hid (∀ w', Up W w' → Ran w (w1.heap.size + 1 + 1) w.heap.size (w.heap.size + 1) ⟨w1.heap.size, 0, none⟩ a1 a2 (w'.setCell ⟨w1.heap.size + 1 + 1, 0, none⟩ (.int .i64 1))) := fun w' hu =>
    Ran.of (u1.out.trans uW.out) hu z0 z1 z3 zq (by omega) (by omega) (by omega) (by omega)
  go_at_call 9
  refine (run_panics s0 10 #[.pointer (some ⟨w1.heap.size + 1 + 1, 0, none⟩), .pointer (some ⟨w.heap.size, 0, none⟩), .pointer (some ⟨w1.heap.size + 1, 0, none⟩), .pointer (some ⟨w.heap.size + 1, 0, none⟩)] 9 (.string ⟨#[116, 101, 120, 116]⟩) (Ran w (w1.heap.size + 1 + 1) w.heap.size (w.heap.size + 1) ⟨w1.heap.size, 0, none⟩ a1 a2) W hs0 (HT.out.up (u1.out.trans uW.out)) (fun x hx => HT.out.up hx.below) (by decide) (runs1_enter _) (fun w' hu => (runs1_6 (w1.heap.size + 1 + 1) w.heap.size (w1.heap.size + 1) (w.heap.size + 1) a1 a2 ⟨w1.heap.size, 0, none⟩ w' (hu.cell z0) ((hu.frozen (p := ⟨w1.heap.size + 1 + 1, 0, none⟩) (by show w1.heap.size + 1 + 1 < _; omega)).trans zf) (hu.cell z1) (hu.cell z2) (hu.cell z3) (by omega) (by omega) (by omega) hh).mono ?_)).mono ?_
  · rintro _ w2 ⟨rfl, rfl⟩
    exact ⟨rfl, Keeps.set (by show w1.heap.size + 1 + 1 < _; omega), HR.out w' hu⟩
  rintro _ w3 ⟨w2, b, rfl, hf, hr, hb⟩
  have R3 := hide (hr.on hb (by omega) (by omega) (by omega) (by show w1.heap.size < _; omega) (by omega))
  have HF := hide hf
  clear hf hr hb z0 z1 z2 z3 zf zq HR
  have uw3 : Hid (Up w w3) := R3.out.below
  have r0 := R3.out.calls
  have uf := (Up.refl w3).alloc (.cells #[.pointer none] 33)
  have r1 := uf.cell R3.out.how
  clear uf
  go_wp2_with fail
  go_at_call 12
  refine (As_hitF ⟨b, 0, none⟩ ⟨w3.heap.size, 0, none⟩ (.pointer none) _ (HT.out.up (uw3.out.alloc _)) (by go_simp) (by go_simp)).mono ?_
  rintro _ w5 ⟨rfl, w4, hu4, hw5⟩
  have k0 : w5.cell? ⟨w3.heap.size, 0, none⟩ = some (.pointer (some ⟨b, 0, none⟩)) := by
    rw [hw5]
    exact World.cell?_setCell_same _ _ _ (hu4.cell (v := .pointer none) (by go_simp))
  have u35 : Up w3 w5 := by rw [hw5]; exact (((Up.refl _).alloc _).trans hu4).setCell (Nat.le_refl _) _
  replace HF := hide (HF.out.up u35)
  have r1 := u35.cell R3.out.how
  have r3 := u35.cell R3.out.num
  have HMk := hide (u35.cell R3.out.mark)
  obtain ⟨c0, c1, c2⟩ := HF.out
  have u5 : Hid (Up w w5) := uw3.out.trans u35
  clear hw5 hu4 u35 R3 uw3 r0
  have HU : Hid (∀ x, Up w5 x → Calls Tryd.prog 107 #[.pointer (some ⟨b, 0, none⟩)] x fun e w'' => e = .returned (.slice (some ⟨x.heap.size, 0, none⟩) 1 1) ∧ w'' = x.alloc (.cells #[.iface 31 (.int .i64 50)] 27)) := fun x hx => unwrap_one b 0 _ _ _ x (HF.out.up hx) (fun xT w => e_errS _ xT w)
  go_wp2_with fail
  go_at_call 13
  refine (errIs50 b 0 1 #[.iface 31 (.int .i64 50)] w5 (by decide) rfl HU.out).mono ?_
  rintro _ w6 ⟨rfl, hu6⟩
  replace k0 := hu6.cell k0
  replace r1 := hu6.cell r1
  replace r3 := hu6.cell r3
  replace HMk := hide (hu6.cell HMk.out)
  replace HF := hide (HF.out.up hu6)
  obtain ⟨c0, c1, c2⟩ := HF.out
  replace u5 := hide (u5.out.trans hu6)
  replace HU := hide (fun x hx => HU.out x (hu6.trans hx))
  clear hu6
  go_wp2_with fail
  go_at_call 14
  refine (wraps_no b 0 w6 (fun x hx => errIs50 b 0 1 #[.iface 31 (.int .i64 50)] x (by decide) rfl (fun y hy => HU.out y (hx.trans hy)))).mono ?_
  rintro _ w7 ⟨rfl, hu7⟩
  replace k0 := hu7.cell k0
  replace r1 := hu7.cell r1
  replace r3 := hu7.cell r3
  replace HMk := hide (hu7.cell HMk.out)
  replace HF := hide (HF.out.up hu7)
  obtain ⟨c0, c1, c2⟩ := HF.out
  replace u5 := hide (u5.out.trans hu7)
  replace HU := hide (fun x hx => HU.out x (hu7.trans hx))
  clear hu7
  have qs := e_strS
  go_wp2
  go_ret
  exact ⟨rfl, u5.out⟩

theorem hookRuns_all (s0 : ByteArray) (a1 a2 : Int) (w : World) (w0 : s0.size ≤ maxLen) (hT : TabE w) :
    Calls Tryd.prog 3 #[.string s0, .int .i64 a1, .int .i64 a2] w fun e w' => e = .returned (.bool true) ∧ Up w w' := by
  obtain ⟨k, hk, hh⟩ := and_7 a1
  match k, hk with
  | 0, _ => exact hookRuns_0 s0 a1 a2 w w0 hT hh
  | 1, _ => exact hookRuns_1 s0 a1 a2 w w0 hT hh
  | 2, _ => exact hookRuns_2 s0 a1 a2 w w0 hT hh
  | 3, _ => exact hookRuns_3 s0 a1 a2 w w0 hT hh
  | 4, _ => exact hookRuns_4 s0 a1 a2 w w0 hT hh
  | 5, _ => exact hookRuns_5 s0 a1 a2 w w0 hT hh
  | 6, _ => exact hookRuns_6 s0 a1 a2 w w0 hT hh
  | 7, _ => exact hookRuns_7 s0 a1 a2 w w0 hT hh

end Go.Proofs.YtmlfkjmondkfnaaDoor

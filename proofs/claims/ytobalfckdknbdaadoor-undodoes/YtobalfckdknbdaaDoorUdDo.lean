/-
  What Do of a log answers: f by its own contract, Back by its own.
-/
import Derived.Test.YtobalfckdknbdaaDoorUdLog
import Derived.Defers
import Derived.Recover
namespace Go.Proofs.YtobalfckdknbdaaDoor
open Go.RowKit
set_option linter.unusedVariables false
set_option maxRecDepth 20000
attribute [local go_sem ↓] Go.wp_at_zero Go.wp_at_succ

/-- The deferred closure where all went well: done. -/
theorem do_idle (a b c d : Addr) (w : World) (h0 : w.cell? a = some (.bool true)) :
    CallsD Tryd.prog 22 #[.pointer (some a), .pointer (some b), .pointer (some c), .pointer (some d)] .returning w fun e u' w' => e = .returned (.tuple #[]) ∧ u' = .returning ∧ w' = w := by
  refine callsD_of_wpS Tryd.func22 rfl fun c₀ cs hu => ?_
  refine wpS_of_wp ?_
  simp [Tryd.ntmps22]
  go_wp2
  cases c₀
  simp_all [bodyPostS, results, Tryd.results22]

/-- The deferred closure where f panicked: Back, and the panic goes on. -/
theorem do_goes (T m : Nat) (a b c d : Addr) (es : List PanicEntry) (Q : World → Prop) (w : World) (h0 : w.cell? a = some (.bool false)) (h1 : w.cell? b = some (.pointer (some ⟨T, 0, none⟩))) (h2 : w.cell? c = some (.int .i64 m))
    (hB : Calls Tryd.prog 16 #[.pointer (some ⟨T, 0, none⟩), .int .i64 m] w fun e y => (∃ v, e = .returned (.bool v)) ∧ Q y ∧ y.cell? d = some .nilIface) :
    CallsD Tryd.prog 22 #[.pointer (some a), .pointer (some b), .pointer (some c), .pointer (some d)] (.panicking es) w fun e u' w' => e = .returned (.tuple #[]) ∧ u' = .panicking es ∧ Q w' := by
  have HB := hide hB
  clear hB
  refine callsD_of_wpS Tryd.func22 rfl fun c₀ cs hu => ?_
  refine wpS_of_wp ?_
  rw [show (#[.pointer (some a), .pointer (some b), .pointer (some c), .pointer (some d)] ++ Array.replicate (Tryd.f22.ntmps - #[Value.pointer (some a), .pointer (some b), .pointer (some c), .pointer (some d)].size) undef : Array Value) = #[.pointer (some a), .pointer (some b), .pointer (some c), .pointer (some d), undef, undef, undef, undef, undef, undef, undef] from rfl]
  go_wp2_with fail
  go_at_call 16
  refine HB.out.mono ?_
  rintro _ y ⟨⟨v, rfl⟩, hQ, hd⟩
  have HQ := hide hQ
  clear hQ HB h0 h1 h2
  dsimp only
  go_wp2
  refine ⟨rfl, .panicking es, ?_, .tuple #[], ?_, rfl, rfl, HQ.out⟩
  · cases c₀; subst hu; rfl
  · simp [results, Tryd.results22]

/-- The deferred closure where Do panicked by f's own error: Back, and the panic ends here. -/
theorem do_ends (T m : Nat) (a b c d : Addr) (et u : TypeId) (ev pv : Value) (Q : World → Prop) (w : World) (h0 : w.cell? a = some (.bool false)) (h1 : w.cell? b = some (.pointer (some ⟨T, 0, none⟩))) (h2 : w.cell? c = some (.int .i64 m))
    (hB : Calls Tryd.prog 16 #[.pointer (some ⟨T, 0, none⟩), .int .i64 m] w fun e y => (∃ v, e = .returned (.bool v)) ∧ Q y ∧ y.cell? d = some (.iface et ev)) :
    CallsD Tryd.prog 22 #[.pointer (some a), .pointer (some b), .pointer (some c), .pointer (some d)] (.panicking [{ v := .iface u pv, recovered := false }]) w fun e u' w' => e = .returned (.tuple #[]) ∧ u' = .panicking [{ v := .iface u pv, recovered := true }] ∧ Q w' ∧ w'.cell? d = some (.iface et ev) := by
  have HB := hide hB
  clear hB
  refine callsD_of_wpS Tryd.func22 rfl fun c₀ cs hu => ?_
  rw [show (#[.pointer (some a), .pointer (some b), .pointer (some c), .pointer (some d)] ++ Array.replicate (Tryd.f22.ntmps - #[Value.pointer (some a), .pointer (some b), .pointer (some c), .pointer (some d)].size) undef : Array Value) = #[.pointer (some a), .pointer (some b), .pointer (some c), .pointer (some d), undef, undef, undef, undef, undef, undef, undef] from rfl]
  apply wpS_seq
  refine wpS_of_wp ?_
  go_wp2
  simp only [Exit.thenS]
  apply wpS_seq
  refine wpS_of_wp ?_
  go_wp2_with fail
  go_at_call 16
  refine HB.out.mono ?_
  rintro _ y ⟨⟨v, rfl⟩, hQ, hd⟩
  have HQ := hide hQ
  clear hQ HB h0 h1 h2
  dsimp only
  go_wp2
  simp only [Exit.thenS]
  apply wpS_seq
  refine wpS_of_wp ?_
  go_wp2
  simp only [Exit.thenS]
  refine wpS_cond (t := true) rfl ?_
  simp only [if_true]
  apply wpS_region
  simp [wpOpsS, go_sem, recoverD, hu, bodyPostS, results, Tryd.results22, hd]
  exact HQ.out

/-- Do's own four variables: the log, its error, the mark, whether all went well. -/
structure DoIn (n T : Nat) (m : Nat) (x : World) : Prop where
  l : x.cell? ⟨n, 0, none⟩ = some (.pointer (some ⟨T, 0, none⟩))
  err : x.cell? ⟨n + 1, 0, none⟩ = some .nilIface
  mark : x.cell? ⟨n + 1 + 1, 0, none⟩ = some (.int .i64 m)
  well : x.cell? ⟨n + 1 + 1 + 1, 0, none⟩ = some (.bool false)
  f1 : x.frozen? ⟨n + 1, 0, none⟩ = false
  f3 : x.frozen? ⟨n + 1 + 1 + 1, 0, none⟩ = false
theorem DoIn.chg {n T m : Nat} {x y : World} {C : Nat → Prop} (h : DoIn n T m x) (hc : Chg C x y) (hC : ∀ z, C z → ¬ Mid n (n + 4) z) : DoIn n T m y := by
  have o : ∀ k, n ≤ k → k < n + 4 → ¬ C k := fun k h1 h2 h3 => hC k h3 ⟨h1, h2⟩
  have b1 : n + 1 < x.heap.size := World.block_lt_of_cell? x ⟨n + 1, 0, none⟩ h.err
  have b3 : n + 1 + 1 + 1 < x.heap.size := World.block_lt_of_cell? x ⟨n + 1 + 1 + 1, 0, none⟩ h.well
  have o0 : ¬ C n := o _ (by omega) (by omega)
  have o1 : ¬ C (n + 1) := o _ (by omega) (by omega)
  have o2 : ¬ C (n + 1 + 1) := o _ (by omega) (by omega)
  have o3 : ¬ C (n + 1 + 1 + 1) := o _ (by omega) (by omega)
  exact ⟨hc.cell (p := ⟨n, 0, none⟩) h.l o0, hc.cell (p := ⟨n + 1, 0, none⟩) h.err o1, hc.cell (p := ⟨n + 1 + 1, 0, none⟩) h.mark o2, hc.cell (p := ⟨n + 1 + 1 + 1, 0, none⟩) h.well o3,
    (hc.frozen (p := ⟨n + 1, 0, none⟩) b1 o1).trans h.f1, (hc.frozen (p := ⟨n + 1 + 1 + 1, 0, none⟩) b3 o3).trans h.f3⟩

theorem na {i j : Nat} (h : i ≠ j) : (⟨i, 0, none⟩ : Addr) ≠ ⟨j, 0, none⟩ := fun e => h (congrArg Addr.block e)

theorem do_start (n T m : Nat) (w wm : World) (t u : TypeId) (hn : wm.heap.size = n + 1 + 1) (hw : w.heap.size = n) (hu : Up w wm) (k0 : wm.cell? ⟨n, 0, none⟩ = some (.pointer (some ⟨T, 0, none⟩))) (k1 : wm.cell? ⟨n + 1, 0, none⟩ = some .nilIface) (k2 : wm.frozen? ⟨n + 1, 0, none⟩ = false) :
    Up w ((wm.alloc (.cells #[.int .i64 m] t)).alloc (.cells #[.bool false] u)) ∧ ((wm.alloc (.cells #[.int .i64 m] t)).alloc (.cells #[.bool false] u)).heap.size = w.heap.size + 4 ∧ DoIn n T m ((wm.alloc (.cells #[.int .i64 m] t)).alloc (.cells #[.bool false] u)) := by
  have h2 : Up wm ((wm.alloc (.cells #[.int .i64 m] t)).alloc (.cells #[.bool false] u)) := ((Up.refl _).alloc _).alloc _
  have b1 : n + 1 < wm.heap.size := World.block_lt_of_cell? wm ⟨n + 1, 0, none⟩ k1
  refine ⟨hu.trans h2, by simp; omega, h2.cell k0, h2.cell k1, ?_, ?_, (h2.frozen (p := ⟨n + 1, 0, none⟩) b1).trans k2, ?_⟩
  · rw [← hn]; go_simp
  · rw [← hn]; go_simp
  · rw [← hn]; simp

set_option maxHeartbeats 4000000 in
/-- Do, where f tells nil: what f left (R) stands, Do's own variables aside. -/
theorem do_ok (T : Nat) (l : List Bk) (G : FuncId) (cap : Array Value) (C : Nat → Prop) (R : World → Prop) (w : World) (hl : LogAt T l w)
    (hE : ∀ w', (callFunc G cap).run Tryd.prog w' = .ok (.enter G cap) w')
    (hG : ∀ x, Up w x → x.heap.size = w.heap.size + 4 → Calls Tryd.prog G cap x fun e x' => e = .returned .nilIface ∧ Chg C x x' ∧ R x')
    (hC : ∀ y, C y → ¬ Mid w.heap.size (w.heap.size + 4) y)
    (hR : ∀ x y, R x → Chg (Mid w.heap.size (w.heap.size + 4)) x y → R y) :
    Calls Tryd.prog 18 #[.pointer (some ⟨T, 0, none⟩), .func (.func G) #[] cap] w fun e w' => e = .returned .nilIface ∧ R w' := by
  have hmf : ∀ (fn : Fn) (first cap : Array Value) (w : World), (Instr.makeFunc fn first cap).run Tryd.prog w = .ok (.func fn first cap) w := fun _ _ _ _ => rfl
  have HG := hide hG
  have HL := hide hl
  have HC := hide hC
  have HR := hide hR
  clear hG hl hC hR
  go_enter_defers Tryd.func18, Tryd.ntmps18
  go_wp2_with fail
  have hu0 : Up w ((w.alloc (.cells #[.pointer (some ⟨T, 0, none⟩)] 23)).alloc (.cells #[.nilIface] 28)) := ((Up.refl _).alloc _).alloc _
  have hz : ((w.alloc (.cells #[.pointer (some ⟨T, 0, none⟩)] 23)).alloc (.cells #[.nilIface] 28)).heap.size = w.heap.size + 1 + 1 := by simp
  go_at_call 15
  refine (udMark_calls T l _ (HL.out.up hu0)).mono ?_
  rintro _ wm ⟨rfl, hwm⟩
  have k0 : wm.cell? ⟨w.heap.size, 0, none⟩ = some (.pointer (some ⟨T, 0, none⟩)) := by rw [hwm]; go_simp
  have k1 : wm.cell? ⟨w.heap.size + 1, 0, none⟩ = some .nilIface := by rw [hwm]; go_simp
  have k2 : wm.frozen? ⟨w.heap.size + 1, 0, none⟩ = false := by rw [hwm]; simp
  have k3 : wm.heap.size = w.heap.size + 1 + 1 := by rw [hwm]; exact hz
  rw [← hwm] at hu0
  clear hwm hz
  dsimp only
  go_wp2_with fail
  obtain ⟨a1, a2, a3⟩ := do_start w.heap.size T l.length w wm 3 4 k3 rfl hu0 k0 k1 k2
  refine (HG.out _ a1 a2).mono ?_
  rintro _ x' ⟨rfl, hc, hRx⟩
  have hD := a3.chg hc HC.out
  have d1 := hD.err
  have d3 := hD.well
  have f1 := hD.f1
  have f3 := hD.f3
  have HD := hide hD
  have HX := hide hRx
  clear hD hRx a1 a2 a3 k0 k1 k2 k3 hu0 hc HG HL
  dsimp only
  go_wp2
  have hch : Chg (Mid w.heap.size (w.heap.size + 4)) x' (((x'.setCell ⟨w.heap.size + 1, 0, none⟩ .nilIface).setCell ⟨w.heap.size + 1 + 1 + 1, 0, none⟩ (.bool true)).setCell ⟨w.heap.size + 1, 0, none⟩ .nilIface) :=
    (((Chg.refl _ _).set (fun _ => ⟨by show w.heap.size ≤ w.heap.size + 1; omega, by show w.heap.size + 1 < w.heap.size + 4; omega⟩) _).set (fun _ => ⟨by show w.heap.size ≤ w.heap.size + 1 + 1 + 1; omega, by show w.heap.size + 1 + 1 + 1 < w.heap.size + 4; omega⟩) _).set (fun _ => ⟨by show w.heap.size ≤ w.heap.size + 1; omega, by show w.heap.size + 1 < w.heap.size + 4; omega⟩) _
  have e1 : ((x'.setCell ⟨w.heap.size + 1, 0, none⟩ .nilIface).setCell ⟨w.heap.size + 1 + 1 + 1, 0, none⟩ (.bool true)).cell? ⟨w.heap.size + 1, 0, none⟩ = some .nilIface :=
    (World.cell?_setCell_other _ _ _ _ (na (by omega))).trans (World.cell?_setCell_same _ _ _ d1)
  have e2 : ((x'.setCell ⟨w.heap.size + 1, 0, none⟩ .nilIface).setCell ⟨w.heap.size + 1 + 1 + 1, 0, none⟩ (.bool true)).cell? ⟨w.heap.size + 1 + 1 + 1, 0, none⟩ = some (.bool true) :=
    World.cell?_setCell_same _ _ _ ((World.cell?_setCell_other _ _ _ _ (na (by omega))).trans d3)
  have e3 : (((x'.setCell ⟨w.heap.size + 1, 0, none⟩ .nilIface).setCell ⟨w.heap.size + 1 + 1 + 1, 0, none⟩ (.bool true)).setCell ⟨w.heap.size + 1, 0, none⟩ .nilIface).cell? ⟨w.heap.size + 1 + 1 + 1, 0, none⟩ = some (.bool true) :=
    (World.cell?_setCell_other _ _ _ _ (na (by omega))).trans e2
  have e4 : (((x'.setCell ⟨w.heap.size + 1, 0, none⟩ .nilIface).setCell ⟨w.heap.size + 1 + 1 + 1, 0, none⟩ (.bool true)).setCell ⟨w.heap.size + 1, 0, none⟩ .nilIface).cell? ⟨w.heap.size + 1, 0, none⟩ = some .nilIface := World.cell?_setCell_same _ _ _ e1
  have hRy := HR.out _ _ HX.out hch
  clear hch e1 e2 HX HD d1 d3 f1 f3
  refine leaves_cons (f := 22) (args := #[.pointer (some ⟨w.heap.size + 1 + 1 + 1, 0, none⟩), .pointer (some ⟨w.heap.size, 0, none⟩), .pointer (some ⟨w.heap.size + 1 + 1, 0, none⟩), .pointer (some ⟨w.heap.size + 1, 0, none⟩)]) (by simp) (by simp [go_sem]) ?_
  refine (do_idle _ _ _ _ _ e3).mono ?_
  rintro e u' w'' ⟨rfl, rfl, rfl⟩
  simp [Leaves, settle, results, Tryd.results18, go_sem, e4]
  exact hRy

set_option maxHeartbeats 4000000 in
/-- Do, where f tells an error: Back to the mark, and the error comes out. -/
theorem do_err (T : Nat) (l : List Bk) (G : FuncId) (cap : Array Value) (et : TypeId) (ev : Value) (C D : Nat → Prop) (R Q : World → Prop) (w : World) (hl : LogAt T l w)
    (hE : ∀ w', (callFunc G cap).run Tryd.prog w' = .ok (.enter G cap) w')
    (hG : ∀ x, Up w x → x.heap.size = w.heap.size + 4 → Calls Tryd.prog G cap x fun e x' => e = .returned (.iface et ev) ∧ Chg C x x' ∧ R x')
    (hC : ∀ y, C y → ¬ Mid w.heap.size (w.heap.size + 4) y)
    (hR : ∀ x y, R x → Chg (Mid w.heap.size (w.heap.size + 4)) x y → R y)
    (hD : ∀ y, D y → ¬ Mid w.heap.size (w.heap.size + 4) y)
    (hB : ∀ y, R y → Calls Tryd.prog 16 #[.pointer (some ⟨T, 0, none⟩), .int .i64 l.length] y fun e y' => e = .returned (.bool true) ∧ Chg D y y' ∧ Q y') :
    Calls Tryd.prog 18 #[.pointer (some ⟨T, 0, none⟩), .func (.func G) #[] cap] w fun e w' => e = .returned (.iface et ev) ∧ Q w' := by
  have hmf : ∀ (fn : Fn) (first cap : Array Value) (w : World), (Instr.makeFunc fn first cap).run Tryd.prog w = .ok (.func fn first cap) w := fun _ _ _ _ => rfl
  have HG := hide hG
  have HL := hide hl
  have HC := hide hC
  have HR := hide hR
  have HDD := hide hD
  have HB := hide hB
  clear hG hl hC hR hD hB
  go_enter_defers Tryd.func18, Tryd.ntmps18
  go_wp2_with fail
  have hu0 : Up w ((w.alloc (.cells #[.pointer (some ⟨T, 0, none⟩)] 23)).alloc (.cells #[.nilIface] 28)) := ((Up.refl _).alloc _).alloc _
  have hz : ((w.alloc (.cells #[.pointer (some ⟨T, 0, none⟩)] 23)).alloc (.cells #[.nilIface] 28)).heap.size = w.heap.size + 1 + 1 := by simp
  go_at_call 15
  refine (udMark_calls T l _ (HL.out.up hu0)).mono ?_
  rintro _ wm ⟨rfl, hwm⟩
  have k0 : wm.cell? ⟨w.heap.size, 0, none⟩ = some (.pointer (some ⟨T, 0, none⟩)) := by rw [hwm]; go_simp
  have k1 : wm.cell? ⟨w.heap.size + 1, 0, none⟩ = some .nilIface := by rw [hwm]; go_simp
  have k2 : wm.frozen? ⟨w.heap.size + 1, 0, none⟩ = false := by rw [hwm]; simp
  have k3 : wm.heap.size = w.heap.size + 1 + 1 := by rw [hwm]; exact hz
  rw [← hwm] at hu0
  clear hwm hz
  dsimp only
  go_wp2_with fail
  obtain ⟨a1, a2, a3⟩ := do_start w.heap.size T l.length w wm 3 4 k3 rfl hu0 k0 k1 k2
  refine (HG.out _ a1 a2).mono ?_
  rintro _ x' ⟨rfl, hc, hRx⟩
  have hD := a3.chg hc HC.out
  have d1 := hD.err
  have f1 := hD.f1
  have HD := hide hD
  have HX := hide hRx
  clear hD hRx a1 a2 a3 k0 k1 k2 k3 hu0 hc HG HL
  dsimp only
  go_wp2
  have hch : Chg (Mid w.heap.size (w.heap.size + 4)) x' (x'.setCell ⟨w.heap.size + 1, 0, none⟩ (.iface et ev)) :=
    (Chg.refl _ _).set (fun _ => ⟨by show w.heap.size ≤ w.heap.size + 1; omega, by show w.heap.size + 1 < w.heap.size + 4; omega⟩) _
  have hRy := HR.out _ _ HX.out hch
  have e1 : (x'.setCell ⟨w.heap.size + 1, 0, none⟩ (.iface et ev)).cell? ⟨w.heap.size + 1, 0, none⟩ = some (.iface et ev) := World.cell?_setCell_same _ _ _ d1
  have e0 : (x'.setCell ⟨w.heap.size + 1, 0, none⟩ (.iface et ev)).cell? ⟨w.heap.size, 0, none⟩ = some (.pointer (some ⟨T, 0, none⟩)) := (World.cell?_setCell_other _ _ _ _ (na (by omega))).trans HD.out.l
  have e2 : (x'.setCell ⟨w.heap.size + 1, 0, none⟩ (.iface et ev)).cell? ⟨w.heap.size + 1 + 1, 0, none⟩ = some (.int .i64 l.length) := (World.cell?_setCell_other _ _ _ _ (na (by omega))).trans HD.out.mark
  have e3 : (x'.setCell ⟨w.heap.size + 1, 0, none⟩ (.iface et ev)).cell? ⟨w.heap.size + 1 + 1 + 1, 0, none⟩ = some (.bool false) := (World.cell?_setCell_other _ _ _ _ (na (by omega))).trans HD.out.well
  have n1 : ¬ D (w.heap.size + 1) := fun h => HDD.out _ h ⟨by omega, by omega⟩
  have HB2 : Calls Tryd.prog 16 #[.pointer (some ⟨T, 0, none⟩), .int .i64 l.length] (x'.setCell ⟨w.heap.size + 1, 0, none⟩ (.iface et ev)) fun e y => (∃ v, e = .returned (.bool v)) ∧ Q y ∧ y.cell? ⟨w.heap.size + 1, 0, none⟩ = some (.iface et ev) := by
    refine (HB.out _ hRy).mono ?_
    rintro _ y' ⟨rfl, hc, hQ⟩
    exact ⟨⟨_, rfl⟩, hQ, hc.cell (p := ⟨w.heap.size + 1, 0, none⟩) e1 n1⟩
  clear hch HX HD d1 f1
  refine leaves_cons (f := 22) (args := #[.pointer (some ⟨w.heap.size + 1 + 1 + 1, 0, none⟩), .pointer (some ⟨w.heap.size, 0, none⟩), .pointer (some ⟨w.heap.size + 1 + 1, 0, none⟩), .pointer (some ⟨w.heap.size + 1, 0, none⟩)]) (by simp) (by simp [go_sem]) ?_
  refine (do_ends T l.length _ _ _ _ et et ev ev Q _ e3 e0 e2 HB2).mono ?_
  rintro e u' w'' ⟨rfl, rfl, hQ, h4⟩
  simp [Leaves, settle, results, Tryd.results18, go_sem, h4]
  exact hQ

set_option maxHeartbeats 4000000 in
/-- Do, where f panics: Back to the mark, and the panic comes out. -/
theorem do_pan (T : Nat) (l : List Bk) (G : FuncId) (cap : Array Value) (es : List PanicEntry) (C D : Nat → Prop) (R Q : World → Prop) (w : World) (hl : LogAt T l w)
    (hE : ∀ w', (callFunc G cap).run Tryd.prog w' = .ok (.enter G cap) w')
    (hG : ∀ x, Up w x → x.heap.size = w.heap.size + 4 → Calls Tryd.prog G cap x fun e x' => e = .panicked es ∧ Chg C x x' ∧ R x')
    (hC : ∀ y, C y → ¬ Mid w.heap.size (w.heap.size + 4) y)
    (hR : ∀ x y, R x → Chg (Mid w.heap.size (w.heap.size + 4)) x y → R y)
    (hD : ∀ y, D y → ¬ Mid w.heap.size (w.heap.size + 4) y)
    (hes : ∃ v, es = [{ v := v, recovered := false }])
    (hB : ∀ y, R y → Calls Tryd.prog 16 #[.pointer (some ⟨T, 0, none⟩), .int .i64 l.length] y fun e y' => e = .returned (.bool true) ∧ Chg D y y' ∧ Q y') :
    Calls Tryd.prog 18 #[.pointer (some ⟨T, 0, none⟩), .func (.func G) #[] cap] w fun e w' => e = .panicked es ∧ Q w' := by
  have hmf : ∀ (fn : Fn) (first cap : Array Value) (w : World), (Instr.makeFunc fn first cap).run Tryd.prog w = .ok (.func fn first cap) w := fun _ _ _ _ => rfl
  have HG := hide hG
  have HL := hide hl
  have HC := hide hC
  have HR := hide hR
  have HDD := hide hD
  have HB := hide hB
  have HES := hide hes
  clear hG hl hC hR hD hB hes
  go_enter_defers Tryd.func18, Tryd.ntmps18
  go_wp2_with fail
  have hu0 : Up w ((w.alloc (.cells #[.pointer (some ⟨T, 0, none⟩)] 23)).alloc (.cells #[.nilIface] 28)) := ((Up.refl _).alloc _).alloc _
  have hz : ((w.alloc (.cells #[.pointer (some ⟨T, 0, none⟩)] 23)).alloc (.cells #[.nilIface] 28)).heap.size = w.heap.size + 1 + 1 := by simp
  go_at_call 15
  refine (udMark_calls T l _ (HL.out.up hu0)).mono ?_
  rintro _ wm ⟨rfl, hwm⟩
  have k0 : wm.cell? ⟨w.heap.size, 0, none⟩ = some (.pointer (some ⟨T, 0, none⟩)) := by rw [hwm]; go_simp
  have k1 : wm.cell? ⟨w.heap.size + 1, 0, none⟩ = some .nilIface := by rw [hwm]; go_simp
  have k2 : wm.frozen? ⟨w.heap.size + 1, 0, none⟩ = false := by rw [hwm]; simp
  have k3 : wm.heap.size = w.heap.size + 1 + 1 := by rw [hwm]; exact hz
  rw [← hwm] at hu0
  clear hwm hz
  dsimp only
  go_wp2_with fail
  obtain ⟨a1, a2, a3⟩ := do_start w.heap.size T l.length w wm 3 4 k3 rfl hu0 k0 k1 k2
  refine (HG.out _ a1 a2).mono ?_
  rintro _ x' ⟨rfl, hc, hRx⟩
  have hD := a3.chg hc HC.out
  have n1 : ¬ D (w.heap.size + 1) := fun h => HDD.out _ h ⟨by omega, by omega⟩
  have HB2 : Calls Tryd.prog 16 #[.pointer (some ⟨T, 0, none⟩), .int .i64 l.length] x' fun e y => (∃ v, e = .returned (.bool v)) ∧ Q y ∧ y.cell? ⟨w.heap.size + 1, 0, none⟩ = some .nilIface := by
    refine (HB.out _ hRx).mono ?_
    rintro _ y' ⟨rfl, hc, hQ⟩
    exact ⟨⟨_, rfl⟩, hQ, hc.cell (p := ⟨w.heap.size + 1, 0, none⟩) hD.err n1⟩
  dsimp only
  refine leaves_cons (f := 22) (args := #[.pointer (some ⟨w.heap.size + 1 + 1 + 1, 0, none⟩), .pointer (some ⟨w.heap.size, 0, none⟩), .pointer (some ⟨w.heap.size + 1 + 1, 0, none⟩), .pointer (some ⟨w.heap.size + 1, 0, none⟩)]) (by simp) (by simp [go_sem]) ?_
  refine (do_goes T l.length _ _ _ _ es Q _ hD.well hD.l hD.mark HB2).mono ?_
  rintro e u' w'' ⟨rfl, rfl, hQ⟩
  obtain ⟨v, rfl⟩ := HES.out
  simp [Leaves, settle, go_sem]
  exact hQ

end Go.Proofs.YtobalfckdknbdaaDoor

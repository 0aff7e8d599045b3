/-
  What package hook's Run answers, as its text runs: user code by its own contract.
-/
import Derived.Test.YtnokokhbcfkifaaGreatDoorErrHelpG
import Derived.Test.YtnokokhbcfkifaaGreatDoorHookCloneG
import Derived.Test.YtnokokhbcfkifaaGreatDoorChgs
import Derived.Defers
import Derived.Recover
import Derived.Deep.RegionLaw
namespace Go.Proofs.YtnokokhbcfkifaaGreatDoor
open Go.RowKit
attribute [local go_sem ↓] Go.wp_at_zero Go.wp_at_succ

theorem run_equalIn_nil {P : Program} {t : TypeId} {ps rs : Array TypeId} {vd : Bool} (h : P.underlying t = some (.func ps rs vd)) (w : World) (d : Nat) : (Op.equalIn (d + 1) t .nilFunc .nilFunc).run P w = .ok true w := by
  simp [Op.equalIn, run_underlying h]
theorem run_equalIn_fn {P : Program} {t : TypeId} {ps rs : Array TypeId} {vd : Bool} (h : P.underlying t = some (.func ps rs vd)) (w : World) (d : Nat) (f : Fn) (x y : Array Value) : (Op.equalIn (d + 1) t (.func f x y) .nilFunc).run P w = .ok false w := by
  simp [Op.equalIn, run_underlying h]
theorem run_eql_nil {P : Program} {t : TypeId} {ps rs : Array TypeId} {vd : Bool} (h : P.underlying t = some (.func ps rs vd)) (w : World) : (binOp .eql t .nilFunc .nilFunc).run P w = .ok (.bool true) w := by
  have e := run_equalIn_nil h w 9999
  simp only [binOp, Op.equal, Op.maxDepth, Sem.run_bind]
  rw [e]
  rfl
theorem run_eql_fn {P : Program} {t : TypeId} {ps rs : Array TypeId} {vd : Bool} (h : P.underlying t = some (.func ps rs vd)) (w : World) (f : Fn) (x y : Array Value) : (binOp .eql t (.func f x y) .nilFunc).run P w = .ok (.bool false) w := by
  have e := run_equalIn_fn h w 9999 f x y
  simp only [binOp, Op.equal, Op.maxDepth, Sem.run_bind]
  rw [e]
  rfl

theorem e_noFail (u : TypeId) (v : Value) (xT : TypeId) (hu : u ≠ 207) (w : World) : (Instr.typeAssert (.iface u v) xT 207 true).run Tryz.prog w = .ok (.tuple #[.agg #[.nilIface], .bool false]) w := by
  have z : (zeroValue 207).run Tryz.prog w = .ok (.agg #[.nilIface]) w := by kernel_rfl
  simp [Instr.typeAssert, run_underlying Tryz.underlying207, hu, z]
theorem e_isFail (v : Value) (xT : TypeId) (w : World) : (Instr.typeAssert (.iface 207 v) xT 207 true).run Tryz.prog w = .ok (.tuple #[v, .bool true]) w := by
  simp [Instr.typeAssert, run_underlying Tryz.underlying207]

/-- A fault that was made in between, where nothing else was changed. -/
structure FaultNew (w w' : World) (b : Nat) (s : ByteArray) (err pan : Value) : Prop where
  at' : FaultAt w' b 0 s err pan
  free : ∀ i, w'.frozen? ⟨b, i, none⟩ = false
  new : w.heap.size ≤ b
  up : Up w w'

/-- wrapped: what user code panicked with. -/
theorem wrapped_pan (u : TypeId) (pv : Value) (hu : u ≠ 207) (w : World) :
    Calls Tryz.prog 130 #[.iface u pv] w fun e w' => ∃ b, e = .returned (.pointer (some ⟨b, 0, none⟩)) ∧ FaultNew w w' b ⟨#[]⟩ .nilIface (.iface u pv) := by
  have q := fun xT w => e_noFail u pv xT hu w
  clear hu
  go_enter Tryz.func130, Tryz.ntmps130
  go_wp2
  go_ret
  exact ⟨_, rfl, ⟨by go_simp, by go_simp, by go_simp⟩, fun i => by simp, by simp, ((Up.refl _).alloc _).alloc _⟩

/-- wrapped: what user code told. -/
theorem wrapped_err (et : TypeId) (ev : Value) (w : World) :
    Calls Tryz.prog 130 #[.iface 207 (.agg #[.iface et ev])] w fun e w' => ∃ b, e = .returned (.pointer (some ⟨b, 0, none⟩)) ∧ FaultNew w w' b ⟨#[]⟩ (.iface et ev) .nilIface := by
  have q := fun xT w => e_isFail (.agg #[.iface et ev]) xT w
  go_enter Tryz.func130, Tryz.ntmps130
  go_wp2
  go_ret
  exact ⟨_, rfl, ⟨by go_simp, by go_simp, by go_simp⟩, fun i => by simp, by simp, ((Up.refl _).alloc _).alloc _⟩

theorem asked_nil (w : World) : Calls Tryz.prog 131 #[.nilFunc] w fun e w' => e = .returned (.iface 56 (.int .i64 50)) ∧ w' = w := by
  have n0 := run_eql_nil Tryz.underlying120
  go_enter Tryz.func131, Tryz.ntmps131
  go_wp2
  go_ret
  exact ⟨rfl, rfl⟩

theorem asked_ret (G : FuncId) (cap : Array Value) (v : Value) (S : World → Prop) (w : World) (hE : ∀ w', (callFunc G cap).run Tryz.prog w' = .ok (.enter G cap) w')
    (hG : Calls Tryz.prog G cap w fun e w'' => e = .returned v ∧ S w'') :
    Calls Tryz.prog 131 #[.func (.func G) #[] cap] w fun e w'' => e = .returned v ∧ S w'' := by
  have n1 := run_eql_fn Tryz.underlying120
  have HG := hide hG
  clear hG
  go_enter Tryz.func131, Tryz.ntmps131
  go_wp2_with fail
  refine HG.out.mono ?_
  rintro _ w2 ⟨rfl, hS⟩
  have HS := hide hS
  clear hS HG
  go_wp2
  go_ret
  exact ⟨rfl, HS.out⟩

theorem asked_pan (G : FuncId) (cap : Array Value) (u : TypeId) (V : Value → Prop) (S : World → Prop) (w : World) (hE : ∀ w', (callFunc G cap).run Tryz.prog w' = .ok (.enter G cap) w')
    (hG : Calls Tryz.prog G cap w fun e w'' => ∃ pv, V pv ∧ e = .panicked [{ v := .iface u pv, recovered := false }] ∧ S w'') :
    Calls Tryz.prog 131 #[.func (.func G) #[] cap] w fun e w'' => ∃ pv, V pv ∧ e = .panicked [{ v := .iface u pv, recovered := false }] ∧ S w'' := by
  have n1 := run_eql_fn Tryz.underlying120
  have HG := hide hG
  clear hG
  go_enter Tryz.func131, Tryz.ntmps131
  go_wp2_with fail
  refine HG.out.mono ?_
  rintro _ w2 ⟨pv, hV, rfl, hS⟩
  exact ⟨rfl, pv, hV, rfl, hS⟩

/-- The deferred closure where nothing panicked: done. -/
theorem catch_idle (pb : Nat) (q : Addr) (w : World) (h0 : w.cell? ⟨pb, 0, none⟩ = some (.bool true)) :
    CallsD Tryz.prog 129 #[.pointer (some ⟨pb, 0, none⟩), .pointer (some q)] .returning w fun e u' w' => e = .returned (.tuple #[]) ∧ u' = .returning ∧ w' = w := by
  refine callsD_of_wpS Tryz.func129 rfl fun c₀ cs hu => ?_
  apply wpS_seq
  apply wpS_region
  simp [wpOpsS, go_sem, recoverD, hu, Tryz.ntmps129, Exit.thenS]
  refine wpS_of_wp ?_
  go_wp2
  cases c₀
  simp_all [bodyPostS, results, Tryz.results129]

/-- The deferred closure where something panicked. -/
theorem catch_panic (pb qb : Nat) (old : Value) (u : TypeId) (pv err pan : Value) (older : List PanicEntry) (w : World) (h0 : w.cell? ⟨pb, 0, none⟩ = some (.bool false)) (h1 : w.cell? ⟨qb, 0, none⟩ = some old) (hf : w.frozen? ⟨qb, 0, none⟩ = false)
    (hW : Calls Tryz.prog 130 #[.iface u pv] w fun e w' => ∃ b, e = .returned (.pointer (some ⟨b, 0, none⟩)) ∧ FaultNew w w' b ⟨#[]⟩ err pan) :
    CallsD Tryz.prog 129 #[.pointer (some ⟨pb, 0, none⟩), .pointer (some ⟨qb, 0, none⟩)] (.panicking ({ v := .iface u pv, recovered := false } :: older)) w fun e u' w' =>
      e = .returned (.tuple #[]) ∧ u' = .panicking ({ v := .iface u pv, recovered := true } :: older) ∧ ∃ b w2, FaultNew w w2 b ⟨#[]⟩ err pan ∧ w' = w2.setCell ⟨qb, 0, none⟩ (.iface 106 (.pointer (some ⟨b, 0, none⟩))) := by
  have hq : qb < w.heap.size := World.block_lt_of_cell? w _ h1
  have HW := hide hW
  clear hW
  refine callsD_of_wpS Tryz.func129 rfl fun c₀ cs hu => ?_
  apply wpS_seq
  apply wpS_region
  simp [wpOpsS, go_sem, recoverD, hu, Tryz.ntmps129, Exit.thenS]
  refine wpS_of_wp ?_
  go_wp2_with fail
  go_at_call 130
  refine HW.out.mono ?_
  rintro _ w2 ⟨b, rfl, hF⟩
  have k1 := hF.up.cell h1
  have k2 := (hF.up.frozen (p := ⟨qb, 0, none⟩) hq).trans hf
  have HF := hide hF
  clear hF h0 h1 hf HW
  go_wp2
  simp [bodyPostS, results, Tryz.results129]
  exact ⟨b, w2, HF.out, rfl⟩

/-- What caught left: a fault in a new block; else what user code left, but for what was made for its call. -/
structure Caught (w : World) (S : World → World → Prop) (s : ByteArray) (err pan : Value) (b : Nat) (w' : World) : Prop where
  at' : FaultAt w' b 0 s err pan
  free : ∀ i, w'.frozen? ⟨b, i, none⟩ = false
  left : ∃ x x', Up w x ∧ S x x' ∧ x.heap.size ≤ x'.heap.size ∧ x'.heap.size ≤ b ∧ Chg (Mid w.heap.size x.heap.size) x' w'

/-- What a call of user code that told nothing left. -/
def Left (w : World) (S : World → World → Prop) (w' : World) : Prop := ∃ x x', Up w x ∧ S x x' ∧ x.heap.size ≤ x'.heap.size ∧ Chg (Mid w.heap.size x.heap.size) x' w'
theorem Caught.leftS {w : World} {S : World → World → Prop} {s : ByteArray} {err pan : Value} {b : Nat} {w' : World} (h : Caught w S s err pan b w') : Left w S w' := by
  obtain ⟨x, x', h1, h2, h3, h4, h5⟩ := h.left
  exact ⟨x, x', h1, h2, h3, h5⟩

theorem caught_leaves {w x w2 w3 : World} {S : World → World → Prop} {s : ByteArray} {err pan : Value} {b : Nat} {v : Value} (hx : Up w x) (hlt : w.heap.size < x.heap.size) (hxx : x.heap.size ≤ w2.heap.size) (hF : FaultNew w2 w3 b s err pan) (hS : S x w2) :
    Caught w S s err pan b (w3.setCell ⟨w.heap.size, 0, none⟩ v) := by
  have hne : ¬ w.heap.size = b := by have := hF.new; omega
  have ho : ∀ i, (w3.setCell ⟨w.heap.size, 0, none⟩ v).cell? ⟨b, i, none⟩ = w3.cell? ⟨b, i, none⟩ := fun i => World.cell?_setCell_other _ _ _ _ (fun e => hne (congrArg Addr.block e))
  exact ⟨⟨(ho _).trans hF.at'.1, (ho _).trans hF.at'.2.1, (ho _).trans hF.at'.2.2⟩, fun i => by rw [World.frozen?_setCell]; exact hF.free i, x, w2, hx, hS, hxx, hF.new, (Chg.of_up hF.up).set (fun _ => ⟨Nat.le_refl _, hlt⟩) _⟩

set_option maxRecDepth 20000 in
set_option maxHeartbeats 4000000 in
theorem caught_pan (fv : Value) (u : TypeId) (V : Value → Prop) (S : World → World → Prop) (w : World) (hu : u ≠ 207)
    (hA : ∀ w', Up w w' → Calls Tryz.prog 131 #[fv] w' fun e w'' => ∃ pv, V pv ∧ e = .panicked [{ v := .iface u pv, recovered := false }] ∧ Keeps w.heap.size w' w'' ∧ S w' w'') :
    Calls Tryz.prog 126 #[fv] w fun e w' => ∃ pv b, V pv ∧ e = .returned (.iface 106 (.pointer (some ⟨b, 0, none⟩))) ∧ Caught w S ⟨#[]⟩ .nilIface (.iface u pv) b w' := by
  have hmf : ∀ (fn : Fn) (first cap : Array Value) (w : World), (Instr.makeFunc fn first cap).run Tryz.prog w = .ok (.func fn first cap) w := fun _ _ _ _ => rfl
  have HA := hide hA
  clear hA
  go_enter_defers Tryz.func126, Tryz.ntmps126
  go_wp2_with fail
  go_at_call 131
  refine (HA.out _ (((Up.refl _).alloc _).alloc _)).mono ?_
  rintro _ w2 ⟨pv, hV, rfl, hk, hS⟩
  have c0 : w2.cell? ⟨w.heap.size, 0, none⟩ = some .nilIface := (World.cell?_of_block (w := (w.alloc (.cells #[.nilIface] 46)).alloc (.cells #[.bool false] 4)) (hk.2 w.heap.size (Nat.le_refl _) (by simp; omega))).trans (by go_simp)
  have f0 : w2.frozen? ⟨w.heap.size, 0, none⟩ = false := (World.frozen?_of_block (w := (w.alloc (.cells #[.nilIface] 46)).alloc (.cells #[.bool false] 4)) (hk.2 w.heap.size (Nat.le_refl _) (by simp; omega))).trans (by go_simp)
  have c1 : w2.cell? ⟨w.heap.size + 1, 0, none⟩ = some (.bool false) := (World.cell?_of_block (w := (w.alloc (.cells #[.nilIface] 46)).alloc (.cells #[.bool false] 4)) (hk.2 (w.heap.size + 1) (by omega) (by simp))).trans (by go_simp)
  have hw2 : w.heap.size + 1 + 1 ≤ w2.heap.size := by have := hk.1; simp at this; exact this
  dsimp only
  refine leaves_cons (f := 129) (args := #[.pointer (some ⟨w.heap.size + 1, 0, none⟩), .pointer (some ⟨w.heap.size, 0, none⟩)]) (by simp) (by simp [go_sem]) ?_
  refine (catch_panic (w.heap.size + 1) w.heap.size .nilIface u pv .nilIface (.iface u pv) [] w2 c1 c0 f0 (wrapped_pan u pv hu w2)).mono ?_
  rintro e u' w'' ⟨rfl, rfl, b, w3, hF, rfl⟩
  have hr : (w3.setCell ⟨w.heap.size, 0, none⟩ (.iface 106 (.pointer (some ⟨b, 0, none⟩)))).cell? ⟨w.heap.size, 0, none⟩ = some (.iface 106 (.pointer (some ⟨b, 0, none⟩))) :=
    World.cell?_setCell_same _ _ _ (hF.up.cell c0)
  simp [Leaves, settle, results, Tryz.results126, go_sem, hr]
  exact ⟨pv, hV, caught_leaves (((Up.refl _).alloc _).alloc _) (by simp; omega) hk.1 hF hS⟩

set_option maxRecDepth 20000 in
set_option maxHeartbeats 4000000 in
theorem caught_err (fv : Value) (et : TypeId) (ev : Value) (S : World → World → Prop) (w : World)
    (hA : ∀ w', Up w w' → Calls Tryz.prog 131 #[fv] w' fun e w'' => e = .returned (.iface et ev) ∧ Keeps w.heap.size w' w'' ∧ S w' w'') :
    Calls Tryz.prog 126 #[fv] w fun e w' => ∃ b, e = .returned (.iface 106 (.pointer (some ⟨b, 0, none⟩))) ∧ Caught w S ⟨#[]⟩ (.iface et ev) .nilIface b w' := by
  have hmf : ∀ (fn : Fn) (first cap : Array Value) (w : World), (Instr.makeFunc fn first cap).run Tryz.prog w = .ok (.func fn first cap) w := fun _ _ _ _ => rfl
  have HA := hide hA
  clear hA
  go_enter_defers Tryz.func126, Tryz.ntmps126
  go_wp2_with fail
  go_at_call 131
  refine (HA.out _ (((Up.refl _).alloc _).alloc _)).mono ?_
  rintro _ w2 ⟨rfl, hk, hS⟩
  have c0 : w2.cell? ⟨w.heap.size, 0, none⟩ = some .nilIface := (World.cell?_of_block (w := (w.alloc (.cells #[.nilIface] 46)).alloc (.cells #[.bool false] 4)) (hk.2 w.heap.size (Nat.le_refl _) (by simp; omega))).trans (by go_simp)
  have f0 : w2.frozen? ⟨w.heap.size, 0, none⟩ = false := (World.frozen?_of_block (w := (w.alloc (.cells #[.nilIface] 46)).alloc (.cells #[.bool false] 4)) (hk.2 w.heap.size (Nat.le_refl _) (by simp; omega))).trans (by go_simp)
  have c1 : w2.cell? ⟨w.heap.size + 1, 0, none⟩ = some (.bool false) := (World.cell?_of_block (w := (w.alloc (.cells #[.nilIface] 46)).alloc (.cells #[.bool false] 4)) (hk.2 (w.heap.size + 1) (by omega) (by simp))).trans (by go_simp)
  have hw2 : w.heap.size + 1 + 1 ≤ w2.heap.size := by have := hk.1; simp at this; exact this
  have HS := hide hS
  have HK := hide hk.1
  clear hS hk HA
  go_wp2
  refine leaves_cons (f := 129) (args := #[.pointer (some ⟨w.heap.size + 1, 0, none⟩), .pointer (some ⟨w.heap.size, 0, none⟩)]) (by simp) (by simp [go_sem]) ?_
  refine (catch_panic (w.heap.size + 1) w.heap.size .nilIface 207 (.agg #[.iface et ev]) (.iface et ev) .nilIface [] w2 c1 c0 f0 (wrapped_err et ev w2)).mono ?_
  rintro e u' w'' ⟨rfl, rfl, b, w3, hF, rfl⟩
  have hr : (w3.setCell ⟨w.heap.size, 0, none⟩ (.iface 106 (.pointer (some ⟨b, 0, none⟩)))).cell? ⟨w.heap.size, 0, none⟩ = some (.iface 106 (.pointer (some ⟨b, 0, none⟩))) :=
    World.cell?_setCell_same _ _ _ (hF.up.cell c0)
  simp [Leaves, settle, results, Tryz.results126, go_sem, hr]
  exact caught_leaves (((Up.refl _).alloc _).alloc _) (by simp; omega) HK.out hF HS.out

set_option maxRecDepth 20000 in
set_option maxHeartbeats 4000000 in
theorem caught_ok (fv : Value) (S : World → World → Prop) (w : World)
    (hA : ∀ w', Up w w' → Calls Tryz.prog 131 #[fv] w' fun e w'' => e = .returned .nilIface ∧ Keeps w.heap.size w' w'' ∧ S w' w'') :
    Calls Tryz.prog 126 #[fv] w fun e w' => e = .returned .nilIface ∧ Left w S w' := by
  have hmf : ∀ (fn : Fn) (first cap : Array Value) (w : World), (Instr.makeFunc fn first cap).run Tryz.prog w = .ok (.func fn first cap) w := fun _ _ _ _ => rfl
  have HA := hide hA
  clear hA
  go_enter_defers Tryz.func126, Tryz.ntmps126
  go_wp2_with fail
  go_at_call 131
  refine (HA.out _ (((Up.refl _).alloc _).alloc _)).mono ?_
  rintro _ w2 ⟨rfl, hk, hS⟩
  have c0 : w2.cell? ⟨w.heap.size, 0, none⟩ = some .nilIface := (World.cell?_of_block (w := (w.alloc (.cells #[.nilIface] 46)).alloc (.cells #[.bool false] 4)) (hk.2 w.heap.size (Nat.le_refl _) (by simp; omega))).trans (by go_simp)
  have f0 : w2.frozen? ⟨w.heap.size, 0, none⟩ = false := (World.frozen?_of_block (w := (w.alloc (.cells #[.nilIface] 46)).alloc (.cells #[.bool false] 4)) (hk.2 w.heap.size (Nat.le_refl _) (by simp; omega))).trans (by go_simp)
  have c1 : w2.cell? ⟨w.heap.size + 1, 0, none⟩ = some (.bool false) := (World.cell?_of_block (w := (w.alloc (.cells #[.nilIface] 46)).alloc (.cells #[.bool false] 4)) (hk.2 (w.heap.size + 1) (by omega) (by simp))).trans (by go_simp)
  have f1 : w2.frozen? ⟨w.heap.size + 1, 0, none⟩ = false := (World.frozen?_of_block (w := (w.alloc (.cells #[.nilIface] 46)).alloc (.cells #[.bool false] 4)) (hk.2 (w.heap.size + 1) (by omega) (by simp))).trans (by go_simp)
  have hw2 : w.heap.size + 1 + 1 ≤ w2.heap.size := by have := hk.1; simp at this; exact this
  have HS := hide hS
  have HK := hide hk.1
  clear hS hk HA
  have d1 : (w2.setCell ⟨w.heap.size + 1, 0, none⟩ (.bool true)).cell? ⟨w.heap.size, 0, none⟩ = some .nilIface := (World.cell?_setCell_other _ _ _ _ (by intro e; have := congrArg Addr.block e; simp at this)).trans c0
  have d2 : ((w2.setCell ⟨w.heap.size + 1, 0, none⟩ (.bool true)).setCell ⟨w.heap.size, 0, none⟩ .nilIface).cell? ⟨w.heap.size, 0, none⟩ = some .nilIface := World.cell?_setCell_same _ _ _ d1
  have d3 : ((w2.setCell ⟨w.heap.size + 1, 0, none⟩ (.bool true)).setCell ⟨w.heap.size, 0, none⟩ .nilIface).cell? ⟨w.heap.size + 1, 0, none⟩ = some (.bool true) :=
    (World.cell?_setCell_other _ _ _ _ (by intro e; have := congrArg Addr.block e; simp at this)).trans (World.cell?_setCell_same _ _ _ c1)
  go_wp2
  refine leaves_cons (f := 129) (args := #[.pointer (some ⟨w.heap.size + 1, 0, none⟩), .pointer (some ⟨w.heap.size, 0, none⟩)]) (by simp) (by simp [go_sem]) ?_
  refine (catch_idle (w.heap.size + 1) ⟨w.heap.size, 0, none⟩ _ d3).mono ?_
  rintro e u' w'' ⟨rfl, rfl, rfl⟩
  simp [Leaves, settle, results, Tryz.results126, go_sem, d2]
  exact ⟨_, w2, ((Up.refl _).alloc _).alloc _, HS.out, HK.out, ((Chg.refl _ _).set (fun _ => ⟨Nat.le_succ _, by simp⟩) _).set (fun _ => ⟨Nat.le_refl _, by simp; omega⟩) _⟩

/-- The variables that the library reads lie below what a call makes. -/
theorem TabE.on {w2 w' : World} {B : Nat} (h : TabE w2) (hb : Below B w2 w') (hB : 0 < B) : TabE w' := by
  unfold TabE
  rw [hb.cell (p := ⟨0, 0, none⟩) hB]
  exact h
theorem TabE.lt {w : World} (h : TabE w) : 0 < w.heap.size := World.block_lt_of_cell? w ⟨0, 0, none⟩ h

set_option maxRecDepth 20000 in
set_option maxHeartbeats 4000000 in
theorem runs_ok (s : ByteArray) (fv : Value) (S : World → World → Prop) (w : World)
    (hC : Calls Tryz.prog 126 #[fv] w fun e w' => e = .returned .nilIface ∧ Left w S w') :
    Calls Tryz.prog 119 #[.string s, fv] w fun e w' => e = .returned .nilIface ∧ Left w S w' := by
  have HC := hide hC
  clear hC
  go_enter Tryz.func119, Tryz.ntmps119
  go_wp2_with fail
  go_at_call 126
  refine HC.out.mono ?_
  rintro _ w1 ⟨rfl, hL⟩
  have HL := hide hL
  clear hL HC
  go_wp2_with fail
  go_at_call 43
  refine (errAs_nil _ _).mono ?_
  rintro _ w3 ⟨rfl, rfl⟩
  go_wp2
  go_ret
  obtain ⟨x, x', h1, h2, h3, h4⟩ := HL.out
  exact ⟨rfl, x, x', h1, h2, h3, h4.alloc _⟩

set_option maxRecDepth 20000 in
set_option maxHeartbeats 4000000 in
theorem runs_fault (s : ByteArray) (fv : Value) (S : World → World → Prop) (X : Value → Value → Prop) (w : World) (hs : s.size ≤ 281474976710656) (hT : TabE w) (hST : ∀ x x', S x x' → TabE x')
    (hC : Calls Tryz.prog 126 #[fv] w fun e w' => ∃ err pan b, X err pan ∧ e = .returned (.iface 106 (.pointer (some ⟨b, 0, none⟩))) ∧ Caught w S ⟨#[]⟩ err pan b w') :
    Calls Tryz.prog 119 #[.string s, fv] w fun e w' => ∃ err pan b, X err pan ∧ e = .returned (.iface 106 (.pointer (some ⟨b, 0, none⟩))) ∧ Caught w S s err pan b w' := by
  have HC := hide hC
  clear hC
  go_enter Tryz.func119, Tryz.ntmps119
  go_wp2_with fail
  go_at_call 126
  refine HC.out.mono ?_
  rintro _ w1 ⟨err, pan, b, hX, rfl, hc⟩
  have T1 : Hid (TabE w1) := by
    obtain ⟨x, x', h1, h2, h3, h4, h5⟩ := hc.left
    exact (hST _ _ h2).on (h5.mid_below (Nat.le_trans h1.size h3)) hT.lt
  have CC := hide hc
  have HX := hide hX
  have c0 := hc.at'.1
  have f0 := hc.free 0
  clear hc hX HC
  go_wp2_with fail
  go_at_call 43
  refine (As_hitF ⟨b, 0, none⟩ ⟨w1.heap.size, 0, none⟩ (.pointer none) _ (T1.out.up ((Up.refl _).alloc _)) (by go_simp) (by go_simp)).mono ?_
  rintro _ w5 ⟨rfl, w4, hu4, hw5⟩
  have k0 : w5.cell? ⟨w1.heap.size, 0, none⟩ = some (.pointer (some ⟨b, 0, none⟩)) := by
    rw [hw5]
    exact World.cell?_setCell_same _ _ _ (hu4.cell (v := .pointer none) (by go_simp))
  have u15 : Up w1 w5 := by rw [hw5]; exact (((Up.refl _).alloc _).trans hu4).setCell (Nat.le_refl _) _
  have hb1 : b < w1.heap.size := World.block_lt_of_cell? w1 _ c0
  replace f0 := (u15.frozen (p := ⟨b, 0, none⟩) hb1).trans f0
  replace c0 := u15.cell c0
  have U5 := hide u15
  clear hw5 hu4 u15
  have hb5 : b < w5.heap.size := Nat.lt_of_lt_of_le hb1 U5.out.size
  go_wp2_with fail
  go_region_law (go_simp; go_at_call 61; refine (clone_calls s _ hs).mono ?_; rintro _ w6 ⟨rfl, hu6⟩; have q0 := hu6.cell (p := ⟨w1.heap.size, 0, none⟩) (v := .pointer (some ⟨b, 0, none⟩)) k0; have q1 := hu6.cell (p := ⟨b, 0, none⟩) (v := .string ⟨#[]⟩) c0; have q2 := (hu6.frozen (p := ⟨b, 0, none⟩) hb5).trans f0; dsimp only)
  all_goals (
    have U6 : Hid (Up w1 w6) := (U5.out.drew).trans hu6
    clear hu6
    go_wp2
    go_ret
    refine ⟨err, pan, b, HX.out, rfl, ?_⟩
    have hF := CC.out.at'.up U6.out
    obtain ⟨x, x', h1, h2, h3, h4, h5⟩ := CC.out.left
    have ho : ∀ i, i ≠ 0 → (w6.setCell ⟨b, 0, none⟩ (.string s)).cell? ⟨b, i, none⟩ = w6.cell? ⟨b, i, none⟩ := fun i hi => World.cell?_setCell_other _ _ _ _ (fun e => hi (congrArg Addr.off e).symm)
    refine ⟨⟨World.cell?_setCell_same _ _ _ q1, (ho _ (by decide)).trans hF.2.1, (ho _ (by decide)).trans hF.2.2⟩, fun i => ?_, x, x', h1, h2, h3, h4, (h5.andUp U6.out).set (fun h => absurd h (by show ¬ b < _; omega)) _⟩
    rw [World.frozen?_setCell]
    exact (U6.out.frozen (p := ⟨b, i, none⟩) hb1).trans (CC.out.free i))

/-! The same, by what user code does. -/
theorem ask_ret {G : FuncId} {cap : Array Value} {v : Value} {S : World → World → Prop} {w : World} (hE : ∀ w', (callFunc G cap).run Tryz.prog w' = .ok (.enter G cap) w')
    (hG : ∀ w', Up w w' → Calls Tryz.prog G cap w' fun e w'' => e = .returned v ∧ Keeps w.heap.size w' w'' ∧ S w' w'') :
    ∀ w', Up w w' → Calls Tryz.prog 131 #[.func (.func G) #[] cap] w' fun e w'' => e = .returned v ∧ Keeps w.heap.size w' w'' ∧ S w' w'' :=
  fun w' hu => asked_ret G cap v (fun x => Keeps w.heap.size w' x ∧ S w' x) w' hE (hG w' hu)
theorem ask_pan {G : FuncId} {cap : Array Value} {u : TypeId} {V : Value → Prop} {S : World → World → Prop} {w : World} (hE : ∀ w', (callFunc G cap).run Tryz.prog w' = .ok (.enter G cap) w')
    (hG : ∀ w', Up w w' → Calls Tryz.prog G cap w' fun e w'' => ∃ pv, V pv ∧ e = .panicked [{ v := .iface u pv, recovered := false }] ∧ Keeps w.heap.size w' w'' ∧ S w' w'') :
    ∀ w', Up w w' → Calls Tryz.prog 131 #[.func (.func G) #[] cap] w' fun e w'' => ∃ pv, V pv ∧ e = .panicked [{ v := .iface u pv, recovered := false }] ∧ Keeps w.heap.size w' w'' ∧ S w' w'' :=
  fun w' hu => asked_pan G cap u V (fun x => Keeps w.heap.size w' x ∧ S w' x) w' hE (hG w' hu)

theorem runL_ok (s : ByteArray) (G : FuncId) (cap : Array Value) (S : World → World → Prop) (w : World) (hE : ∀ w', (callFunc G cap).run Tryz.prog w' = .ok (.enter G cap) w')
    (hG : ∀ w', Up w w' → Calls Tryz.prog G cap w' fun e w'' => e = .returned .nilIface ∧ Keeps w.heap.size w' w'' ∧ S w' w'') :
    Calls Tryz.prog 119 #[.string s, .func (.func G) #[] cap] w fun e w' => e = .returned .nilIface ∧ Left w S w' :=
  runs_ok s _ S w (caught_ok _ S w (ask_ret hE hG))

theorem runL_err (s : ByteArray) (G : FuncId) (cap : Array Value) (et : TypeId) (ev : Value) (S : World → World → Prop) (w : World) (hs : s.size ≤ 281474976710656) (hT : TabE w) (hST : ∀ x x', S x x' → TabE x') (hE : ∀ w', (callFunc G cap).run Tryz.prog w' = .ok (.enter G cap) w')
    (hG : ∀ w', Up w w' → Calls Tryz.prog G cap w' fun e w'' => e = .returned (.iface et ev) ∧ Keeps w.heap.size w' w'' ∧ S w' w'') :
    Calls Tryz.prog 119 #[.string s, .func (.func G) #[] cap] w fun e w' => ∃ b, e = .returned (.iface 106 (.pointer (some ⟨b, 0, none⟩))) ∧ Caught w S s (.iface et ev) .nilIface b w' := by
  refine (runs_fault s _ S (fun e p => e = .iface et ev ∧ p = .nilIface) w hs hT hST ((caught_err _ et ev S w (ask_ret hE hG)).mono ?_)).mono ?_
  · rintro e w' ⟨b, rfl, h⟩
    exact ⟨_, _, b, ⟨rfl, rfl⟩, rfl, h⟩
  · rintro e w' ⟨_, _, b, ⟨rfl, rfl⟩, rfl, h⟩
    exact ⟨b, rfl, h⟩

theorem runL_pan (s : ByteArray) (G : FuncId) (cap : Array Value) (u : TypeId) (V : Value → Prop) (S : World → World → Prop) (w : World) (hs : s.size ≤ 281474976710656) (hT : TabE w) (hST : ∀ x x', S x x' → TabE x') (hu : u ≠ 207) (hE : ∀ w', (callFunc G cap).run Tryz.prog w' = .ok (.enter G cap) w')
    (hG : ∀ w', Up w w' → Calls Tryz.prog G cap w' fun e w'' => ∃ pv, V pv ∧ e = .panicked [{ v := .iface u pv, recovered := false }] ∧ Keeps w.heap.size w' w'' ∧ S w' w'') :
    Calls Tryz.prog 119 #[.string s, .func (.func G) #[] cap] w fun e w' => ∃ pv b, V pv ∧ e = .returned (.iface 106 (.pointer (some ⟨b, 0, none⟩))) ∧ Caught w S s .nilIface (.iface u pv) b w' := by
  refine (runs_fault s _ S (fun e p => e = .nilIface ∧ ∃ pv, V pv ∧ p = .iface u pv) w hs hT hST ((caught_pan _ u V S w hu (ask_pan hE hG)).mono ?_)).mono ?_
  · rintro e w' ⟨pv, b, hV, rfl, h⟩
    exact ⟨_, _, b, ⟨rfl, pv, hV, rfl⟩, rfl, h⟩
  · rintro e w' ⟨_, _, b, ⟨rfl, pv, hV, rfl⟩, rfl, h⟩
    exact ⟨pv, b, hV, rfl, h⟩

theorem run_nil (s : ByteArray) (w : World) (hs : s.size ≤ 281474976710656) (hT : TabE w) : Calls Tryz.prog 119 #[.string s, .nilFunc] w fun e w' => ∃ b, e = .returned (.iface 106 (.pointer (some ⟨b, 0, none⟩))) ∧ FaultAt w' b 0 s (.iface 56 (.int .i64 50)) .nilIface ∧ Up w w' := by
  refine (runs_fault s _ (fun x x' => x' = x ∧ Up w x) (fun e p => e = .iface 56 (.int .i64 50) ∧ p = .nilIface) w hs hT (fun x x' h => by rw [h.1]; exact hT.up h.2) ((caught_err .nilFunc 56 (.int .i64 50) (fun x x' => x' = x ∧ Up w x) w (fun w' hu => (asked_nil w').mono ?_)).mono ?_)).mono ?_
  · rintro e w2 ⟨rfl, rfl⟩
    exact ⟨rfl, ⟨Nat.le_refl _, fun _ _ _ => rfl⟩, rfl, hu⟩
  · rintro e w' ⟨b, rfl, h⟩
    exact ⟨_, _, b, ⟨rfl, rfl⟩, rfl, h⟩
  · rintro e w' ⟨_, _, b, ⟨rfl, rfl⟩, rfl, h⟩
    obtain ⟨x, x', h1, ⟨rfl, _⟩, h3, _, h5⟩ := h.left
    exact ⟨b, rfl, h.at', Below.trans h1.below (h5.mid_below h1.size)⟩

/-! As the laws HookRuns and HookNests take them. -/
theorem Left.one {w w' : World} {S : World → Prop} (h : Left w (fun _ x => S x) w') : ∃ w2, S w2 ∧ Below w.heap.size w2 w' := by
  obtain ⟨x, x', h1, h2, h3, h4⟩ := h
  exact ⟨x', h2, h4.mid_below (Nat.le_trans h1.size h3)⟩
theorem run_panicsV (s : ByteArray) (G : FuncId) (cap : Array Value) (u : TypeId) (V : Value → Prop) (S : World → Prop) (w : World) (hs : s.size ≤ 281474976710656) (hT : TabE w) (hST : ∀ x, S x → TabE x) (hu : u ≠ 207) (hE : ∀ w', (callFunc G cap).run Tryz.prog w' = .ok (.enter G cap) w')
    (hG : ∀ w', Up w w' → Calls Tryz.prog G cap w' fun e w'' => ∃ pv, V pv ∧ e = .panicked [{ v := .iface u pv, recovered := false }] ∧ Keeps w.heap.size w' w'' ∧ S w'') :
    Calls Tryz.prog 119 #[.string s, .func (.func G) #[] cap] w fun e w' => ∃ pv w2 b, V pv ∧ e = .returned (.iface 106 (.pointer (some ⟨b, 0, none⟩))) ∧ FaultAt w' b 0 s .nilIface (.iface u pv) ∧ S w2 ∧ Below w.heap.size w2 w' := by
  refine (runL_pan s G cap u V (fun _ x => S x) w hs hT (fun _ x h => hST x h) hu hE hG).mono ?_
  rintro e w' ⟨pv, b, hV, rfl, h⟩
  obtain ⟨w2, hS, hb⟩ := h.leftS.one
  exact ⟨pv, w2, b, hV, rfl, h.at', hS, hb⟩
theorem run_panics (s : ByteArray) (G : FuncId) (cap : Array Value) (u : TypeId) (pv : Value) (S : World → Prop) (w : World) (hs : s.size ≤ 281474976710656) (hT : TabE w) (hST : ∀ x, S x → TabE x) (hu : u ≠ 207) (hE : ∀ w', (callFunc G cap).run Tryz.prog w' = .ok (.enter G cap) w')
    (hG : ∀ w', Up w w' → Calls Tryz.prog G cap w' fun e w'' => e = .panicked [{ v := .iface u pv, recovered := false }] ∧ Keeps w.heap.size w' w'' ∧ S w'') :
    Calls Tryz.prog 119 #[.string s, .func (.func G) #[] cap] w fun e w' => ∃ w2 b, e = .returned (.iface 106 (.pointer (some ⟨b, 0, none⟩))) ∧ FaultAt w' b 0 s .nilIface (.iface u pv) ∧ S w2 ∧ Below w.heap.size w2 w' := by
  refine (run_panicsV s G cap u (fun x => x = pv) S w hs hT hST hu hE (fun w' hu => (hG w' hu).mono ?_)).mono ?_
  · rintro e w2 ⟨rfl, hk, hS⟩
    exact ⟨pv, rfl, rfl, hk, hS⟩
  · rintro e w2 ⟨_, w3, b, rfl, h⟩
    exact ⟨w3, b, h⟩
theorem run_ok (s : ByteArray) (G : FuncId) (cap : Array Value) (S : World → Prop) (w : World) (hE : ∀ w', (callFunc G cap).run Tryz.prog w' = .ok (.enter G cap) w')
    (hG : ∀ w', Up w w' → Calls Tryz.prog G cap w' fun e w'' => e = .returned .nilIface ∧ Keeps w.heap.size w' w'' ∧ S w'') :
    Calls Tryz.prog 119 #[.string s, .func (.func G) #[] cap] w fun e w' => e = .returned .nilIface ∧ ∃ w2, S w2 ∧ Below w.heap.size w2 w' := by
  refine (runL_ok s G cap (fun _ x => S x) w hE hG).mono ?_
  rintro e w' ⟨rfl, h⟩
  exact ⟨rfl, h.one⟩
theorem run_err (s : ByteArray) (G : FuncId) (cap : Array Value) (et : TypeId) (ev : Value) (S : World → Prop) (w : World) (hs : s.size ≤ 281474976710656) (hT : TabE w) (hST : ∀ x, S x → TabE x) (hE : ∀ w', (callFunc G cap).run Tryz.prog w' = .ok (.enter G cap) w')
    (hG : ∀ w', Up w w' → Calls Tryz.prog G cap w' fun e w'' => e = .returned (.iface et ev) ∧ Keeps w.heap.size w' w'' ∧ S w'') :
    Calls Tryz.prog 119 #[.string s, .func (.func G) #[] cap] w fun e w' => ∃ w2 b, e = .returned (.iface 106 (.pointer (some ⟨b, 0, none⟩))) ∧ FaultAt w' b 0 s (.iface et ev) .nilIface ∧ S w2 ∧ Below w.heap.size w2 w' := by
  refine (runL_err s G cap et ev (fun _ x => S x) w hs hT (fun _ x h => hST x h) hE hG).mono ?_
  rintro e w' ⟨b, rfl, h⟩
  obtain ⟨w2, hS, hb⟩ := h.leftS.one
  exact ⟨w2, b, rfl, h.at', hS, hb⟩

end Go.Proofs.YtnokokhbcfkifaaGreatDoor

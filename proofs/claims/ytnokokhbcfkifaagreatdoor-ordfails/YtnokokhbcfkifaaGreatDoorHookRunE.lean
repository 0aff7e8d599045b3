/-
  What package hook's Run answers where user code tells an error that is not known ahead (its block hangs on the world): as HookRun.
-/
import Derived.Test.YtnokokhbcfkifaaGreatDoorHookRun
namespace Go.Proofs.YtnokokhbcfkifaaGreatDoor
open Go.RowKit
attribute [local go_sem ↓] Go.wp_at_zero Go.wp_at_succ

theorem asked_errV (G : FuncId) (cap : Array Value) (et : TypeId) (S : World → Value → Prop) (w : World) (hE : ∀ w', (callFunc G cap).run Tryz.prog w' = .ok (.enter G cap) w')
    (hG : Calls Tryz.prog G cap w fun e w'' => ∃ ev, e = .returned (.iface et ev) ∧ S w'' ev) :
    Calls Tryz.prog 131 #[.func (.func G) #[] cap] w fun e w'' => ∃ ev, e = .returned (.iface et ev) ∧ S w'' ev := by
  have n1 := run_eql_fn Tryz.underlying120
  have HG := hide hG
  clear hG
  go_enter Tryz.func131, Tryz.ntmps131
  go_wp2_with fail
  refine HG.out.mono ?_
  rintro _ w2 ⟨ev, rfl, hS⟩
  have HS := hide hS
  clear hS HG
  go_wp2
  go_ret
  exact ⟨ev, rfl, HS.out⟩

set_option maxRecDepth 20000 in
set_option maxHeartbeats 4000000 in
theorem caught_errV (fv : Value) (et : TypeId) (S : World → World → Value → Prop) (w : World)
    (hA : ∀ w', Up w w' → Calls Tryz.prog 131 #[fv] w' fun e w'' => ∃ ev, e = .returned (.iface et ev) ∧ Keeps w.heap.size w' w'' ∧ S w' w'' ev) :
    Calls Tryz.prog 126 #[fv] w fun e w' => ∃ ev b, e = .returned (.iface 106 (.pointer (some ⟨b, 0, none⟩))) ∧ Caught w (fun x x' => S x x' ev) ⟨#[]⟩ (.iface et ev) .nilIface b w' := by
  have hmf : ∀ (fn : Fn) (first cap : Array Value) (w : World), (Instr.makeFunc fn first cap).run Tryz.prog w = .ok (.func fn first cap) w := fun _ _ _ _ => rfl
  have HA := hide hA
  clear hA
  go_enter_defers Tryz.func126, Tryz.ntmps126
  go_wp2_with fail
  go_at_call 131
  refine (HA.out _ (((Up.refl _).alloc _).alloc _)).mono ?_
  rintro _ w2 ⟨ev, rfl, hk, hS⟩
  have c0 : w2.cell? ⟨w.heap.size, 0, none⟩ = some .nilIface := (World.cell?_of_block (w := (w.alloc (.cells #[.nilIface] 46)).alloc (.cells #[.bool false] 4)) (hk.2 w.heap.size (Nat.le_refl _) (by simp; omega))).trans (by go_simp)
  have f0 : w2.frozen? ⟨w.heap.size, 0, none⟩ = false := (World.frozen?_of_block (w := (w.alloc (.cells #[.nilIface] 46)).alloc (.cells #[.bool false] 4)) (hk.2 w.heap.size (Nat.le_refl _) (by simp; omega))).trans (by go_simp)
  have c1 : w2.cell? ⟨w.heap.size + 1, 0, none⟩ = some (.bool false) := (World.cell?_of_block (w := (w.alloc (.cells #[.nilIface] 46)).alloc (.cells #[.bool false] 4)) (hk.2 (w.heap.size + 1) (by omega) (by simp))).trans (by go_simp)
  have hw2 : w.heap.size + 1 + 1 ≤ w2.heap.size := by have := hk.1; simp at this; exact this
  have HS := hide hS
  have HK := hide hk.1
  clear hS hk HA
  go_wp2
  refine leaves_cons (f := 129) (args := #[.pointer (some ⟨w.heap.size + 1, 0, none⟩), .pointer (some ⟨w.heap.size, 0, none⟩)]) (by simp) (by simp [go_sem]) ?_
  refine (catch_panic (w.heap.size + 1) w.heap.size .nilIface 207 (.agg #[.iface et ev]) (.iface et ev) .nilIface [] w2 c1 c0 f0 (wrapped_err et ev w2)).mono ?_
  rintro e u' w'' ⟨rfl, rfl, b, w3, hF, rfl⟩
  have hr : (w3.setCell ⟨w.heap.size, 0, none⟩ (.iface 106 (.pointer (some ⟨b, 0, none⟩)))).cell? ⟨w.heap.size, 0, none⟩ = some (.iface 106 (.pointer (some ⟨b, 0, none⟩))) :=
    World.cell?_setCell_same _ _ _ (hF.up.cell c0)
  simp [Leaves, settle, results, Tryz.results126, go_sem, hr]
  exact ⟨ev, caught_leaves (S := fun x x' => S x x' ev) (((Up.refl _).alloc _).alloc _) (by simp; omega) HK.out hF HS.out⟩

set_option maxRecDepth 20000 in
set_option maxHeartbeats 4000000 in
theorem runs_faultV (s : ByteArray) (fv : Value) (S : Value → World → World → Prop) (X : Value → Value → Prop) (w : World) (hs : s.size ≤ 281474976710656) (hT : TabE w) (hST : ∀ err x x', S err x x' → TabE x')
    (hC : Calls Tryz.prog 126 #[fv] w fun e w' => ∃ err pan b, X err pan ∧ e = .returned (.iface 106 (.pointer (some ⟨b, 0, none⟩))) ∧ Caught w (S err) ⟨#[]⟩ err pan b w') :
    Calls Tryz.prog 119 #[.string s, fv] w fun e w' => ∃ err pan b, X err pan ∧ e = .returned (.iface 106 (.pointer (some ⟨b, 0, none⟩))) ∧ Caught w (S err) s err pan b w' := by
  have HC := hide hC
  clear hC
  go_enter Tryz.func119, Tryz.ntmps119
  go_wp2_with fail
  go_at_call 126
  refine HC.out.mono ?_
  rintro _ w1 ⟨err, pan, b, hX, rfl, hc⟩
  have T1 : Hid (TabE w1) := by
    obtain ⟨x, x', h1, h2, h3, h4, h5⟩ := hc.left
    exact (hST _ _ _ h2).on (h5.mid_below (Nat.le_trans h1.size h3)) hT.lt
  have CC := hide hc
  have HX := hide hX
  have c0 := hc.at'.1
  have f0 := hc.free 0
  clear hc hX HC
  go_wp2_with fail
  go_at_call 43
  refine (As_hitF ⟨b, 0, none⟩ ⟨w1.heap.size, 0, none⟩ (.pointer none) _ (T1.out.up ((Up.refl _).alloc _)) (by go_simp) (by go_simp)).mono ?_
  rintro _ w5 ⟨rfl, w4, hu4, hw5⟩
  have k0 : w5.cell? ⟨w1.heap.size, 0, none⟩ = some (.pointer (some ⟨b, 0, none⟩)) := by
    rw [hw5]
    exact World.cell?_setCell_same _ _ _ (hu4.cell (v := .pointer none) (by go_simp))
  have u15 : Up w1 w5 := by rw [hw5]; exact (((Up.refl _).alloc _).trans hu4).setCell (Nat.le_refl _) _
  have hb1 : b < w1.heap.size := World.block_lt_of_cell? w1 _ c0
  replace f0 := (u15.frozen (p := ⟨b, 0, none⟩) hb1).trans f0
  replace c0 := u15.cell c0
  have U5 := hide u15
  clear hw5 hu4 u15
  have hb5 : b < w5.heap.size := Nat.lt_of_lt_of_le hb1 U5.out.size
  go_wp2_with fail
  go_region_law (go_simp; go_at_call 61; refine (clone_calls s _ hs).mono ?_; rintro _ w6 ⟨rfl, hu6⟩; have q0 := hu6.cell (p := ⟨w1.heap.size, 0, none⟩) (v := .pointer (some ⟨b, 0, none⟩)) k0; have q1 := hu6.cell (p := ⟨b, 0, none⟩) (v := .string ⟨#[]⟩) c0; have q2 := (hu6.frozen (p := ⟨b, 0, none⟩) hb5).trans f0; dsimp only)
  all_goals (
    have U6 : Hid (Up w1 w6) := (U5.out.drew).trans hu6
    clear hu6
    go_wp2
    go_ret
    refine ⟨err, pan, b, HX.out, rfl, ?_⟩
    have hF := CC.out.at'.up U6.out
    obtain ⟨x, x', h1, h2, h3, h4, h5⟩ := CC.out.left
    have ho : ∀ i, i ≠ 0 → (w6.setCell ⟨b, 0, none⟩ (.string s)).cell? ⟨b, i, none⟩ = w6.cell? ⟨b, i, none⟩ := fun i hi => World.cell?_setCell_other _ _ _ _ (fun e => hi (congrArg Addr.off e).symm)
    refine ⟨⟨World.cell?_setCell_same _ _ _ q1, (ho _ (by decide)).trans hF.2.1, (ho _ (by decide)).trans hF.2.2⟩, fun i => ?_, x, x', h1, h2, h3, h4, (h5.andUp U6.out).set (fun h => absurd h (by show ¬ b < _; omega)) _⟩
    rw [World.frozen?_setCell]
    exact (U6.out.frozen (p := ⟨b, i, none⟩) hb1).trans (CC.out.free i))

theorem runL_errV (s : ByteArray) (G : FuncId) (cap : Array Value) (et : TypeId) (S : World → World → Value → Prop) (w : World) (hs : s.size ≤ 281474976710656) (hT : TabE w) (hST : ∀ x x' ev, S x x' ev → TabE x') (hE : ∀ w', (callFunc G cap).run Tryz.prog w' = .ok (.enter G cap) w')
    (hG : ∀ w', Up w w' → Calls Tryz.prog G cap w' fun e w'' => ∃ ev, e = .returned (.iface et ev) ∧ Keeps w.heap.size w' w'' ∧ S w' w'' ev) :
    Calls Tryz.prog 119 #[.string s, .func (.func G) #[] cap] w fun e w' => ∃ ev b, e = .returned (.iface 106 (.pointer (some ⟨b, 0, none⟩))) ∧ Caught w (fun x x' => S x x' ev) s (.iface et ev) .nilIface b w' := by
  refine (runs_faultV s _ (fun err x x' => ∃ ev, err = .iface et ev ∧ S x x' ev) (fun e p => (∃ ev, e = .iface et ev) ∧ p = .nilIface) w hs hT (fun err x x' h => by obtain ⟨ev, _, h⟩ := h; exact hST x x' ev h) ((caught_errV _ et S w (fun w' hu => asked_errV G cap et (fun x ev => Keeps w.heap.size w' x ∧ S w' x ev) w' hE ((hG w' hu).mono ?_))).mono ?_)).mono ?_
  · rintro e w'' ⟨ev, rfl, h⟩
    exact ⟨ev, rfl, h⟩
  · rintro e w' ⟨ev, b, rfl, h⟩
    obtain ⟨h1, h2, x, x', h3, h4, h5⟩ := h
    exact ⟨_, _, b, ⟨⟨ev, rfl⟩, rfl⟩, rfl, h1, h2, x, x', h3, ⟨ev, rfl, h4⟩, h5⟩
  · rintro e w' ⟨_, _, b, ⟨⟨ev, rfl⟩, rfl⟩, rfl, h⟩
    obtain ⟨h1, h2, x, x', h3, ⟨ev', he, h4⟩, h5⟩ := h
    cases he
    exact ⟨ev, b, rfl, h1, h2, x, x', h3, h4, h5⟩

end Go.Proofs.YtnokokhbcfkifaaGreatDoor

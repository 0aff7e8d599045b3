/-
  What package hook's answered answers where user code tells an error that is not known ahead: as HookAns.
-/
import Derived.Test.YtnokokhbcfkifaaGreatDoorHookRunE
import Derived.Test.YtnokokhbcfkifaaGreatDoorHookAns
namespace Go.Proofs.YtnokokhbcfkifaaGreatDoor
open Go.ChangeShapes Go.WideShapes Go.ChangeAt Go.RowKit
attribute [local go_sem ↓] Go.wp_at_zero Go.wp_at_succ
attribute [local go_sem] run_store_float

/-- answered's closure: what user code tells is put aside. -/
theorem ansI1E (F : FuncId) (cap : Array Value) (fb ab : Nat) (n : Int) (old : Int) (et : TypeId) (C : Nat → Prop) (S : World → World → Value → Prop) (y : World) (hab : ab < y.heap.size) (hCa : ¬ C ab) (hE : ∀ w', (callFunc F cap).run Tryz.prog w' = .ok (.enter F cap) w')
    (k0 : y.cell? ⟨fb, 0, none⟩ = some (.func (.func F) #[] cap)) (ka : y.cell? ⟨ab, 0, none⟩ = some (.int .i64 old)) (kf : ∀ i, y.frozen? ⟨ab, i, none⟩ = false)
    (hF : Calls Tryz.prog F cap y fun e y' => ∃ ev, e = .returned (.tuple #[.int .i64 n, .iface et ev]) ∧ Chg C y y' ∧ S y y' ev) :
    Calls Tryz.prog 120 #[.pointer (some ⟨fb, 0, none⟩), .pointer (some ⟨ab, 0, none⟩)] y fun e y'' => ∃ ev, e = .returned (.iface et ev) ∧ y''.cell? ⟨ab, 0, none⟩ = some (.int .i64 n) ∧ ∃ y', S y y' ev ∧ Chg C y y' ∧ Chg (fun b => b = ab) y' y'' := by
  have HF := hide hF
  have KA := hide ka
  have KF := hide kf
  clear hF ka kf
  go_enter Tryz.func120, Tryz.ntmps120
  go_wp2_with fail
  refine HF.out.mono ?_
  rintro _ y1 ⟨ev, rfl, hc, hS⟩
  have b0 := hc.cell KA.out hCa
  have g0 := (hc.frozen (p := ⟨ab, 0, none⟩) hab hCa).trans (KF.out 0)
  have HS := hide hS
  have HC := hide hc
  clear hS hc HF KA KF
  go_wp2
  go_ret
  refine ⟨ev, rfl, ?_, y1, HS.out, HC.out, ?_⟩
  · exact World.cell?_setCell_same _ _ _ b0
  · exact chg_set1 y1 ab _

set_option maxRecDepth 20000 in
set_option maxHeartbeats 4000000 in
theorem ansI_errV (s : ByteArray) (F : FuncId) (cap : Array Value) (n : Int) (et : TypeId) (C : Nat → Prop) (S : World → World → Value → Prop) (w : World) (hs : s.size ≤ 281474976710656) (hT : TabE w) (hC : ∀ b, C b → b < w.heap.size) (hE : ∀ w', (callFunc F cap).run Tryz.prog w' = .ok (.enter F cap) w')
    (hF : ∀ x, Up w x → Calls Tryz.prog F cap x fun e x' => ∃ ev, e = .returned (.tuple #[.int .i64 n, .iface et ev]) ∧ Chg C x x' ∧ TabE x' ∧ S x x' ev) :
    Calls Tryz.prog 110 #[.string s, .func (.func F) #[] cap] w fun e w' => ∃ ev b, e = .returned (.tuple #[.int .i64 0, .iface 106 (.pointer (some ⟨b, 0, none⟩))]) ∧ Caught w (fun x x' => S x x' ev) s (.iface et ev) .nilIface b w' := by
  have hmf : ∀ (fn : Fn) (first cap : Array Value) (w : World), (Instr.makeFunc fn first cap).run Tryz.prog w = .ok (.func fn first cap) w := fun _ _ _ _ => rfl
  have HF := hide hF
  clear hF
  go_enter Tryz.func110, Tryz.ntmps110
  go_wp2_with fail
  obtain ⟨W, hW⟩ : ∃ W, W = (w.alloc (.cells #[.func (.func F) #[] cap] 195)).alloc (.cells #[.int .i64 0] 3) := ⟨_, rfl⟩
  have uW : Hid (Up w W) := by rw [hW]; exact ((Up.refl _).alloc _).alloc _
  have z0 : W.cell? ⟨w.heap.size, 0, none⟩ = some (.func (.func F) #[] cap) := by rw [hW]; go_simp
  have z1 : W.cell? ⟨w.heap.size + 1, 0, none⟩ = some (.int .i64 0) := by rw [hW]; exact by go_simp
  have z2 : ∀ i, W.frozen? ⟨w.heap.size + 1, i, none⟩ = false := by intro i; rw [hW]; go_simp
  have hWs : W.heap.size = w.heap.size + 1 + 1 := by rw [hW]; simp
  rw [← hW]
  clear hW
  go_at_call 119
  refine (runL_errV s 120 #[.pointer (some ⟨w.heap.size, 0, none⟩), .pointer (some ⟨w.heap.size + 1, 0, none⟩)] et (fun x x' ev => x'.cell? ⟨w.heap.size + 1, 0, none⟩ = some (.int .i64 n) ∧ ∃ y', S x y' ev ∧ x.heap.size ≤ y'.heap.size ∧ TabE y' ∧ Chg (fun b => b = w.heap.size + 1) y' x' ∧ ∀ b, w.heap.size ≤ b → b < W.heap.size → ¬ b = w.heap.size + 1 → x'.heap[b]? = W.heap[b]?) W hs (hT.up uW.out) ?_ (fun _ => by simp [go_sem]) (fun x hu => (ansI1E F cap w.heap.size (w.heap.size + 1) n 0 et C (fun x x' ev => TabE x' ∧ S x x' ev) x (by have := hu.size; omega) (fun h => by have := hC _ h; omega) hE (hu.cell z0) (hu.cell z1) (fun i => (hu.frozen (p := ⟨w.heap.size + 1, i, none⟩) (by show w.heap.size + 1 < _; omega)).trans (z2 i)) (HF.out x (uW.out.trans hu))).mono ?_)).mono ?_
  · rintro x x'' ev ⟨_, y', _, _, ht, hd, _⟩
    exact hd.cell ht (fun h => by have := hT.lt; have h' : 0 = w.heap.size + 1 := h; omega)
  · rintro _ x'' ⟨ev, rfl, hh, y', ⟨ht, hS⟩, hc, hd⟩
    refine ⟨ev, rfl, Chg.keeps (C := fun b => C b ∨ b = w.heap.size + 1) ((hc.mono (fun _ _ h => Or.inl h)).trans hd (fun _ _ h => Or.inr h)) ?_, hh, y', hS, hc.size, ht, hd, fun b h1 h2 h3 => ?_⟩
    · rintro b _ (h | h)
      · have := hC _ h; omega
      · omega
    · have hbx := Nat.lt_of_lt_of_le h2 hu.size
      exact ((hd.2 b (Nat.lt_of_lt_of_le hbx hc.size) h3).trans (hc.2 b hbx (fun h => by have := hC _ h; omega))).trans (hu.below.block b h2)
  rintro _ w1 ⟨ev, b, rfl, hc⟩
  have KB : ∀ b, w.heap.size ≤ b → b < W.heap.size → ¬ b = w.heap.size + 1 → w1.heap[b]? = W.heap[b]? := by
    obtain ⟨x, x'', hx, ⟨LA0, y', hS, hs1, ht, hd, hk⟩, hs2, hb, he⟩ := hc.left
    exact fun b h1 h2 h3 => (he.2 b (Nat.lt_of_lt_of_le (Nat.lt_of_lt_of_le h2 hx.size) hs2) (fun hm => by have := hm.1; omega)).trans (hk b h1 h2 h3)
  have HL : Hid (∀ w3, Chg (Mid w.heap.size W.heap.size) w1 w3 → Caught w (fun x x' => S x x' ev) s (.iface et ev) .nilIface b w3) := by
    obtain ⟨x, x'', hx, ⟨LA0, y', hS, hs1, ht, hd, hk⟩, hs2, hb, he⟩ := hc.left
    intro w3 h3
    have hbW : ¬ Mid w.heap.size W.heap.size b := fun hm => by have := hm.2; have := hx.size; omega
    have hb1 : b < w1.heap.size := World.block_lt_of_cell? w1 ⟨b, 0, none⟩ hc.at'.1
    refine ⟨⟨h3.cell hc.at'.1 hbW, h3.cell hc.at'.2.1 hbW, h3.cell hc.at'.2.2 hbW⟩, fun i => (h3.frozen (p := ⟨b, i, none⟩) hb1 hbW).trans (hc.free i), x, y', uW.out.trans hx, hS, hs1, Nat.le_trans hd.size hb, Chg.trans (Chg.trans (hd.mono (fun b _ hb => ?_)) he (fun b _ hb => ⟨by have := hb.1; omega, hb.2⟩)) h3 (fun b _ hb => ⟨hb.1, Nat.lt_of_lt_of_le hb.2 hx.size⟩)⟩
    exact ⟨by omega, by have := hx.size; omega⟩
  have HA := hide hc.at'
  clear hc z0 z1 z2 HF
  go_wp2_with fail
  go_at_call 121
  refine (errIs50 b 0 2 #[.iface 56 (.int .i64 50), .iface et ev] w1 (by decide) rfl (fun x hx => unwrap_err b 0 _ _ _ _ x (HA.out.up hx))).mono ?_
  rintro _ w2 ⟨rfl, hu2⟩
  have HU2 := hide hu2
  clear hu2 HA
  go_wp2
  go_ret2
  exact ⟨ev, b, rfl, HL.out _ (Chg.of_up HU2.out)⟩

end Go.Proofs.YtnokokhbcfkifaaGreatDoor

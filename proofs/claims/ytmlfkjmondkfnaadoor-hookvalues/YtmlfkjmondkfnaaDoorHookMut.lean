/-
  What package hook's Mutate answers, as its text runs: user code by its own contract.
-/
import Derived.Test.YtmlfkjmondkfnaaDoorHookExt0
namespace Go.Proofs.YtmlfkjmondkfnaaDoor
open Go.ChangeShapes Go.WideShapes Go.ChangeAt Go.RowKit
set_option linter.unusedVariables false
attribute [local go_sem ↓] Go.wp_at_zero Go.wp_at_succ
attribute [local go_sem] run_store_float

theorem copied_none (a : Option Addr) (c : Nat) (w : World) : Calls Tryd.prog 49 #[.slice a 0 c] w fun e w' => e = .returned (.slice none 0 0) ∧ w' = w := by
  go_enter Tryd.func49, Tryd.ntmps49
  go_wp2
  go_ret
  exact ⟨rfl, rfl⟩

set_option maxRecDepth 20000 in
set_option maxHeartbeats 4000000 in
theorem mut1_calls (U : FuncId) (ucap : Array Value) (fb vb : Nat) (a : Option Addr) (n c : Nat) (m : List VT) (R : Value → Prop) (ev : Value) (C : Nat → Prop) (S : World → World → Value → Prop) (y : World) (hT : TabE y) (hC : ∀ b, C b → b < y.heap.size) (hn : n ≤ 12) (hv : Vals y a n m) (hsh : ∀ i, (m.getD i zeroT).2.2.1.size ≤ 200)
    (k0 : y.cell? ⟨fb, 0, none⟩ = some (.func (.func U) #[] ucap)) (k1 : y.cell? ⟨vb, 0, none⟩ = some (.slice a n c))
    (hE : ∀ v w', (callFunc U (#[v] ++ ucap)).run Tryd.prog w' = .ok (.enter U (#[v] ++ ucap)) w')
    (hU : ∀ x a', Up y x → Handed y.heap.size x a' n m → Calls Tryd.prog U (#[.slice a' n n] ++ ucap) x fun e x' => ∃ r, R r ∧ e = .returned (.tuple #[r, ev]) ∧ Chg (fun b => C b ∨ RowB a' b) x x' ∧ TabE x' ∧ S x x' r) :
    Calls Tryd.prog 58 #[.pointer (some ⟨fb, 0, none⟩), .pointer (some ⟨vb, 0, none⟩)] y fun e y' => ∃ r, R r ∧ e = .returned (.tuple #[r, ev]) ∧ Chg C y y' ∧ TabE y' ∧ Left y (fun x x' => S x x' r) y' := by
  have n1 := run_eql_fn Tryd.underlying73
  have hfb : fb < y.heap.size := World.block_lt_of_cell? y _ k0
  have hvb : vb < y.heap.size := World.block_lt_of_cell? y _ k1
  have HU := hide hU
  have HV := hide hv
  have HSH := hide hsh
  have HT := hide hT
  have HC := hide hC
  clear hU hv hsh hT hC
  go_enter Tryd.func58, Tryd.ntmps58
  go_wp2_with fail
  have HY := hide (HV.out.up ((Up.refl y).drew))
  have uD : Hid (Up y y.drew) := (Up.refl y).drew
  go_region_law (first
    | (go_simp; go_at_call 49; refine (copied_calls a n c m _ hn HY.out HSH.out).mono ?_; rintro _ x1 ⟨a', rfl, hr, hu1⟩;
       have U1 : Hid (Up y.drew x1) := hu1; have q0 := U1.out.cell (p := ⟨fb, 0, none⟩) (v := .func (.func U) #[] ucap) k0;
       have HR : Hid (Handed y.heap.size x1 a' n m) := hr; clear hr hu1; dsimp only)
    | (go_simp; refine (HU.out x1 a' (uD.out.trans U1.out) HR.out).mono ?_; rintro _ x2 ⟨r, hR, rfl, hc2, ht2, hS2⟩;
       have HT2 := hide ht2; have HRr := hide hR;
       have HL2 : Hid (Left y (fun x x' => S x x' r) x2) := ⟨x1, x2, uD.out.trans U1.out, hS2, hc2.size, Chg.refl _ _⟩;
       have HC2 : Hid (Chg C y x2) := Chg.trans (Chg.of_up (uD.out.trans U1.out)) hc2 (fun b hb h => h.resolve_right (HR.out.not (.inl hb)));
       clear hc2 hS2 ht2 hR; dsimp only))
  all_goals (
    go_wp2_with fail
    go_ret2
    exact ⟨r, HRr.out, rfl, HC2.out, HT2.out, HL2.out⟩)

set_option maxRecDepth 20000 in
set_option maxHeartbeats 4000000 in
theorem mut_ok (U : FuncId) (ucap : Array Value) (a : Option Addr) (n c : Nat) (m rm : List VT) (C : Nat → Prop) (T : World → World → Prop) (w : World) (hT : TabE w) (hC : ∀ b, C b → b < w.heap.size) (hn : n ≤ 12) (hv : Vals w a n m) (hsh : ∀ i, (m.getD i zeroT).2.2.1.size ≤ 200) (hrn : rm.length ≤ 12) (hrs : ∀ i, (rm.getD i zeroT).2.2.1.size ≤ 200)
    (hE : ∀ v w', (callFunc U (#[v] ++ ucap)).run Tryd.prog w' = .ok (.enter U (#[v] ++ ucap)) w')
    (hU : ∀ x a', Up w x → Handed w.heap.size x a' n m → Calls Tryd.prog U (#[.slice a' n n] ++ ucap) x fun e x' => ∃ ra rc, e = .returned (.tuple #[.slice ra rm.length rc, .nilIface]) ∧ Vals x' ra rm.length rm ∧ (∀ b, RowB ra b → b < w.heap.size ∨ x.heap.size ≤ b) ∧ Chg (fun b => C b ∨ RowB a' b) x x' ∧ TabE x' ∧ T x x') :
    Calls Tryd.prog 25 #[.func (.func U) #[] ucap, .slice a n c] w fun e w' => ∃ a2, e = .returned (.tuple #[.slice a2 rm.length rm.length, .nilIface]) ∧ Handed w.heap.size w' a2 rm.length rm ∧ Left w T w' := by
  have hmf : ∀ (fn : Fn) (first cap : Array Value) (w : World), (Instr.makeFunc fn first cap).run Tryd.prog w = .ok (.func fn first cap) w := fun _ _ _ _ => rfl
  have HU := hide hU
  have HV := hide hv
  have HSH := hide hsh
  have HT := hide hT
  have HC := hide hC
  have HEE := hide hE
  clear hU hv hsh hT hC hE
  go_enter Tryd.func25, Tryd.ntmps25
  go_wp2_with fail
  obtain ⟨W, hW⟩ : ∃ W, W = (w.alloc (.cells #[.func (.func U) #[] ucap] 73)).alloc (.cells #[.slice a n c] 44) := ⟨_, rfl⟩
  have uW : Hid (Up w W) := by rw [hW]; exact ((Up.refl _).alloc _).alloc _
  have z0 : W.cell? ⟨w.heap.size, 0, none⟩ = some (.func (.func U) #[] ucap) := by rw [hW]; go_simp
  have z1 : W.cell? ⟨w.heap.size + 1, 0, none⟩ = some (.slice a n c) := by rw [hW]; go_simp
  have hWs : W.heap.size = w.heap.size + 1 + 1 := by rw [hW]; simp
  rw [← hW]
  clear hW
  go_at_call 57
  refine (ansL_ok _ 58 #[.pointer (some ⟨w.heap.size, 0, none⟩), .pointer (some ⟨w.heap.size + 1, 0, none⟩)] C (fun y y' r => Left y (fun x x' => ∃ ra rc, r = .slice ra rm.length rc ∧ Vals x' ra rm.length rm ∧ (∀ b, RowB ra b → b < w.heap.size ∨ x.heap.size ≤ b) ∧ T x x') y') W (fun b h => by have := HC.out b h; omega) (fun _ => by simp [go_sem]) (fun y hu => (mut1_calls U ucap w.heap.size (w.heap.size + 1) a n c m (fun r => ∃ ra rn rc, r = .slice ra rn rc) .nilIface C (fun x x' r => ∃ ra rc, r = .slice ra rm.length rc ∧ Vals x' ra rm.length rm ∧ (∀ b, RowB ra b → b < w.heap.size ∨ x.heap.size ≤ b) ∧ T x x') y (HT.out.up (uW.out.trans hu)) (fun b h => by have := HC.out b h; have := hu.size; omega) hn (HV.out.up (uW.out.trans hu)) HSH.out (hu.cell z0) (hu.cell z1) HEE.out (fun x a' hx hh => (HU.out x a' ((uW.out.trans hu).trans hx) (hh.mono (uW.out.trans hu).size)).mono ?_)).mono ?_)).mono ?_
  · rintro _ x' ⟨ra, rc, rfl, h1, h2, h3, h4, h5⟩
    exact ⟨_, ⟨ra, _, rc, rfl⟩, rfl, h3, h4, ra, rc, rfl, h1, h2, h5⟩
  · rintro _ y' ⟨_, ⟨ra, rn, rc, rfl⟩, rfl, h1, h2, h3⟩
    exact ⟨ra, rn, rc, rfl, h1, h2, h3⟩
  rintro _ w1 ⟨ra, rn, rc, rfl, hl⟩
  obtain ⟨x, x', hx, ⟨ra', rc', he, hv1, hb1, hT1⟩, hs, hd⟩ := hl.join
  cases he
  have HV1 : Hid (Vals w1 ra rm.length rm) := hv1.chg hd (fun b hb hm => (hb1 b hb).elim (fun h => by have := hm.1; omega) (fun h => by have := hm.2; omega))
  have HL1 : Hid (Left w T w1) := ⟨x, x', uW.out.trans hx, hT1, hs, hd.mono (fun b _ hb => ⟨by have := hb.1; omega, hb.2⟩)⟩
  have hsz : Hid (w.heap.size ≤ w1.heap.size) := by have h1 := hd.size; have h2 := hx.size; show _ ≤ _; omega
  clear hl hx hv1 hb1 hT1 hs hd z0 z1 HU
  go_wp2_with fail
  go_at_call 49
  refine (copied_calls ra rm.length rc rm w1 hrn HV1.out hrs).mono ?_
  rintro _ w2 ⟨a2, rfl, hh, hu2⟩
  have HH := hide hh
  have HU2 := hide hu2
  clear hh hu2
  go_wp2
  go_ret2
  exact ⟨a2, rfl, HH.out.mono hsz.out, HL1.out.lift (Up.refl w) (Chg.of_up HU2.out)⟩

set_option maxRecDepth 20000 in
set_option maxHeartbeats 4000000 in
theorem mut_err (U : FuncId) (ucap : Array Value) (a : Option Addr) (n c : Nat) (m : List VT) (et : TypeId) (ev : Value) (C : Nat → Prop) (T : World → World → Prop) (w : World) (hT : TabE w) (hC : ∀ b, C b → b < w.heap.size) (hn : n ≤ 12) (hv : Vals w a n m) (hsh : ∀ i, (m.getD i zeroT).2.2.1.size ≤ 200)
    (hE : ∀ v w', (callFunc U (#[v] ++ ucap)).run Tryd.prog w' = .ok (.enter U (#[v] ++ ucap)) w')
    (hU : ∀ x a', Up w x → Handed w.heap.size x a' n m → Calls Tryd.prog U (#[.slice a' n n] ++ ucap) x fun e x' => e = .returned (.tuple #[.slice none 0 0, .iface et ev]) ∧ Chg (fun b => C b ∨ RowB a' b) x x' ∧ TabE x' ∧ T x x') :
    Calls Tryd.prog 25 #[.func (.func U) #[] ucap, .slice a n c] w fun e w' => ∃ b, e = .returned (.tuple #[.slice none 0 0, .iface 33 (.pointer (some ⟨b, 0, none⟩))]) ∧ Caught w T ⟨#[]⟩ (.iface et ev) .nilIface b w' := by
  have hmf : ∀ (fn : Fn) (first cap : Array Value) (w : World), (Instr.makeFunc fn first cap).run Tryd.prog w = .ok (.func fn first cap) w := fun _ _ _ _ => rfl
  have HU := hide hU
  have HV := hide hv
  have HSH := hide hsh
  have HT := hide hT
  have HC := hide hC
  have HEE := hide hE
  clear hU hv hsh hT hC hE
  go_enter Tryd.func25, Tryd.ntmps25
  go_wp2_with fail
  obtain ⟨W, hW⟩ : ∃ W, W = (w.alloc (.cells #[.func (.func U) #[] ucap] 73)).alloc (.cells #[.slice a n c] 44) := ⟨_, rfl⟩
  have uW : Hid (Up w W) := by rw [hW]; exact ((Up.refl _).alloc _).alloc _
  have z0 : W.cell? ⟨w.heap.size, 0, none⟩ = some (.func (.func U) #[] ucap) := by rw [hW]; go_simp
  have z1 : W.cell? ⟨w.heap.size + 1, 0, none⟩ = some (.slice a n c) := by rw [hW]; go_simp
  have hWs : W.heap.size = w.heap.size + 1 + 1 := by rw [hW]; simp
  rw [← hW]
  clear hW
  go_at_call 57
  refine (ansL_err _ 58 #[.pointer (some ⟨w.heap.size, 0, none⟩), .pointer (some ⟨w.heap.size + 1, 0, none⟩)] et ev C (fun y y' r => Left y T y') W (by decide) (HT.out.up uW.out) (fun b h => by have := HC.out b h; omega) (fun _ => by simp [go_sem]) (fun y hu => (mut1_calls U ucap w.heap.size (w.heap.size + 1) a n c m (fun r => r = .slice none 0 0) (.iface et ev) C (fun x x' r => T x x') y (HT.out.up (uW.out.trans hu)) (fun b h => by have := HC.out b h; have := hu.size; omega) hn (HV.out.up (uW.out.trans hu)) HSH.out (hu.cell z0) (hu.cell z1) HEE.out (fun x a' hx hh => (HU.out x a' ((uW.out.trans hu).trans hx) (hh.mono (uW.out.trans hu).size)).mono ?_)).mono ?_)).mono ?_
  · rintro _ x' ⟨rfl, h3, h4, h5⟩
    exact ⟨_, rfl, rfl, h3, h4, h5⟩
  · rintro _ y' ⟨_, rfl, rfl, h1, h2, h3⟩
    exact ⟨none, 0, 0, rfl, h1, h2, h3⟩
  rintro _ w1 ⟨b, rfl, hc⟩
  have HL1 : Hid (Caught w T ⟨#[]⟩ (.iface et ev) .nilIface b w1) := by
    have hc' : Caught W (fun y y' => Left y T y') ⟨#[]⟩ (.iface et ev) .nilIface b w1 := by
      obtain ⟨h1, h2, x, x', g1, ⟨_, _, _, g2⟩, g3⟩ := hc
      exact ⟨h1, h2, x, x', g1, g2, g3⟩
    exact hc'.join.lift uW.out (Up.refl _)
  clear hc z0 z1 HU
  go_wp2_with fail
  go_at_call 49
  refine (copied_none none 0 w1).mono ?_
  rintro _ w2 ⟨rfl, rfl⟩
  go_wp2
  go_ret2
  exact ⟨b, rfl, HL1.out⟩

end Go.Proofs.YtmlfkjmondkfnaaDoor

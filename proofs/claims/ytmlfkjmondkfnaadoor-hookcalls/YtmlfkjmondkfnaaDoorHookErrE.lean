/-
  What package hook's calls answer where user code tells an error that is not known ahead.
  What package hook's calls answer where user code tells an error that is not known ahead.
-/
import Derived.Test.YtmlfkjmondkfnaaDoorHookExtE
import Derived.Test.YtmlfkjmondkfnaaDoorHookExtr
import Derived.Test.YtmlfkjmondkfnaaDoorHookAnsE
import Derived.Test.YtmlfkjmondkfnaaDoorHookMutVal
namespace Go.Proofs.YtmlfkjmondkfnaaDoor
open Go.ChangeShapes Go.WideShapes Go.ChangeAt Go.RowKit
set_option linter.unusedVariables false
attribute [local go_sem ↓] Go.wp_at_zero Go.wp_at_succ
attribute [local go_sem] run_store_float

set_option maxRecDepth 20000 in
set_option maxHeartbeats 4000000 in
theorem ext_errV (s : ByteArray) (U : FuncId) (ucap : Array Value) (a : Option Addr) (n c : Nat) (m : List VT) (k z : Int) (t : ByteArray) (f : Nat) (et : TypeId) (C : Nat → Prop) (S : World → World → Value → Prop) (w : World) (hs : s.size ≤ 281474976710656) (hT : TabE w) (hC : ∀ b, C b → b < w.heap.size) (hn : n ≤ 12) (hv : Vals w a n m) (hsh : ∀ i, (m.getD i zeroT).2.2.1.size ≤ 200) (hts : t.size ≤ 281474976710656)
    (hE : ∀ v w', (callFunc U (#[v] ++ ucap)).run Tryd.prog w' = .ok (.enter U (#[v] ++ ucap)) w')
    (hU : ∀ x a', Up w x → Handed w.heap.size x a' n m → Calls Tryd.prog U (#[.slice a' n n] ++ ucap) x fun e x' => ∃ ev, e = .returned (.tuple #[.agg #[.int .i64 k, .int .i64 z, .string t, .float .f64 f], .iface et ev]) ∧ Chg (fun b => C b ∨ RowB a' b) x x' ∧ TabE x' ∧ S x x' ev) :
    Calls Tryd.prog 20 #[.string s, .func (.func U) #[] ucap, .slice a n c] w fun e w' => ∃ ev b, e = .returned (.tuple #[.agg #[.int .i64 0, .int .i64 0, .string ⟨#[]⟩, .float .f64 0], .iface 33 (.pointer (some ⟨b, 0, none⟩))]) ∧ Caught w (fun x x' => S x x' ev) s (.iface et ev) .nilIface b w' := by
  have hmf : ∀ (fn : Fn) (first cap : Array Value) (w : World), (Instr.makeFunc fn first cap).run Tryd.prog w = .ok (.func fn first cap) w := fun _ _ _ _ => rfl
  have HU := hide hU
  have HV := hide hv
  have HSH := hide hsh
  have HT := hide hT
  have HC := hide hC
  have HEE := hide hE
  clear hU hv hsh hT hC hE
  go_enter Tryd.func20, Tryd.ntmps20
  go_wp2_with fail
  obtain ⟨W, hW⟩ : ∃ W, W = ((w.alloc (.cells #[.func (.func U) #[] ucap] 62)).alloc (.cells #[.slice a n c] 44)).alloc (.cells #[.int .i64 0, .int .i64 0, .string ⟨#[]⟩, .float .f64 0] 58) := ⟨_, rfl⟩
  have uW : Hid (Up w W) := by rw [hW]; exact (((Up.refl _).alloc _).alloc _).alloc _
  have z0 : W.cell? ⟨w.heap.size, 0, none⟩ = some (.func (.func U) #[] ucap) := by rw [hW]; go_simp
  have z1 : W.cell? ⟨w.heap.size + 1, 0, none⟩ = some (.slice a n c) := by rw [hW]; go_simp
  have zb : Box W (w.heap.size + 1 + 1) (0, 0, ⟨#[]⟩, 0) := by rw [hW]; exact ⟨⟨by go_simp, by go_simp, by go_simp, by go_simp⟩, fun i => by go_simp⟩
  have hWs : W.heap.size = w.heap.size + 1 + 1 + 1 := by rw [hW]; simp
  rw [← hW]
  clear hW
  go_at_call 47
  refine (ansV_errV s 48 #[.pointer (some ⟨w.heap.size, 0, none⟩), .pointer (some ⟨w.heap.size + 1, 0, none⟩)] k z t f et C (fun y y' ev => Chg C y y' ∧ Left y (fun x x' => S x x' ev) y') W hs (HT.out.up uW.out) (fun b h => by have := HC.out b h; omega) (fun _ => by simp [go_sem]) (fun y hu => ((ext1_errV U ucap w.heap.size (w.heap.size + 1) a n c m k z t f et C S y (HT.out.up (uW.out.trans hu)) (fun b h => by have := HC.out b h; have := hu.size; omega) hn (HV.out.up (uW.out.trans hu)) HSH.out (hu.cell z0) (hu.cell z1) HEE.out (fun x a' hx hh => HU.out x a' ((uW.out.trans hu).trans hx) (hh.mono (uW.out.trans hu).size))).mono ?_))).mono ?_
  · rintro _ y' ⟨ev, rfl, h1, h2, h3⟩
    exact ⟨ev, rfl, h1, h2, h1, h3⟩
  rintro _ w1 ⟨ev, b, rfl, hl⟩
  have HB : Hid (Box w1 (w.heap.size + 1 + 1) (0, 0, ⟨#[]⟩, 0)) := by
    obtain ⟨y, y', hy, ⟨hc, _⟩, hs1, _, hd⟩ := hl.left
    exact ((zb.up hy).chg hc (fun h => by have := HC.out _ h; omega)).chg hd (fun hm => by have := hm.1; omega)
  have HL : Hid (Caught W (fun x x' => S x x' ev) s (.iface et ev) .nilIface b w1) := by
    refine Caught.join ?_
    obtain ⟨h1, h2, y, y', hy, ⟨hc, g2⟩, g3⟩ := hl
    exact ⟨h1, h2, y, y', hy, g2, g3⟩
  clear hl z0 z1 zb HU
  have r0 : w1.cell? ⟨w.heap.size + 1 + 1, 0, none⟩ = some (.int .i64 0) := HB.out.1.1
  have r1 : w1.cell? ⟨w.heap.size + 1 + 1, 1, none⟩ = some (.int .i64 0) := HB.out.1.2.1
  have r2 : w1.cell? ⟨w.heap.size + 1 + 1, 2, none⟩ = some (.string ⟨#[]⟩) := HB.out.1.2.2.1
  have r3 : w1.cell? ⟨w.heap.size + 1 + 1, 3, none⟩ = some (.float .f64 0) := HB.out.1.2.2.2
  have hlt : w.heap.size + 1 + 1 < w1.heap.size := World.block_lt_of_cell? w1 _ r0
  have HBf := hide HB.out.2
  go_wp2_with fail
  go_at_call 38
  refine (clone_calls ⟨#[]⟩ _ (by decide)).mono ?_
  rintro _ w2 ⟨rfl, hu2⟩
  have uA : Up w1 (w1.alloc (.cells #[.int .i64 0, .int .i64 0, .string ⟨#[]⟩, .float .f64 0] 58)) := (Up.refl _).alloc _
  have v0 : w2.cell? ⟨w1.heap.size, 0, none⟩ = some (.int .i64 0) := hu2.cell (by go_simp)
  have v1 : w2.cell? ⟨w1.heap.size, 1, none⟩ = some (.int .i64 0) := hu2.cell (by go_simp)
  have v2 : w2.cell? ⟨w1.heap.size, 2, none⟩ = some (.string ⟨#[]⟩) := hu2.cell (by go_simp)
  have v3 : w2.cell? ⟨w1.heap.size, 3, none⟩ = some (.float .f64 0) := hu2.cell (by go_simp)
  have vf : w2.frozen? ⟨w1.heap.size, 2, none⟩ = false := (hu2.frozen (p := ⟨w1.heap.size, 2, none⟩) (by simp)).trans (by go_simp)
  have U2 := hide (uA.trans hu2)
  replace r0 := U2.out.cell r0
  replace r1 := U2.out.cell r1
  replace r2 := U2.out.cell r2
  replace r3 := U2.out.cell r3
  have f0 := (U2.out.frozen (p := ⟨w.heap.size + 1 + 1, 0, none⟩) hlt).trans (HBf.out 0)
  have f1 := (U2.out.frozen (p := ⟨w.heap.size + 1 + 1, 1, none⟩) hlt).trans (HBf.out 1)
  have f2 := (U2.out.frozen (p := ⟨w.heap.size + 1 + 1, 2, none⟩) hlt).trans (HBf.out 2)
  have f3 := (U2.out.frozen (p := ⟨w.heap.size + 1 + 1, 3, none⟩) hlt).trans (HBf.out 3)
  have ne1 : ¬ w1.heap.size = w.heap.size + 1 + 1 := by omega
  have ne2 : ¬ w.heap.size + 1 + 1 = w1.heap.size := by omega
  clear hu2 uA HB HBf
  go_wp2_with fail
  refine bodyPost_ret (v := .tuple #[.agg #[.int .i64 0, .int .i64 0, .string ⟨#[]⟩, .float .f64 0], .iface 33 (.pointer (some ⟨b, 0, none⟩))]) (by simp [results, Tryd.results20, go_sem, *]) rfl ?_
  have HG : Chg (Mid w.heap.size W.heap.size) w1 (((((w2.setCell ⟨w1.heap.size, 2, none⟩ (.string ⟨#[]⟩)).setCell ⟨w.heap.size + 1 + 1, 0, none⟩ (.int .i64 0)).setCell ⟨w.heap.size + 1 + 1, 1, none⟩ (.int .i64 0)).setCell ⟨w.heap.size + 1 + 1, 2, none⟩ (.string ⟨#[]⟩)).setCell ⟨w.heap.size + 1 + 1, 3, none⟩ (.float .f64 0)) :=
    Chg.trans ((Chg.of_up U2.out).set (p := ⟨w1.heap.size, 2, none⟩) (fun h => absurd h (Nat.lt_irrefl _)) _) (chg_set4 _ (w.heap.size + 1 + 1) _ _ _ _) (fun b _ hb => ⟨by omega, by omega⟩)
  exact ⟨ev, b, rfl, HL.out.mid uW.out HG⟩

end Go.Proofs.YtmlfkjmondkfnaaDoor

namespace Go.Proofs.YtmlfkjmondkfnaaDoor
open Go.ChangeShapes Go.WideShapes Go.ChangeAt Go.RowKit
set_option linter.unusedVariables false
attribute [local go_sem ↓] Go.wp_at_zero Go.wp_at_succ
attribute [local go_sem] run_store_float

set_option maxRecDepth 20000 in
set_option maxHeartbeats 4000000 in
theorem mut1_errV (U : FuncId) (ucap : Array Value) (fb vb : Nat) (a : Option Addr) (n c : Nat) (m : List VT) (r : Value) (et : TypeId) (C : Nat → Prop) (S : World → World → Value → Prop) (y : World) (hT : TabE y) (hC : ∀ b, C b → b < y.heap.size) (hn : n ≤ 12) (hv : Vals y a n m) (hsh : ∀ i, (m.getD i zeroT).2.2.1.size ≤ 200)
    (k0 : y.cell? ⟨fb, 0, none⟩ = some (.func (.func U) #[] ucap)) (k1 : y.cell? ⟨vb, 0, none⟩ = some (.slice a n c))
    (hE : ∀ v w', (callFunc U (#[v] ++ ucap)).run Tryd.prog w' = .ok (.enter U (#[v] ++ ucap)) w')
    (hU : ∀ x a', Up y x → Handed y.heap.size x a' n m → Calls Tryd.prog U (#[.slice a' n n] ++ ucap) x fun e x' => ∃ ev, e = .returned (.tuple #[r, .iface et ev]) ∧ Chg (fun b => C b ∨ RowB a' b) x x' ∧ TabE x' ∧ S x x' ev) :
    Calls Tryd.prog 58 #[.pointer (some ⟨fb, 0, none⟩), .pointer (some ⟨vb, 0, none⟩)] y fun e y' => ∃ ev, e = .returned (.tuple #[r, .iface et ev]) ∧ Chg C y y' ∧ TabE y' ∧ Left y (fun x x' => S x x' ev) y' := by
  have n1 := run_eql_fn Tryd.underlying73
  have hfb : fb < y.heap.size := World.block_lt_of_cell? y _ k0
  have hvb : vb < y.heap.size := World.block_lt_of_cell? y _ k1
  have HU := hide hU
  have HV := hide hv
  have HSH := hide hsh
  have HT := hide hT
  have HC := hide hC
  clear hU hv hsh hT hC
  go_enter Tryd.func58, Tryd.ntmps58
  go_wp2_with fail
  have HY := hide (HV.out.up ((Up.refl y).drew))
  have uD : Hid (Up y y.drew) := (Up.refl y).drew
  go_region_law (first
    | (go_simp; go_at_call 49; refine (copied_calls a n c m _ hn HY.out HSH.out).mono ?_; rintro _ x1 ⟨a', rfl, hr, hu1⟩;
       have U1 : Hid (Up y.drew x1) := hu1; have q0 := U1.out.cell (p := ⟨fb, 0, none⟩) (v := .func (.func U) #[] ucap) k0;
       have HR : Hid (Handed y.heap.size x1 a' n m) := hr; clear hr hu1; dsimp only)
    | (go_simp; refine (HU.out x1 a' (uD.out.trans U1.out) HR.out).mono ?_; rintro _ x2 ⟨ev, rfl, hc2, ht2, hS2⟩;
       have HT2 := hide ht2;
       have HL2 : Hid (Left y (fun x x' => S x x' ev) x2) := ⟨x1, x2, uD.out.trans U1.out, hS2, hc2.size, Chg.refl _ _⟩;
       have HC2 : Hid (Chg C y x2) := Chg.trans (Chg.of_up (uD.out.trans U1.out)) hc2 (fun b hb h => h.resolve_right (HR.out.not (.inl hb)));
       clear hc2 hS2 ht2; dsimp only))
  all_goals (
    go_wp2_with fail
    go_ret2
    exact ⟨ev, rfl, HC2.out, HT2.out, HL2.out⟩)

set_option maxRecDepth 20000 in
set_option maxHeartbeats 4000000 in
theorem mut_errV (U : FuncId) (ucap : Array Value) (a : Option Addr) (n c : Nat) (m : List VT) (et : TypeId) (C : Nat → Prop) (T : World → World → Value → Prop) (w : World) (hT : TabE w) (hC : ∀ b, C b → b < w.heap.size) (hn : n ≤ 12) (hv : Vals w a n m) (hsh : ∀ i, (m.getD i zeroT).2.2.1.size ≤ 200)
    (hE : ∀ v w', (callFunc U (#[v] ++ ucap)).run Tryd.prog w' = .ok (.enter U (#[v] ++ ucap)) w')
    (hU : ∀ x a', Up w x → Handed w.heap.size x a' n m → Calls Tryd.prog U (#[.slice a' n n] ++ ucap) x fun e x' => ∃ ev, e = .returned (.tuple #[.slice none 0 0, .iface et ev]) ∧ Chg (fun b => C b ∨ RowB a' b) x x' ∧ TabE x' ∧ T x x' ev) :
    Calls Tryd.prog 25 #[.func (.func U) #[] ucap, .slice a n c] w fun e w' => ∃ ev b, e = .returned (.tuple #[.slice none 0 0, .iface 33 (.pointer (some ⟨b, 0, none⟩))]) ∧ Caught w (fun x x' => T x x' ev) ⟨#[]⟩ (.iface et ev) .nilIface b w' := by
  have hmf : ∀ (fn : Fn) (first cap : Array Value) (w : World), (Instr.makeFunc fn first cap).run Tryd.prog w = .ok (.func fn first cap) w := fun _ _ _ _ => rfl
  have HU := hide hU
  have HV := hide hv
  have HSH := hide hsh
  have HT := hide hT
  have HC := hide hC
  have HEE := hide hE
  clear hU hv hsh hT hC hE
  go_enter Tryd.func25, Tryd.ntmps25
  go_wp2_with fail
  obtain ⟨W, hW⟩ : ∃ W, W = (w.alloc (.cells #[.func (.func U) #[] ucap] 73)).alloc (.cells #[.slice a n c] 44) := ⟨_, rfl⟩
  have uW : Hid (Up w W) := by rw [hW]; exact ((Up.refl _).alloc _).alloc _
  have z0 : W.cell? ⟨w.heap.size, 0, none⟩ = some (.func (.func U) #[] ucap) := by rw [hW]; go_simp
  have z1 : W.cell? ⟨w.heap.size + 1, 0, none⟩ = some (.slice a n c) := by rw [hW]; go_simp
  have hWs : W.heap.size = w.heap.size + 1 + 1 := by rw [hW]; simp
  rw [← hW]
  clear hW
  go_at_call 57
  refine (ansL_errV _ 58 #[.pointer (some ⟨w.heap.size, 0, none⟩), .pointer (some ⟨w.heap.size + 1, 0, none⟩)] none 0 0 et C (fun y y' ev => Left y (fun x x' => T x x' ev) y') W (by decide) (HT.out.up uW.out) (fun b h => by have := HC.out b h; omega) (fun _ => by simp [go_sem]) (fun y hu => mut1_errV U ucap w.heap.size (w.heap.size + 1) a n c m (.slice none 0 0) et C T y (HT.out.up (uW.out.trans hu)) (fun b h => by have := HC.out b h; have := hu.size; omega) hn (HV.out.up (uW.out.trans hu)) HSH.out (hu.cell z0) (hu.cell z1) HEE.out (fun x a' hx hh => HU.out x a' ((uW.out.trans hu).trans hx) (hh.mono (uW.out.trans hu).size)))).mono ?_
  rintro _ w1 ⟨ev, b, rfl, hc⟩
  have HL1 : Hid (Caught w (fun x x' => T x x' ev) ⟨#[]⟩ (.iface et ev) .nilIface b w1) := hc.join.lift uW.out (Up.refl _)
  clear hc z0 z1 HU
  go_wp2_with fail
  go_at_call 49
  refine (copied_none none 0 w1).mono ?_
  rintro _ w2 ⟨rfl, rfl⟩
  go_wp2
  go_ret2
  exact ⟨ev, b, rfl, HL1.out⟩

end Go.Proofs.YtmlfkjmondkfnaaDoor

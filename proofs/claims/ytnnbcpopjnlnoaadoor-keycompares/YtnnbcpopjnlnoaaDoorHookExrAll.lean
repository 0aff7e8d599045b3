/-
  What package hook's Extract answers, as its text runs: user code by its own contract.
  What package hook's calls answer where user code tells an error that is not known ahead.
-/
import Derived.Test.YtnnbcpopjnlnoaaDoorHookExt
import Derived.Test.YtnnbcpopjnlnoaaDoorHookExtE
namespace Go.Proofs.YtnnbcpopjnlnoaaDoor
open Go.ChangeShapes Go.WideShapes Go.ChangeAt Go.RowKit
set_option linter.unusedVariables false
attribute [local go_sem ↓] Go.wp_at_zero Go.wp_at_succ
attribute [local go_sem] run_store_float

theorem Caught.mid {w W w1 w2 : World} {S : World → World → Prop} {s : ByteArray} {err pan : Value} {b : Nat} (h : Caught W S s err pan b w1) (hw : Up w W) (hu : Chg (Mid w.heap.size W.heap.size) w1 w2) : Caught w S s err pan b w2 := by
  obtain ⟨x, x', h1, h2, h3, h4, h5⟩ := h.left
  have hb : ¬ Mid w.heap.size W.heap.size b := fun hm => by have := hm.2; have := h1.size; omega
  have hb1 : b < w1.heap.size := World.block_lt_of_cell? w1 ⟨b, 0, none⟩ h.at'.1
  exact ⟨⟨hu.cell h.at'.1 hb, hu.cell h.at'.2.1 hb, hu.cell h.at'.2.2 hb⟩, fun i => (hu.frozen (p := ⟨b, i, none⟩) hb1 hb).trans (h.free i), x, x', hw.trans h1, h2, h3, h4, Chg.trans (h5.mono (fun b _ hb => ⟨Nat.le_trans hw.size hb.1, hb.2⟩)) hu (fun b _ hb => ⟨hb.1, Nat.lt_of_lt_of_le hb.2 h1.size⟩)⟩

set_option maxRecDepth 20000 in
set_option maxHeartbeats 4000000 in
theorem ext_ok (s : ByteArray) (U : FuncId) (ucap : Array Value) (a : Option Addr) (n c : Nat) (m : List VT) (k z : Int) (t : ByteArray) (f : Nat) (C : Nat → Prop) (S : World → World → Prop) (w : World) (hs : s.size ≤ 281474976710656) (hT : TabE w) (hC : ∀ b, C b → b < w.heap.size) (hn : n ≤ 12) (hv : Vals w a n m) (hsh : ∀ i, (m.getD i zeroT).2.2.1.size ≤ 200) (hts : t.size ≤ 281474976710656) (hi : isB (k, z, t, f) = true)
    (hE : ∀ v w', (callFunc U (#[v] ++ ucap)).run Tryd.prog w' = .ok (.enter U (#[v] ++ ucap)) w')
    (hU : ∀ x a', Up w x → Handed w.heap.size x a' n m → Calls Tryd.prog U (#[.slice a' n n] ++ ucap) x fun e x' => e = .returned (.tuple #[.agg #[.int .i64 k, .int .i64 z, .string t, .float .f64 f], .nilIface]) ∧ Chg (fun b => C b ∨ RowB a' b) x x' ∧ TabE x' ∧ S x x') :
    Calls Tryd.prog 49 #[.string s, .func (.func U) #[] ucap, .slice a n c] w fun e w' => e = .returned (.tuple #[.agg #[.int .i64 k, .int .i64 z, .string t, .float .f64 f], .nilIface]) ∧ Left w S w' := by
  have hmf : ∀ (fn : Fn) (first cap : Array Value) (w : World), (Instr.makeFunc fn first cap).run Tryd.prog w = .ok (.func fn first cap) w := fun _ _ _ _ => rfl
  have HU := hide hU
  have HV := hide hv
  have HSH := hide hsh
  have HT := hide hT
  have HC := hide hC
  have HEE := hide hE
  clear hU hv hsh hT hC hE
  go_enter Tryd.func49, Tryd.ntmps49
  go_wp2_with fail
  obtain ⟨W, hW⟩ : ∃ W, W = ((w.alloc (.cells #[.func (.func U) #[] ucap] 70)).alloc (.cells #[.slice a n c] 25)).alloc (.cells #[.int .i64 0, .int .i64 0, .string ⟨#[]⟩, .float .f64 0] 49) := ⟨_, rfl⟩
  have uW : Hid (Up w W) := by rw [hW]; exact (((Up.refl _).alloc _).alloc _).alloc _
  have z0 : W.cell? ⟨w.heap.size, 0, none⟩ = some (.func (.func U) #[] ucap) := by rw [hW]; go_simp
  have z1 : W.cell? ⟨w.heap.size + 1, 0, none⟩ = some (.slice a n c) := by rw [hW]; go_simp
  have zb : Box W (w.heap.size + 1 + 1) (0, 0, ⟨#[]⟩, 0) := by rw [hW]; exact ⟨⟨by go_simp, by go_simp, by go_simp, by go_simp⟩, fun i => by go_simp⟩
  have hWs : W.heap.size = w.heap.size + 1 + 1 + 1 := by rw [hW]; simp
  rw [← hW]
  clear hW
  go_at_call 66
  refine (ansV_ok s 67 #[.pointer (some ⟨w.heap.size, 0, none⟩), .pointer (some ⟨w.heap.size + 1, 0, none⟩)] k z t f C (fun y y' => Chg C y y' ∧ Left y S y') W (fun b h => by have := HC.out b h; omega) (fun _ => by simp [go_sem]) (fun y hu => ((ext1_calls U ucap w.heap.size (w.heap.size + 1) a n c m k z t f .nilIface (.agg #[.int .i64 k, .int .i64 z, .string t, .float .f64 f]) .nilIface C S y (HT.out.up (uW.out.trans hu)) (fun b h => by have := HC.out b h; have := hu.size; omega) hn (HV.out.up (uW.out.trans hu)) HSH.out (hu.cell z0) (hu.cell z1) (.inl ⟨rfl, hi, rfl, rfl⟩) HEE.out (fun x a' hx hh => HU.out x a' ((uW.out.trans hu).trans hx) (hh.mono (uW.out.trans hu).size))).mono ?_))).mono ?_
  · rintro _ y' ⟨rfl, h1, h2, h3⟩
    exact ⟨rfl, h1, h2, h1, h3⟩
  rintro _ w1 ⟨rfl, hl⟩
  have HB : Hid (Box w1 (w.heap.size + 1 + 1) (0, 0, ⟨#[]⟩, 0)) := by
    obtain ⟨y, y', hy, ⟨hc, _⟩, hs1, hd⟩ := hl
    exact ((zb.up hy).chg hc (fun h => by have := HC.out _ h; omega)).chg hd (fun hm => by have := hm.1; omega)
  have HL : Hid (Left W S w1) := by
    refine Left.join ?_
    obtain ⟨y, y', hy, ⟨hc, h2⟩, hs1, hd⟩ := hl
    exact ⟨y, y', hy, h2, hs1, hd⟩
  clear hl z0 z1 zb HU
  have r0 : w1.cell? ⟨w.heap.size + 1 + 1, 0, none⟩ = some (.int .i64 0) := HB.out.1.1
  have r1 : w1.cell? ⟨w.heap.size + 1 + 1, 1, none⟩ = some (.int .i64 0) := HB.out.1.2.1
  have r2 : w1.cell? ⟨w.heap.size + 1 + 1, 2, none⟩ = some (.string ⟨#[]⟩) := HB.out.1.2.2.1
  have r3 : w1.cell? ⟨w.heap.size + 1 + 1, 3, none⟩ = some (.float .f64 0) := HB.out.1.2.2.2
  have hlt : w.heap.size + 1 + 1 < w1.heap.size := World.block_lt_of_cell? w1 _ r0
  have HBf := hide HB.out.2
  go_wp2_with fail
  go_at_call 54
  refine (clone_calls t _ hts).mono ?_
  rintro _ w2 ⟨rfl, hu2⟩
  have uA : Up w1 (w1.alloc (.cells #[.int .i64 k, .int .i64 z, .string t, .float .f64 f] 49)) := (Up.refl _).alloc _
  have v0 : w2.cell? ⟨w1.heap.size, 0, none⟩ = some (.int .i64 k) := hu2.cell (by go_simp)
  have v1 : w2.cell? ⟨w1.heap.size, 1, none⟩ = some (.int .i64 z) := hu2.cell (by go_simp)
  have v2 : w2.cell? ⟨w1.heap.size, 2, none⟩ = some (.string t) := hu2.cell (by go_simp)
  have v3 : w2.cell? ⟨w1.heap.size, 3, none⟩ = some (.float .f64 f) := hu2.cell (by go_simp)
  have vf : w2.frozen? ⟨w1.heap.size, 2, none⟩ = false := (hu2.frozen (p := ⟨w1.heap.size, 2, none⟩) (by simp)).trans (by go_simp)
  have U2 := hide (uA.trans hu2)
  replace r0 := U2.out.cell r0
  replace r1 := U2.out.cell r1
  replace r2 := U2.out.cell r2
  replace r3 := U2.out.cell r3
  have f0 := (U2.out.frozen (p := ⟨w.heap.size + 1 + 1, 0, none⟩) hlt).trans (HBf.out 0)
  have f1 := (U2.out.frozen (p := ⟨w.heap.size + 1 + 1, 1, none⟩) hlt).trans (HBf.out 1)
  have f2 := (U2.out.frozen (p := ⟨w.heap.size + 1 + 1, 2, none⟩) hlt).trans (HBf.out 2)
  have f3 := (U2.out.frozen (p := ⟨w.heap.size + 1 + 1, 3, none⟩) hlt).trans (HBf.out 3)
  have ne1 : ¬ w1.heap.size = w.heap.size + 1 + 1 := by omega
  have ne2 : ¬ w.heap.size + 1 + 1 = w1.heap.size := by omega
  clear hu2 uA HB HBf
  go_wp2_with fail
  refine bodyPost_ret (v := .tuple #[.agg #[.int .i64 k, .int .i64 z, .string t, .float .f64 f], .nilIface]) (by simp [results, Tryd.results49, go_sem, *]) rfl ?_
  have HG : Chg (Mid w.heap.size W.heap.size) w1 (((((w2.setCell ⟨w1.heap.size, 2, none⟩ (.string t)).setCell ⟨w.heap.size + 1 + 1, 0, none⟩ (.int .i64 k)).setCell ⟨w.heap.size + 1 + 1, 1, none⟩ (.int .i64 z)).setCell ⟨w.heap.size + 1 + 1, 2, none⟩ (.string t)).setCell ⟨w.heap.size + 1 + 1, 3, none⟩ (.float .f64 f)) :=
    Chg.trans ((Chg.of_up U2.out).set (p := ⟨w1.heap.size, 2, none⟩) (fun h => absurd h (Nat.lt_irrefl _)) _) (chg_set4 _ (w.heap.size + 1 + 1) _ _ _ _) (fun b _ hb => ⟨by omega, by omega⟩)
  exact ⟨rfl, HL.out.lift uW.out HG⟩

set_option maxRecDepth 20000 in
set_option maxHeartbeats 4000000 in
theorem ext_bad (s : ByteArray) (U : FuncId) (ucap : Array Value) (a : Option Addr) (n c : Nat) (m : List VT) (k z : Int) (t : ByteArray) (f : Nat) (C : Nat → Prop) (S : World → World → Prop) (w : World) (hs : s.size ≤ 281474976710656) (hT : TabE w) (hC : ∀ b, C b → b < w.heap.size) (hn : n ≤ 12) (hv : Vals w a n m) (hsh : ∀ i, (m.getD i zeroT).2.2.1.size ≤ 200) (hts : t.size ≤ 281474976710656) (hi : isB (k, z, t, f) = false)
    (hE : ∀ v w', (callFunc U (#[v] ++ ucap)).run Tryd.prog w' = .ok (.enter U (#[v] ++ ucap)) w')
    (hU : ∀ x a', Up w x → Handed w.heap.size x a' n m → Calls Tryd.prog U (#[.slice a' n n] ++ ucap) x fun e x' => e = .returned (.tuple #[.agg #[.int .i64 k, .int .i64 z, .string t, .float .f64 f], .nilIface]) ∧ Chg (fun b => C b ∨ RowB a' b) x x' ∧ TabE x' ∧ S x x') :
    Calls Tryd.prog 49 #[.string s, .func (.func U) #[] ucap, .slice a n c] w fun e w' => ∃ b, e = .returned (.tuple #[.agg #[.int .i64 0, .int .i64 0, .string ⟨#[]⟩, .float .f64 0], .iface 79 (.pointer (some ⟨b, 0, none⟩))]) ∧ Caught w S s (.iface 76 (.int .i64 10)) .nilIface b w' := by
  have hmf : ∀ (fn : Fn) (first cap : Array Value) (w : World), (Instr.makeFunc fn first cap).run Tryd.prog w = .ok (.func fn first cap) w := fun _ _ _ _ => rfl
  have HU := hide hU
  have HV := hide hv
  have HSH := hide hsh
  have HT := hide hT
  have HC := hide hC
  have HEE := hide hE
  clear hU hv hsh hT hC hE
  go_enter Tryd.func49, Tryd.ntmps49
  go_wp2_with fail
  obtain ⟨W, hW⟩ : ∃ W, W = ((w.alloc (.cells #[.func (.func U) #[] ucap] 70)).alloc (.cells #[.slice a n c] 25)).alloc (.cells #[.int .i64 0, .int .i64 0, .string ⟨#[]⟩, .float .f64 0] 49) := ⟨_, rfl⟩
  have uW : Hid (Up w W) := by rw [hW]; exact (((Up.refl _).alloc _).alloc _).alloc _
  have z0 : W.cell? ⟨w.heap.size, 0, none⟩ = some (.func (.func U) #[] ucap) := by rw [hW]; go_simp
  have z1 : W.cell? ⟨w.heap.size + 1, 0, none⟩ = some (.slice a n c) := by rw [hW]; go_simp
  have zb : Box W (w.heap.size + 1 + 1) (0, 0, ⟨#[]⟩, 0) := by rw [hW]; exact ⟨⟨by go_simp, by go_simp, by go_simp, by go_simp⟩, fun i => by go_simp⟩
  have hWs : W.heap.size = w.heap.size + 1 + 1 + 1 := by rw [hW]; simp
  rw [← hW]
  clear hW
  go_at_call 66
  refine (ansV_err s 67 #[.pointer (some ⟨w.heap.size, 0, none⟩), .pointer (some ⟨w.heap.size + 1, 0, none⟩)] 0 0 ⟨#[]⟩ 0 76 (.int .i64 10) C (fun y y' => Chg C y y' ∧ Left y S y') W hs (HT.out.up uW.out) (fun b h => by have := HC.out b h; omega) (fun _ => by simp [go_sem]) (fun y hu => ((ext1_calls U ucap w.heap.size (w.heap.size + 1) a n c m k z t f .nilIface (.agg #[.int .i64 0, .int .i64 0, .string ⟨#[]⟩, .float .f64 0]) (.iface 76 (.int .i64 10)) C S y (HT.out.up (uW.out.trans hu)) (fun b h => by have := HC.out b h; have := hu.size; omega) hn (HV.out.up (uW.out.trans hu)) HSH.out (hu.cell z0) (hu.cell z1) (.inr (.inl ⟨rfl, hi, rfl, rfl⟩)) HEE.out (fun x a' hx hh => HU.out x a' ((uW.out.trans hu).trans hx) (hh.mono (uW.out.trans hu).size))).mono ?_))).mono ?_
  · rintro _ y' ⟨rfl, h1, h2, h3⟩
    exact ⟨rfl, h1, h2, h1, h3⟩
  rintro _ w1 ⟨b, rfl, hl⟩
  have HB : Hid (Box w1 (w.heap.size + 1 + 1) (0, 0, ⟨#[]⟩, 0)) := by
    obtain ⟨y, y', hy, ⟨hc, _⟩, hs1, _, hd⟩ := hl.left
    exact ((zb.up hy).chg hc (fun h => by have := HC.out _ h; omega)).chg hd (fun hm => by have := hm.1; omega)
  have HL : Hid (Caught W S s (.iface 76 (.int .i64 10)) .nilIface b w1) := by
    refine Caught.join ?_
    obtain ⟨h1, h2, y, y', hy, ⟨hc, g2⟩, g3⟩ := hl
    exact ⟨h1, h2, y, y', hy, g2, g3⟩
  clear hl z0 z1 zb HU
  have r0 : w1.cell? ⟨w.heap.size + 1 + 1, 0, none⟩ = some (.int .i64 0) := HB.out.1.1
  have r1 : w1.cell? ⟨w.heap.size + 1 + 1, 1, none⟩ = some (.int .i64 0) := HB.out.1.2.1
  have r2 : w1.cell? ⟨w.heap.size + 1 + 1, 2, none⟩ = some (.string ⟨#[]⟩) := HB.out.1.2.2.1
  have r3 : w1.cell? ⟨w.heap.size + 1 + 1, 3, none⟩ = some (.float .f64 0) := HB.out.1.2.2.2
  have hlt : w.heap.size + 1 + 1 < w1.heap.size := World.block_lt_of_cell? w1 _ r0
  have HBf := hide HB.out.2
  go_wp2_with fail
  go_at_call 54
  refine (clone_calls ⟨#[]⟩ _ (by decide)).mono ?_
  rintro _ w2 ⟨rfl, hu2⟩
  have uA : Up w1 (w1.alloc (.cells #[.int .i64 0, .int .i64 0, .string ⟨#[]⟩, .float .f64 0] 49)) := (Up.refl _).alloc _
  have v0 : w2.cell? ⟨w1.heap.size, 0, none⟩ = some (.int .i64 0) := hu2.cell (by go_simp)
  have v1 : w2.cell? ⟨w1.heap.size, 1, none⟩ = some (.int .i64 0) := hu2.cell (by go_simp)
  have v2 : w2.cell? ⟨w1.heap.size, 2, none⟩ = some (.string ⟨#[]⟩) := hu2.cell (by go_simp)
  have v3 : w2.cell? ⟨w1.heap.size, 3, none⟩ = some (.float .f64 0) := hu2.cell (by go_simp)
  have vf : w2.frozen? ⟨w1.heap.size, 2, none⟩ = false := (hu2.frozen (p := ⟨w1.heap.size, 2, none⟩) (by simp)).trans (by go_simp)
  have U2 := hide (uA.trans hu2)
  replace r0 := U2.out.cell r0
  replace r1 := U2.out.cell r1
  replace r2 := U2.out.cell r2
  replace r3 := U2.out.cell r3
  have f0 := (U2.out.frozen (p := ⟨w.heap.size + 1 + 1, 0, none⟩) hlt).trans (HBf.out 0)
  have f1 := (U2.out.frozen (p := ⟨w.heap.size + 1 + 1, 1, none⟩) hlt).trans (HBf.out 1)
  have f2 := (U2.out.frozen (p := ⟨w.heap.size + 1 + 1, 2, none⟩) hlt).trans (HBf.out 2)
  have f3 := (U2.out.frozen (p := ⟨w.heap.size + 1 + 1, 3, none⟩) hlt).trans (HBf.out 3)
  have ne1 : ¬ w1.heap.size = w.heap.size + 1 + 1 := by omega
  have ne2 : ¬ w.heap.size + 1 + 1 = w1.heap.size := by omega
  clear hu2 uA HB HBf
  go_wp2_with fail
  refine bodyPost_ret (v := .tuple #[.agg #[.int .i64 0, .int .i64 0, .string ⟨#[]⟩, .float .f64 0], .iface 79 (.pointer (some ⟨b, 0, none⟩))]) (by simp [results, Tryd.results49, go_sem, *]) rfl ?_
  have HG : Chg (Mid w.heap.size W.heap.size) w1 (((((w2.setCell ⟨w1.heap.size, 2, none⟩ (.string ⟨#[]⟩)).setCell ⟨w.heap.size + 1 + 1, 0, none⟩ (.int .i64 0)).setCell ⟨w.heap.size + 1 + 1, 1, none⟩ (.int .i64 0)).setCell ⟨w.heap.size + 1 + 1, 2, none⟩ (.string ⟨#[]⟩)).setCell ⟨w.heap.size + 1 + 1, 3, none⟩ (.float .f64 0)) :=
    Chg.trans ((Chg.of_up U2.out).set (p := ⟨w1.heap.size, 2, none⟩) (fun h => absurd h (Nat.lt_irrefl _)) _) (chg_set4 _ (w.heap.size + 1 + 1) _ _ _ _) (fun b _ hb => ⟨by omega, by omega⟩)
  exact ⟨b, rfl, HL.out.mid uW.out HG⟩

set_option maxRecDepth 20000 in
set_option maxHeartbeats 4000000 in
theorem ext_err (s : ByteArray) (U : FuncId) (ucap : Array Value) (a : Option Addr) (n c : Nat) (m : List VT) (k z : Int) (t : ByteArray) (f : Nat) (et : TypeId) (ev : Value) (C : Nat → Prop) (S : World → World → Prop) (w : World) (hs : s.size ≤ 281474976710656) (hT : TabE w) (hC : ∀ b, C b → b < w.heap.size) (hn : n ≤ 12) (hv : Vals w a n m) (hsh : ∀ i, (m.getD i zeroT).2.2.1.size ≤ 200) (hts : t.size ≤ 281474976710656)
    (hE : ∀ v w', (callFunc U (#[v] ++ ucap)).run Tryd.prog w' = .ok (.enter U (#[v] ++ ucap)) w')
    (hU : ∀ x a', Up w x → Handed w.heap.size x a' n m → Calls Tryd.prog U (#[.slice a' n n] ++ ucap) x fun e x' => e = .returned (.tuple #[.agg #[.int .i64 k, .int .i64 z, .string t, .float .f64 f], .iface et ev]) ∧ Chg (fun b => C b ∨ RowB a' b) x x' ∧ TabE x' ∧ S x x') :
    Calls Tryd.prog 49 #[.string s, .func (.func U) #[] ucap, .slice a n c] w fun e w' => ∃ b, e = .returned (.tuple #[.agg #[.int .i64 0, .int .i64 0, .string ⟨#[]⟩, .float .f64 0], .iface 79 (.pointer (some ⟨b, 0, none⟩))]) ∧ Caught w S s (.iface et ev) .nilIface b w' := by
  have hmf : ∀ (fn : Fn) (first cap : Array Value) (w : World), (Instr.makeFunc fn first cap).run Tryd.prog w = .ok (.func fn first cap) w := fun _ _ _ _ => rfl
  have HU := hide hU
  have HV := hide hv
  have HSH := hide hsh
  have HT := hide hT
  have HC := hide hC
  have HEE := hide hE
  clear hU hv hsh hT hC hE
  go_enter Tryd.func49, Tryd.ntmps49
  go_wp2_with fail
  obtain ⟨W, hW⟩ : ∃ W, W = ((w.alloc (.cells #[.func (.func U) #[] ucap] 70)).alloc (.cells #[.slice a n c] 25)).alloc (.cells #[.int .i64 0, .int .i64 0, .string ⟨#[]⟩, .float .f64 0] 49) := ⟨_, rfl⟩
  have uW : Hid (Up w W) := by rw [hW]; exact (((Up.refl _).alloc _).alloc _).alloc _
  have z0 : W.cell? ⟨w.heap.size, 0, none⟩ = some (.func (.func U) #[] ucap) := by rw [hW]; go_simp
  have z1 : W.cell? ⟨w.heap.size + 1, 0, none⟩ = some (.slice a n c) := by rw [hW]; go_simp
  have zb : Box W (w.heap.size + 1 + 1) (0, 0, ⟨#[]⟩, 0) := by rw [hW]; exact ⟨⟨by go_simp, by go_simp, by go_simp, by go_simp⟩, fun i => by go_simp⟩
  have hWs : W.heap.size = w.heap.size + 1 + 1 + 1 := by rw [hW]; simp
  rw [← hW]
  clear hW
  go_at_call 66
  refine (ansV_err s 67 #[.pointer (some ⟨w.heap.size, 0, none⟩), .pointer (some ⟨w.heap.size + 1, 0, none⟩)] k z t f et ev C (fun y y' => Chg C y y' ∧ Left y S y') W hs (HT.out.up uW.out) (fun b h => by have := HC.out b h; omega) (fun _ => by simp [go_sem]) (fun y hu => ((ext1_calls U ucap w.heap.size (w.heap.size + 1) a n c m k z t f (.iface et ev) (.agg #[.int .i64 k, .int .i64 z, .string t, .float .f64 f]) (.iface et ev) C S y (HT.out.up (uW.out.trans hu)) (fun b h => by have := HC.out b h; have := hu.size; omega) hn (HV.out.up (uW.out.trans hu)) HSH.out (hu.cell z0) (hu.cell z1) (.inr (.inr ⟨et, ev, rfl, rfl, rfl⟩)) HEE.out (fun x a' hx hh => HU.out x a' ((uW.out.trans hu).trans hx) (hh.mono (uW.out.trans hu).size))).mono ?_))).mono ?_
  · rintro _ y' ⟨rfl, h1, h2, h3⟩
    exact ⟨rfl, h1, h2, h1, h3⟩
  rintro _ w1 ⟨b, rfl, hl⟩
  have HB : Hid (Box w1 (w.heap.size + 1 + 1) (0, 0, ⟨#[]⟩, 0)) := by
    obtain ⟨y, y', hy, ⟨hc, _⟩, hs1, _, hd⟩ := hl.left
    exact ((zb.up hy).chg hc (fun h => by have := HC.out _ h; omega)).chg hd (fun hm => by have := hm.1; omega)
  have HL : Hid (Caught W S s (.iface et ev) .nilIface b w1) := by
    refine Caught.join ?_
    obtain ⟨h1, h2, y, y', hy, ⟨hc, g2⟩, g3⟩ := hl
    exact ⟨h1, h2, y, y', hy, g2, g3⟩
  clear hl z0 z1 zb HU
  have r0 : w1.cell? ⟨w.heap.size + 1 + 1, 0, none⟩ = some (.int .i64 0) := HB.out.1.1
  have r1 : w1.cell? ⟨w.heap.size + 1 + 1, 1, none⟩ = some (.int .i64 0) := HB.out.1.2.1
  have r2 : w1.cell? ⟨w.heap.size + 1 + 1, 2, none⟩ = some (.string ⟨#[]⟩) := HB.out.1.2.2.1
  have r3 : w1.cell? ⟨w.heap.size + 1 + 1, 3, none⟩ = some (.float .f64 0) := HB.out.1.2.2.2
  have hlt : w.heap.size + 1 + 1 < w1.heap.size := World.block_lt_of_cell? w1 _ r0
  have HBf := hide HB.out.2
  go_wp2_with fail
  go_at_call 54
  refine (clone_calls ⟨#[]⟩ _ (by decide)).mono ?_
  rintro _ w2 ⟨rfl, hu2⟩
  have uA : Up w1 (w1.alloc (.cells #[.int .i64 0, .int .i64 0, .string ⟨#[]⟩, .float .f64 0] 49)) := (Up.refl _).alloc _
  have v0 : w2.cell? ⟨w1.heap.size, 0, none⟩ = some (.int .i64 0) := hu2.cell (by go_simp)
  have v1 : w2.cell? ⟨w1.heap.size, 1, none⟩ = some (.int .i64 0) := hu2.cell (by go_simp)
  have v2 : w2.cell? ⟨w1.heap.size, 2, none⟩ = some (.string ⟨#[]⟩) := hu2.cell (by go_simp)
  have v3 : w2.cell? ⟨w1.heap.size, 3, none⟩ = some (.float .f64 0) := hu2.cell (by go_simp)
  have vf : w2.frozen? ⟨w1.heap.size, 2, none⟩ = false := (hu2.frozen (p := ⟨w1.heap.size, 2, none⟩) (by simp)).trans (by go_simp)
  have U2 := hide (uA.trans hu2)
  replace r0 := U2.out.cell r0
  replace r1 := U2.out.cell r1
  replace r2 := U2.out.cell r2
  replace r3 := U2.out.cell r3
  have f0 := (U2.out.frozen (p := ⟨w.heap.size + 1 + 1, 0, none⟩) hlt).trans (HBf.out 0)
  have f1 := (U2.out.frozen (p := ⟨w.heap.size + 1 + 1, 1, none⟩) hlt).trans (HBf.out 1)
  have f2 := (U2.out.frozen (p := ⟨w.heap.size + 1 + 1, 2, none⟩) hlt).trans (HBf.out 2)
  have f3 := (U2.out.frozen (p := ⟨w.heap.size + 1 + 1, 3, none⟩) hlt).trans (HBf.out 3)
  have ne1 : ¬ w1.heap.size = w.heap.size + 1 + 1 := by omega
  have ne2 : ¬ w.heap.size + 1 + 1 = w1.heap.size := by omega
  clear hu2 uA HB HBf
  go_wp2_with fail
  refine bodyPost_ret (v := .tuple #[.agg #[.int .i64 0, .int .i64 0, .string ⟨#[]⟩, .float .f64 0], .iface 79 (.pointer (some ⟨b, 0, none⟩))]) (by simp [results, Tryd.results49, go_sem, *]) rfl ?_
  have HG : Chg (Mid w.heap.size W.heap.size) w1 (((((w2.setCell ⟨w1.heap.size, 2, none⟩ (.string ⟨#[]⟩)).setCell ⟨w.heap.size + 1 + 1, 0, none⟩ (.int .i64 0)).setCell ⟨w.heap.size + 1 + 1, 1, none⟩ (.int .i64 0)).setCell ⟨w.heap.size + 1 + 1, 2, none⟩ (.string ⟨#[]⟩)).setCell ⟨w.heap.size + 1 + 1, 3, none⟩ (.float .f64 0)) :=
    Chg.trans ((Chg.of_up U2.out).set (p := ⟨w1.heap.size, 2, none⟩) (fun h => absurd h (Nat.lt_irrefl _)) _) (chg_set4 _ (w.heap.size + 1 + 1) _ _ _ _) (fun b _ hb => ⟨by omega, by omega⟩)
  exact ⟨b, rfl, HL.out.mid uW.out HG⟩

end Go.Proofs.YtnnbcpopjnlnoaaDoor

namespace Go.Proofs.YtnnbcpopjnlnoaaDoor
open Go.ChangeShapes Go.WideShapes Go.ChangeAt Go.RowKit
set_option linter.unusedVariables false
attribute [local go_sem ↓] Go.wp_at_zero Go.wp_at_succ
attribute [local go_sem] run_store_float

set_option maxRecDepth 20000 in
set_option maxHeartbeats 4000000 in
theorem ext_errV (s : ByteArray) (U : FuncId) (ucap : Array Value) (a : Option Addr) (n c : Nat) (m : List VT) (k z : Int) (t : ByteArray) (f : Nat) (et : TypeId) (C : Nat → Prop) (S : World → World → Value → Prop) (w : World) (hs : s.size ≤ 281474976710656) (hT : TabE w) (hC : ∀ b, C b → b < w.heap.size) (hn : n ≤ 12) (hv : Vals w a n m) (hsh : ∀ i, (m.getD i zeroT).2.2.1.size ≤ 200) (hts : t.size ≤ 281474976710656)
    (hE : ∀ v w', (callFunc U (#[v] ++ ucap)).run Tryd.prog w' = .ok (.enter U (#[v] ++ ucap)) w')
    (hU : ∀ x a', Up w x → Handed w.heap.size x a' n m → Calls Tryd.prog U (#[.slice a' n n] ++ ucap) x fun e x' => ∃ ev, e = .returned (.tuple #[.agg #[.int .i64 k, .int .i64 z, .string t, .float .f64 f], .iface et ev]) ∧ Chg (fun b => C b ∨ RowB a' b) x x' ∧ TabE x' ∧ S x x' ev) :
    Calls Tryd.prog 49 #[.string s, .func (.func U) #[] ucap, .slice a n c] w fun e w' => ∃ ev b, e = .returned (.tuple #[.agg #[.int .i64 0, .int .i64 0, .string ⟨#[]⟩, .float .f64 0], .iface 79 (.pointer (some ⟨b, 0, none⟩))]) ∧ Caught w (fun x x' => S x x' ev) s (.iface et ev) .nilIface b w' := by
  have hmf : ∀ (fn : Fn) (first cap : Array Value) (w : World), (Instr.makeFunc fn first cap).run Tryd.prog w = .ok (.func fn first cap) w := fun _ _ _ _ => rfl
  have HU := hide hU
  have HV := hide hv
  have HSH := hide hsh
  have HT := hide hT
  have HC := hide hC
  have HEE := hide hE
  clear hU hv hsh hT hC hE
  go_enter Tryd.func49, Tryd.ntmps49
  go_wp2_with fail
  obtain ⟨W, hW⟩ : ∃ W, W = ((w.alloc (.cells #[.func (.func U) #[] ucap] 70)).alloc (.cells #[.slice a n c] 25)).alloc (.cells #[.int .i64 0, .int .i64 0, .string ⟨#[]⟩, .float .f64 0] 49) := ⟨_, rfl⟩
  have uW : Hid (Up w W) := by rw [hW]; exact (((Up.refl _).alloc _).alloc _).alloc _
  have z0 : W.cell? ⟨w.heap.size, 0, none⟩ = some (.func (.func U) #[] ucap) := by rw [hW]; go_simp
  have z1 : W.cell? ⟨w.heap.size + 1, 0, none⟩ = some (.slice a n c) := by rw [hW]; go_simp
  have zb : Box W (w.heap.size + 1 + 1) (0, 0, ⟨#[]⟩, 0) := by rw [hW]; exact ⟨⟨by go_simp, by go_simp, by go_simp, by go_simp⟩, fun i => by go_simp⟩
  have hWs : W.heap.size = w.heap.size + 1 + 1 + 1 := by rw [hW]; simp
  rw [← hW]
  clear hW
  go_at_call 66
  refine (ansV_errV s 67 #[.pointer (some ⟨w.heap.size, 0, none⟩), .pointer (some ⟨w.heap.size + 1, 0, none⟩)] k z t f et C (fun y y' ev => Chg C y y' ∧ Left y (fun x x' => S x x' ev) y') W hs (HT.out.up uW.out) (fun b h => by have := HC.out b h; omega) (fun _ => by simp [go_sem]) (fun y hu => ((ext1_errV U ucap w.heap.size (w.heap.size + 1) a n c m k z t f et C S y (HT.out.up (uW.out.trans hu)) (fun b h => by have := HC.out b h; have := hu.size; omega) hn (HV.out.up (uW.out.trans hu)) HSH.out (hu.cell z0) (hu.cell z1) HEE.out (fun x a' hx hh => HU.out x a' ((uW.out.trans hu).trans hx) (hh.mono (uW.out.trans hu).size))).mono ?_))).mono ?_
  · rintro _ y' ⟨ev, rfl, h1, h2, h3⟩
    exact ⟨ev, rfl, h1, h2, h1, h3⟩
  rintro _ w1 ⟨ev, b, rfl, hl⟩
  have HB : Hid (Box w1 (w.heap.size + 1 + 1) (0, 0, ⟨#[]⟩, 0)) := by
    obtain ⟨y, y', hy, ⟨hc, _⟩, hs1, _, hd⟩ := hl.left
    exact ((zb.up hy).chg hc (fun h => by have := HC.out _ h; omega)).chg hd (fun hm => by have := hm.1; omega)
  have HL : Hid (Caught W (fun x x' => S x x' ev) s (.iface et ev) .nilIface b w1) := by
    refine Caught.join ?_
    obtain ⟨h1, h2, y, y', hy, ⟨hc, g2⟩, g3⟩ := hl
    exact ⟨h1, h2, y, y', hy, g2, g3⟩
  clear hl z0 z1 zb HU
  have r0 : w1.cell? ⟨w.heap.size + 1 + 1, 0, none⟩ = some (.int .i64 0) := HB.out.1.1
  have r1 : w1.cell? ⟨w.heap.size + 1 + 1, 1, none⟩ = some (.int .i64 0) := HB.out.1.2.1
  have r2 : w1.cell? ⟨w.heap.size + 1 + 1, 2, none⟩ = some (.string ⟨#[]⟩) := HB.out.1.2.2.1
  have r3 : w1.cell? ⟨w.heap.size + 1 + 1, 3, none⟩ = some (.float .f64 0) := HB.out.1.2.2.2
  have hlt : w.heap.size + 1 + 1 < w1.heap.size := World.block_lt_of_cell? w1 _ r0
  have HBf := hide HB.out.2
  go_wp2_with fail
  go_at_call 54
  refine (clone_calls ⟨#[]⟩ _ (by decide)).mono ?_
  rintro _ w2 ⟨rfl, hu2⟩
  have uA : Up w1 (w1.alloc (.cells #[.int .i64 0, .int .i64 0, .string ⟨#[]⟩, .float .f64 0] 49)) := (Up.refl _).alloc _
  have v0 : w2.cell? ⟨w1.heap.size, 0, none⟩ = some (.int .i64 0) := hu2.cell (by go_simp)
  have v1 : w2.cell? ⟨w1.heap.size, 1, none⟩ = some (.int .i64 0) := hu2.cell (by go_simp)
  have v2 : w2.cell? ⟨w1.heap.size, 2, none⟩ = some (.string ⟨#[]⟩) := hu2.cell (by go_simp)
  have v3 : w2.cell? ⟨w1.heap.size, 3, none⟩ = some (.float .f64 0) := hu2.cell (by go_simp)
  have vf : w2.frozen? ⟨w1.heap.size, 2, none⟩ = false := (hu2.frozen (p := ⟨w1.heap.size, 2, none⟩) (by simp)).trans (by go_simp)
  have U2 := hide (uA.trans hu2)
  replace r0 := U2.out.cell r0
  replace r1 := U2.out.cell r1
  replace r2 := U2.out.cell r2
  replace r3 := U2.out.cell r3
  have f0 := (U2.out.frozen (p := ⟨w.heap.size + 1 + 1, 0, none⟩) hlt).trans (HBf.out 0)
  have f1 := (U2.out.frozen (p := ⟨w.heap.size + 1 + 1, 1, none⟩) hlt).trans (HBf.out 1)
  have f2 := (U2.out.frozen (p := ⟨w.heap.size + 1 + 1, 2, none⟩) hlt).trans (HBf.out 2)
  have f3 := (U2.out.frozen (p := ⟨w.heap.size + 1 + 1, 3, none⟩) hlt).trans (HBf.out 3)
  have ne1 : ¬ w1.heap.size = w.heap.size + 1 + 1 := by omega
  have ne2 : ¬ w.heap.size + 1 + 1 = w1.heap.size := by omega
  clear hu2 uA HB HBf
  go_wp2_with fail
  refine bodyPost_ret (v := .tuple #[.agg #[.int .i64 0, .int .i64 0, .string ⟨#[]⟩, .float .f64 0], .iface 79 (.pointer (some ⟨b, 0, none⟩))]) (by simp [results, Tryd.results49, go_sem, *]) rfl ?_
  have HG : Chg (Mid w.heap.size W.heap.size) w1 (((((w2.setCell ⟨w1.heap.size, 2, none⟩ (.string ⟨#[]⟩)).setCell ⟨w.heap.size + 1 + 1, 0, none⟩ (.int .i64 0)).setCell ⟨w.heap.size + 1 + 1, 1, none⟩ (.int .i64 0)).setCell ⟨w.heap.size + 1 + 1, 2, none⟩ (.string ⟨#[]⟩)).setCell ⟨w.heap.size + 1 + 1, 3, none⟩ (.float .f64 0)) :=
    Chg.trans ((Chg.of_up U2.out).set (p := ⟨w1.heap.size, 2, none⟩) (fun h => absurd h (Nat.lt_irrefl _)) _) (chg_set4 _ (w.heap.size + 1 + 1) _ _ _ _) (fun b _ hb => ⟨by omega, by omega⟩)
  exact ⟨ev, b, rfl, HL.out.mid uW.out HG⟩

end Go.Proofs.YtnnbcpopjnlnoaaDoor

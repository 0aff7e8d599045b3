/-
  What package hook's Mutate answers, as its text runs: user code by its own contract.
  What the user code of HookValues does, and HookValues walked, as their texts run.
-/
import Derived.Test.YtmlfkjmondkfnaaDoorHookExt0
import Derived.Test.YtmlfkjmondkfnaaDoorHookKnown
import Derived.Test.YtmlfkjmondkfnaaDoorHookExtr
import Derived.Test.YtmlfkjmondkfnaaDoorValHelp
import Derived.Test.YtmlfkjmondkfnaaDoorNewVals
import Derived.Test.YtmlfkjmondkfnaaDoorCodeApp
namespace Go.Proofs.YtmlfkjmondkfnaaDoor
open Go.ChangeShapes Go.WideShapes Go.ChangeAt Go.RowKit
set_option linter.unusedVariables false
attribute [local go_sem ↓] Go.wp_at_zero Go.wp_at_succ
attribute [local go_sem] run_store_float

theorem copied_none (a : Option Addr) (c : Nat) (w : World) : Calls Tryd.prog 49 #[.slice a 0 c] w fun e w' => e = .returned (.slice none 0 0) ∧ w' = w := by
  go_enter Tryd.func49, Tryd.ntmps49
  go_wp2
  go_ret
  exact ⟨rfl, rfl⟩

set_option maxRecDepth 20000 in
set_option maxHeartbeats 4000000 in
theorem mut1_calls (U : FuncId) (ucap : Array Value) (fb vb : Nat) (a : Option Addr) (n c : Nat) (m : List VT) (R : Value → Prop) (ev : Value) (C : Nat → Prop) (S : World → World → Value → Prop) (y : World) (hT : TabE y) (hC : ∀ b, C b → b < y.heap.size) (hn : n ≤ 12) (hv : Vals y a n m) (hsh : ∀ i, (m.getD i zeroT).2.2.1.size ≤ 200)
    (k0 : y.cell? ⟨fb, 0, none⟩ = some (.func (.func U) #[] ucap)) (k1 : y.cell? ⟨vb, 0, none⟩ = some (.slice a n c))
    (hE : ∀ v w', (callFunc U (#[v] ++ ucap)).run Tryd.prog w' = .ok (.enter U (#[v] ++ ucap)) w')
    (hU : ∀ x a', Up y x → Handed y.heap.size x a' n m → Calls Tryd.prog U (#[.slice a' n n] ++ ucap) x fun e x' => ∃ r, R r ∧ e = .returned (.tuple #[r, ev]) ∧ Chg (fun b => C b ∨ RowB a' b) x x' ∧ TabE x' ∧ S x x' r) :
    Calls Tryd.prog 58 #[.pointer (some ⟨fb, 0, none⟩), .pointer (some ⟨vb, 0, none⟩)] y fun e y' => ∃ r, R r ∧ e = .returned (.tuple #[r, ev]) ∧ Chg C y y' ∧ TabE y' ∧ Left y (fun x x' => S x x' r) y' := by
  have n1 := run_eql_fn Tryd.underlying73
  have hfb : fb < y.heap.size := World.block_lt_of_cell? y _ k0
  have hvb : vb < y.heap.size := World.block_lt_of_cell? y _ k1
  have HU := hide hU
  have HV := hide hv
  have HSH := hide hsh
  have HT := hide hT
  have HC := hide hC
  clear hU hv hsh hT hC
  go_enter Tryd.func58, Tryd.ntmps58
  go_wp2_with fail
  have HY := hide (HV.out.up ((Up.refl y).drew))
  have uD : Hid (Up y y.drew) := (Up.refl y).drew
  go_region_law (first
    | (go_simp; go_at_call 49; refine (copied_calls a n c m _ hn HY.out HSH.out).mono ?_; rintro _ x1 ⟨a', rfl, hr, hu1⟩;
       have U1 : Hid (Up y.drew x1) := hu1; have q0 := U1.out.cell (p := ⟨fb, 0, none⟩) (v := .func (.func U) #[] ucap) k0;
       have HR : Hid (Handed y.heap.size x1 a' n m) := hr; clear hr hu1; dsimp only)
    | (go_simp; refine (HU.out x1 a' (uD.out.trans U1.out) HR.out).mono ?_; rintro _ x2 ⟨r, hR, rfl, hc2, ht2, hS2⟩;
       have HT2 := hide ht2; have HRr := hide hR;
       have HL2 : Hid (Left y (fun x x' => S x x' r) x2) := ⟨x1, x2, uD.out.trans U1.out, hS2, hc2.size, Chg.refl _ _⟩;
       have HC2 : Hid (Chg C y x2) := Chg.trans (Chg.of_up (uD.out.trans U1.out)) hc2 (fun b hb h => h.resolve_right (HR.out.not (.inl hb)));
       clear hc2 hS2 ht2 hR; dsimp only))
  all_goals (
    go_wp2_with fail
    go_ret2
    exact ⟨r, HRr.out, rfl, HC2.out, HT2.out, HL2.out⟩)

set_option maxRecDepth 20000 in
set_option maxHeartbeats 4000000 in
theorem mut_ok (U : FuncId) (ucap : Array Value) (a : Option Addr) (n c : Nat) (m rm : List VT) (C : Nat → Prop) (T : World → World → Prop) (w : World) (hT : TabE w) (hC : ∀ b, C b → b < w.heap.size) (hn : n ≤ 12) (hv : Vals w a n m) (hsh : ∀ i, (m.getD i zeroT).2.2.1.size ≤ 200) (hrn : rm.length ≤ 12) (hrs : ∀ i, (rm.getD i zeroT).2.2.1.size ≤ 200)
    (hE : ∀ v w', (callFunc U (#[v] ++ ucap)).run Tryd.prog w' = .ok (.enter U (#[v] ++ ucap)) w')
    (hU : ∀ x a', Up w x → Handed w.heap.size x a' n m → Calls Tryd.prog U (#[.slice a' n n] ++ ucap) x fun e x' => ∃ ra rc, e = .returned (.tuple #[.slice ra rm.length rc, .nilIface]) ∧ Vals x' ra rm.length rm ∧ (∀ b, RowB ra b → b < w.heap.size ∨ x.heap.size ≤ b) ∧ Chg (fun b => C b ∨ RowB a' b) x x' ∧ TabE x' ∧ T x x') :
    Calls Tryd.prog 25 #[.func (.func U) #[] ucap, .slice a n c] w fun e w' => ∃ a2, e = .returned (.tuple #[.slice a2 rm.length rm.length, .nilIface]) ∧ Handed w.heap.size w' a2 rm.length rm ∧ Left w T w' := by
  have hmf : ∀ (fn : Fn) (first cap : Array Value) (w : World), (Instr.makeFunc fn first cap).run Tryd.prog w = .ok (.func fn first cap) w := fun _ _ _ _ => rfl
  have HU := hide hU
  have HV := hide hv
  have HSH := hide hsh
  have HT := hide hT
  have HC := hide hC
  have HEE := hide hE
  clear hU hv hsh hT hC hE
  go_enter Tryd.func25, Tryd.ntmps25
  go_wp2_with fail
  obtain ⟨W, hW⟩ : ∃ W, W = (w.alloc (.cells #[.func (.func U) #[] ucap] 73)).alloc (.cells #[.slice a n c] 44) := ⟨_, rfl⟩
  have uW : Hid (Up w W) := by rw [hW]; exact ((Up.refl _).alloc _).alloc _
  have z0 : W.cell? ⟨w.heap.size, 0, none⟩ = some (.func (.func U) #[] ucap) := by rw [hW]; go_simp
  have z1 : W.cell? ⟨w.heap.size + 1, 0, none⟩ = some (.slice a n c) := by rw [hW]; go_simp
  have hWs : W.heap.size = w.heap.size + 1 + 1 := by rw [hW]; simp
  rw [← hW]
  clear hW
  go_at_call 57
  refine (ansL_ok _ 58 #[.pointer (some ⟨w.heap.size, 0, none⟩), .pointer (some ⟨w.heap.size + 1, 0, none⟩)] C (fun y y' r => Left y (fun x x' => ∃ ra rc, r = .slice ra rm.length rc ∧ Vals x' ra rm.length rm ∧ (∀ b, RowB ra b → b < w.heap.size ∨ x.heap.size ≤ b) ∧ T x x') y') W (fun b h => by have := HC.out b h; omega) (fun _ => by simp [go_sem]) (fun y hu => (mut1_calls U ucap w.heap.size (w.heap.size + 1) a n c m (fun r => ∃ ra rn rc, r = .slice ra rn rc) .nilIface C (fun x x' r => ∃ ra rc, r = .slice ra rm.length rc ∧ Vals x' ra rm.length rm ∧ (∀ b, RowB ra b → b < w.heap.size ∨ x.heap.size ≤ b) ∧ T x x') y (HT.out.up (uW.out.trans hu)) (fun b h => by have := HC.out b h; have := hu.size; omega) hn (HV.out.up (uW.out.trans hu)) HSH.out (hu.cell z0) (hu.cell z1) HEE.out (fun x a' hx hh => (HU.out x a' ((uW.out.trans hu).trans hx) (hh.mono (uW.out.trans hu).size)).mono ?_)).mono ?_)).mono ?_
  · rintro _ x' ⟨ra, rc, rfl, h1, h2, h3, h4, h5⟩
    exact ⟨_, ⟨ra, _, rc, rfl⟩, rfl, h3, h4, ra, rc, rfl, h1, h2, h5⟩
  · rintro _ y' ⟨_, ⟨ra, rn, rc, rfl⟩, rfl, h1, h2, h3⟩
    exact ⟨ra, rn, rc, rfl, h1, h2, h3⟩
  rintro _ w1 ⟨ra, rn, rc, rfl, hl⟩
  obtain ⟨x, x', hx, ⟨ra', rc', he, hv1, hb1, hT1⟩, hs, hd⟩ := hl.join
  cases he
  have HV1 : Hid (Vals w1 ra rm.length rm) := hv1.chg hd (fun b hb hm => (hb1 b hb).elim (fun h => by have := hm.1; omega) (fun h => by have := hm.2; omega))
  have HL1 : Hid (Left w T w1) := ⟨x, x', uW.out.trans hx, hT1, hs, hd.mono (fun b _ hb => ⟨by have := hb.1; omega, hb.2⟩)⟩
  have hsz : Hid (w.heap.size ≤ w1.heap.size) := by have h1 := hd.size; have h2 := hx.size; show _ ≤ _; omega
  clear hl hx hv1 hb1 hT1 hs hd z0 z1 HU
  go_wp2_with fail
  go_at_call 49
  refine (copied_calls ra rm.length rc rm w1 hrn HV1.out hrs).mono ?_
  rintro _ w2 ⟨a2, rfl, hh, hu2⟩
  have HH := hide hh
  have HU2 := hide hu2
  clear hh hu2
  go_wp2
  go_ret2
  exact ⟨a2, rfl, HH.out.mono hsz.out, HL1.out.lift (Up.refl w) (Chg.of_up HU2.out)⟩

set_option maxRecDepth 20000 in
set_option maxHeartbeats 4000000 in
theorem mut_err (U : FuncId) (ucap : Array Value) (a : Option Addr) (n c : Nat) (m : List VT) (et : TypeId) (ev : Value) (C : Nat → Prop) (T : World → World → Prop) (w : World) (hT : TabE w) (hC : ∀ b, C b → b < w.heap.size) (hn : n ≤ 12) (hv : Vals w a n m) (hsh : ∀ i, (m.getD i zeroT).2.2.1.size ≤ 200)
    (hE : ∀ v w', (callFunc U (#[v] ++ ucap)).run Tryd.prog w' = .ok (.enter U (#[v] ++ ucap)) w')
    (hU : ∀ x a', Up w x → Handed w.heap.size x a' n m → Calls Tryd.prog U (#[.slice a' n n] ++ ucap) x fun e x' => e = .returned (.tuple #[.slice none 0 0, .iface et ev]) ∧ Chg (fun b => C b ∨ RowB a' b) x x' ∧ TabE x' ∧ T x x') :
    Calls Tryd.prog 25 #[.func (.func U) #[] ucap, .slice a n c] w fun e w' => ∃ b, e = .returned (.tuple #[.slice none 0 0, .iface 33 (.pointer (some ⟨b, 0, none⟩))]) ∧ Caught w T ⟨#[]⟩ (.iface et ev) .nilIface b w' := by
  have hmf : ∀ (fn : Fn) (first cap : Array Value) (w : World), (Instr.makeFunc fn first cap).run Tryd.prog w = .ok (.func fn first cap) w := fun _ _ _ _ => rfl
  have HU := hide hU
  have HV := hide hv
  have HSH := hide hsh
  have HT := hide hT
  have HC := hide hC
  have HEE := hide hE
  clear hU hv hsh hT hC hE
  go_enter Tryd.func25, Tryd.ntmps25
  go_wp2_with fail
  obtain ⟨W, hW⟩ : ∃ W, W = (w.alloc (.cells #[.func (.func U) #[] ucap] 73)).alloc (.cells #[.slice a n c] 44) := ⟨_, rfl⟩
  have uW : Hid (Up w W) := by rw [hW]; exact ((Up.refl _).alloc _).alloc _
  have z0 : W.cell? ⟨w.heap.size, 0, none⟩ = some (.func (.func U) #[] ucap) := by rw [hW]; go_simp
  have z1 : W.cell? ⟨w.heap.size + 1, 0, none⟩ = some (.slice a n c) := by rw [hW]; go_simp
  have hWs : W.heap.size = w.heap.size + 1 + 1 := by rw [hW]; simp
  rw [← hW]
  clear hW
  go_at_call 57
  refine (ansL_err _ 58 #[.pointer (some ⟨w.heap.size, 0, none⟩), .pointer (some ⟨w.heap.size + 1, 0, none⟩)] et ev C (fun y y' r => Left y T y') W (by decide) (HT.out.up uW.out) (fun b h => by have := HC.out b h; omega) (fun _ => by simp [go_sem]) (fun y hu => (mut1_calls U ucap w.heap.size (w.heap.size + 1) a n c m (fun r => r = .slice none 0 0) (.iface et ev) C (fun x x' r => T x x') y (HT.out.up (uW.out.trans hu)) (fun b h => by have := HC.out b h; have := hu.size; omega) hn (HV.out.up (uW.out.trans hu)) HSH.out (hu.cell z0) (hu.cell z1) HEE.out (fun x a' hx hh => (HU.out x a' ((uW.out.trans hu).trans hx) (hh.mono (uW.out.trans hu).size)).mono ?_)).mono ?_)).mono ?_
  · rintro _ x' ⟨rfl, h3, h4, h5⟩
    exact ⟨_, rfl, rfl, h3, h4, h5⟩
  · rintro _ y' ⟨_, rfl, rfl, h1, h2, h3⟩
    exact ⟨none, 0, 0, rfl, h1, h2, h3⟩
  rintro _ w1 ⟨b, rfl, hc⟩
  have HL1 : Hid (Caught w T ⟨#[]⟩ (.iface et ev) .nilIface b w1) := by
    have hc' : Caught W (fun y y' => Left y T y') ⟨#[]⟩ (.iface et ev) .nilIface b w1 := by
      obtain ⟨h1, h2, x, x', g1, ⟨_, _, _, g2⟩, g3⟩ := hc
      exact ⟨h1, h2, x, x', g1, g2, g3⟩
    exact hc'.join.lift uW.out (Up.refl _)
  clear hc z0 z1 HU
  go_wp2_with fail
  go_at_call 49
  refine (copied_none none 0 w1).mono ?_
  rintro _ w2 ⟨rfl, rfl⟩
  go_wp2
  go_ret2
  exact ⟨b, rfl, HL1.out⟩

end Go.Proofs.YtmlfkjmondkfnaaDoor

namespace Go.Proofs.YtmlfkjmondkfnaaDoor
open Go.ChangeShapes Go.WideShapes Go.ChangeAt Go.RowKit
set_option linter.unusedVariables false
attribute [local go_sem ↓] Go.wp_at_zero Go.wp_at_succ
attribute [local go_sem] run_store_float

theorem hv1_calls (v a : Value) (vb : Nat) (k z : Int) (t : ByteArray) (f : Nat) (x : World) (h : At x vb 0 (k, z, t, f)) :
    Calls Tryd.prog 31 (#[a] ++ #[.pointer (some ⟨vb, 0, none⟩)]) x fun e x' => e = .returned (.tuple #[.agg #[.int .i64 k, .int .i64 z, .string t, .float .f64 f], .nilIface]) ∧ Up x x' := by
  have c0 : x.cell? ⟨vb, 0, none⟩ = some (.int .i64 k) := h.1
  have c1 : x.cell? ⟨vb, 1, none⟩ = some (.int .i64 z) := h.2.1
  have c2 : x.cell? ⟨vb, 2, none⟩ = some (.string t) := h.2.2.1
  have c3 : x.cell? ⟨vb, 3, none⟩ = some (.float .f64 f) := h.2.2.2
  have hvb : vb < x.heap.size := World.block_lt_of_cell? x _ c0
  show Calls Tryd.prog 31 #[a, .pointer (some ⟨vb, 0, none⟩)] x _
  go_enter Tryd.func31, Tryd.ntmps31
  go_wp2_with fail
  refine bodyPost_ret (v := .tuple #[.agg #[.int .i64 k, .int .i64 z, .string t, .float .f64 f], .nilIface]) (by simp [results, Tryd.results31, go_sem, *]) rfl ?_
  exact ⟨rfl, (Up.refl _).alloc _⟩
theorem hv1_enter (v : Value) (cap : Array Value) (w : World) : (callFunc 31 (#[v] ++ cap)).run Tryd.prog w = .ok (.enter 31 (#[v] ++ cap)) w := by
  simp [go_sem]

theorem hv2_calls (a : Value) (tb : Nat) (ra : Option Addr) (n c : Nat) (x : World) (h : x.cell? ⟨tb, 0, none⟩ = some (.slice ra n c)) :
    Calls Tryd.prog 32 (#[a] ++ #[.pointer (some ⟨tb, 0, none⟩)]) x fun e x' => e = .returned (.tuple #[.slice ra n c, .nilIface]) ∧ x' = x := by
  show Calls Tryd.prog 32 #[a, .pointer (some ⟨tb, 0, none⟩)] x _
  go_enter Tryd.func32, Tryd.ntmps32
  go_wp2_with fail
  go_ret2
  exact ⟨rfl, rfl⟩
theorem hv2_enter (v : Value) (cap : Array Value) (w : World) : (callFunc 32 (#[v] ++ cap)).run Tryd.prog w = .ok (.enter 32 (#[v] ++ cap)) w := by
  simp [go_sem]

theorem Left.up {w w' : World} {S : World → World → Prop} (h : Left w S w') (hS : ∀ x x', S x x' → Up x x') : Up w w' := by
  obtain ⟨x, x', h1, h2, h3, h4⟩ := h
  exact Below.trans (h1.trans (hS x x' h2)).below (h4.mid_below (Nat.le_trans h1.size h3))
theorem RowB.none {b : Nat} (h : RowB none b) : False := by obtain ⟨o, h⟩ := h; cases h

/-- What Extract tells of a function that tells a value. -/
theorem hv_ext (vb : Nat) (k z : Int) (t : ByteArray) (f : Nat) (w : World) (hB : Box w vb (k, z, t, f)) (hT : TabE w) (hts : t.size ≤ 281474976710656) :
    Calls Tryd.prog 20 #[.string ⟨#[119]⟩, .func (.func 31) #[] #[.pointer (some ⟨vb, 0, none⟩)], .slice none 0 0] w fun e w' => ∃ xk xz xt xf ev, e = .returned (.tuple #[.agg #[.int .i64 xk, .int .i64 xz, .string xt, .float .f64 xf], ev]) ∧ Up w w' ∧ ((ev = .nilIface ∧ xk = k ∧ xz = z ∧ xt = t ∧ xf = f) ∨ ∃ b, ev = .iface 33 (.pointer (some ⟨b, 0, none⟩)) ∧ FaultAt w' b 0 ⟨#[119]⟩ (.iface 31 (.int .i64 10)) .nilIface) := by
  have hU : ∀ x a', Up w x → Handed w.heap.size x a' 0 [] → Calls Tryd.prog 31 (#[.slice a' 0 0] ++ #[.pointer (some ⟨vb, 0, none⟩)]) x fun e x' => e = .returned (.tuple #[.agg #[.int .i64 k, .int .i64 z, .string t, .float .f64 f], .nilIface]) ∧ Chg (fun b => False ∨ RowB a' b) x x' ∧ TabE x' ∧ Up x x' := by
    intro x a' hx _
    refine (hv1_calls .nilIface _ vb k z t f x (hB.up hx).1).mono ?_
    rintro _ x' ⟨rfl, hu⟩
    exact ⟨rfl, Chg.of_up hu, hT.up (hx.trans hu), hu⟩
  have hv0 : Vals w none 0 [] := ⟨rfl, fun i => fits_zero, .inl rfl⟩
  by_cases hi : isB (k, z, t, f) = true
  · refine (ext_ok ⟨#[119]⟩ 31 #[.pointer (some ⟨vb, 0, none⟩)] none 0 0 [] k z t f (fun _ => False) Up w (by decide) hT (fun _ h => h.elim) (by decide) hv0 (fun i => by simp [zeroT]) hts hi (fun v w' => hv1_enter v _ w') hU).mono ?_
    rintro _ w' ⟨rfl, hl⟩
    exact ⟨k, z, t, f, .nilIface, rfl, hl.up (fun _ _ h => h), .inl ⟨rfl, rfl, rfl, rfl, rfl⟩⟩
  · refine (ext_bad ⟨#[119]⟩ 31 #[.pointer (some ⟨vb, 0, none⟩)] none 0 0 [] k z t f (fun _ => False) Up w (by decide) hT (fun _ h => h.elim) (by decide) hv0 (fun i => by simp [zeroT]) hts (by simpa using hi) (fun v w' => hv1_enter v _ w') hU).mono ?_
    rintro _ w' ⟨b, rfl, hc⟩
    exact ⟨0, 0, ⟨#[]⟩, 0, _, rfl, hc.leftS.up (fun _ _ h => h), .inr ⟨b, rfl, hc.at'⟩⟩

/-- A row that Copy made: it may be written into. -/
theorem owns_free {w : World} {base n : Nat} {v : Value} {l : List VT} (h : w.ownsRow base 58 4 v n (flat l)) (hn : ¬ n = 0) : ∃ g cap, v = .slice (some ⟨g, 0, none⟩) n cap ∧ base ≤ g ∧ g < w.heap.size ∧ n ≤ cap ∧ ∀ i, w.frozen? ⟨g, i, none⟩ = false := by
  have hlt := h.lt
  have hl := h.1
  rcases h.2 with ⟨rfl, rfl⟩ | ⟨g, cap, cur, rfl, hb, hg, hc, hm, hs, ht⟩
  · simp at hl; omega
  · exact ⟨g, cap, rfl, hb, (hlt g rfl).2, hc, fun i => by simp [World.frozen?, hg]⟩

set_option maxRecDepth 20000 in
set_option maxHeartbeats 8000000 in
theorem hookValues_all (k0 n0 : Int) (s0 : ByteArray) (f0 : Nat) (a1 : Option Addr) (len1 cap1 : Nat) (l1 : List VT) (w : World) (w0 : Fits (k0, n0, s0, f0)) (w1 : len1 ≤ maxLen ∧ len1 ≤ cap1 ∧ cap1 ≤ maxLen ∧ Vals w a1 len1 l1) (hT : TabE w) :
    Calls Tryd.prog 7 #[.agg #[.int .i64 k0, .int .i64 n0, .string s0, .float .f64 f0], .slice a1 len1 cap1] w fun e w' => e = .returned (.bool true) ∧ Up w w' := by
  have hmf : ∀ (fn : Fn) (first cap : Array Value) (w : World), (Instr.makeFunc fn first cap).run Tryd.prog w = .ok (.func fn first cap) w := fun _ _ _ _ => rfl
  obtain rfl : l1.length = len1 := w1.2.2.2.1
  have HT := hide hT
  have HV1 := hide w1.2.2.2
  have hm1 : l1.length ≤ maxLen := w1.1
  have HF0 := hide w0
  clear hT w1 w0
  unfold maxLen at hm1
  go_enter Tryd.func7, Tryd.ntmps7
  go_wp2_with fail
  go_at_call 8
  refine (known_calls _ (HT.out.up ((Up.refl _).alloc _))).mono ?_
  rintro _ w1 ⟨rfl, hu1⟩
  have U1 : Hid (Up w w1) := ((Up.refl _).alloc _).trans hu1
  have HBX : Hid (Box w1 w.heap.size (k0, n0, s0, f0)) := (Box.new w (k0, n0, s0, f0) _).up hu1
  clear hu1
  have b0 : w1.cell? ⟨w.heap.size, 0, none⟩ = some (.int .i64 k0) := HBX.out.1.1
  have b1 : w1.cell? ⟨w.heap.size, 1, none⟩ = some (.int .i64 n0) := HBX.out.1.2.1
  have b2 : w1.cell? ⟨w.heap.size, 2, none⟩ = some (.string s0) := HBX.out.1.2.2.1
  have b3 : w1.cell? ⟨w.heap.size, 3, none⟩ = some (.float .f64 f0) := HBX.out.1.2.2.2
  go_wp2_with fail
  go_at_call 16
  refine (few_calls _ _ _ [(k0, n0, s0, f0)] 1 _ (by unfold maxLen; omega) (vals_new1 w1 k0 n0 s0 f0 _ HF0.out)).mono ?_
  rintro _ w2 ⟨rfl, hw2⟩
  have u12 : Up w1 w2 := by rw [hw2]; exact (Up.refl _).alloc _
  clear hw2
  replace U1 := hide (U1.out.trans u12)
  replace HBX := hide (HBX.out.up u12)
  clear u12 b0 b1 b2 b3
  obtain ⟨q, hq⟩ : ∃ q, fewB [(k0, n0, s0, f0)] 1 = q := ⟨_, rfl⟩
  rw [hq]
  cases q with
  | false =>
    go_wp2
    go_ret
    exact ⟨rfl, U1.out⟩
  | true =>
  go_wp2_with fail
  go_at_call 16
  refine (few_calls a1 l1.length cap1 l1 8 _ (by unfold maxLen; omega) (HV1.out.up U1.out)).mono ?_
  rintro _ w3 ⟨rfl, rfl⟩
  obtain ⟨q, hq1⟩ : ∃ q, fewB l1 8 = q := ⟨_, rfl⟩
  rw [hq1]
  cases q with
  | false =>
    go_wp2
    go_ret
    exact ⟨rfl, U1.out⟩
  | true =>
  by_cases hl0 : l1.length = 0
  · have t0 : ((l1.length : Int) == 0) = true := by rw [beq_iff_eq]; omega
    go_wp2
    go_ret
    exact ⟨rfl, U1.out⟩
  have t0 : ((l1.length : Int) == 0) = false := by rw [beq_eq_false_iff_ne]; omega
  have HL0 := hide hl0
  have HQ := hide hq
  have HQ1 := hide hq1
  clear hl0 hq hq1
  have hsz0 : s0.size ≤ 281474976710656 := by
    have h := HQ.out
    unfold fewB at h
    simp only [Bool.and_eq_true] at h
    have h2 : s0.size ≤ 200 := shortB_get h.1 0
    omega
  go_wp2_with fail
  go_at_call 20
  refine (hv_ext w.heap.size k0 n0 s0 f0 w3 HBX.out (HT.out.up U1.out) hsz0).mono ?_
  rintro _ w4 ⟨xk, xz, xt, xf, ev, rfl, hu4, hE⟩
  replace U1 := hide (U1.out.trans hu4)
  replace HBX := hide (HBX.out.up hu4)
  have HE := hide hE
  clear hu4 hE
  have hfew : shortB l1 = true ∧ l1.length ≤ 8 := by
    have h := HQ1.out
    unfold fewB at h
    simp only [Bool.and_eq_true, decide_eq_true_eq] at h
    exact ⟨h.1, by omega⟩
  have hl8 : l1.length ≤ 8 := hfew.2
  have hpos : (0 : Int) < l1.length := by have := HL0.out; omega
  have ha1 : a1 = none → l1.length = 0 := by
    intro h
    rcases HV1.out.2.2 with h0 | ⟨b, o, h1, _⟩
    · exact h0
    · rw [h] at h1; cases h1
  go_wp2_with fail
  go_at_call 18
  refine (copy_calls a1 l1.length cap1 l1 _ (by omega) (HV1.out.up (U1.out.alloc _)) ha1).mono ?_
  rintro _ w5 ⟨v, rfl, ho, hu5⟩
  have HXB : Hid (Box w5 w4.heap.size (xk, xz, xt, xf)) := (Box.new w4 (xk, xz, xt, xf) _).up hu5
  obtain ⟨g, cap, rfl, hg1, hg2, hcap, hfz⟩ := owns_free ho HL0.out
  have VT : Hid (Vals w5 (some ⟨g, 0, none⟩) l1.length l1) := by
    obtain ⟨a, c, h1, _, _, _, h2, _⟩ := owns_vals ho HV1.out.2.1
    cases h1
    exact h2
  have U5 : Hid (Up w4 w5) := ((Up.refl _).alloc _).trans hu5
  have hgw : w.heap.size < g := by have := U1.out.size; have := World.block_lt_of_cell? w4 ⟨w.heap.size, 0, none⟩ HBX.out.1.1; simp at hg1; omega
  have hg4 : w4.heap.size < g := by simp at hg1; omega
  have HFZ := hide hfz
  replace U1 := hide (U1.out.trans U5.out)
  replace HBX := hide (HBX.out.up U5.out)
  replace HE : Hid ((ev = .nilIface ∧ xk = k0 ∧ xz = n0 ∧ xt = s0 ∧ xf = f0) ∨ ∃ b, ev = .iface 33 (.pointer (some ⟨b, 0, none⟩)) ∧ FaultAt w5 b 0 ⟨#[119]⟩ (.iface 31 (.int .i64 10)) .nilIface ∧ b < w4.heap.size) := HE.out.imp id (fun ⟨b, h1, h2⟩ => ⟨b, h1, h2.up U5.out, World.block_lt_of_cell? w4 _ h2.1⟩)
  clear ho hu5 hfz hg1 U5
  go_wp2_with fail
  obtain ⟨W, hW⟩ : ∃ W, W = w5.alloc (.cells #[.slice (some ⟨g, 0, none⟩) l1.length cap] 44) := ⟨_, rfl⟩
  have uW : Hid (Up w5 W) := by rw [hW]; exact (Up.refl _).alloc _
  have tb : W.cell? ⟨w5.heap.size, 0, none⟩ = some (.slice (some ⟨g, 0, none⟩) l1.length cap) := by rw [hW]; go_simp
  have hWs : W.heap.size = w5.heap.size + 1 := by rw [hW]; simp
  rw [← hW]
  clear hW
  go_at_call 25
  refine (mut_ok 32 #[.pointer (some ⟨w5.heap.size, 0, none⟩)] none 0 0 [] l1 (fun _ => False) (fun x x' => x' = x) W (HT.out.up (U1.out.trans uW.out)) (fun _ h => h.elim) (by decide) ⟨rfl, fun i => fits_zero, .inl rfl⟩ (fun i => by simp [zeroT]) (by omega) (shortB_get hfew.1) (fun v w' => hv2_enter v _ w') (fun x a' hx hh => (hv2_calls _ w5.heap.size (some ⟨g, 0, none⟩) l1.length cap x (hx.cell tb)).mono ?_)).mono ?_
  · rintro _ x' ⟨rfl, rfl⟩
    exact ⟨_, cap, rfl, (VT.out.up uW.out).up hx, fun b hb => by obtain ⟨o, ho⟩ := hb; cases ho; left; omega, Chg.refl _ _, HT.out.up ((U1.out.trans uW.out).trans hx), rfl⟩
  rintro _ w6 ⟨a2, rfl, hh, hl⟩
  have u6 : Up W w6 := hl.up (fun x x' h => by rw [h]; exact Up.refl _)
  have U6 : Hid (Up w w6) := (U1.out.trans uW.out).trans u6
  have v6 : Vals w6 a2 l1.length l1 := hh.1
  have HM := hide hh
  have tb6 := u6.cell tb
  have HV6 := hide (HV1.out.up U6.out)
  replace VT := hide ((VT.out.up uW.out).up u6)
  have HFZ6 : Hid (∀ i, w6.frozen? ⟨g, i, none⟩ = false) := fun i => ((uW.out.trans u6).frozen (p := ⟨g, i, none⟩) hg2).trans (HFZ.out i)
  replace HBX := hide ((HBX.out.up uW.out).up u6)
  replace HXB := hide ((HXB.out.up uW.out).up u6)
  replace HE : Hid ((ev = .nilIface ∧ xk = k0 ∧ xz = n0 ∧ xt = s0 ∧ xf = f0) ∨ ∃ b, ev = .iface 33 (.pointer (some ⟨b, 0, none⟩)) ∧ FaultAt w6 b 0 ⟨#[119]⟩ (.iface 31 (.int .i64 10)) .nilIface ∧ b < w4.heap.size) := HE.out.imp id (fun ⟨b, h1, h2, h3⟩ => ⟨b, h1, (h2.up uW.out).up u6, h3⟩)
  clear hh hl u6 tb HFZ v6
  go_wp2_with fail
  go_at_call 21
  refine (same_calls' a2 a1 l1.length l1.length cap1 l1 w6 (by unfold maxLen; omega) HM.out.1 HV6.out).mono ?_
  rintro _ w7 ⟨rfl, hu7⟩
  have tb7 := hu7.cell tb6
  have hg6 : g < w6.heap.size := by
    obtain ⟨_, _, h⟩ := VT.out
    rcases h with h | ⟨b, o, h1, h2⟩
    · exact absurd h HL0.out
    · cases h1
      have h3 := (h2 0 (by omega)).1
      have := World.block_lt_of_cell? w6 _ h3
      exact this
  have HFZ7 : Hid (∀ i, w7.frozen? ⟨g, i, none⟩ = false) := fun i => (hu7.frozen (p := ⟨g, i, none⟩) hg6).trans (HFZ6.out i)
  replace VT := hide (VT.out.up hu7)
  replace HM := hide (HM.out.up hu7)
  replace U6 := hide (U6.out.trans hu7)
  replace HBX := hide (HBX.out.up hu7)
  replace HXB := hide (HXB.out.up hu7)
  replace HV6 := hide (HV6.out.up hu7)
  replace HE : Hid ((ev = .nilIface ∧ xk = k0 ∧ xz = n0 ∧ xt = s0 ∧ xf = f0) ∨ ∃ b, ev = .iface 33 (.pointer (some ⟨b, 0, none⟩)) ∧ FaultAt w7 b 0 ⟨#[119]⟩ (.iface 31 (.int .i64 10)) .nilIface ∧ b < w4.heap.size) := HE.out.imp id (fun ⟨b, h1, h2, h3⟩ => ⟨b, h1, h2.up hu7, h3⟩)
  have hat : At w7 g 0 (l1.getD 0 zeroT) := by
    obtain ⟨_, _, h⟩ := VT.out
    rcases h with h | ⟨b, o, h1, h2⟩
    · exact absurd h HL0.out
    · cases h1
      exact h2 0 (by omega)
  obtain ⟨⟨o1, o2, o3, o4⟩, hoo⟩ : ∃ o, o = l1.getD 0 zeroT := ⟨_, rfl⟩
  rw [← hoo] at hat
  have g0 : w7.cell? ⟨g, 0, none⟩ = some (.int .i64 o1) := hat.1
  have g1 : w7.cell? ⟨g, 1, none⟩ = some (.int .i64 o2) := hat.2.1
  have g2 : w7.cell? ⟨g, 2, none⟩ = some (.string o3) := hat.2.2.1
  have g3 : w7.cell? ⟨g, 3, none⟩ = some (.float .f64 o4) := hat.2.2.2
  have p0 := HFZ7.out 0
  have p1 := HFZ7.out 1
  have p2 := HFZ7.out 2
  have p3 := HFZ7.out 3
  clear hoo hat hu7 tb6 HFZ6 VT hg6
  go_wp2_with fail
  obtain ⟨w8, hw8⟩ : ∃ w8, w8 = (((w7.setCell ⟨g, 0, none⟩ (.int .i64 99)).setCell ⟨g, 1, none⟩ (.int .i64 0)).setCell ⟨g, 2, none⟩ (.string ⟨#[]⟩)).setCell ⟨g, 3, none⟩ (.float .f64 0) := ⟨_, rfl⟩
  have c8 : Chg (fun x => x = g) w7 w8 := by rw [hw8]; exact chg_set4 w7 g _ _ _ _
  rw [← hw8]
  clear hw8 g0 g1 g2 g3 p0 p1 p2 p3 HFZ7
  have U8 : Hid (Up w w8) := Below.trans U6.out.below (Chg.below (B := w.heap.size) c8 (fun x hx e => by omega) U6.out.size)
  have HM8 : Hid (Vals w8 a2 l1.length l1) := HM.out.1.chg c8 (fun b hb e => by subst e; exact HM.out.not (.inl (by omega)) hb)
  have HV8 : Hid (Vals w8 a1 l1.length l1) := HV6.out.chg c8 (fun b hb e => by
    obtain ⟨o, ho⟩ := hb
    rcases HV1.out.2.2 with h | ⟨b', o', h1, h2⟩
    · exact absurd h HL0.out
    · rw [h1] at ho
      cases ho
      have := World.block_lt_of_cell? w _ (h2 0 (by omega)).1
      simp at this
      omega)
  replace HBX := hide (HBX.out.chg c8 (fun e => by omega))
  replace HXB := hide (HXB.out.chg c8 (fun e => by omega))
  replace HE : Hid ((ev = .nilIface ∧ xk = k0 ∧ xz = n0 ∧ xt = s0 ∧ xf = f0) ∨ ∃ b, ev = .iface 33 (.pointer (some ⟨b, 0, none⟩)) ∧ FaultAt w8 b 0 ⟨#[119]⟩ (.iface 31 (.int .i64 10)) .nilIface) := HE.out.imp id (fun ⟨b, h1, h2, h3⟩ => ⟨b, h1, ⟨c8.cell h2.1 (fun e => by have e' : b = g := e; omega), c8.cell h2.2.1 (fun e => by have e' : b = g := e; omega), c8.cell h2.2.2 (fun e => by have e' : b = g := e; omega)⟩⟩)
  clear c8 HM HV6 U6
  go_at_call 21
  refine (same_calls' a2 a1 l1.length l1.length cap1 l1 w8 (by unfold maxLen; omega) HM8.out HV8.out).mono ?_
  rintro _ w9 ⟨rfl, hu9⟩
  replace U8 := hide (U8.out.trans hu9)
  replace HBX := hide (HBX.out.up hu9)
  replace HXB := hide (HXB.out.up hu9)
  have b0 : w9.cell? ⟨w.heap.size, 0, none⟩ = some (.int .i64 k0) := HBX.out.1.1
  have b1 : w9.cell? ⟨w.heap.size, 1, none⟩ = some (.int .i64 n0) := HBX.out.1.2.1
  have b2 : w9.cell? ⟨w.heap.size, 2, none⟩ = some (.string s0) := HBX.out.1.2.2.1
  have b3 : w9.cell? ⟨w.heap.size, 3, none⟩ = some (.float .f64 f0) := HBX.out.1.2.2.2
  have x0 : w9.cell? ⟨w4.heap.size, 0, none⟩ = some (.int .i64 xk) := HXB.out.1.1
  have x1 : w9.cell? ⟨w4.heap.size, 1, none⟩ = some (.int .i64 xz) := HXB.out.1.2.1
  have x2 : w9.cell? ⟨w4.heap.size, 2, none⟩ = some (.string xt) := HXB.out.1.2.2.1
  have x3 : w9.cell? ⟨w4.heap.size, 3, none⟩ = some (.float .f64 xf) := HXB.out.1.2.2.2
  replace HE : Hid ((ev = .nilIface ∧ xk = k0 ∧ xz = n0 ∧ xt = s0 ∧ xf = f0) ∨ ∃ b, ev = .iface 33 (.pointer (some ⟨b, 0, none⟩)) ∧ FaultAt w9 b 0 ⟨#[119]⟩ (.iface 31 (.int .i64 10)) .nilIface) := HE.out.imp id (fun ⟨b, h1, h2⟩ => ⟨b, h1, h2.up hu9⟩)
  clear hu9 HM8 HV8 HBX HXB tb7
  rcases HE.out with ⟨rfl, rfl, rfl, rfl, rfl⟩ | ⟨b, rfl, hf⟩
  · clear HE
    have hlw : w.heap.size < w9.heap.size := World.block_lt_of_cell? w9 _ b0
    go_wp2_with fail
    go_at_call 21
    have r1 := vals_new1 w9 xk xz xt xf 58 HF0.out
    have r2 := vals_new1 (w9.alloc (.cells #[.int .i64 xk, .int .i64 xz, .string xt, .float .f64 xf] 58)) xk xz xt xf 58 HF0.out
    have e1 : (w9.alloc (.cells #[.int .i64 xk, .int .i64 xz, .string xt, .float .f64 xf] 58)).heap.size = w9.heap.size + 1 := by simp
    rw [e1] at r2
    refine (same_calls' (some ⟨w9.heap.size, 0, none⟩) (some ⟨w9.heap.size + 1, 0, none⟩) 1 1 1 [(xk, xz, xt, xf)] _ (by unfold maxLen; omega) (r1.up ((Up.refl _).alloc _)) r2).mono ?_
    rintro _ wa ⟨rfl, hua⟩
    replace U8 := hide (((U8.out.alloc _).alloc _).trans hua)
    clear hua r1 r2 e1
    go_wp2
    go_ret
    exact ⟨rfl, U8.out⟩
  · have HF := hide hf
    clear hf HE b0 b1 b2 b3 x0 x1 x2 x3
    go_wp2_with fail
    go_at_call 33
    refine (class_fault b 0 _ _ _ w9 (HT.out.up U8.out) HF.out (noTwice_num b 0 _ _ _ w9 (HT.out.up U8.out) HF.out)).mono ?_
    rintro _ wa ⟨rfl, hua⟩
    replace HF := hide (HF.out.up hua)
    replace U8 := hide (U8.out.trans hua)
    clear hua
    go_wp2_with fail
    go_at_call 34
    refine (where_fault b 0 _ _ _ wa (HT.out.up U8.out) HF.out (noTwice_num b 0 _ _ _ wa (HT.out.up U8.out) HF.out)).mono ?_
    rintro _ wb ⟨rfl, hub⟩
    replace U8 := hide (U8.out.trans hub)
    clear hub
    go_wp2
    go_ret
    exact ⟨rfl, U8.out⟩

end Go.Proofs.YtmlfkjmondkfnaaDoor

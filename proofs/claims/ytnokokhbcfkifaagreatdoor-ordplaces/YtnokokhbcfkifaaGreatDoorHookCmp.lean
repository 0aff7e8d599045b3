/-
  What package hook's Compare answers, as its text runs: user code by its own contract.
-/
import Derived.Test.YtnokokhbcfkifaaGreatDoorHookExt0
namespace Go.Proofs.YtnokokhbcfkifaaGreatDoor
open Go.ChangeShapes Go.WideShapes Go.ChangeAt Go.RowKit
set_option linter.unusedVariables false
attribute [local go_sem ↓] Go.wp_at_zero Go.wp_at_succ
attribute [local go_sem] run_store_float

set_option maxRecDepth 20000 in
set_option maxHeartbeats 4000000 in
theorem cmp1_calls (U : FuncId) (ucap : Array Value) (fb vb ub : Nat) (a b : Option Addr) (n c p d : Nat) (m l : List VT) (r : Int) (ev : Value) (C : Nat → Prop) (S : World → World → Prop) (y : World) (hT : TabE y) (hC : ∀ b, C b → b < y.heap.size) (hn : n ≤ 12) (hv : Vals y a n m) (hsh : ∀ i, (m.getD i zeroT).2.2.1.size ≤ 200) (hp : p ≤ 12) (hw : Vals y b p l) (hsl : ∀ i, (l.getD i zeroT).2.2.1.size ≤ 200)
    (k0 : y.cell? ⟨fb, 0, none⟩ = some (.func (.func U) #[] ucap)) (k1 : y.cell? ⟨vb, 0, none⟩ = some (.slice a n c)) (k2 : y.cell? ⟨ub, 0, none⟩ = some (.slice b p d))
    (hE : ∀ v v' w', (callFunc U (#[v, v'] ++ ucap)).run Tryz.prog w' = .ok (.enter U (#[v, v'] ++ ucap)) w')
    (hU : ∀ x a' b', Up y x → Handed y.heap.size x a' n m → Handed y.heap.size x b' p l → Calls Tryz.prog U (#[.slice a' n n, .slice b' p p] ++ ucap) x fun e x' => e = .returned (.tuple #[.int .i64 r, ev]) ∧ Chg (fun b => C b ∨ RowB a' b ∨ RowB b' b) x x' ∧ TabE x' ∧ S x x') :
    Calls Tryz.prog 111 #[.pointer (some ⟨fb, 0, none⟩), .pointer (some ⟨vb, 0, none⟩), .pointer (some ⟨ub, 0, none⟩)] y fun e y' => e = .returned (.tuple #[.int .i64 r, ev]) ∧ Chg C y y' ∧ TabE y' ∧ Left y S y' := by
  have n1 := run_eql_fn Tryz.underlying30
  have HU := hide hU
  have HV := hide hv
  have HW := hide hw
  have HSH := hide hsh
  have HSL := hide hsl
  have HT := hide hT
  have HC := hide hC
  clear hU hv hw hsh hsl hT hC
  go_enter Tryz.func111, Tryz.ntmps111
  go_wp2_with fail
  have HY := hide (HV.out.up ((Up.refl y).drew))
  have HZ := hide (HW.out.up ((Up.refl y).drew))
  have uD : Hid (Up y y.drew) := (Up.refl y).drew
  go_region_law (first
    | (go_simp; go_at_call_of 112 (Value.slice a n c); refine (copied_calls a n c m _ hn HY.out HSH.out).mono ?_; rintro _ x1 ⟨a', rfl, hr, hu1⟩;
       have U1 : Hid (Up y.drew x1) := hu1; have q0 := U1.out.cell (p := ⟨fb, 0, none⟩) (v := .func (.func U) #[] ucap) k0; have q2 := U1.out.cell (p := ⟨ub, 0, none⟩) (v := .slice b p d) k2;
       have HR : Hid (Handed y.heap.size x1 a' n m) := hr; clear hr hu1; dsimp only)
    | (go_simp; go_at_call_of 112 (Value.slice b p d); refine (copied_calls b p d l _ hp (HZ.out.up U1.out) HSL.out).mono ?_; rintro _ x2 ⟨b', rfl, hr, hu2⟩;
       have U2 : Hid (Up x1 x2) := hu2; have p0 := U2.out.cell (p := ⟨fb, 0, none⟩) (v := .func (.func U) #[] ucap) q0;
       have HR1 := hide (HR.out.up hu2); have HR2 : Hid (Handed y.heap.size x2 b' p l) := Handed.mono hr U1.out.size; clear hr hu2; dsimp only)
    | (go_simp; refine (HU.out x2 a' b' ((uD.out.trans U1.out).trans U2.out) HR1.out HR2.out).mono ?_; rintro _ x3 ⟨rfl, hc2, ht2, hS2⟩;
       have HT2 := hide ht2;
       have HL2 : Hid (Left y S x3) := ⟨x2, x3, (uD.out.trans U1.out).trans U2.out, hS2, hc2.size, Chg.refl _ _⟩;
       have HC2 : Hid (Chg C y x3) := Chg.trans (Chg.of_up ((uD.out.trans U1.out).trans U2.out)) hc2 (fun b hb h => h.resolve_right (fun h => h.elim (HR1.out.not (.inl hb)) (HR2.out.not (.inl hb))));
       clear hc2 hS2 ht2; dsimp only))
  all_goals (
    go_wp2_with fail
    go_ret2
    exact ⟨rfl, HC2.out, HT2.out, HL2.out⟩)

theorem cmpc_calls (r : Int) (w : World) : Calls Tryz.prog 109 #[.int .i64 r, .int .i64 0] w fun e w' => e = .returned (.int .i64 (cmpI r 0)) ∧ w' = w := cmpInt_calls r 0 w

set_option maxRecDepth 20000 in
set_option maxHeartbeats 4000000 in
theorem cmp_ok (s : ByteArray) (U : FuncId) (ucap : Array Value) (a b : Option Addr) (n c p d : Nat) (m l : List VT) (r : Int) (C : Nat → Prop) (S : World → World → Prop) (w : World) (hs : s.size ≤ 281474976710656) (hT : TabE w) (hC : ∀ b, C b → b < w.heap.size) (hn : n ≤ 12) (hv : Vals w a n m) (hsh : ∀ i, (m.getD i zeroT).2.2.1.size ≤ 200) (hp : p ≤ 12) (hw : Vals w b p l) (hsl : ∀ i, (l.getD i zeroT).2.2.1.size ≤ 200)
    (hE : ∀ v v' w', (callFunc U (#[v, v'] ++ ucap)).run Tryz.prog w' = .ok (.enter U (#[v, v'] ++ ucap)) w')
    (hU : ∀ x a' b', Up w x → Handed w.heap.size x a' n m → Handed w.heap.size x b' p l → Calls Tryz.prog U (#[.slice a' n n, .slice b' p p] ++ ucap) x fun e x' => e = .returned (.tuple #[.int .i64 r, .nilIface]) ∧ Chg (fun b => C b ∨ RowB a' b ∨ RowB b' b) x x' ∧ TabE x' ∧ S x x') :
    Calls Tryz.prog 103 #[.string s, .func (.func U) #[] ucap, .slice a n c, .slice b p d] w fun e w' => e = .returned (.tuple #[.int .i64 (cmpI r 0), .nilIface]) ∧ Left w S w' := by
  have hmf : ∀ (fn : Fn) (first cap : Array Value) (w : World), (Instr.makeFunc fn first cap).run Tryz.prog w = .ok (.func fn first cap) w := fun _ _ _ _ => rfl
  have HU := hide hU
  have HV := hide hv
  have HW := hide hw
  have HSH := hide hsh
  have HSL := hide hsl
  have HT := hide hT
  have HC := hide hC
  have HEE := hide hE
  clear hU hv hw hsh hsl hT hC hE
  go_enter Tryz.func103, Tryz.ntmps103
  go_wp2_with fail
  obtain ⟨W, hW⟩ : ∃ W, W = ((w.alloc (.cells #[.func (.func U) #[] ucap] 30)).alloc (.cells #[.slice a n c] 37)).alloc (.cells #[.slice b p d] 37) := ⟨_, rfl⟩
  have uW : Hid (Up w W) := by rw [hW]; exact (((Up.refl _).alloc _).alloc _).alloc _
  have z0 : W.cell? ⟨w.heap.size, 0, none⟩ = some (.func (.func U) #[] ucap) := by rw [hW]; go_simp
  have z1 : W.cell? ⟨w.heap.size + 1, 0, none⟩ = some (.slice a n c) := by rw [hW]; go_simp
  have z2 : W.cell? ⟨w.heap.size + 1 + 1, 0, none⟩ = some (.slice b p d) := by rw [hW]; go_simp
  have hWs : W.heap.size = w.heap.size + 1 + 1 + 1 := by rw [hW]; simp
  rw [← hW]
  clear hW
  go_at_call 110
  refine (ansI_ok s 111 #[.pointer (some ⟨w.heap.size, 0, none⟩), .pointer (some ⟨w.heap.size + 1, 0, none⟩), .pointer (some ⟨w.heap.size + 1 + 1, 0, none⟩)] r C (fun y y' => Left y S y') W (fun b h => by have := HC.out b h; omega) (fun _ => by simp [go_sem]) (fun y hu => (cmp1_calls U ucap w.heap.size (w.heap.size + 1) (w.heap.size + 1 + 1) a b n c p d m l r .nilIface C S y (HT.out.up (uW.out.trans hu)) (fun b h => by have := HC.out b h; have := hu.size; omega) hn (HV.out.up (uW.out.trans hu)) HSH.out hp (HW.out.up (uW.out.trans hu)) HSL.out (hu.cell z0) (hu.cell z1) (hu.cell z2) HEE.out (fun x a' b' hx h1 h2 => HU.out x a' b' ((uW.out.trans hu).trans hx) (h1.mono (uW.out.trans hu).size) (h2.mono (uW.out.trans hu).size))))).mono ?_
  rintro _ w1 ⟨rfl, hl⟩
  have HL := hide (hl.join.lift uW.out (Chg.refl _ _))
  clear hl z0 z1 z2 HU
  go_wp2_with fail
  go_at_call 109
  refine (cmpc_calls r _).mono ?_
  rintro _ w2 ⟨rfl, rfl⟩
  go_wp2
  go_ret2
  exact ⟨rfl, HL.out⟩

set_option maxRecDepth 20000 in
set_option maxHeartbeats 4000000 in
theorem cmp_err (s : ByteArray) (U : FuncId) (ucap : Array Value) (a b : Option Addr) (n c p d : Nat) (m l : List VT) (r : Int) (et : TypeId) (ev : Value) (C : Nat → Prop) (S : World → World → Prop) (w : World) (hs : s.size ≤ 281474976710656) (hT : TabE w) (hC : ∀ b, C b → b < w.heap.size) (hn : n ≤ 12) (hv : Vals w a n m) (hsh : ∀ i, (m.getD i zeroT).2.2.1.size ≤ 200) (hp : p ≤ 12) (hw : Vals w b p l) (hsl : ∀ i, (l.getD i zeroT).2.2.1.size ≤ 200)
    (hE : ∀ v v' w', (callFunc U (#[v, v'] ++ ucap)).run Tryz.prog w' = .ok (.enter U (#[v, v'] ++ ucap)) w')
    (hU : ∀ x a' b', Up w x → Handed w.heap.size x a' n m → Handed w.heap.size x b' p l → Calls Tryz.prog U (#[.slice a' n n, .slice b' p p] ++ ucap) x fun e x' => e = .returned (.tuple #[.int .i64 r, .iface et ev]) ∧ Chg (fun b => C b ∨ RowB a' b ∨ RowB b' b) x x' ∧ TabE x' ∧ S x x') :
    Calls Tryz.prog 103 #[.string s, .func (.func U) #[] ucap, .slice a n c, .slice b p d] w fun e w' => ∃ b, e = .returned (.tuple #[.int .i64 0, .iface 106 (.pointer (some ⟨b, 0, none⟩))]) ∧ Caught w S s (.iface et ev) .nilIface b w' := by
  have hmf : ∀ (fn : Fn) (first cap : Array Value) (w : World), (Instr.makeFunc fn first cap).run Tryz.prog w = .ok (.func fn first cap) w := fun _ _ _ _ => rfl
  have HU := hide hU
  have HV := hide hv
  have HW := hide hw
  have HSH := hide hsh
  have HSL := hide hsl
  have HT := hide hT
  have HC := hide hC
  have HEE := hide hE
  clear hU hv hw hsh hsl hT hC hE
  go_enter Tryz.func103, Tryz.ntmps103
  go_wp2_with fail
  obtain ⟨W, hW⟩ : ∃ W, W = ((w.alloc (.cells #[.func (.func U) #[] ucap] 30)).alloc (.cells #[.slice a n c] 37)).alloc (.cells #[.slice b p d] 37) := ⟨_, rfl⟩
  have uW : Hid (Up w W) := by rw [hW]; exact (((Up.refl _).alloc _).alloc _).alloc _
  have z0 : W.cell? ⟨w.heap.size, 0, none⟩ = some (.func (.func U) #[] ucap) := by rw [hW]; go_simp
  have z1 : W.cell? ⟨w.heap.size + 1, 0, none⟩ = some (.slice a n c) := by rw [hW]; go_simp
  have z2 : W.cell? ⟨w.heap.size + 1 + 1, 0, none⟩ = some (.slice b p d) := by rw [hW]; go_simp
  have hWs : W.heap.size = w.heap.size + 1 + 1 + 1 := by rw [hW]; simp
  rw [← hW]
  clear hW
  go_at_call 110
  refine (ansI_err s 111 #[.pointer (some ⟨w.heap.size, 0, none⟩), .pointer (some ⟨w.heap.size + 1, 0, none⟩), .pointer (some ⟨w.heap.size + 1 + 1, 0, none⟩)] r et ev C (fun y y' => Left y S y') W hs (HT.out.up uW.out) (fun b h => by have := HC.out b h; omega) (fun _ => by simp [go_sem]) (fun y hu => (cmp1_calls U ucap w.heap.size (w.heap.size + 1) (w.heap.size + 1 + 1) a b n c p d m l r (.iface et ev) C S y (HT.out.up (uW.out.trans hu)) (fun b h => by have := HC.out b h; have := hu.size; omega) hn (HV.out.up (uW.out.trans hu)) HSH.out hp (HW.out.up (uW.out.trans hu)) HSL.out (hu.cell z0) (hu.cell z1) (hu.cell z2) HEE.out (fun x a' b' hx h1 h2 => HU.out x a' b' ((uW.out.trans hu).trans hx) (h1.mono (uW.out.trans hu).size) (h2.mono (uW.out.trans hu).size))))).mono ?_
  rintro _ w1 ⟨b, rfl, hl⟩
  have HL := hide (hl.join.lift uW.out (Up.refl _))
  clear hl z0 z1 z2 HU
  go_wp2_with fail
  go_at_call 109
  refine (cmpc_calls 0 _).mono ?_
  rintro _ w2 ⟨rfl, rfl⟩
  have e0 : cmpI 0 0 = 0 := by decide
  rw [e0]
  go_wp2
  go_ret2
  exact ⟨b, rfl, HL.out⟩

end Go.Proofs.YtnokokhbcfkifaaGreatDoor

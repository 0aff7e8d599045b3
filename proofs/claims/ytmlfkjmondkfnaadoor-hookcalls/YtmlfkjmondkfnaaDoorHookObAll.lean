/-
  What package hook's Observe answers, as its text runs: user code by its own contract.
  What the user code of HookObserves does, as its text runs.
  HookObserves, walked.
-/
import Derived.Test.YtmlfkjmondkfnaaDoorHookExt0
import Derived.Test.YtmlfkjmondkfnaaDoorHookKnown
import Derived.Test.YtmlfkjmondkfnaaDoorValHelp
import Derived.Test.YtmlfkjmondkfnaaDoorNewVals
import Derived.Test.YtmlfkjmondkfnaaDoorCodeApp
namespace Go.Proofs.YtmlfkjmondkfnaaDoor
open Go.ChangeShapes Go.WideShapes Go.ChangeAt Go.RowKit
set_option linter.unusedVariables false
attribute [local go_sem ↓] Go.wp_at_zero Go.wp_at_succ
attribute [local go_sem] run_store_float

/-- A change's box. -/
def ChB (w : World) (b : Nat) (s : ByteArray) (id : Int) (u v : Value) : Prop := (w.cell? ⟨b, 0, none⟩ = some (.string s) ∧ w.cell? ⟨b, 1, none⟩ = some (.int .i64 id) ∧ w.cell? ⟨b, 2, none⟩ = some u ∧ w.cell? ⟨b, 3, none⟩ = some v) ∧ ∀ i, w.frozen? ⟨b, i, none⟩ = false
theorem ChB.up {w w' : World} {b : Nat} {s : ByteArray} {id : Int} {u v : Value} (h : ChB w b s id u v) (hu : Up w w') : ChB w' b s id u v :=
  ⟨⟨hu.cell h.1.1, hu.cell h.1.2.1, hu.cell h.1.2.2.1, hu.cell h.1.2.2.2⟩, fun i => (hu.frozen (p := ⟨b, i, none⟩) (World.block_lt_of_cell? w ⟨b, 0, none⟩ h.1.1)).trans (h.2 i)⟩

theorem Handed.chg {B : Nat} {C : Nat → Prop} {w w' : World} {a : Option Addr} {n : Nat} {m : List VT} (h : Handed B w a n m) (hc : Chg C w w') (hn : ∀ b, RowB a b → ¬ C b) : Handed B w' a n m := by
  refine ⟨h.1.chg hc hn, h.2.imp id ?_⟩
  rintro ⟨G, rfl, h2, h3, h4⟩
  exact ⟨G, rfl, h2, Nat.lt_of_lt_of_le h3 hc.size, fun i => (hc.frozen (p := ⟨G, i, none⟩) h3 (hn G ⟨0, rfl⟩)).trans (h4 i)⟩
theorem Handed.ge {B : Nat} {w : World} {a : Option Addr} {n : Nat} {m : List VT} (h : Handed B w a n m) {b : Nat} (hb : RowB a b) : B ≤ b := by
  rcases Nat.lt_or_ge b B with h' | h'
  · exact absurd hb (h.not (.inl h'))
  · exact h'

set_option maxRecDepth 20000 in
set_option maxHeartbeats 4000000 in
theorem obs1_ret (U : FuncId) (ucap : Array Value) (fb cb : Nat) (a b : Option Addr) (n c p d : Nat) (m l : List VT) (s : ByteArray) (id : Int) (C : Nat → Prop) (S : World → World → Prop) (B : Nat) (y : World) (hB : B ≤ cb) (hT : TabE y) (hTB : 0 < B) (hC : ∀ b, C b → b < B) (hs : s.size ≤ 281474976710656) (hn : n ≤ 12) (hv : Vals y a n m) (hsh : ∀ i, (m.getD i zeroT).2.2.1.size ≤ 200) (hp : p ≤ 12) (hw : Vals y b p l) (hsl : ∀ i, (l.getD i zeroT).2.2.1.size ≤ 200) (hva : ∀ g, RowB a g → g < B) (hvb : ∀ g, RowB b g → g < B) (hne : ¬ fb = cb)
    (k0 : y.cell? ⟨fb, 0, none⟩ = some (.func (.func U) #[] ucap)) (k1 : ChB y cb s id (.slice a n c) (.slice b p d))
    (hE : ∀ v w', (callFunc U (#[v] ++ ucap)).run Tryd.prog w' = .ok (.enter U (#[v] ++ ucap)) w')
    (hU : ∀ x a' b', Below B y x → Handed y.heap.size x a' n m → Handed y.heap.size x b' p l → Calls Tryd.prog U (#[.agg #[.string s, .int .i64 id, .slice a' n n, .slice b' p p]] ++ ucap) x fun e x' => e = .returned .nilIface ∧ Chg (fun b => C b ∨ RowB a' b ∨ RowB b' b) x x' ∧ TabE x' ∧ S x x') :
    Calls Tryd.prog 61 #[.pointer (some ⟨fb, 0, none⟩), .pointer (some ⟨cb, 0, none⟩)] y fun e y' => e = .returned .nilIface ∧ Chg (fun b => C b ∨ b = cb) y y' ∧ TabE y' ∧ ∃ x, Below B y x ∧ y.heap.size ≤ x.heap.size ∧ S x y' := by
  have n1 := run_eql_fn Tryd.underlying118
  have c0 := k1.1.1
  have c1 := k1.1.2.1
  have c2 := k1.1.2.2.1
  have c3 := k1.1.2.2.2
  have HK1 := hide k1.2
  have f0 := k1.2 0
  have f2 := k1.2 2
  have f3 := k1.2 3
  have hcb : cb < y.heap.size := World.block_lt_of_cell? y _ c0
  have hfb : fb < y.heap.size := World.block_lt_of_cell? y _ k0
  have hne' : ¬ cb = fb := fun e => hne e.symm
  have HU := hide hU
  have HV := hide hv
  have HW := hide hw
  have HSH := hide hsh
  have HSL := hide hsl
  have HT := hide hT
  have HC := hide hC
  clear hU hv hw hsh hsl hT hC k1
  go_enter Tryd.func61, Tryd.ntmps61
  go_wp2_with fail
  go_at_call 38
  refine (clone_calls s y hs).mono ?_
  rintro _ y1 ⟨rfl, hu1⟩
  have K1 : Hid (ChB y1 cb s id (.slice a n c) (.slice b p d)) := hide (ChB.up ⟨⟨c0, c1, c2, c3⟩, HK1.out⟩ hu1)
  have KF := hu1.cell k0
  have d0 := K1.out.1.1
  have df0 := K1.out.2 0
  have HU1 := hide hu1
  clear c0 c1 c2 c3 f0 f2 f3 k0 hu1
  go_wp2_with fail
  obtain ⟨Y, hY⟩ : ∃ Y, Y = y1.setCell ⟨cb, 0, none⟩ (.string s) := ⟨_, rfl⟩
  have cY : Hid (Chg (fun x => x = cb) y Y) := by rw [hY]; exact Chg.trans (Chg.of_up HU1.out) (chg_set1 y1 cb _) (fun _ _ h => h)
  have e0 : Y.cell? ⟨cb, 0, none⟩ = some (.string s) := by rw [hY]; exact World.cell?_setCell_same _ _ _ d0
  have e1 : Y.cell? ⟨cb, 1, none⟩ = some (.int .i64 id) := by rw [hY]; exact (World.cell?_setCell_other _ _ _ _ (by intro e; cases e)).trans K1.out.1.2.1
  have e2 : Y.cell? ⟨cb, 2, none⟩ = some (.slice a n c) := by rw [hY]; exact (World.cell?_setCell_other _ _ _ _ (by intro e; cases e)).trans K1.out.1.2.2.1
  have e3 : Y.cell? ⟨cb, 3, none⟩ = some (.slice b p d) := by rw [hY]; exact (World.cell?_setCell_other _ _ _ _ (by intro e; cases e)).trans K1.out.1.2.2.2
  have HG : Hid (∀ i, Y.frozen? ⟨cb, i, none⟩ = false) := by rw [hY]; exact fun i => by rw [World.frozen?_setCell]; exact K1.out.2 i
  have e4 : Y.cell? ⟨fb, 0, none⟩ = some (.func (.func U) #[] ucap) := by rw [hY]; exact (World.cell?_setCell_other _ _ _ _ (by intro e; exact hne' (congrArg Addr.block e))).trans KF
  rw [← hY]
  have HVY : Hid (Vals Y a n m) := HV.out.chg cY.out (fun g hg e => by have := hva g hg; omega)
  have HWY : Hid (Vals Y b p l) := HW.out.chg cY.out (fun g hg e => by have := hvb g hg; omega)
  have hYs : y.heap.size ≤ Y.heap.size := cY.out.size
  clear hY K1 KF d0 df0 HU1 HV HW
  have HY := hide (HVY.out.up ((Up.refl Y).drew))
  have HZ := hide (HWY.out.up ((Up.refl Y).drew))
  have hcY : cb < Y.drew.heap.size := Nat.lt_of_lt_of_le hcb hYs
  go_region_law (first
    | (go_simp; go_at_call_of 49 (Value.slice a n c); refine (copied_calls a n c m _ hn HY.out HSH.out).mono ?_; rintro _ x1 ⟨a', rfl, hr, hu1⟩;
       have U1 : Hid (Up Y.drew x1) := hu1; have q3 := U1.out.cell (p := ⟨cb, 3, none⟩) (v := .slice b p d) e3;
       have HR : Hid (Handed y.heap.size x1 a' n m) := Handed.mono hr hYs; clear hr hu1; dsimp only)
    | (go_simp; go_at_call_of 49 (Value.slice b p d); refine (copied_calls b p d l _ hp (HZ.out.up U1.out) HSL.out).mono ?_; rintro _ x2 ⟨b', rfl, hr, hu2⟩;
       have U2 : Hid (Up Y.drew x2) := U1.out.trans hu2;
       have HR1 := hide (HR.out.up hu2); have HR2 : Hid (Handed y.heap.size x2 b' p l) := Handed.mono hr (Nat.le_trans hYs U1.out.size);
       have p0 := U2.out.cell (p := ⟨cb, 0, none⟩) (v := .string s) e0; have p1 := U2.out.cell (p := ⟨cb, 1, none⟩) (v := .int .i64 id) e1; have p2 := U2.out.cell (p := ⟨cb, 2, none⟩) (v := .slice a n c) e2; have p3 := U2.out.cell (p := ⟨cb, 3, none⟩) (v := .slice b p d) e3; have p4 := U2.out.cell (p := ⟨fb, 0, none⟩) (v := .func (.func U) #[] ucap) e4;
       have r2 : x2.frozen? ⟨cb, 2, none⟩ = false := (U2.out.frozen (p := ⟨cb, 2, none⟩) hcY).trans (HG.out 2); have r3 : x2.frozen? ⟨cb, 3, none⟩ = false := (U2.out.frozen (p := ⟨cb, 3, none⟩) hcY).trans (HG.out 3);
       clear hr hu2; dsimp only))
  all_goals (
    have cX : Hid (Chg (fun x => x = cb) y ((x2.setCell ⟨cb, 2, none⟩ (.slice a' n n)).setCell ⟨cb, 3, none⟩ (.slice b' p p))) := Chg.set' (C := fun x => x = cb) ⟨cb, 3, none⟩ (.slice b' p p) rfl (Chg.set' (C := fun x => x = cb) ⟨cb, 2, none⟩ (.slice a' n n) rfl ((cY.out.drew).andUp U2.out))
    have hX : Hid (Chg (fun x => x = cb) x2 ((x2.setCell ⟨cb, 2, none⟩ (.slice a' n n)).setCell ⟨cb, 3, none⟩ (.slice b' p p))) := Chg.set' (C := fun x => x = cb) ⟨cb, 3, none⟩ (.slice b' p p) rfl (Chg.set' (C := fun x => x = cb) ⟨cb, 2, none⟩ (.slice a' n n) rfl (Chg.refl _ x2))
    go_wp2_with fail
    refine (HU.out _ a' b' (Chg.below (B := B) cX.out (fun x hx e => by omega) (by omega)) (HR1.out.chg hX.out (fun g hg e => by have := HR1.out.ge hg; omega)) (HR2.out.chg hX.out (fun g hg e => by have := HR2.out.ge hg; omega))).mono ?_
    rintro _ x3 ⟨rfl, hc3, ht3, hS3⟩
    have HF3 : Hid (Chg (fun b => C b ∨ b = cb) y x3 ∧ TabE x3 ∧ ∃ x, Below B y x ∧ y.heap.size ≤ x.heap.size ∧ S x x3) := ⟨Chg.trans (cX.out.mono (fun _ _ h => Or.inr h)) hc3 (fun g hg h => h.elim (fun h => Or.inl h) (fun h => h.elim (fun h => by have := HR1.out.ge h; omega) (fun h => by have := HR2.out.ge h; omega))), ht3, _, Chg.below (B := B) cX.out (fun x hx e => by omega) (by omega), cX.out.size, hS3⟩
    clear hc3 ht3 hS3
    go_wp2
    go_ret
    exact ⟨rfl, HF3.out⟩)

set_option maxRecDepth 20000 in
set_option maxHeartbeats 4000000 in
theorem obs1_pan (U : FuncId) (ucap : Array Value) (fb cb : Nat) (a b : Option Addr) (n c p d : Nat) (m l : List VT) (s : ByteArray) (id : Int) (u : TypeId) (pv : Value) (C : Nat → Prop) (S : World → World → Prop) (B : Nat) (y : World) (hB : B ≤ cb) (hT : TabE y) (hTB : 0 < B) (hC : ∀ b, C b → b < B) (hs : s.size ≤ 281474976710656) (hn : n ≤ 12) (hv : Vals y a n m) (hsh : ∀ i, (m.getD i zeroT).2.2.1.size ≤ 200) (hp : p ≤ 12) (hw : Vals y b p l) (hsl : ∀ i, (l.getD i zeroT).2.2.1.size ≤ 200) (hva : ∀ g, RowB a g → g < B) (hvb : ∀ g, RowB b g → g < B) (hne : ¬ fb = cb)
    (k0 : y.cell? ⟨fb, 0, none⟩ = some (.func (.func U) #[] ucap)) (k1 : ChB y cb s id (.slice a n c) (.slice b p d))
    (hE : ∀ v w', (callFunc U (#[v] ++ ucap)).run Tryd.prog w' = .ok (.enter U (#[v] ++ ucap)) w')
    (hU : ∀ x a' b', Below B y x → Handed y.heap.size x a' n m → Handed y.heap.size x b' p l → Calls Tryd.prog U (#[.agg #[.string s, .int .i64 id, .slice a' n n, .slice b' p p]] ++ ucap) x fun e x' => e = .panicked [{ v := .iface u pv, recovered := false }] ∧ Chg (fun b => C b ∨ RowB a' b ∨ RowB b' b) x x' ∧ TabE x' ∧ S x x') :
    Calls Tryd.prog 61 #[.pointer (some ⟨fb, 0, none⟩), .pointer (some ⟨cb, 0, none⟩)] y fun e y' => e = .panicked [{ v := .iface u pv, recovered := false }] ∧ Chg (fun b => C b ∨ b = cb) y y' ∧ TabE y' ∧ ∃ x, Below B y x ∧ y.heap.size ≤ x.heap.size ∧ S x y' := by
  have n1 := run_eql_fn Tryd.underlying118
  have c0 := k1.1.1
  have c1 := k1.1.2.1
  have c2 := k1.1.2.2.1
  have c3 := k1.1.2.2.2
  have HK1 := hide k1.2
  have f0 := k1.2 0
  have f2 := k1.2 2
  have f3 := k1.2 3
  have hcb : cb < y.heap.size := World.block_lt_of_cell? y _ c0
  have hfb : fb < y.heap.size := World.block_lt_of_cell? y _ k0
  have hne' : ¬ cb = fb := fun e => hne e.symm
  have HU := hide hU
  have HV := hide hv
  have HW := hide hw
  have HSH := hide hsh
  have HSL := hide hsl
  have HT := hide hT
  have HC := hide hC
  clear hU hv hw hsh hsl hT hC k1
  go_enter Tryd.func61, Tryd.ntmps61
  go_wp2_with fail
  go_at_call 38
  refine (clone_calls s y hs).mono ?_
  rintro _ y1 ⟨rfl, hu1⟩
  have K1 : Hid (ChB y1 cb s id (.slice a n c) (.slice b p d)) := hide (ChB.up ⟨⟨c0, c1, c2, c3⟩, HK1.out⟩ hu1)
  have KF := hu1.cell k0
  have d0 := K1.out.1.1
  have df0 := K1.out.2 0
  have HU1 := hide hu1
  clear c0 c1 c2 c3 f0 f2 f3 k0 hu1
  go_wp2_with fail
  obtain ⟨Y, hY⟩ : ∃ Y, Y = y1.setCell ⟨cb, 0, none⟩ (.string s) := ⟨_, rfl⟩
  have cY : Hid (Chg (fun x => x = cb) y Y) := by rw [hY]; exact Chg.trans (Chg.of_up HU1.out) (chg_set1 y1 cb _) (fun _ _ h => h)
  have e0 : Y.cell? ⟨cb, 0, none⟩ = some (.string s) := by rw [hY]; exact World.cell?_setCell_same _ _ _ d0
  have e1 : Y.cell? ⟨cb, 1, none⟩ = some (.int .i64 id) := by rw [hY]; exact (World.cell?_setCell_other _ _ _ _ (by intro e; cases e)).trans K1.out.1.2.1
  have e2 : Y.cell? ⟨cb, 2, none⟩ = some (.slice a n c) := by rw [hY]; exact (World.cell?_setCell_other _ _ _ _ (by intro e; cases e)).trans K1.out.1.2.2.1
  have e3 : Y.cell? ⟨cb, 3, none⟩ = some (.slice b p d) := by rw [hY]; exact (World.cell?_setCell_other _ _ _ _ (by intro e; cases e)).trans K1.out.1.2.2.2
  have HG : Hid (∀ i, Y.frozen? ⟨cb, i, none⟩ = false) := by rw [hY]; exact fun i => by rw [World.frozen?_setCell]; exact K1.out.2 i
  have e4 : Y.cell? ⟨fb, 0, none⟩ = some (.func (.func U) #[] ucap) := by rw [hY]; exact (World.cell?_setCell_other _ _ _ _ (by intro e; exact hne' (congrArg Addr.block e))).trans KF
  rw [← hY]
  have HVY : Hid (Vals Y a n m) := HV.out.chg cY.out (fun g hg e => by have := hva g hg; omega)
  have HWY : Hid (Vals Y b p l) := HW.out.chg cY.out (fun g hg e => by have := hvb g hg; omega)
  have hYs : y.heap.size ≤ Y.heap.size := cY.out.size
  clear hY K1 KF d0 df0 HU1 HV HW
  have HY := hide (HVY.out.up ((Up.refl Y).drew))
  have HZ := hide (HWY.out.up ((Up.refl Y).drew))
  have hcY : cb < Y.drew.heap.size := Nat.lt_of_lt_of_le hcb hYs
  go_region_law (first
    | (go_simp; go_at_call_of 49 (Value.slice a n c); refine (copied_calls a n c m _ hn HY.out HSH.out).mono ?_; rintro _ x1 ⟨a', rfl, hr, hu1⟩;
       have U1 : Hid (Up Y.drew x1) := hu1; have q3 := U1.out.cell (p := ⟨cb, 3, none⟩) (v := .slice b p d) e3;
       have HR : Hid (Handed y.heap.size x1 a' n m) := Handed.mono hr hYs; clear hr hu1; dsimp only)
    | (go_simp; go_at_call_of 49 (Value.slice b p d); refine (copied_calls b p d l _ hp (HZ.out.up U1.out) HSL.out).mono ?_; rintro _ x2 ⟨b', rfl, hr, hu2⟩;
       have U2 : Hid (Up Y.drew x2) := U1.out.trans hu2;
       have HR1 := hide (HR.out.up hu2); have HR2 : Hid (Handed y.heap.size x2 b' p l) := Handed.mono hr (Nat.le_trans hYs U1.out.size);
       have p0 := U2.out.cell (p := ⟨cb, 0, none⟩) (v := .string s) e0; have p1 := U2.out.cell (p := ⟨cb, 1, none⟩) (v := .int .i64 id) e1; have p2 := U2.out.cell (p := ⟨cb, 2, none⟩) (v := .slice a n c) e2; have p3 := U2.out.cell (p := ⟨cb, 3, none⟩) (v := .slice b p d) e3; have p4 := U2.out.cell (p := ⟨fb, 0, none⟩) (v := .func (.func U) #[] ucap) e4;
       have r2 : x2.frozen? ⟨cb, 2, none⟩ = false := (U2.out.frozen (p := ⟨cb, 2, none⟩) hcY).trans (HG.out 2); have r3 : x2.frozen? ⟨cb, 3, none⟩ = false := (U2.out.frozen (p := ⟨cb, 3, none⟩) hcY).trans (HG.out 3);
       clear hr hu2; dsimp only))
  all_goals (
    have cX : Hid (Chg (fun x => x = cb) y ((x2.setCell ⟨cb, 2, none⟩ (.slice a' n n)).setCell ⟨cb, 3, none⟩ (.slice b' p p))) := Chg.set' (C := fun x => x = cb) ⟨cb, 3, none⟩ (.slice b' p p) rfl (Chg.set' (C := fun x => x = cb) ⟨cb, 2, none⟩ (.slice a' n n) rfl ((cY.out.drew).andUp U2.out))
    have hX : Hid (Chg (fun x => x = cb) x2 ((x2.setCell ⟨cb, 2, none⟩ (.slice a' n n)).setCell ⟨cb, 3, none⟩ (.slice b' p p))) := Chg.set' (C := fun x => x = cb) ⟨cb, 3, none⟩ (.slice b' p p) rfl (Chg.set' (C := fun x => x = cb) ⟨cb, 2, none⟩ (.slice a' n n) rfl (Chg.refl _ x2))
    go_wp2_with fail
    refine (HU.out _ a' b' (Chg.below (B := B) cX.out (fun x hx e => by omega) (by omega)) (HR1.out.chg hX.out (fun g hg e => by have := HR1.out.ge hg; omega)) (HR2.out.chg hX.out (fun g hg e => by have := HR2.out.ge hg; omega))).mono ?_
    rintro _ x3 ⟨rfl, hc3, ht3, hS3⟩
    have HF3 : Hid (Chg (fun b => C b ∨ b = cb) y x3 ∧ TabE x3 ∧ ∃ x, Below B y x ∧ y.heap.size ≤ x.heap.size ∧ S x x3) := ⟨Chg.trans (cX.out.mono (fun _ _ h => Or.inr h)) hc3 (fun g hg h => h.elim (fun h => Or.inl h) (fun h => h.elim (fun h => by have := HR1.out.ge h; omega) (fun h => by have := HR2.out.ge h; omega))), ht3, _, Chg.below (B := B) cX.out (fun x hx e => by omega) (by omega), cX.out.size, hS3⟩
    clear hc3 ht3 hS3
    exact ⟨rfl, rfl, HF3.out⟩)

set_option maxRecDepth 20000 in
set_option maxHeartbeats 4000000 in
theorem obs_ok (U : FuncId) (ucap : Array Value) (a b : Option Addr) (n c p d : Nat) (m l : List VT) (s : ByteArray) (id : Int) (C : Nat → Prop) (S : World → World → Prop) (w : World) (hT : TabE w) (hC : ∀ b, C b → b < w.heap.size) (hs : s.size ≤ 281474976710656) (hn : n ≤ 12) (hv : Vals w a n m) (hsh : ∀ i, (m.getD i zeroT).2.2.1.size ≤ 200) (hp : p ≤ 12) (hw : Vals w b p l) (hsl : ∀ i, (l.getD i zeroT).2.2.1.size ≤ 200) (hva : ∀ g, RowB a g → g < w.heap.size) (hvb : ∀ g, RowB b g → g < w.heap.size)
    (hE : ∀ v w', (callFunc U (#[v] ++ ucap)).run Tryd.prog w' = .ok (.enter U (#[v] ++ ucap)) w')
    (hU : ∀ x a' b', Up w x → Handed w.heap.size x a' n m → Handed w.heap.size x b' p l → Calls Tryd.prog U (#[.agg #[.string s, .int .i64 id, .slice a' n n, .slice b' p p]] ++ ucap) x fun e x' => e = .returned .nilIface ∧ Chg (fun b => C b ∨ RowB a' b ∨ RowB b' b) x x' ∧ TabE x' ∧ S x x') :
    Calls Tryd.prog 28 #[.func (.func U) #[] ucap, .agg #[.string s, .int .i64 id, .slice a n c, .slice b p d]] w fun e w' => e = .returned .nilIface ∧ ∃ q x', Up w q ∧ S q x' ∧ Below w.heap.size x' w' := by
  have hmf : ∀ (fn : Fn) (first cap : Array Value) (w : World), (Instr.makeFunc fn first cap).run Tryd.prog w = .ok (.func fn first cap) w := fun _ _ _ _ => rfl
  have HU := hide hU
  have HV := hide hv
  have HW := hide hw
  have HSH := hide hsh
  have HSL := hide hsl
  have HT := hide hT
  have HC := hide hC
  have HEE := hide hE
  have HVA := hide hva
  have HVB := hide hvb
  clear hU hv hw hsh hsl hT hC hE hva hvb
  go_enter Tryd.func28, Tryd.ntmps28
  go_wp2_with fail
  obtain ⟨W, hW⟩ : ∃ W, W = (w.alloc (.cells #[.func (.func U) #[] ucap] 118)).alloc (.cells #[.string s, .int .i64 id, .slice a n c, .slice b p d] 78) := ⟨_, rfl⟩
  have uW : Hid (Up w W) := by rw [hW]; exact ((Up.refl _).alloc _).alloc _
  have z0 : W.cell? ⟨w.heap.size, 0, none⟩ = some (.func (.func U) #[] ucap) := by rw [hW]; go_simp
  have z1 : ChB W (w.heap.size + 1) s id (.slice a n c) (.slice b p d) := by rw [hW]; exact ⟨⟨by go_simp, by go_simp, by go_simp, by go_simp⟩, fun i => by go_simp⟩
  have hWs : W.heap.size = w.heap.size + 1 + 1 := by rw [hW]; simp
  rw [← hW]
  clear hW
  go_at_call 9
  refine (run_ok ⟨#[]⟩ 61 #[.pointer (some ⟨w.heap.size, 0, none⟩), .pointer (some ⟨w.heap.size + 1, 0, none⟩)] (fun x => TabE x ∧ ∃ q, Up w q ∧ S q x) W (fun _ => by simp [go_sem]) (fun y hu => (obs1_ret U ucap w.heap.size (w.heap.size + 1) a b n c p d m l s id C S w.heap.size y (by omega) (HT.out.up (uW.out.trans hu)) HT.out.lt HC.out hs hn (HV.out.up (uW.out.trans hu)) HSH.out hp (HW.out.up (uW.out.trans hu)) HSL.out HVA.out HVB.out (by omega) (hu.cell z0) (z1.up hu) HEE.out (fun x a' b' hx h1 h2 => HU.out x a' b' (Below.trans (uW.out.trans hu).below hx) (h1.mono (uW.out.trans hu).size) (h2.mono (uW.out.trans hu).size))).mono ?_)).mono ?_
  · rintro _ y' ⟨rfl, hc, ht, q, hq, _, hS⟩
    exact ⟨rfl, hc.keeps (fun b hb h => h.elim (fun h => by have := HC.out b h; omega) (fun h => by omega)), ht, q, Below.trans (uW.out.trans hu).below hq, hS⟩
  rintro _ w1 ⟨rfl, x', ⟨_, q, hq, hS⟩, hb⟩
  have HX : Hid (∃ q x', Up w q ∧ S q x' ∧ Below w.heap.size x' w1) := ⟨q, x', hq, hS, Below.mono hb (by omega)⟩
  clear hS hb hq z0 z1 HU
  go_wp2
  go_ret
  exact ⟨rfl, HX.out⟩

set_option maxRecDepth 20000 in
set_option maxHeartbeats 4000000 in
theorem obs_pan (U : FuncId) (ucap : Array Value) (a b : Option Addr) (n c p d : Nat) (m l : List VT) (s : ByteArray) (id : Int) (u : TypeId) (pv : Value) (hu : u ≠ 126) (C : Nat → Prop) (S : World → World → Prop) (w : World) (hT : TabE w) (hC : ∀ b, C b → b < w.heap.size) (hs : s.size ≤ 281474976710656) (hn : n ≤ 12) (hv : Vals w a n m) (hsh : ∀ i, (m.getD i zeroT).2.2.1.size ≤ 200) (hp : p ≤ 12) (hw : Vals w b p l) (hsl : ∀ i, (l.getD i zeroT).2.2.1.size ≤ 200) (hva : ∀ g, RowB a g → g < w.heap.size) (hvb : ∀ g, RowB b g → g < w.heap.size)
    (hE : ∀ v w', (callFunc U (#[v] ++ ucap)).run Tryd.prog w' = .ok (.enter U (#[v] ++ ucap)) w')
    (hU : ∀ x a' b', Up w x → Handed w.heap.size x a' n m → Handed w.heap.size x b' p l → Calls Tryd.prog U (#[.agg #[.string s, .int .i64 id, .slice a' n n, .slice b' p p]] ++ ucap) x fun e x' => e = .panicked [{ v := .iface u pv, recovered := false }] ∧ Chg (fun b => C b ∨ RowB a' b ∨ RowB b' b) x x' ∧ TabE x' ∧ S x x') :
    Calls Tryd.prog 28 #[.func (.func U) #[] ucap, .agg #[.string s, .int .i64 id, .slice a n c, .slice b p d]] w fun e w' => ∃ b, e = .returned (.iface 33 (.pointer (some ⟨b, 0, none⟩))) ∧ FaultAt w' b 0 ⟨#[]⟩ .nilIface (.iface u pv) ∧ ∃ q x', Up w q ∧ S q x' ∧ Below w.heap.size x' w' := by
  have hmf : ∀ (fn : Fn) (first cap : Array Value) (w : World), (Instr.makeFunc fn first cap).run Tryd.prog w = .ok (.func fn first cap) w := fun _ _ _ _ => rfl
  have HU := hide hU
  have HV := hide hv
  have HW := hide hw
  have HSH := hide hsh
  have HSL := hide hsl
  have HT := hide hT
  have HC := hide hC
  have HEE := hide hE
  have HVA := hide hva
  have HVB := hide hvb
  clear hU hv hw hsh hsl hT hC hE hva hvb
  go_enter Tryd.func28, Tryd.ntmps28
  go_wp2_with fail
  obtain ⟨W, hW⟩ : ∃ W, W = (w.alloc (.cells #[.func (.func U) #[] ucap] 118)).alloc (.cells #[.string s, .int .i64 id, .slice a n c, .slice b p d] 78) := ⟨_, rfl⟩
  have uW : Hid (Up w W) := by rw [hW]; exact ((Up.refl _).alloc _).alloc _
  have z0 : W.cell? ⟨w.heap.size, 0, none⟩ = some (.func (.func U) #[] ucap) := by rw [hW]; go_simp
  have z1 : ChB W (w.heap.size + 1) s id (.slice a n c) (.slice b p d) := by rw [hW]; exact ⟨⟨by go_simp, by go_simp, by go_simp, by go_simp⟩, fun i => by go_simp⟩
  have hWs : W.heap.size = w.heap.size + 1 + 1 := by rw [hW]; simp
  rw [← hW]
  clear hW
  go_at_call 9
  refine (run_panics ⟨#[]⟩ 61 #[.pointer (some ⟨w.heap.size, 0, none⟩), .pointer (some ⟨w.heap.size + 1, 0, none⟩)] u pv (fun x => TabE x ∧ ∃ q, Up w q ∧ S q x) W (by decide) (HT.out.up uW.out) (fun x h => h.1) hu (fun _ => by simp [go_sem]) (fun y hu => (obs1_pan U ucap w.heap.size (w.heap.size + 1) a b n c p d m l s id u pv C S w.heap.size y (by omega) (HT.out.up (uW.out.trans hu)) HT.out.lt HC.out hs hn (HV.out.up (uW.out.trans hu)) HSH.out hp (HW.out.up (uW.out.trans hu)) HSL.out HVA.out HVB.out (by omega) (hu.cell z0) (z1.up hu) HEE.out (fun x a' b' hx h1 h2 => HU.out x a' b' (Below.trans (uW.out.trans hu).below hx) (h1.mono (uW.out.trans hu).size) (h2.mono (uW.out.trans hu).size))).mono ?_)).mono ?_
  · rintro _ y' ⟨rfl, hc, ht, q, hq, _, hS⟩
    exact ⟨rfl, hc.keeps (fun b hb h => h.elim (fun h => by have := HC.out b h; omega) (fun h => by omega)), ht, q, Below.trans (uW.out.trans hu).below hq, hS⟩
  rintro _ w1 ⟨x', b, rfl, hf, ⟨_, q, hq, hS⟩, hb⟩
  have HX : Hid (FaultAt w1 b 0 ⟨#[]⟩ .nilIface (.iface u pv) ∧ ∃ q x', Up w q ∧ S q x' ∧ Below w.heap.size x' w1) := ⟨hf, q, x', hq, hS, Below.mono hb (by omega)⟩
  clear hS hb hq hf z0 z1 HU
  go_wp2
  go_ret
  exact ⟨b, rfl, HX.out⟩

end Go.Proofs.YtmlfkjmondkfnaaDoor

namespace Go.Proofs.YtmlfkjmondkfnaaDoor
open Go.ChangeShapes Go.WideShapes Go.ChangeAt Go.RowKit
set_option linter.unusedVariables false
attribute [local go_sem ↓] Go.wp_at_zero Go.wp_at_succ
attribute [local go_sem] run_store_float

/-- A row whose cells are there and may be written into. -/
def Full (w : World) (g n : Nat) : Prop := (∀ i, i < n * 4 → ∃ v, w.cell? ⟨g, i, none⟩ = some v) ∧ ∀ i, w.frozen? ⟨g, i, none⟩ = false
theorem Full.chg {C : Nat → Prop} {w w' : World} {g n : Nat} (h : Full w g n) (hc : Chg C w w') (hg : g < w.heap.size) (hn : ¬ C g) : Full w' g n :=
  ⟨fun i hi => by obtain ⟨v, hv⟩ := h.1 i hi; exact ⟨v, hc.cell hv hn⟩, fun i => (hc.frozen (p := ⟨g, i, none⟩) hg hn).trans (h.2 i)⟩
theorem Full.set {w : World} {g n : Nat} (h : Full w g n) (i : Nat) (u : Value) : Full (w.setCell ⟨g, i, none⟩ u) g n := by
  refine ⟨fun j hj => ?_, fun j => by rw [World.frozen?_setCell]; exact h.2 j⟩
  obtain ⟨v, hv⟩ := h.1 j hj
  by_cases hji : j = i
  · subst hji
    exact ⟨u, World.cell?_setCell_same _ _ _ hv⟩
  · exact ⟨v, (World.cell?_setCell_other _ _ _ _ (by intro e; cases e; exact hji rfl)).trans hv⟩
theorem Handed.full {B : Nat} {w : World} {a : Option Addr} {n : Nat} {m : List VT} (h : Handed B w a n m) (hn : ¬ n = 0) : ∃ G, a = some ⟨G, 0, none⟩ ∧ B ≤ G ∧ G < w.heap.size ∧ Full w G n := by
  rcases h.2 with ⟨h0, _⟩ | ⟨G, rfl, h1, h2, h3⟩
  · exact absurd h0 hn
  · refine ⟨G, rfl, h1, h2, fun i hi => ?_, h3⟩
    rcases h.1.2.2 with h0 | ⟨b, o, he, hx⟩
    · exact absurd h0 hn
    · cases he
      have hq := hx (i / 4) (by omega)
      have e : i = i / 4 * 4 + i % 4 := by omega
      have h4 : i % 4 < 4 := Nat.mod_lt _ (by omega)
      rcases (show i % 4 = 0 ∨ i % 4 = 1 ∨ i % 4 = 2 ∨ i % 4 = 3 by omega) with r | r | r | r
      · exact ⟨_, by have := hq.1; rw [show 0 + i / 4 * 4 = i by omega] at this; exact this⟩
      · exact ⟨_, by have := hq.2.1; rw [show 0 + i / 4 * 4 + 1 = i by omega] at this; exact this⟩
      · exact ⟨_, by have := hq.2.2.1; rw [show 0 + i / 4 * 4 + 2 = i by omega] at this; exact this⟩
      · exact ⟨_, by have := hq.2.2.2; rw [show 0 + i / 4 * 4 + 3 = i by omega] at this; exact this⟩

set_option maxRecDepth 20000 in
set_option maxHeartbeats 4000000 in
theorem ob1_ret (bb ab sb hb : Nat) (a b a' b' : Option Addr) (n c p d : Nat) (m l : List VT) (how : Int) (old : Bool) (B : Nat) (x : World) (hn : n ≤ 12) (hp : p ≤ 12) (hv : Vals x a n m) (hw : Vals x b p l) (ha' : Handed B x a' n m) (hb' : Handed B x b' p l) (hsB : sb < B) (hbs : ¬ hb = sb) (hhB : hb < B)
    (k0 : x.cell? ⟨bb, 0, none⟩ = some (.slice a n c)) (k1 : x.cell? ⟨ab, 0, none⟩ = some (.slice b p d)) (k2 : x.cell? ⟨sb, 0, none⟩ = some (.bool old)) (kf : x.frozen? ⟨sb, 0, none⟩ = false) (k3 : x.cell? ⟨hb, 0, none⟩ = some (.int .i64 how)) (hbit : bits .and .i64 how 1 = 0) :
    Calls Tryd.prog 29 (#[.agg #[.string ⟨#[116]⟩, .int .i64 3, .slice a' n n, .slice b' p p]] ++ #[.pointer (some ⟨bb, 0, none⟩), .pointer (some ⟨ab, 0, none⟩), .pointer (some ⟨sb, 0, none⟩), .pointer (some ⟨hb, 0, none⟩)]) x fun e x' => e = .returned .nilIface ∧ Chg (fun g => g = sb ∨ RowB a' g) x x' ∧ x'.cell? ⟨sb, 0, none⟩ = some (.bool true) := by
  show Calls Tryd.prog 29 #[.agg #[.string ⟨#[116]⟩, .int .i64 3, .slice a' n n, .slice b' p p], .pointer (some ⟨bb, 0, none⟩), .pointer (some ⟨ab, 0, none⟩), .pointer (some ⟨sb, 0, none⟩), .pointer (some ⟨hb, 0, none⟩)] x _
  have l0 : bb < x.heap.size := World.block_lt_of_cell? x _ k0
  have l1 : ab < x.heap.size := World.block_lt_of_cell? x _ k1
  have l2 : sb < x.heap.size := World.block_lt_of_cell? x _ k2
  have l3 : hb < x.heap.size := World.block_lt_of_cell? x _ k3
  have HV := hide hv
  have HW := hide hw
  have HA := hide ha'
  have HB := hide hb'
  clear hv hw ha' hb'
  go_enter Tryd.func29, Tryd.ntmps29
  go_wp2_with fail
  obtain ⟨X, hX⟩ : ∃ X, X = x.alloc (.cells #[.string ⟨#[116]⟩, .int .i64 3, .slice a' n n, .slice b' p p] 78) := ⟨_, rfl⟩
  have uX : Hid (Up x X) := by rw [hX]; exact (Up.refl _).alloc _
  have z0 : X.cell? ⟨x.heap.size, 0, none⟩ = some (.string ⟨#[116]⟩) := by rw [hX]; go_simp
  have z1 : X.cell? ⟨x.heap.size, 1, none⟩ = some (.int .i64 3) := by rw [hX]; go_simp
  have z2 : X.cell? ⟨x.heap.size, 2, none⟩ = some (.slice a' n n) := by rw [hX]; go_simp
  have z3 : X.cell? ⟨x.heap.size, 3, none⟩ = some (.slice b' p p) := by rw [hX]; go_simp
  rw [← hX]
  clear hX
  replace k1 := uX.out.cell k1
  replace k2 := uX.out.cell k2
  replace k3 := uX.out.cell k3
  replace kf := (uX.out.frozen (p := ⟨sb, 0, none⟩) l2).trans kf
  go_at_call 21
  refine (same_calls' a' a n n c m X (by unfold maxLen; omega) (HA.out.1.up uX.out) (HV.out.up uX.out)).mono ?_
  rintro _ x1 ⟨rfl, hu1⟩
  have U1 : Hid (Up x x1) := uX.out.trans hu1
  have kfX : X.frozen? ⟨sb, 0, none⟩ = false := kf
  replace kf := (hu1.frozen (p := ⟨sb, 0, none⟩) (Nat.lt_of_lt_of_le l2 uX.out.size)).trans kfX
  replace k1 := hu1.cell k1
  replace k2 := hu1.cell k2
  replace k3 := hu1.cell k3
  replace z0 := hu1.cell z0
  replace z1 := hu1.cell z1
  replace z2 := hu1.cell z2
  replace z3 := hu1.cell z3
  have l2' : sb < x1.heap.size := Nat.lt_of_lt_of_le l2 U1.out.size
  clear hu1 uX k0 kfX
  go_wp2_with fail
  go_at_call 21
  refine (same_calls' b' b p p d l x1 (by unfold maxLen; omega) (HB.out.1.up U1.out) (HW.out.up U1.out)).mono ?_
  rintro _ x2 ⟨rfl, hu2⟩
  replace kf := (hu2.frozen (p := ⟨sb, 0, none⟩) l2').trans kf
  replace k2 := hu2.cell k2
  replace k3 := hu2.cell k3
  replace z0 := hu2.cell z0
  replace z1 := hu2.cell z1
  replace z2 := hu2.cell z2
  have U2 : Hid (Up x x2) := U1.out.trans hu2
  clear hu2 U1 k1 z3 l2' HV HW
  go_wp2_with fail
  obtain ⟨x3, hx3⟩ : ∃ x3, x3 = x2.setCell ⟨sb, 0, none⟩ (.bool true) := ⟨_, rfl⟩
  have c3 : Hid (Chg (fun g => g = sb ∨ RowB a' g) x x3) := by rw [hx3]; exact (Chg.of_up U2.out).set (p := ⟨sb, 0, none⟩) (fun _ => Or.inl rfl) _
  have s3 : x3.cell? ⟨sb, 0, none⟩ = some (.bool true) := by rw [hx3]; exact World.cell?_setCell_same _ _ _ k2
  have h3 : x3.cell? ⟨hb, 0, none⟩ = some (.int .i64 how) := by rw [hx3]; exact (World.cell?_setCell_other _ _ _ _ (by intro e; exact hbs (congrArg Addr.block e).symm)).trans k3
  have t3 : x3.cell? ⟨x.heap.size, 2, none⟩ = some (.slice a' n n) := by rw [hx3]; exact (World.cell?_setCell_other _ _ _ _ (by intro e; have := congrArg Addr.block e; simp at this; omega)).trans z2
  have hs23 : x2.heap.size ≤ x3.heap.size := by rw [hx3]; simp
  have F3 : Hid (∀ G, a' = some ⟨G, 0, none⟩ → n ≠ 0 → Full x3 G n ∧ B ≤ G ∧ G < x.heap.size) := by
    intro G hG h0
    obtain ⟨G', e1, e2, e3, e4⟩ := HA.out.full h0
    rw [hG] at e1
    cases e1
    refine ⟨?_, e2, e3⟩
    rw [hx3]
    exact (e4.chg (C := fun _ => False) (Chg.of_up U2.out) e3 id).chg (C := fun g => g = sb) (chg_set1 x2 sb _) (Nat.lt_of_lt_of_le e3 U2.out.size) (fun e => by omega)
  rw [← hx3]
  clear hx3 k2 kf k3 z0 z1 z2 U2
  go_loopw [7] (fun i wr => ∃ k : Nat, k ≤ n ∧ i = .int .i64 k ∧ Chg (fun g => g = sb ∨ RowB a' g) x wr ∧ wr.cell? ⟨sb, 0, none⟩ = some (.bool true) ∧ wr.cell? ⟨hb, 0, none⟩ = some (.int .i64 how) ∧ wr.cell? ⟨x.heap.size, 2, none⟩ = some (.slice a' n n) ∧ ∀ G, a' = some ⟨G, 0, none⟩ → n ≠ 0 → Full wr G n ∧ B ≤ G ∧ G < x.heap.size) (fun i _ => n - (intOf i).toNat)
  case atStart => exact ⟨0, Nat.zero_le _, rfl, c3.out, s3, h3, t3, F3.out⟩
  case round =>
    clear c3 s3 h3 t3 F3 hs23
    obtain ⟨k, hk, rfl, hc, hs, hh, ht, hF⟩ := hrel
    by_cases hlt : k < n
    · have t0 : decide ((k : Int) < n) = true := decide_eq_true (by omega)
      obtain ⟨G, rfl, _, _, _⟩ := HA.out.full (by omega)
      obtain ⟨hfu, hBG, hGx⟩ := hF G rfl (by omega)
      have HC := hide hc
      have HF := hide hfu
      obtain ⟨v0, y0⟩ := hfu.1 (k * 4) (by omega)
      obtain ⟨v1, y1⟩ := hfu.1 (k * 4 + 1) (by omega)
      obtain ⟨v2, y2⟩ := hfu.1 (k * 4 + 2) (by omega)
      obtain ⟨v3, y3⟩ := hfu.1 (k * 4 + 3) (by omega)
      have q0 := hfu.2 (k * 4)
      have q1 := hfu.2 (k * 4 + 1)
      have q2 := hfu.2 (k * 4 + 2)
      have q3 := hfu.2 (k * 4 + 3)
      have hkn : (k : Int) < n := by omega
      have hn63 : n ≤ 2 ^ 63 - 1 := by omega
      clear hc hfu hF
      go_wp2_with fail
      have hcx : ∀ p : Addr, ¬ p.block = G → ((((wr.setCell ⟨G, k * 4, none⟩ (.int .i64 99)).setCell ⟨G, k * 4 + 1, none⟩ (.int .i64 0)).setCell ⟨G, k * 4 + 2, none⟩ (.string ⟨#[]⟩)).setCell ⟨G, k * 4 + 3, none⟩ (.float .f64 0)).cell? p = wr.cell? p := fun p hp => by
        rw [World.cell?_setCell_other _ _ _ _ (by intro e; subst e; exact hp rfl), World.cell?_setCell_other _ _ _ _ (by intro e; subst e; exact hp rfl), World.cell?_setCell_other _ _ _ _ (by intro e; subst e; exact hp rfl), World.cell?_setCell_other _ _ _ _ (by intro e; subst e; exact hp rfl)]
      refine ⟨⟨k + 1, by omega, by go_num, ?_, ?_, ?_, ?_, ?_⟩, by simp [intOf]; omega⟩
      · exact Chg.set' (C := fun g => g = sb ∨ RowB (some ⟨G, 0, none⟩) g) _ _ (Or.inr ⟨0, rfl⟩) (Chg.set' (C := fun g => g = sb ∨ RowB (some ⟨G, 0, none⟩) g) _ _ (Or.inr ⟨0, rfl⟩) (Chg.set' (C := fun g => g = sb ∨ RowB (some ⟨G, 0, none⟩) g) _ _ (Or.inr ⟨0, rfl⟩) (Chg.set' (C := fun g => g = sb ∨ RowB (some ⟨G, 0, none⟩) g) _ _ (Or.inr ⟨0, rfl⟩) HC.out)))
      · exact (hcx _ (by show ¬ sb = G; omega)).trans hs
      · exact (hcx _ (by show ¬ hb = G; omega)).trans hh
      · exact (hcx _ (by show ¬ x.heap.size = G; omega)).trans ht
      · intro G' hG' _
        cases hG'
        exact ⟨(((HF.out.set _ _).set _ _).set _ _).set _ _, hBG, hGx⟩
    · obtain rfl : k = n := by omega
      have t0 : decide ((k : Int) < k) = false := decide_eq_false (by omega)
      have HC := hide hc
      clear hc hF
      go_wp2_with fail
      go_ret
      exact ⟨rfl, HC.out, hs⟩

set_option maxRecDepth 20000 in
set_option maxHeartbeats 4000000 in
theorem ob1_pan (bb ab sb hb : Nat) (a b a' b' : Option Addr) (n c p d : Nat) (m l : List VT) (how : Int) (old : Bool) (B : Nat) (x : World) (hn : n ≤ 12) (hp : p ≤ 12) (hv : Vals x a n m) (hw : Vals x b p l) (ha' : Handed B x a' n m) (hb' : Handed B x b' p l) (hsB : sb < B) (hbs : ¬ hb = sb) (hhB : hb < B)
    (k0 : x.cell? ⟨bb, 0, none⟩ = some (.slice a n c)) (k1 : x.cell? ⟨ab, 0, none⟩ = some (.slice b p d)) (k2 : x.cell? ⟨sb, 0, none⟩ = some (.bool old)) (kf : x.frozen? ⟨sb, 0, none⟩ = false) (k3 : x.cell? ⟨hb, 0, none⟩ = some (.int .i64 how)) (hbit : bits .and .i64 how 1 = 1) :
    Calls Tryd.prog 29 (#[.agg #[.string ⟨#[116]⟩, .int .i64 3, .slice a' n n, .slice b' p p]] ++ #[.pointer (some ⟨bb, 0, none⟩), .pointer (some ⟨ab, 0, none⟩), .pointer (some ⟨sb, 0, none⟩), .pointer (some ⟨hb, 0, none⟩)]) x fun e x' => e = .panicked [{ v := .iface 3 (.int .i64 how), recovered := false }] ∧ Chg (fun g => g = sb ∨ RowB a' g) x x' ∧ x'.cell? ⟨sb, 0, none⟩ = some (.bool true) := by
  show Calls Tryd.prog 29 #[.agg #[.string ⟨#[116]⟩, .int .i64 3, .slice a' n n, .slice b' p p], .pointer (some ⟨bb, 0, none⟩), .pointer (some ⟨ab, 0, none⟩), .pointer (some ⟨sb, 0, none⟩), .pointer (some ⟨hb, 0, none⟩)] x _
  have l0 : bb < x.heap.size := World.block_lt_of_cell? x _ k0
  have l1 : ab < x.heap.size := World.block_lt_of_cell? x _ k1
  have l2 : sb < x.heap.size := World.block_lt_of_cell? x _ k2
  have l3 : hb < x.heap.size := World.block_lt_of_cell? x _ k3
  have HV := hide hv
  have HW := hide hw
  have HA := hide ha'
  have HB := hide hb'
  clear hv hw ha' hb'
  go_enter Tryd.func29, Tryd.ntmps29
  go_wp2_with fail
  obtain ⟨X, hX⟩ : ∃ X, X = x.alloc (.cells #[.string ⟨#[116]⟩, .int .i64 3, .slice a' n n, .slice b' p p] 78) := ⟨_, rfl⟩
  have uX : Hid (Up x X) := by rw [hX]; exact (Up.refl _).alloc _
  have z0 : X.cell? ⟨x.heap.size, 0, none⟩ = some (.string ⟨#[116]⟩) := by rw [hX]; go_simp
  have z1 : X.cell? ⟨x.heap.size, 1, none⟩ = some (.int .i64 3) := by rw [hX]; go_simp
  have z2 : X.cell? ⟨x.heap.size, 2, none⟩ = some (.slice a' n n) := by rw [hX]; go_simp
  have z3 : X.cell? ⟨x.heap.size, 3, none⟩ = some (.slice b' p p) := by rw [hX]; go_simp
  rw [← hX]
  clear hX
  replace k1 := uX.out.cell k1
  replace k2 := uX.out.cell k2
  replace k3 := uX.out.cell k3
  replace kf := (uX.out.frozen (p := ⟨sb, 0, none⟩) l2).trans kf
  go_at_call 21
  refine (same_calls' a' a n n c m X (by unfold maxLen; omega) (HA.out.1.up uX.out) (HV.out.up uX.out)).mono ?_
  rintro _ x1 ⟨rfl, hu1⟩
  have U1 : Hid (Up x x1) := uX.out.trans hu1
  have kfX : X.frozen? ⟨sb, 0, none⟩ = false := kf
  replace kf := (hu1.frozen (p := ⟨sb, 0, none⟩) (Nat.lt_of_lt_of_le l2 uX.out.size)).trans kfX
  replace k1 := hu1.cell k1
  replace k2 := hu1.cell k2
  replace k3 := hu1.cell k3
  replace z0 := hu1.cell z0
  replace z1 := hu1.cell z1
  replace z2 := hu1.cell z2
  replace z3 := hu1.cell z3
  have l2' : sb < x1.heap.size := Nat.lt_of_lt_of_le l2 U1.out.size
  clear hu1 uX k0 kfX
  go_wp2_with fail
  go_at_call 21
  refine (same_calls' b' b p p d l x1 (by unfold maxLen; omega) (HB.out.1.up U1.out) (HW.out.up U1.out)).mono ?_
  rintro _ x2 ⟨rfl, hu2⟩
  replace kf := (hu2.frozen (p := ⟨sb, 0, none⟩) l2').trans kf
  replace k2 := hu2.cell k2
  replace k3 := hu2.cell k3
  replace z0 := hu2.cell z0
  replace z1 := hu2.cell z1
  replace z2 := hu2.cell z2
  have U2 : Hid (Up x x2) := U1.out.trans hu2
  clear hu2 U1 k1 z3 l2' HV HW
  go_wp2_with fail
  obtain ⟨x3, hx3⟩ : ∃ x3, x3 = x2.setCell ⟨sb, 0, none⟩ (.bool true) := ⟨_, rfl⟩
  have c3 : Hid (Chg (fun g => g = sb ∨ RowB a' g) x x3) := by rw [hx3]; exact (Chg.of_up U2.out).set (p := ⟨sb, 0, none⟩) (fun _ => Or.inl rfl) _
  have s3 : x3.cell? ⟨sb, 0, none⟩ = some (.bool true) := by rw [hx3]; exact World.cell?_setCell_same _ _ _ k2
  have h3 : x3.cell? ⟨hb, 0, none⟩ = some (.int .i64 how) := by rw [hx3]; exact (World.cell?_setCell_other _ _ _ _ (by intro e; exact hbs (congrArg Addr.block e).symm)).trans k3
  have t3 : x3.cell? ⟨x.heap.size, 2, none⟩ = some (.slice a' n n) := by rw [hx3]; exact (World.cell?_setCell_other _ _ _ _ (by intro e; have := congrArg Addr.block e; simp at this; omega)).trans z2
  have hs23 : x2.heap.size ≤ x3.heap.size := by rw [hx3]; simp
  have F3 : Hid (∀ G, a' = some ⟨G, 0, none⟩ → n ≠ 0 → Full x3 G n ∧ B ≤ G ∧ G < x.heap.size) := by
    intro G hG h0
    obtain ⟨G', e1, e2, e3, e4⟩ := HA.out.full h0
    rw [hG] at e1
    cases e1
    refine ⟨?_, e2, e3⟩
    rw [hx3]
    exact (e4.chg (C := fun _ => False) (Chg.of_up U2.out) e3 id).chg (C := fun g => g = sb) (chg_set1 x2 sb _) (Nat.lt_of_lt_of_le e3 U2.out.size) (fun e => by omega)
  rw [← hx3]
  clear hx3 k2 kf k3 z0 z1 z2 U2
  go_loopw [7] (fun i wr => ∃ k : Nat, k ≤ n ∧ i = .int .i64 k ∧ Chg (fun g => g = sb ∨ RowB a' g) x wr ∧ wr.cell? ⟨sb, 0, none⟩ = some (.bool true) ∧ wr.cell? ⟨hb, 0, none⟩ = some (.int .i64 how) ∧ wr.cell? ⟨x.heap.size, 2, none⟩ = some (.slice a' n n) ∧ ∀ G, a' = some ⟨G, 0, none⟩ → n ≠ 0 → Full wr G n ∧ B ≤ G ∧ G < x.heap.size) (fun i _ => n - (intOf i).toNat)
  case atStart => exact ⟨0, Nat.zero_le _, rfl, c3.out, s3, h3, t3, F3.out⟩
  case round =>
    clear c3 s3 h3 t3 F3 hs23
    obtain ⟨k, hk, rfl, hc, hs, hh, ht, hF⟩ := hrel
    by_cases hlt : k < n
    · have t0 : decide ((k : Int) < n) = true := decide_eq_true (by omega)
      obtain ⟨G, rfl, _, _, _⟩ := HA.out.full (by omega)
      obtain ⟨hfu, hBG, hGx⟩ := hF G rfl (by omega)
      have HC := hide hc
      have HF := hide hfu
      obtain ⟨v0, y0⟩ := hfu.1 (k * 4) (by omega)
      obtain ⟨v1, y1⟩ := hfu.1 (k * 4 + 1) (by omega)
      obtain ⟨v2, y2⟩ := hfu.1 (k * 4 + 2) (by omega)
      obtain ⟨v3, y3⟩ := hfu.1 (k * 4 + 3) (by omega)
      have q0 := hfu.2 (k * 4)
      have q1 := hfu.2 (k * 4 + 1)
      have q2 := hfu.2 (k * 4 + 2)
      have q3 := hfu.2 (k * 4 + 3)
      have hkn : (k : Int) < n := by omega
      have hn63 : n ≤ 2 ^ 63 - 1 := by omega
      clear hc hfu hF
      go_wp2_with fail
      have hcx : ∀ p : Addr, ¬ p.block = G → ((((wr.setCell ⟨G, k * 4, none⟩ (.int .i64 99)).setCell ⟨G, k * 4 + 1, none⟩ (.int .i64 0)).setCell ⟨G, k * 4 + 2, none⟩ (.string ⟨#[]⟩)).setCell ⟨G, k * 4 + 3, none⟩ (.float .f64 0)).cell? p = wr.cell? p := fun p hp => by
        rw [World.cell?_setCell_other _ _ _ _ (by intro e; subst e; exact hp rfl), World.cell?_setCell_other _ _ _ _ (by intro e; subst e; exact hp rfl), World.cell?_setCell_other _ _ _ _ (by intro e; subst e; exact hp rfl), World.cell?_setCell_other _ _ _ _ (by intro e; subst e; exact hp rfl)]
      refine ⟨⟨k + 1, by omega, by go_num, ?_, ?_, ?_, ?_, ?_⟩, by simp [intOf]; omega⟩
      · exact Chg.set' (C := fun g => g = sb ∨ RowB (some ⟨G, 0, none⟩) g) _ _ (Or.inr ⟨0, rfl⟩) (Chg.set' (C := fun g => g = sb ∨ RowB (some ⟨G, 0, none⟩) g) _ _ (Or.inr ⟨0, rfl⟩) (Chg.set' (C := fun g => g = sb ∨ RowB (some ⟨G, 0, none⟩) g) _ _ (Or.inr ⟨0, rfl⟩) (Chg.set' (C := fun g => g = sb ∨ RowB (some ⟨G, 0, none⟩) g) _ _ (Or.inr ⟨0, rfl⟩) HC.out)))
      · exact (hcx _ (by show ¬ sb = G; omega)).trans hs
      · exact (hcx _ (by show ¬ hb = G; omega)).trans hh
      · exact (hcx _ (by show ¬ x.heap.size = G; omega)).trans ht
      · intro G' hG' _
        cases hG'
        exact ⟨(((HF.out.set _ _).set _ _).set _ _).set _ _, hBG, hGx⟩
    · obtain rfl : k = n := by omega
      have t0 : decide ((k : Int) < k) = false := decide_eq_false (by omega)
      have HC := hide hc
      clear hc hF
      go_wp2_with fail
      exact ⟨rfl, rfl, HC.out, hs⟩

end Go.Proofs.YtmlfkjmondkfnaaDoor

namespace Go.Proofs.YtmlfkjmondkfnaaDoor
open Go.ChangeShapes Go.WideShapes Go.ChangeAt Go.RowKit
set_option linter.unusedVariables false
attribute [local go_sem ↓] Go.wp_at_zero Go.wp_at_succ
attribute [local go_sem] run_store_float

theorem and_1 (a : Int) : bits .and .i64 a 1 = 0 ∨ bits .and .i64 a 1 = 1 := by
  have h : (BitVec.ofInt 64 a &&& BitVec.ofInt 64 1).toNat < 2 := by
    rw [BitVec.toNat_and]
    have h7 : (BitVec.ofInt 64 1).toNat = 1 := by decide
    rw [h7]
    exact Nat.lt_of_le_of_lt Nat.and_le_right (by decide)
  have e : bits .and .i64 a 1 = ((BitVec.ofInt 64 a &&& BitVec.ofInt 64 1).toNat : Int) := by
    show IntKind.i64.wrap ((BitVec.ofInt 64 a &&& BitVec.ofInt 64 1).toNat : Int) = _
    generalize (BitVec.ofInt 64 a &&& BitVec.ofInt 64 1).toNat = k at h
    have := IntKind.wrap_i64 (k : Int)
    rw [this]
    omega
  rw [e]
  generalize (BitVec.ofInt 64 a &&& BitVec.ofInt 64 1).toNat = k at h
  omega
theorem Vals.chgN {C : Nat → Prop} {w w' : World} {a : Option Addr} {n : Nat} {l : List VT} (h : Vals w a n l) (hc : Chg C w w') (ha : ∀ b, b < w.heap.size → n ≠ 0 → RowB a b → ¬ C b) : Vals w' a n l := by
  refine ⟨h.1, h.2.1, ?_⟩
  rcases h.2.2 with h0 | ⟨b, o, rfl, hx⟩
  · exact .inl h0
  · by_cases h0 : n = 0
    · exact .inl h0
    refine .inr ⟨b, o, rfl, fun i hi => ?_⟩
    have hn := ha b (World.block_lt_of_cell? w _ (hx i hi).1) h0 ⟨o, rfl⟩
    exact ⟨hc.cell (hx i hi).1 hn, hc.cell (hx i hi).2.1 hn, hc.cell (hx i hi).2.2.1 hn, hc.cell (hx i hi).2.2.2 hn⟩
theorem Vals.none0 {w : World} {a : Option Addr} {n : Nat} {l : List VT} (h : Vals w a n l) : a = none → n = 0 := by
  intro h0
  rcases h.2.2 with h1 | ⟨b, o, h1, _⟩
  · exact h1
  · rw [h0] at h1; cases h1
theorem few_parts {l : List VT} {k : Int} (h : fewB l k = true) : (∀ i, (l.getD i zeroT).2.2.1.size ≤ 200) ∧ (l.length : Int) ≤ k := by
  unfold fewB at h
  simp only [Bool.and_eq_true, decide_eq_true_eq] at h
  exact ⟨fun i => shortB_get h.1 i, h.2⟩
theorem copyS_calls (a : Option Addr) (n c : Nat) (l : List VT) (w : World) (hn : n ≤ 1000) (hv : Vals w a n l) :
    Calls Tryd.prog 18 #[.slice a n c] w fun e w' => ∃ ca cc, e = .returned (.slice ca n cc) ∧ Vals w' ca n l ∧ (∀ g, RowB ca g → w.heap.size ≤ g ∧ g < w'.heap.size) ∧ Up w w' := by
  refine (copy_calls a n c l w hn hv hv.none0).mono ?_
  rintro _ w' ⟨v, rfl, ho, hu⟩
  have hlt := ho.lt
  obtain ⟨ca, cc, rfl, _, _, _, h1, _⟩ := owns_vals ho hv.2.1
  exact ⟨ca, cc, rfl, h1, fun g hg => by obtain ⟨o, rfl⟩ := hg; exact hlt g rfl, hu⟩
theorem ChB.new (w : World) (s : ByteArray) (id : Int) (u v : Value) (t : TypeId) : ChB (w.alloc (.cells #[.string s, .int .i64 id, u, v] t)) w.heap.size s id u v :=
  ⟨⟨by go_simp, by go_simp, by go_simp, by go_simp⟩, fun i => by simp⟩
/-- Where HookObserves stands when it has made its change. -/
structure TP (w3 : World) (l0 l1 : List VT) (ca : Option Addr) (cc : Nat) (cb : Option Addr) (cd : Nat) (X : World) (kb : Nat) : Prop where
  up : Up w3 X
  box : ChB X kb ⟨#[116]⟩ 3 (.slice ca l0.length cc) (.slice cb l1.length cd)
  va : Vals X ca l0.length l0
  vb : Vals X cb l1.length l1
  ga : ∀ g, RowB ca g → g < X.heap.size
  gb : ∀ g, RowB cb g → g < X.heap.size
theorem TP.ofSet {w3 x2 : World} {l0 l1 : List VT} {ca cb : Option Addr} {cc cd kb : Nat} {s0 : ByteArray} {i0 : Int} {u0 v0 : Value} (hu : Up w3 x2) (hk : w3.heap.size ≤ kb) (h : ChB x2 kb s0 i0 u0 v0) (va : Vals x2 ca l0.length l0) (vb : Vals x2 cb l1.length l1) (ga : ∀ g, RowB ca g → g < x2.heap.size ∧ ¬ g = kb) (gb : ∀ g, RowB cb g → g < x2.heap.size ∧ ¬ g = kb) :
    TP w3 l0 l1 ca cc cb cd ((((x2.setCell ⟨kb, 0, none⟩ (.string ⟨#[116]⟩)).setCell ⟨kb, 1, none⟩ (.int .i64 3)).setCell ⟨kb, 2, none⟩ (.slice ca l0.length cc)).setCell ⟨kb, 3, none⟩ (.slice cb l1.length cd)) kb := by
  have h4 := chg_set4 x2 kb (.string ⟨#[116]⟩) (.int .i64 3) (.slice ca l0.length cc) (.slice cb l1.length cd)
  obtain ⟨⟨h0, h1, h2, h3⟩, hf⟩ := h
  refine ⟨Below.trans hu.below (Chg.below (B := w3.heap.size) h4 (fun x hx e => by omega) hu.size), ⟨⟨by go_simp, by go_simp, by go_simp, by go_simp⟩, fun i => by simp only [World.frozen?_setCell]; exact hf i⟩, va.chg h4 (fun g hg => (ga g hg).2), vb.chg h4 (fun g hg => (gb g hg).2), fun g hg => Nat.lt_of_lt_of_le (ga g hg).1 h4.size, fun g hg => Nat.lt_of_lt_of_le (gb g hg).1 h4.size⟩
theorem TP.ofNew {w3 x2 : World} {l0 l1 : List VT} {ca cb : Option Addr} {cc cd : Nat} (t : TypeId) (hu : Up w3 x2) (va : Vals x2 ca l0.length l0) (vb : Vals x2 cb l1.length l1) (ga : ∀ g, RowB ca g → g < x2.heap.size) (gb : ∀ g, RowB cb g → g < x2.heap.size) :
    TP w3 l0 l1 ca cc cb cd (x2.alloc (.cells #[.string ⟨#[116]⟩, .int .i64 3, .slice ca l0.length cc, .slice cb l1.length cd] t)) x2.heap.size :=
  ⟨hu.alloc _, ChB.new _ _ _ _ _ _, va.up ((Up.refl _).alloc _), vb.up ((Up.refl _).alloc _), fun g hg => by have := ga g hg; simp; omega, fun g hg => by have := gb g hg; simp; omega⟩
theorem Chg.of_below {B : Nat} {w w' : World} (h : Below B w w') : Chg (fun g => B ≤ g) w w' := ⟨Below.mono h (Nat.zero_le _), fun b _ hn => h.block b (by omega)⟩
theorem ob1_enter (v : Value) (cap : Array Value) (w : World) : (callFunc 29 (#[v] ++ cap)).run Tryd.prog w = .ok (.enter 29 (#[v] ++ cap)) w := by
  simp [go_sem]

set_option maxRecDepth 20000 in
set_option maxHeartbeats 8000000 in
theorem hookObserves_all (a0 : Option Addr) (len0 cap0 : Nat) (l0 : List VT) (a1 : Option Addr) (len1 cap1 : Nat) (l1 : List VT) (a2 : Int) (w : World) (w0 : len0 ≤ maxLen ∧ len0 ≤ cap0 ∧ cap0 ≤ maxLen ∧ Vals w a0 len0 l0) (w1 : len1 ≤ maxLen ∧ len1 ≤ cap1 ∧ cap1 ≤ maxLen ∧ Vals w a1 len1 l1) (w2 : (Lit.int .i64 a2).wf = true) (hT : TabE w) :
    Calls Tryd.prog 5 #[.slice a0 len0 cap0, .slice a1 len1 cap1, .int .i64 a2] w fun e w' => e = .returned (.bool true) ∧ Up w w' := by
  have hmf : ∀ (fn : Fn) (first cap : Array Value) (w : World), (Instr.makeFunc fn first cap).run Tryd.prog w = .ok (.func fn first cap) w := fun _ _ _ _ => rfl
  obtain rfl : l0.length = len0 := w0.2.2.2.1
  obtain rfl : l1.length = len1 := w1.2.2.2.1
  have HT := hide hT
  have HV0 := hide w0.2.2.2
  have HV1 := hide w1.2.2.2
  have hm0 : l0.length ≤ maxLen := w0.1
  have hm1 : l1.length ≤ maxLen := w1.1
  clear hT w0 w1 w2
  go_enter Tryd.func5, Tryd.ntmps5
  go_wp2_with fail
  obtain ⟨W0, hW0⟩ : ∃ W0, W0 = ((w.alloc (.cells #[.slice a0 l0.length cap0] 44)).alloc (.cells #[.slice a1 l1.length cap1] 44)).alloc (.cells #[.int .i64 a2] 3) := ⟨_, rfl⟩
  have U0 : Hid (Up w W0) := by rw [hW0]; exact (((Up.refl _).alloc _).alloc _).alloc _
  have k0 : W0.cell? ⟨w.heap.size, 0, none⟩ = some (.slice a0 l0.length cap0) := by rw [hW0]; go_simp
  have k1 : W0.cell? ⟨w.heap.size + 1, 0, none⟩ = some (.slice a1 l1.length cap1) := by rw [hW0]; go_simp
  have k2 : W0.cell? ⟨w.heap.size + 1 + 1, 0, none⟩ = some (.int .i64 a2) := by rw [hW0]; go_simp
  rw [← hW0]
  clear hW0
  go_at_call 8
  refine (known_calls W0 (HT.out.up U0.out)).mono ?_
  rintro _ w1 ⟨rfl, hu1⟩
  replace U0 := hide (U0.out.trans hu1)
  replace k0 := hu1.cell k0
  replace k1 := hu1.cell k1
  replace k2 := hu1.cell k2
  clear hu1
  go_wp2_with fail
  go_at_call 16
  refine (few_calls a0 l0.length cap0 l0 10 w1 hm0 (HV0.out.up U0.out)).mono ?_
  rintro _ w2 ⟨rfl, rfl⟩
  obtain ⟨q, hq0⟩ : ∃ q, fewB l0 10 = q := ⟨_, rfl⟩
  rw [hq0]
  cases q with
  | false =>
    go_wp2
    go_ret
    exact ⟨rfl, U0.out⟩
  | true =>
  go_wp2_with fail
  go_at_call 16
  refine (few_calls a1 l1.length cap1 l1 10 w2 hm1 (HV1.out.up U0.out)).mono ?_
  rintro _ w3 ⟨rfl, rfl⟩
  obtain ⟨q, hq1⟩ : ∃ q, fewB l1 10 = q := ⟨_, rfl⟩
  rw [hq1]
  cases q with
  | false =>
    go_wp2
    go_ret
    exact ⟨rfl, U0.out⟩
  | true =>
  obtain ⟨hs0, hn0⟩ := few_parts hq0
  obtain ⟨hs1, hn1⟩ := few_parts hq1
  replace hs0 := hide hs0
  replace hs1 := hide hs1
  have hn0' : l0.length ≤ 10 := by omega
  have hn1' : l1.length ≤ 10 := by omega
  clear hq0 hq1 hn0 hn1 hm0 hm1
  go_wp2_with fail
  have hl0 : w.heap.size < w3.heap.size := World.block_lt_of_cell? w3 _ k0
  have hl1 : w.heap.size + 1 < w3.heap.size := World.block_lt_of_cell? w3 _ k1
  rename_i Q1 K1 A1
  have tail : ∀ (X : World) (kb : Nat) (ca cb : Option Addr) (cc cd : Nat), TP w3 l0 l1 ca cc cb cd X kb → Exit.then K1 Q1 Exit.normal { tmps := #[.slice a0 l0.length cap0, .slice a1 l1.length cap1, .int .i64 a2, .pointer (some ⟨w.heap.size, 0, none⟩), .pointer (some ⟨w.heap.size + 1, 0, none⟩), .pointer (some ⟨w.heap.size + 1 + 1, 0, none⟩), .bool false, .pointer (some ⟨kb, 0, none⟩), undef, undef, .bool true, .bool false, .slice a0 l0.length cap0, .bool true, .bool false, .bool false, .slice a1 l1.length cap1, .bool true, .bool false, .bool false, .slice a0 l0.length cap0, .slice ca l0.length cc, .slice a1 l1.length cap1, .slice cb l1.length cd, .agg #[.string ⟨#[116]⟩, .int .i64 3, .slice ca l0.length cc, .slice cb l1.length cd], undef, undef, undef, undef, undef, undef, undef, undef, undef, undef, undef, undef, undef, undef, undef, undef, undef, undef, undef, undef, undef, undef, undef, undef, undef, undef, undef, undef, undef], defers := [] } X := by
    intro X kb ca cb cc cd hP
    have HP := hide hP
    have U3 : Hid (Up w X) := U0.out.trans hP.up
    have d0 := hP.up.cell k0
    have d1 := hP.up.cell k1
    have d2 := hP.up.cell k2
    have b0 := hP.box.1.1
    have b1 := hP.box.1.2.1
    have b2 := hP.box.1.2.2.1
    have b3 := hP.box.1.2.2.2
    have hkb : kb < X.heap.size := World.block_lt_of_cell? X _ b0
    have hx2 : w.heap.size + 1 + 1 < X.heap.size := World.block_lt_of_cell? X _ d2
    clear hP
    go_wp2_with fail
    obtain ⟨W, hW⟩ : ∃ W, W = X.alloc (.cells #[.bool false] 4) := ⟨_, rfl⟩
    have uXW : Hid (Up X W) := by rw [hW]; exact (Up.refl _).alloc _
    have zs : W.cell? ⟨X.heap.size, 0, none⟩ = some (.bool false) := by rw [hW]; go_simp
    have zf : W.frozen? ⟨X.heap.size, 0, none⟩ = false := by rw [hW]; go_simp
    have hXW : X.heap.size < W.heap.size := by rw [hW]; simp
    rw [← hW]
    clear hW
    have UW : Hid (Up w W) := U3.out.trans uXW.out
    have z0 := uXW.out.cell d0
    have z1 := uXW.out.cell d1
    have z2 := uXW.out.cell d2
    clear d0 d1 d2 b0 b1 b2 b3 k0 k1 k2
    go_at_call 28
    rcases and_1 a2 with hbit | hbit
    · skip
      refine (obs_ok 29 #[.pointer (some ⟨w.heap.size, 0, none⟩), .pointer (some ⟨w.heap.size + 1, 0, none⟩), .pointer (some ⟨X.heap.size, 0, none⟩), .pointer (some ⟨w.heap.size + 1 + 1, 0, none⟩)] ca cb l0.length cc l1.length cd l0 l1 ⟨#[116]⟩ 3 (fun g => g = X.heap.size) (fun q x' => Chg (fun g => g = X.heap.size ∨ W.heap.size ≤ g) q x' ∧ x'.cell? ⟨X.heap.size, 0, none⟩ = some (.bool true)) W (HT.out.up UW.out) (fun g e => by omega) (by decide) (by omega) (HP.out.va.up uXW.out) hs0.out (by omega) (HP.out.vb.up uXW.out) hs1.out (fun g h => by have := HP.out.ga g h; omega) (fun g h => by have := HP.out.gb g h; omega) (fun v w' => ob1_enter v _ w') (fun x a' b' hx h1 h2 => (ob1_ret w.heap.size (w.heap.size + 1) X.heap.size (w.heap.size + 1 + 1) a0 a1 a' b' l0.length cap0 l1.length cap1 l0 l1 a2 false W.heap.size x (by omega) (by omega) ((HV0.out.up UW.out).up hx) ((HV1.out.up UW.out).up hx) h1 h2 (by omega) (by omega) (by omega) (hx.cell z0) (hx.cell z1) (hx.cell zs) ((hx.frozen (p := ⟨X.heap.size, 0, none⟩) hXW).trans zf) (hx.cell z2) hbit).mono ?_)).mono ?_
      · rintro _ x' ⟨rfl, hc, hse⟩
        refine ⟨rfl, hc.mono (fun g _ h => h.elim Or.inl (fun h => Or.inr (Or.inl h))), ?_, hc.mono (fun g _ h => h.elim Or.inl (fun h => Or.inr (h1.ge h))), hse⟩
        exact hc.cell ((HT.out.up UW.out).up hx) (fun h => h.elim (fun h => by have h' : 0 = X.heap.size := h; have := HT.out.lt; omega) (fun h => by have h' : W.heap.size ≤ 0 := h1.ge h; have := (HT.out.up UW.out).lt; omega))
      rintro _ w4 ⟨rfl, q, x', hq, ⟨hcc, hse⟩, hb⟩
      have FC : Chg (fun g => g = X.heap.size) W w4 := Chg.trans (Chg.trans (Chg.of_up hq) hcc (fun g hg h => h.resolve_right (by omega))) (Chg.of_below hb) (fun g hg h => by omega)
      have s4 : w4.cell? ⟨X.heap.size, 0, none⟩ = some (.bool true) := (hb.cell (p := ⟨X.heap.size, 0, none⟩) hXW).trans hse
      have U4 : Hid (Up w w4) := Below.trans UW.out.below (Chg.below (B := w.heap.size) FC (fun g hg e => by omega) UW.out.size)
      have z0 := FC.cell z0 (by show ¬ w.heap.size = X.heap.size; omega)
      have z2 := FC.cell z2 (by show ¬ w.heap.size + 1 + 1 = X.heap.size; omega)
      have b2 := FC.cell (uXW.out.cell HP.out.box.1.2.2.1) (by show ¬ kb = X.heap.size; omega)
      have V4 : Hid (Vals w4 ca l0.length l0) := (HP.out.va.up uXW.out).chg FC (fun g h e => by have := HP.out.ga g h; omega)
      have V0 : Hid (Vals w4 a0 l0.length l0) := HV0.out.up U4.out
      clear hcc hse hb hq FC
      go_wp2_with fail
      refine region_up (by kernel_rfl) (by kernel_rfl) ?_
      repeat (first
        | go_big_quiet_skip
        | (go_big_quiet_want; go_big_quiet_op; go_big_quiet_on)
        | (go_big_quiet_want
           apply Exists.intro
           refine ⟨fun w' hw' => ?_, ?_⟩
           (skip
            have s4 := hw'.cell s4
            have z0 := hw'.cell z0
            have z2 := hw'.cell z2
            have b2 := hw'.cell b2
            go_simp
            first
            | done
            | with_reducible rfl
            | (go_at_call 21; exact quiet_call hw' (same_calls' ca a0 l0.length cc cap0 l0 w' (by unfold maxLen; omega) (V4.out.up hw') (V0.out.up hw')))
           )
           go_big_quiet_on
           try simp only [Act.put, List.setIfInBounds_toArray, List.set_cons_zero, List.set_cons_succ]))
      refine wpQuiet_nil ?_
      intro w8 hu8
      replace U4 := hide (U4.out.trans hu8)
      clear hu8
      go_wp2
      go_ret
      exact ⟨rfl, U4.out⟩
    · skip
      refine (obs_pan 29 #[.pointer (some ⟨w.heap.size, 0, none⟩), .pointer (some ⟨w.heap.size + 1, 0, none⟩), .pointer (some ⟨X.heap.size, 0, none⟩), .pointer (some ⟨w.heap.size + 1 + 1, 0, none⟩)] ca cb l0.length cc l1.length cd l0 l1 ⟨#[116]⟩ 3 3 (.int .i64 a2) (by decide) (fun g => g = X.heap.size) (fun q x' => Chg (fun g => g = X.heap.size ∨ W.heap.size ≤ g) q x' ∧ x'.cell? ⟨X.heap.size, 0, none⟩ = some (.bool true)) W (HT.out.up UW.out) (fun g e => by omega) (by decide) (by omega) (HP.out.va.up uXW.out) hs0.out (by omega) (HP.out.vb.up uXW.out) hs1.out (fun g h => by have := HP.out.ga g h; omega) (fun g h => by have := HP.out.gb g h; omega) (fun v w' => ob1_enter v _ w') (fun x a' b' hx h1 h2 => (ob1_pan w.heap.size (w.heap.size + 1) X.heap.size (w.heap.size + 1 + 1) a0 a1 a' b' l0.length cap0 l1.length cap1 l0 l1 a2 false W.heap.size x (by omega) (by omega) ((HV0.out.up UW.out).up hx) ((HV1.out.up UW.out).up hx) h1 h2 (by omega) (by omega) (by omega) (hx.cell z0) (hx.cell z1) (hx.cell zs) ((hx.frozen (p := ⟨X.heap.size, 0, none⟩) hXW).trans zf) (hx.cell z2) hbit).mono ?_)).mono ?_
      · rintro _ x' ⟨rfl, hc, hse⟩
        refine ⟨rfl, hc.mono (fun g _ h => h.elim Or.inl (fun h => Or.inr (Or.inl h))), ?_, hc.mono (fun g _ h => h.elim Or.inl (fun h => Or.inr (h1.ge h))), hse⟩
        exact hc.cell ((HT.out.up UW.out).up hx) (fun h => h.elim (fun h => by have h' : 0 = X.heap.size := h; have := HT.out.lt; omega) (fun h => by have h' : W.heap.size ≤ 0 := h1.ge h; have := (HT.out.up UW.out).lt; omega))
      rintro _ w4 ⟨b, rfl, hf, q, x', hq, ⟨hcc, hse⟩, hb⟩
      have FC : Chg (fun g => g = X.heap.size) W w4 := Chg.trans (Chg.trans (Chg.of_up hq) hcc (fun g hg h => h.resolve_right (by omega))) (Chg.of_below hb) (fun g hg h => by omega)
      have s4 : w4.cell? ⟨X.heap.size, 0, none⟩ = some (.bool true) := (hb.cell (p := ⟨X.heap.size, 0, none⟩) hXW).trans hse
      have U4 : Hid (Up w w4) := Below.trans UW.out.below (Chg.below (B := w.heap.size) FC (fun g hg e => by omega) UW.out.size)
      have z0 := FC.cell z0 (by show ¬ w.heap.size = X.heap.size; omega)
      have z2 := FC.cell z2 (by show ¬ w.heap.size + 1 + 1 = X.heap.size; omega)
      have b2 := FC.cell (uXW.out.cell HP.out.box.1.2.2.1) (by show ¬ kb = X.heap.size; omega)
      have V4 : Hid (Vals w4 ca l0.length l0) := (HP.out.va.up uXW.out).chg FC (fun g h e => by have := HP.out.ga g h; omega)
      have V0 : Hid (Vals w4 a0 l0.length l0) := HV0.out.up U4.out
      have HF := hide hf
      clear hcc hse hb hq FC
      go_wp2_with fail
      refine region_up (by kernel_rfl) (by kernel_rfl) ?_
      repeat (first
        | go_big_quiet_skip
        | (go_big_quiet_want; go_big_quiet_op; go_big_quiet_on)
        | (go_big_quiet_want
           apply Exists.intro
           refine ⟨fun w' hw' => ?_, ?_⟩
           (skip
            have s4 := hw'.cell s4
            have z0 := hw'.cell z0
            have z2 := hw'.cell z2
            have b2 := hw'.cell b2
            go_simp
            first
            | done
            | with_reducible rfl
            | (go_at_call 21; exact quiet_call hw' (same_calls' ca a0 l0.length cc cap0 l0 w' (by unfold maxLen; omega) (V4.out.up hw') (V0.out.up hw')))
            | (go_at_call 15; exact quiet_call hw' (struck_int b 0 _ a2 w' (HT.out.up (U4.out.trans hw')) (HF.out.up hw')))
           )
           go_big_quiet_on
           try simp only [Act.put, List.setIfInBounds_toArray, List.set_cons_zero, List.set_cons_succ]))
      refine wpQuiet_nil ?_
      intro w8 hu8
      replace U4 := hide (U4.out.trans hu8)
      clear hu8
      go_wp2
      go_ret
      exact ⟨rfl, U4.out⟩
  have TL := hide tail
  clear tail
  have D0 := hide (HV0.out.up (U0.out.drew))
  have D1 := hide (HV1.out.up (U0.out.drew))
  go_region_law (first
    | (go_simp; go_at_call_of 18 (Value.slice a0 l0.length cap0); refine (copyS_calls a0 l0.length cap0 l0 _ (by omega) ?_).mono ?_; (first | exact D0.out | exact D0.out.up ((Up.refl _).alloc _)); rintro _ x1 ⟨ca, cc, rfl, hv, hg, hu1⟩;
       have U1 : Hid (Up w3.drew x1) := (by first | exact hu1 | exact ((Up.refl _).alloc _).trans hu1);
       have q1 := U1.out.cell (p := ⟨w.heap.size + 1, 0, none⟩) (v := .slice a1 l1.length cap1) k1; have hq1 : w.heap.size + 1 < x1.heap.size := World.block_lt_of_cell? x1 ⟨w.heap.size + 1, 0, none⟩ q1;
       have VA := hide hv; have GA : Hid (∀ g, RowB ca g → g < x1.heap.size) := (fun g h => (hg g h).2);
       (first | (have HA : Hid (ChB x1 w3.heap.size ⟨#[]⟩ 0 (.slice none 0 0) (.slice none 0 0)) := ChB.up (ChB.new w3.drew ⟨#[]⟩ 0 (.slice none 0 0) (.slice none 0 0) 78) hu1; have GA2 : Hid (∀ g, RowB ca g → w3.heap.size < g) := (fun g h => by have := (hg g h).1; simp at this; omega)) | skip);
       clear hv hg hu1; dsimp only)
    | (go_simp; go_at_call_of 18 (Value.slice a1 l1.length cap1); refine (copyS_calls a1 l1.length cap1 l1 _ (by omega) ?_).mono ?_; (first | exact D1.out.up U1.out | exact (D1.out.up U1.out).up ((Up.refl _).alloc _)); rintro _ x2 ⟨cb, cd, rfl, hv, hg, hu2⟩;
       have U2 : Hid (Up x1 x2) := (by first | exact hu2 | exact ((Up.refl _).alloc _).trans hu2);
       have VB := hide hv; have GB : Hid (∀ g, RowB cb g → x1.heap.size ≤ g ∧ g < x2.heap.size) := (fun g h => ⟨Nat.le_trans (by simp) (hg g h).1, (hg g h).2⟩);
       (first
         | (have GB2 : Hid (∀ g, RowB cb g → x1.heap.size < g) := (fun g h => by have := (hg g h).1; simp at this; omega); have HB : Hid (ChB x2 x1.heap.size ⟨#[]⟩ 0 (.slice none 0 0) (.slice none 0 0)) := ChB.up (ChB.new x1 ⟨#[]⟩ 0 (.slice none 0 0) (.slice none 0 0) 78) hu2; have i0 := HB.out.1.1; have i1 := HB.out.1.2.1; have i2 := HB.out.1.2.2.1; have i3 := HB.out.1.2.2.2; have j0 := HB.out.2 0; have j1 := HB.out.2 1; have j2 := HB.out.2 2; have j3 := HB.out.2 3)
         | (have HA2 := hide (HA.out.up hu2); have i0 := HA2.out.1.1; have i1 := HA2.out.1.2.1; have i2 := HA2.out.1.2.2.1; have i3 := HA2.out.1.2.2.2; have j0 := HA2.out.2 0; have j1 := HA2.out.2 1; have j2 := HA2.out.2 2; have j3 := HA2.out.2 3)
         | skip);
       clear hv hg hu2; dsimp only))
  all_goals (
    have u32 : Up w3 x2 := ((Up.refl w3).drew.trans U1.out).trans U2.out
    have s13 : w3.heap.size ≤ x1.heap.size := ((Up.refl w3).drew.trans U1.out).size
    have s12 : x1.heap.size ≤ x2.heap.size := U2.out.size
    first
      | exact TL.out _ x1.heap.size ca cb cc cd (TP.ofSet u32 s13 HB.out (VA.out.up U2.out) VB.out (fun g h => ⟨Nat.lt_of_lt_of_le (GA.out g h) s12, by have := GA.out g h; omega⟩) (fun g h => ⟨(GB.out g h).2, by have := GB2.out g h; omega⟩))
      | exact TL.out _ w3.heap.size ca cb cc cd (TP.ofSet u32 (Nat.le_refl _) HA2.out (VA.out.up U2.out) VB.out (fun g h => ⟨Nat.lt_of_lt_of_le (GA.out g h) s12, by have := GA2.out g h; omega⟩) (fun g h => ⟨(GB.out g h).2, by have := (GB.out g h).1; have := World.block_lt_of_cell? x1 ⟨w3.heap.size, 0, none⟩ HA.out.1.1; simp at this; omega⟩))
      | exact TL.out _ x2.heap.size ca cb cc cd (TP.ofNew _ u32 (VA.out.up U2.out) VB.out (fun g h => Nat.lt_of_lt_of_le (GA.out g h) s12) (fun g h => (GB.out g h).2)))

end Go.Proofs.YtmlfkjmondkfnaaDoor

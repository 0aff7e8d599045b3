/-
  What package hook's Observe answers, as its text runs: user code by its own contract.
-/
import Derived.Test.YtmlfkjmondkfnaaDoorHookExt0
namespace Go.Proofs.YtmlfkjmondkfnaaDoor
open Go.ChangeShapes Go.WideShapes Go.ChangeAt Go.RowKit
set_option linter.unusedVariables false
attribute [local go_sem ↓] Go.wp_at_zero Go.wp_at_succ
attribute [local go_sem] run_store_float

/-- A change's box. -/
def ChB (w : World) (b : Nat) (s : ByteArray) (id : Int) (u v : Value) : Prop := (w.cell? ⟨b, 0, none⟩ = some (.string s) ∧ w.cell? ⟨b, 1, none⟩ = some (.int .i64 id) ∧ w.cell? ⟨b, 2, none⟩ = some u ∧ w.cell? ⟨b, 3, none⟩ = some v) ∧ ∀ i, w.frozen? ⟨b, i, none⟩ = false
theorem ChB.up {w w' : World} {b : Nat} {s : ByteArray} {id : Int} {u v : Value} (h : ChB w b s id u v) (hu : Up w w') : ChB w' b s id u v :=
  ⟨⟨hu.cell h.1.1, hu.cell h.1.2.1, hu.cell h.1.2.2.1, hu.cell h.1.2.2.2⟩, fun i => (hu.frozen (p := ⟨b, i, none⟩) (World.block_lt_of_cell? w ⟨b, 0, none⟩ h.1.1)).trans (h.2 i)⟩

theorem Handed.chg {B : Nat} {C : Nat → Prop} {w w' : World} {a : Option Addr} {n : Nat} {m : List VT} (h : Handed B w a n m) (hc : Chg C w w') (hn : ∀ b, RowB a b → ¬ C b) : Handed B w' a n m := by
  refine ⟨h.1.chg hc hn, h.2.imp id ?_⟩
  rintro ⟨G, rfl, h2, h3, h4⟩
  exact ⟨G, rfl, h2, Nat.lt_of_lt_of_le h3 hc.size, fun i => (hc.frozen (p := ⟨G, i, none⟩) h3 (hn G ⟨0, rfl⟩)).trans (h4 i)⟩
theorem Handed.ge {B : Nat} {w : World} {a : Option Addr} {n : Nat} {m : List VT} (h : Handed B w a n m) {b : Nat} (hb : RowB a b) : B ≤ b := by
  rcases Nat.lt_or_ge b B with h' | h'
  · exact absurd hb (h.not (.inl h'))
  · exact h'

set_option maxRecDepth 20000 in
set_option maxHeartbeats 4000000 in
theorem obs1_ret (U : FuncId) (ucap : Array Value) (fb cb : Nat) (a b : Option Addr) (n c p d : Nat) (m l : List VT) (s : ByteArray) (id : Int) (C : Nat → Prop) (S : World → World → Prop) (B : Nat) (y : World) (hB : B ≤ cb) (hT : TabE y) (hTB : 0 < B) (hC : ∀ b, C b → b < B) (hs : s.size ≤ 281474976710656) (hn : n ≤ 12) (hv : Vals y a n m) (hsh : ∀ i, (m.getD i zeroT).2.2.1.size ≤ 200) (hp : p ≤ 12) (hw : Vals y b p l) (hsl : ∀ i, (l.getD i zeroT).2.2.1.size ≤ 200) (hva : ∀ g, RowB a g → g < B) (hvb : ∀ g, RowB b g → g < B) (hne : ¬ fb = cb)
    (k0 : y.cell? ⟨fb, 0, none⟩ = some (.func (.func U) #[] ucap)) (k1 : ChB y cb s id (.slice a n c) (.slice b p d))
    (hE : ∀ v w', (callFunc U (#[v] ++ ucap)).run Tryd.prog w' = .ok (.enter U (#[v] ++ ucap)) w')
    (hU : ∀ x a' b', Below B y x → Handed y.heap.size x a' n m → Handed y.heap.size x b' p l → Calls Tryd.prog U (#[.agg #[.string s, .int .i64 id, .slice a' n n, .slice b' p p]] ++ ucap) x fun e x' => e = .returned .nilIface ∧ Chg (fun b => C b ∨ RowB a' b ∨ RowB b' b) x x' ∧ TabE x' ∧ S x x') :
    Calls Tryd.prog 61 #[.pointer (some ⟨fb, 0, none⟩), .pointer (some ⟨cb, 0, none⟩)] y fun e y' => e = .returned .nilIface ∧ Chg (fun b => C b ∨ b = cb) y y' ∧ TabE y' ∧ ∃ x, Below B y x ∧ y.heap.size ≤ x.heap.size ∧ S x y' := by
  have n1 := run_eql_fn Tryd.underlying118
  have c0 := k1.1.1
  have c1 := k1.1.2.1
  have c2 := k1.1.2.2.1
  have c3 := k1.1.2.2.2
  have HK1 := hide k1.2
  have f0 := k1.2 0
  have f2 := k1.2 2
  have f3 := k1.2 3
  have hcb : cb < y.heap.size := World.block_lt_of_cell? y _ c0
  have hfb : fb < y.heap.size := World.block_lt_of_cell? y _ k0
  have hne' : ¬ cb = fb := fun e => hne e.symm
  have HU := hide hU
  have HV := hide hv
  have HW := hide hw
  have HSH := hide hsh
  have HSL := hide hsl
  have HT := hide hT
  have HC := hide hC
  clear hU hv hw hsh hsl hT hC k1
  go_enter Tryd.func61, Tryd.ntmps61
  go_wp2_with fail
  go_at_call 38
  refine (clone_calls s y hs).mono ?_
  rintro _ y1 ⟨rfl, hu1⟩
  have K1 : Hid (ChB y1 cb s id (.slice a n c) (.slice b p d)) := hide (ChB.up ⟨⟨c0, c1, c2, c3⟩, HK1.out⟩ hu1)
  have KF := hu1.cell k0
  have d0 := K1.out.1.1
  have df0 := K1.out.2 0
  have HU1 := hide hu1
  clear c0 c1 c2 c3 f0 f2 f3 k0 hu1
  go_wp2_with fail
  obtain ⟨Y, hY⟩ : ∃ Y, Y = y1.setCell ⟨cb, 0, none⟩ (.string s) := ⟨_, rfl⟩
  have cY : Hid (Chg (fun x => x = cb) y Y) := by rw [hY]; exact Chg.trans (Chg.of_up HU1.out) (chg_set1 y1 cb _) (fun _ _ h => h)
  have e0 : Y.cell? ⟨cb, 0, none⟩ = some (.string s) := by rw [hY]; exact World.cell?_setCell_same _ _ _ d0
  have e1 : Y.cell? ⟨cb, 1, none⟩ = some (.int .i64 id) := by rw [hY]; exact (World.cell?_setCell_other _ _ _ _ (by intro e; cases e)).trans K1.out.1.2.1
  have e2 : Y.cell? ⟨cb, 2, none⟩ = some (.slice a n c) := by rw [hY]; exact (World.cell?_setCell_other _ _ _ _ (by intro e; cases e)).trans K1.out.1.2.2.1
  have e3 : Y.cell? ⟨cb, 3, none⟩ = some (.slice b p d) := by rw [hY]; exact (World.cell?_setCell_other _ _ _ _ (by intro e; cases e)).trans K1.out.1.2.2.2
  have HG : Hid (∀ i, Y.frozen? ⟨cb, i, none⟩ = false) := by rw [hY]; exact fun i => by rw [World.frozen?_setCell]; exact K1.out.2 i
  have e4 : Y.cell? ⟨fb, 0, none⟩ = some (.func (.func U) #[] ucap) := by rw [hY]; exact (World.cell?_setCell_other _ _ _ _ (by intro e; exact hne' (congrArg Addr.block e))).trans KF
  rw [← hY]
  have HVY : Hid (Vals Y a n m) := HV.out.chg cY.out (fun g hg e => by have := hva g hg; omega)
  have HWY : Hid (Vals Y b p l) := HW.out.chg cY.out (fun g hg e => by have := hvb g hg; omega)
  have hYs : y.heap.size ≤ Y.heap.size := cY.out.size
  clear hY K1 KF d0 df0 HU1 HV HW
  have HY := hide (HVY.out.up ((Up.refl Y).drew))
  have HZ := hide (HWY.out.up ((Up.refl Y).drew))
  have hcY : cb < Y.drew.heap.size := Nat.lt_of_lt_of_le hcb hYs
  go_region_law (first
    | (go_simp; go_at_call_of 49 (Value.slice a n c); refine (copied_calls a n c m _ hn HY.out HSH.out).mono ?_; rintro _ x1 ⟨a', rfl, hr, hu1⟩;
       have U1 : Hid (Up Y.drew x1) := hu1; have q3 := U1.out.cell (p := ⟨cb, 3, none⟩) (v := .slice b p d) e3;
       have HR : Hid (Handed y.heap.size x1 a' n m) := Handed.mono hr hYs; clear hr hu1; dsimp only)
    | (go_simp; go_at_call_of 49 (Value.slice b p d); refine (copied_calls b p d l _ hp (HZ.out.up U1.out) HSL.out).mono ?_; rintro _ x2 ⟨b', rfl, hr, hu2⟩;
       have U2 : Hid (Up Y.drew x2) := U1.out.trans hu2;
       have HR1 := hide (HR.out.up hu2); have HR2 : Hid (Handed y.heap.size x2 b' p l) := Handed.mono hr (Nat.le_trans hYs U1.out.size);
       have p0 := U2.out.cell (p := ⟨cb, 0, none⟩) (v := .string s) e0; have p1 := U2.out.cell (p := ⟨cb, 1, none⟩) (v := .int .i64 id) e1; have p2 := U2.out.cell (p := ⟨cb, 2, none⟩) (v := .slice a n c) e2; have p3 := U2.out.cell (p := ⟨cb, 3, none⟩) (v := .slice b p d) e3; have p4 := U2.out.cell (p := ⟨fb, 0, none⟩) (v := .func (.func U) #[] ucap) e4;
       have r2 : x2.frozen? ⟨cb, 2, none⟩ = false := (U2.out.frozen (p := ⟨cb, 2, none⟩) hcY).trans (HG.out 2); have r3 : x2.frozen? ⟨cb, 3, none⟩ = false := (U2.out.frozen (p := ⟨cb, 3, none⟩) hcY).trans (HG.out 3);
       clear hr hu2; dsimp only))
  all_goals (
    have cX : Hid (Chg (fun x => x = cb) y ((x2.setCell ⟨cb, 2, none⟩ (.slice a' n n)).setCell ⟨cb, 3, none⟩ (.slice b' p p))) := Chg.set' (C := fun x => x = cb) ⟨cb, 3, none⟩ (.slice b' p p) rfl (Chg.set' (C := fun x => x = cb) ⟨cb, 2, none⟩ (.slice a' n n) rfl ((cY.out.drew).andUp U2.out))
    have hX : Hid (Chg (fun x => x = cb) x2 ((x2.setCell ⟨cb, 2, none⟩ (.slice a' n n)).setCell ⟨cb, 3, none⟩ (.slice b' p p))) := Chg.set' (C := fun x => x = cb) ⟨cb, 3, none⟩ (.slice b' p p) rfl (Chg.set' (C := fun x => x = cb) ⟨cb, 2, none⟩ (.slice a' n n) rfl (Chg.refl _ x2))
    go_wp2_with fail
    refine (HU.out _ a' b' (Chg.below (B := B) cX.out (fun x hx e => by omega) (by omega)) (HR1.out.chg hX.out (fun g hg e => by have := HR1.out.ge hg; omega)) (HR2.out.chg hX.out (fun g hg e => by have := HR2.out.ge hg; omega))).mono ?_
    rintro _ x3 ⟨rfl, hc3, ht3, hS3⟩
    have HF3 : Hid (Chg (fun b => C b ∨ b = cb) y x3 ∧ TabE x3 ∧ ∃ x, Below B y x ∧ y.heap.size ≤ x.heap.size ∧ S x x3) := ⟨Chg.trans (cX.out.mono (fun _ _ h => Or.inr h)) hc3 (fun g hg h => h.elim (fun h => Or.inl h) (fun h => h.elim (fun h => by have := HR1.out.ge h; omega) (fun h => by have := HR2.out.ge h; omega))), ht3, _, Chg.below (B := B) cX.out (fun x hx e => by omega) (by omega), cX.out.size, hS3⟩
    clear hc3 ht3 hS3
    go_wp2
    go_ret
    exact ⟨rfl, HF3.out⟩)

set_option maxRecDepth 20000 in
set_option maxHeartbeats 4000000 in
theorem obs1_pan (U : FuncId) (ucap : Array Value) (fb cb : Nat) (a b : Option Addr) (n c p d : Nat) (m l : List VT) (s : ByteArray) (id : Int) (u : TypeId) (pv : Value) (C : Nat → Prop) (S : World → World → Prop) (B : Nat) (y : World) (hB : B ≤ cb) (hT : TabE y) (hTB : 0 < B) (hC : ∀ b, C b → b < B) (hs : s.size ≤ 281474976710656) (hn : n ≤ 12) (hv : Vals y a n m) (hsh : ∀ i, (m.getD i zeroT).2.2.1.size ≤ 200) (hp : p ≤ 12) (hw : Vals y b p l) (hsl : ∀ i, (l.getD i zeroT).2.2.1.size ≤ 200) (hva : ∀ g, RowB a g → g < B) (hvb : ∀ g, RowB b g → g < B) (hne : ¬ fb = cb)
    (k0 : y.cell? ⟨fb, 0, none⟩ = some (.func (.func U) #[] ucap)) (k1 : ChB y cb s id (.slice a n c) (.slice b p d))
    (hE : ∀ v w', (callFunc U (#[v] ++ ucap)).run Tryd.prog w' = .ok (.enter U (#[v] ++ ucap)) w')
    (hU : ∀ x a' b', Below B y x → Handed y.heap.size x a' n m → Handed y.heap.size x b' p l → Calls Tryd.prog U (#[.agg #[.string s, .int .i64 id, .slice a' n n, .slice b' p p]] ++ ucap) x fun e x' => e = .panicked [{ v := .iface u pv, recovered := false }] ∧ Chg (fun b => C b ∨ RowB a' b ∨ RowB b' b) x x' ∧ TabE x' ∧ S x x') :
    Calls Tryd.prog 61 #[.pointer (some ⟨fb, 0, none⟩), .pointer (some ⟨cb, 0, none⟩)] y fun e y' => e = .panicked [{ v := .iface u pv, recovered := false }] ∧ Chg (fun b => C b ∨ b = cb) y y' ∧ TabE y' ∧ ∃ x, Below B y x ∧ y.heap.size ≤ x.heap.size ∧ S x y' := by
  have n1 := run_eql_fn Tryd.underlying118
  have c0 := k1.1.1
  have c1 := k1.1.2.1
  have c2 := k1.1.2.2.1
  have c3 := k1.1.2.2.2
  have HK1 := hide k1.2
  have f0 := k1.2 0
  have f2 := k1.2 2
  have f3 := k1.2 3
  have hcb : cb < y.heap.size := World.block_lt_of_cell? y _ c0
  have hfb : fb < y.heap.size := World.block_lt_of_cell? y _ k0
  have hne' : ¬ cb = fb := fun e => hne e.symm
  have HU := hide hU
  have HV := hide hv
  have HW := hide hw
  have HSH := hide hsh
  have HSL := hide hsl
  have HT := hide hT
  have HC := hide hC
  clear hU hv hw hsh hsl hT hC k1
  go_enter Tryd.func61, Tryd.ntmps61
  go_wp2_with fail
  go_at_call 38
  refine (clone_calls s y hs).mono ?_
  rintro _ y1 ⟨rfl, hu1⟩
  have K1 : Hid (ChB y1 cb s id (.slice a n c) (.slice b p d)) := hide (ChB.up ⟨⟨c0, c1, c2, c3⟩, HK1.out⟩ hu1)
  have KF := hu1.cell k0
  have d0 := K1.out.1.1
  have df0 := K1.out.2 0
  have HU1 := hide hu1
  clear c0 c1 c2 c3 f0 f2 f3 k0 hu1
  go_wp2_with fail
  obtain ⟨Y, hY⟩ : ∃ Y, Y = y1.setCell ⟨cb, 0, none⟩ (.string s) := ⟨_, rfl⟩
  have cY : Hid (Chg (fun x => x = cb) y Y) := by rw [hY]; exact Chg.trans (Chg.of_up HU1.out) (chg_set1 y1 cb _) (fun _ _ h => h)
  have e0 : Y.cell? ⟨cb, 0, none⟩ = some (.string s) := by rw [hY]; exact World.cell?_setCell_same _ _ _ d0
  have e1 : Y.cell? ⟨cb, 1, none⟩ = some (.int .i64 id) := by rw [hY]; exact (World.cell?_setCell_other _ _ _ _ (by intro e; cases e)).trans K1.out.1.2.1
  have e2 : Y.cell? ⟨cb, 2, none⟩ = some (.slice a n c) := by rw [hY]; exact (World.cell?_setCell_other _ _ _ _ (by intro e; cases e)).trans K1.out.1.2.2.1
  have e3 : Y.cell? ⟨cb, 3, none⟩ = some (.slice b p d) := by rw [hY]; exact (World.cell?_setCell_other _ _ _ _ (by intro e; cases e)).trans K1.out.1.2.2.2
  have HG : Hid (∀ i, Y.frozen? ⟨cb, i, none⟩ = false) := by rw [hY]; exact fun i => by rw [World.frozen?_setCell]; exact K1.out.2 i
  have e4 : Y.cell? ⟨fb, 0, none⟩ = some (.func (.func U) #[] ucap) := by rw [hY]; exact (World.cell?_setCell_other _ _ _ _ (by intro e; exact hne' (congrArg Addr.block e))).trans KF
  rw [← hY]
  have HVY : Hid (Vals Y a n m) := HV.out.chg cY.out (fun g hg e => by have := hva g hg; omega)
  have HWY : Hid (Vals Y b p l) := HW.out.chg cY.out (fun g hg e => by have := hvb g hg; omega)
  have hYs : y.heap.size ≤ Y.heap.size := cY.out.size
  clear hY K1 KF d0 df0 HU1 HV HW
  have HY := hide (HVY.out.up ((Up.refl Y).drew))
  have HZ := hide (HWY.out.up ((Up.refl Y).drew))
  have hcY : cb < Y.drew.heap.size := Nat.lt_of_lt_of_le hcb hYs
  go_region_law (first
    | (go_simp; go_at_call_of 49 (Value.slice a n c); refine (copied_calls a n c m _ hn HY.out HSH.out).mono ?_; rintro _ x1 ⟨a', rfl, hr, hu1⟩;
       have U1 : Hid (Up Y.drew x1) := hu1; have q3 := U1.out.cell (p := ⟨cb, 3, none⟩) (v := .slice b p d) e3;
       have HR : Hid (Handed y.heap.size x1 a' n m) := Handed.mono hr hYs; clear hr hu1; dsimp only)
    | (go_simp; go_at_call_of 49 (Value.slice b p d); refine (copied_calls b p d l _ hp (HZ.out.up U1.out) HSL.out).mono ?_; rintro _ x2 ⟨b', rfl, hr, hu2⟩;
       have U2 : Hid (Up Y.drew x2) := U1.out.trans hu2;
       have HR1 := hide (HR.out.up hu2); have HR2 : Hid (Handed y.heap.size x2 b' p l) := Handed.mono hr (Nat.le_trans hYs U1.out.size);
       have p0 := U2.out.cell (p := ⟨cb, 0, none⟩) (v := .string s) e0; have p1 := U2.out.cell (p := ⟨cb, 1, none⟩) (v := .int .i64 id) e1; have p2 := U2.out.cell (p := ⟨cb, 2, none⟩) (v := .slice a n c) e2; have p3 := U2.out.cell (p := ⟨cb, 3, none⟩) (v := .slice b p d) e3; have p4 := U2.out.cell (p := ⟨fb, 0, none⟩) (v := .func (.func U) #[] ucap) e4;
       have r2 : x2.frozen? ⟨cb, 2, none⟩ = false := (U2.out.frozen (p := ⟨cb, 2, none⟩) hcY).trans (HG.out 2); have r3 : x2.frozen? ⟨cb, 3, none⟩ = false := (U2.out.frozen (p := ⟨cb, 3, none⟩) hcY).trans (HG.out 3);
       clear hr hu2; dsimp only))
  all_goals (
    have cX : Hid (Chg (fun x => x = cb) y ((x2.setCell ⟨cb, 2, none⟩ (.slice a' n n)).setCell ⟨cb, 3, none⟩ (.slice b' p p))) := Chg.set' (C := fun x => x = cb) ⟨cb, 3, none⟩ (.slice b' p p) rfl (Chg.set' (C := fun x => x = cb) ⟨cb, 2, none⟩ (.slice a' n n) rfl ((cY.out.drew).andUp U2.out))
    have hX : Hid (Chg (fun x => x = cb) x2 ((x2.setCell ⟨cb, 2, none⟩ (.slice a' n n)).setCell ⟨cb, 3, none⟩ (.slice b' p p))) := Chg.set' (C := fun x => x = cb) ⟨cb, 3, none⟩ (.slice b' p p) rfl (Chg.set' (C := fun x => x = cb) ⟨cb, 2, none⟩ (.slice a' n n) rfl (Chg.refl _ x2))
    go_wp2_with fail
    refine (HU.out _ a' b' (Chg.below (B := B) cX.out (fun x hx e => by omega) (by omega)) (HR1.out.chg hX.out (fun g hg e => by have := HR1.out.ge hg; omega)) (HR2.out.chg hX.out (fun g hg e => by have := HR2.out.ge hg; omega))).mono ?_
    rintro _ x3 ⟨rfl, hc3, ht3, hS3⟩
    have HF3 : Hid (Chg (fun b => C b ∨ b = cb) y x3 ∧ TabE x3 ∧ ∃ x, Below B y x ∧ y.heap.size ≤ x.heap.size ∧ S x x3) := ⟨Chg.trans (cX.out.mono (fun _ _ h => Or.inr h)) hc3 (fun g hg h => h.elim (fun h => Or.inl h) (fun h => h.elim (fun h => by have := HR1.out.ge h; omega) (fun h => by have := HR2.out.ge h; omega))), ht3, _, Chg.below (B := B) cX.out (fun x hx e => by omega) (by omega), cX.out.size, hS3⟩
    clear hc3 ht3 hS3
    exact ⟨rfl, rfl, HF3.out⟩)

set_option maxRecDepth 20000 in
set_option maxHeartbeats 4000000 in
theorem obs_ok (U : FuncId) (ucap : Array Value) (a b : Option Addr) (n c p d : Nat) (m l : List VT) (s : ByteArray) (id : Int) (C : Nat → Prop) (S : World → World → Prop) (w : World) (hT : TabE w) (hC : ∀ b, C b → b < w.heap.size) (hs : s.size ≤ 281474976710656) (hn : n ≤ 12) (hv : Vals w a n m) (hsh : ∀ i, (m.getD i zeroT).2.2.1.size ≤ 200) (hp : p ≤ 12) (hw : Vals w b p l) (hsl : ∀ i, (l.getD i zeroT).2.2.1.size ≤ 200) (hva : ∀ g, RowB a g → g < w.heap.size) (hvb : ∀ g, RowB b g → g < w.heap.size)
    (hE : ∀ v w', (callFunc U (#[v] ++ ucap)).run Tryd.prog w' = .ok (.enter U (#[v] ++ ucap)) w')
    (hU : ∀ x a' b', Up w x → Handed w.heap.size x a' n m → Handed w.heap.size x b' p l → Calls Tryd.prog U (#[.agg #[.string s, .int .i64 id, .slice a' n n, .slice b' p p]] ++ ucap) x fun e x' => e = .returned .nilIface ∧ Chg (fun b => C b ∨ RowB a' b ∨ RowB b' b) x x' ∧ TabE x' ∧ S x x') :
    Calls Tryd.prog 28 #[.func (.func U) #[] ucap, .agg #[.string s, .int .i64 id, .slice a n c, .slice b p d]] w fun e w' => e = .returned .nilIface ∧ ∃ q x', Up w q ∧ S q x' ∧ Below w.heap.size x' w' := by
  have hmf : ∀ (fn : Fn) (first cap : Array Value) (w : World), (Instr.makeFunc fn first cap).run Tryd.prog w = .ok (.func fn first cap) w := fun _ _ _ _ => rfl
  have HU := hide hU
  have HV := hide hv
  have HW := hide hw
  have HSH := hide hsh
  have HSL := hide hsl
  have HT := hide hT
  have HC := hide hC
  have HEE := hide hE
  have HVA := hide hva
  have HVB := hide hvb
  clear hU hv hw hsh hsl hT hC hE hva hvb
  go_enter Tryd.func28, Tryd.ntmps28
  go_wp2_with fail
  obtain ⟨W, hW⟩ : ∃ W, W = (w.alloc (.cells #[.func (.func U) #[] ucap] 118)).alloc (.cells #[.string s, .int .i64 id, .slice a n c, .slice b p d] 78) := ⟨_, rfl⟩
  have uW : Hid (Up w W) := by rw [hW]; exact ((Up.refl _).alloc _).alloc _
  have z0 : W.cell? ⟨w.heap.size, 0, none⟩ = some (.func (.func U) #[] ucap) := by rw [hW]; go_simp
  have z1 : ChB W (w.heap.size + 1) s id (.slice a n c) (.slice b p d) := by rw [hW]; exact ⟨⟨by go_simp, by go_simp, by go_simp, by go_simp⟩, fun i => by go_simp⟩
  have hWs : W.heap.size = w.heap.size + 1 + 1 := by rw [hW]; simp
  rw [← hW]
  clear hW
  go_at_call 9
  refine (run_ok ⟨#[]⟩ 61 #[.pointer (some ⟨w.heap.size, 0, none⟩), .pointer (some ⟨w.heap.size + 1, 0, none⟩)] (fun x => TabE x ∧ ∃ q, Up w q ∧ S q x) W (fun _ => by simp [go_sem]) (fun y hu => (obs1_ret U ucap w.heap.size (w.heap.size + 1) a b n c p d m l s id C S w.heap.size y (by omega) (HT.out.up (uW.out.trans hu)) HT.out.lt HC.out hs hn (HV.out.up (uW.out.trans hu)) HSH.out hp (HW.out.up (uW.out.trans hu)) HSL.out HVA.out HVB.out (by omega) (hu.cell z0) (z1.up hu) HEE.out (fun x a' b' hx h1 h2 => HU.out x a' b' (Below.trans (uW.out.trans hu).below hx) (h1.mono (uW.out.trans hu).size) (h2.mono (uW.out.trans hu).size))).mono ?_)).mono ?_
  · rintro _ y' ⟨rfl, hc, ht, q, hq, _, hS⟩
    exact ⟨rfl, hc.keeps (fun b hb h => h.elim (fun h => by have := HC.out b h; omega) (fun h => by omega)), ht, q, Below.trans (uW.out.trans hu).below hq, hS⟩
  rintro _ w1 ⟨rfl, x', ⟨_, q, hq, hS⟩, hb⟩
  have HX : Hid (∃ q x', Up w q ∧ S q x' ∧ Below w.heap.size x' w1) := ⟨q, x', hq, hS, Below.mono hb (by omega)⟩
  clear hS hb hq z0 z1 HU
  go_wp2
  go_ret
  exact ⟨rfl, HX.out⟩

set_option maxRecDepth 20000 in
set_option maxHeartbeats 4000000 in
theorem obs_pan (U : FuncId) (ucap : Array Value) (a b : Option Addr) (n c p d : Nat) (m l : List VT) (s : ByteArray) (id : Int) (u : TypeId) (pv : Value) (hu : u ≠ 126) (C : Nat → Prop) (S : World → World → Prop) (w : World) (hT : TabE w) (hC : ∀ b, C b → b < w.heap.size) (hs : s.size ≤ 281474976710656) (hn : n ≤ 12) (hv : Vals w a n m) (hsh : ∀ i, (m.getD i zeroT).2.2.1.size ≤ 200) (hp : p ≤ 12) (hw : Vals w b p l) (hsl : ∀ i, (l.getD i zeroT).2.2.1.size ≤ 200) (hva : ∀ g, RowB a g → g < w.heap.size) (hvb : ∀ g, RowB b g → g < w.heap.size)
    (hE : ∀ v w', (callFunc U (#[v] ++ ucap)).run Tryd.prog w' = .ok (.enter U (#[v] ++ ucap)) w')
    (hU : ∀ x a' b', Up w x → Handed w.heap.size x a' n m → Handed w.heap.size x b' p l → Calls Tryd.prog U (#[.agg #[.string s, .int .i64 id, .slice a' n n, .slice b' p p]] ++ ucap) x fun e x' => e = .panicked [{ v := .iface u pv, recovered := false }] ∧ Chg (fun b => C b ∨ RowB a' b ∨ RowB b' b) x x' ∧ TabE x' ∧ S x x') :
    Calls Tryd.prog 28 #[.func (.func U) #[] ucap, .agg #[.string s, .int .i64 id, .slice a n c, .slice b p d]] w fun e w' => ∃ b, e = .returned (.iface 33 (.pointer (some ⟨b, 0, none⟩))) ∧ FaultAt w' b 0 ⟨#[]⟩ .nilIface (.iface u pv) ∧ ∃ q x', Up w q ∧ S q x' ∧ Below w.heap.size x' w' := by
  have hmf : ∀ (fn : Fn) (first cap : Array Value) (w : World), (Instr.makeFunc fn first cap).run Tryd.prog w = .ok (.func fn first cap) w := fun _ _ _ _ => rfl
  have HU := hide hU
  have HV := hide hv
  have HW := hide hw
  have HSH := hide hsh
  have HSL := hide hsl
  have HT := hide hT
  have HC := hide hC
  have HEE := hide hE
  have HVA := hide hva
  have HVB := hide hvb
  clear hU hv hw hsh hsl hT hC hE hva hvb
  go_enter Tryd.func28, Tryd.ntmps28
  go_wp2_with fail
  obtain ⟨W, hW⟩ : ∃ W, W = (w.alloc (.cells #[.func (.func U) #[] ucap] 118)).alloc (.cells #[.string s, .int .i64 id, .slice a n c, .slice b p d] 78) := ⟨_, rfl⟩
  have uW : Hid (Up w W) := by rw [hW]; exact ((Up.refl _).alloc _).alloc _
  have z0 : W.cell? ⟨w.heap.size, 0, none⟩ = some (.func (.func U) #[] ucap) := by rw [hW]; go_simp
  have z1 : ChB W (w.heap.size + 1) s id (.slice a n c) (.slice b p d) := by rw [hW]; exact ⟨⟨by go_simp, by go_simp, by go_simp, by go_simp⟩, fun i => by go_simp⟩
  have hWs : W.heap.size = w.heap.size + 1 + 1 := by rw [hW]; simp
  rw [← hW]
  clear hW
  go_at_call 9
  refine (run_panics ⟨#[]⟩ 61 #[.pointer (some ⟨w.heap.size, 0, none⟩), .pointer (some ⟨w.heap.size + 1, 0, none⟩)] u pv (fun x => TabE x ∧ ∃ q, Up w q ∧ S q x) W (by decide) (HT.out.up uW.out) (fun x h => h.1) hu (fun _ => by simp [go_sem]) (fun y hu => (obs1_pan U ucap w.heap.size (w.heap.size + 1) a b n c p d m l s id u pv C S w.heap.size y (by omega) (HT.out.up (uW.out.trans hu)) HT.out.lt HC.out hs hn (HV.out.up (uW.out.trans hu)) HSH.out hp (HW.out.up (uW.out.trans hu)) HSL.out HVA.out HVB.out (by omega) (hu.cell z0) (z1.up hu) HEE.out (fun x a' b' hx h1 h2 => HU.out x a' b' (Below.trans (uW.out.trans hu).below hx) (h1.mono (uW.out.trans hu).size) (h2.mono (uW.out.trans hu).size))).mono ?_)).mono ?_
  · rintro _ y' ⟨rfl, hc, ht, q, hq, _, hS⟩
    exact ⟨rfl, hc.keeps (fun b hb h => h.elim (fun h => by have := HC.out b h; omega) (fun h => by omega)), ht, q, Below.trans (uW.out.trans hu).below hq, hS⟩
  rintro _ w1 ⟨x', b, rfl, hf, ⟨_, q, hq, hS⟩, hb⟩
  have HX : Hid (FaultAt w1 b 0 ⟨#[]⟩ .nilIface (.iface u pv) ∧ ∃ q x', Up w q ∧ S q x' ∧ Below w.heap.size x' w1) := ⟨hf, q, x', hq, hS, Below.mono hb (by omega)⟩
  clear hS hb hq hf z0 z1 HU
  go_wp2
  go_ret
  exact ⟨b, rfl, HX.out⟩

end Go.Proofs.YtmlfkjmondkfnaaDoor

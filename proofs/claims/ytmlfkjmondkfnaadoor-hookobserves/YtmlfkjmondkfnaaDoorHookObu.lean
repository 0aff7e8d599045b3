/-
  What the user code of HookObserves does, as its text runs.
-/
import Derived.Test.YtmlfkjmondkfnaaDoorHookKnown
import Derived.Test.YtmlfkjmondkfnaaDoorHookObs
import Derived.Test.YtmlfkjmondkfnaaDoorValHelp
import Derived.Test.YtmlfkjmondkfnaaDoorNewVals
import Derived.Test.YtmlfkjmondkfnaaDoorCodeApp
namespace Go.Proofs.YtmlfkjmondkfnaaDoor
open Go.ChangeShapes Go.WideShapes Go.ChangeAt Go.RowKit
set_option linter.unusedVariables false
attribute [local go_sem ↓] Go.wp_at_zero Go.wp_at_succ
attribute [local go_sem] run_store_float

/-- A row whose cells are there and may be written into. -/
def Full (w : World) (g n : Nat) : Prop := (∀ i, i < n * 4 → ∃ v, w.cell? ⟨g, i, none⟩ = some v) ∧ ∀ i, w.frozen? ⟨g, i, none⟩ = false
theorem Full.chg {C : Nat → Prop} {w w' : World} {g n : Nat} (h : Full w g n) (hc : Chg C w w') (hg : g < w.heap.size) (hn : ¬ C g) : Full w' g n :=
  ⟨fun i hi => by obtain ⟨v, hv⟩ := h.1 i hi; exact ⟨v, hc.cell hv hn⟩, fun i => (hc.frozen (p := ⟨g, i, none⟩) hg hn).trans (h.2 i)⟩
theorem Full.set {w : World} {g n : Nat} (h : Full w g n) (i : Nat) (u : Value) : Full (w.setCell ⟨g, i, none⟩ u) g n := by
  refine ⟨fun j hj => ?_, fun j => by rw [World.frozen?_setCell]; exact h.2 j⟩
  obtain ⟨v, hv⟩ := h.1 j hj
  by_cases hji : j = i
  · subst hji
    exact ⟨u, World.cell?_setCell_same _ _ _ hv⟩
  · exact ⟨v, (World.cell?_setCell_other _ _ _ _ (by intro e; cases e; exact hji rfl)).trans hv⟩
theorem Handed.full {B : Nat} {w : World} {a : Option Addr} {n : Nat} {m : List VT} (h : Handed B w a n m) (hn : ¬ n = 0) : ∃ G, a = some ⟨G, 0, none⟩ ∧ B ≤ G ∧ G < w.heap.size ∧ Full w G n := by
  rcases h.2 with ⟨h0, _⟩ | ⟨G, rfl, h1, h2, h3⟩
  · exact absurd h0 hn
  · refine ⟨G, rfl, h1, h2, fun i hi => ?_, h3⟩
    rcases h.1.2.2 with h0 | ⟨b, o, he, hx⟩
    · exact absurd h0 hn
    · cases he
      have hq := hx (i / 4) (by omega)
      have e : i = i / 4 * 4 + i % 4 := by omega
      have h4 : i % 4 < 4 := Nat.mod_lt _ (by omega)
      rcases (show i % 4 = 0 ∨ i % 4 = 1 ∨ i % 4 = 2 ∨ i % 4 = 3 by omega) with r | r | r | r
      · exact ⟨_, by have := hq.1; rw [show 0 + i / 4 * 4 = i by omega] at this; exact this⟩
      · exact ⟨_, by have := hq.2.1; rw [show 0 + i / 4 * 4 + 1 = i by omega] at this; exact this⟩
      · exact ⟨_, by have := hq.2.2.1; rw [show 0 + i / 4 * 4 + 2 = i by omega] at this; exact this⟩
      · exact ⟨_, by have := hq.2.2.2; rw [show 0 + i / 4 * 4 + 3 = i by omega] at this; exact this⟩

set_option maxRecDepth 20000 in
set_option maxHeartbeats 4000000 in
theorem ob1_ret (bb ab sb hb : Nat) (a b a' b' : Option Addr) (n c p d : Nat) (m l : List VT) (how : Int) (old : Bool) (B : Nat) (x : World) (hn : n ≤ 12) (hp : p ≤ 12) (hv : Vals x a n m) (hw : Vals x b p l) (ha' : Handed B x a' n m) (hb' : Handed B x b' p l) (hsB : sb < B) (hbs : ¬ hb = sb) (hhB : hb < B)
    (k0 : x.cell? ⟨bb, 0, none⟩ = some (.slice a n c)) (k1 : x.cell? ⟨ab, 0, none⟩ = some (.slice b p d)) (k2 : x.cell? ⟨sb, 0, none⟩ = some (.bool old)) (kf : x.frozen? ⟨sb, 0, none⟩ = false) (k3 : x.cell? ⟨hb, 0, none⟩ = some (.int .i64 how)) (hbit : bits .and .i64 how 1 = 0) :
    Calls Tryd.prog 29 (#[.agg #[.string ⟨#[116]⟩, .int .i64 3, .slice a' n n, .slice b' p p]] ++ #[.pointer (some ⟨bb, 0, none⟩), .pointer (some ⟨ab, 0, none⟩), .pointer (some ⟨sb, 0, none⟩), .pointer (some ⟨hb, 0, none⟩)]) x fun e x' => e = .returned .nilIface ∧ Chg (fun g => g = sb ∨ RowB a' g) x x' ∧ x'.cell? ⟨sb, 0, none⟩ = some (.bool true) := by
  show Calls Tryd.prog 29 #[.agg #[.string ⟨#[116]⟩, .int .i64 3, .slice a' n n, .slice b' p p], .pointer (some ⟨bb, 0, none⟩), .pointer (some ⟨ab, 0, none⟩), .pointer (some ⟨sb, 0, none⟩), .pointer (some ⟨hb, 0, none⟩)] x _
  have l0 : bb < x.heap.size := World.block_lt_of_cell? x _ k0
  have l1 : ab < x.heap.size := World.block_lt_of_cell? x _ k1
  have l2 : sb < x.heap.size := World.block_lt_of_cell? x _ k2
  have l3 : hb < x.heap.size := World.block_lt_of_cell? x _ k3
  have HV := hide hv
  have HW := hide hw
  have HA := hide ha'
  have HB := hide hb'
  clear hv hw ha' hb'
  go_enter Tryd.func29, Tryd.ntmps29
  go_wp2_with fail
  obtain ⟨X, hX⟩ : ∃ X, X = x.alloc (.cells #[.string ⟨#[116]⟩, .int .i64 3, .slice a' n n, .slice b' p p] 78) := ⟨_, rfl⟩
  have uX : Hid (Up x X) := by rw [hX]; exact (Up.refl _).alloc _
  have z0 : X.cell? ⟨x.heap.size, 0, none⟩ = some (.string ⟨#[116]⟩) := by rw [hX]; go_simp
  have z1 : X.cell? ⟨x.heap.size, 1, none⟩ = some (.int .i64 3) := by rw [hX]; go_simp
  have z2 : X.cell? ⟨x.heap.size, 2, none⟩ = some (.slice a' n n) := by rw [hX]; go_simp
  have z3 : X.cell? ⟨x.heap.size, 3, none⟩ = some (.slice b' p p) := by rw [hX]; go_simp
  rw [← hX]
  clear hX
  replace k1 := uX.out.cell k1
  replace k2 := uX.out.cell k2
  replace k3 := uX.out.cell k3
  replace kf := (uX.out.frozen (p := ⟨sb, 0, none⟩) l2).trans kf
  go_at_call 21
  refine (same_calls' a' a n n c m X (by unfold maxLen; omega) (HA.out.1.up uX.out) (HV.out.up uX.out)).mono ?_
  rintro _ x1 ⟨rfl, hu1⟩
  have U1 : Hid (Up x x1) := uX.out.trans hu1
  have kfX : X.frozen? ⟨sb, 0, none⟩ = false := kf
  replace kf := (hu1.frozen (p := ⟨sb, 0, none⟩) (Nat.lt_of_lt_of_le l2 uX.out.size)).trans kfX
  replace k1 := hu1.cell k1
  replace k2 := hu1.cell k2
  replace k3 := hu1.cell k3
  replace z0 := hu1.cell z0
  replace z1 := hu1.cell z1
  replace z2 := hu1.cell z2
  replace z3 := hu1.cell z3
  have l2' : sb < x1.heap.size := Nat.lt_of_lt_of_le l2 U1.out.size
  clear hu1 uX k0 kfX
  go_wp2_with fail
  go_at_call 21
  refine (same_calls' b' b p p d l x1 (by unfold maxLen; omega) (HB.out.1.up U1.out) (HW.out.up U1.out)).mono ?_
  rintro _ x2 ⟨rfl, hu2⟩
  replace kf := (hu2.frozen (p := ⟨sb, 0, none⟩) l2').trans kf
  replace k2 := hu2.cell k2
  replace k3 := hu2.cell k3
  replace z0 := hu2.cell z0
  replace z1 := hu2.cell z1
  replace z2 := hu2.cell z2
  have U2 : Hid (Up x x2) := U1.out.trans hu2
  clear hu2 U1 k1 z3 l2' HV HW
  go_wp2_with fail
  obtain ⟨x3, hx3⟩ : ∃ x3, x3 = x2.setCell ⟨sb, 0, none⟩ (.bool true) := ⟨_, rfl⟩
  have c3 : Hid (Chg (fun g => g = sb ∨ RowB a' g) x x3) := by rw [hx3]; exact (Chg.of_up U2.out).set (p := ⟨sb, 0, none⟩) (fun _ => Or.inl rfl) _
  have s3 : x3.cell? ⟨sb, 0, none⟩ = some (.bool true) := by rw [hx3]; exact World.cell?_setCell_same _ _ _ k2
  have h3 : x3.cell? ⟨hb, 0, none⟩ = some (.int .i64 how) := by rw [hx3]; exact (World.cell?_setCell_other _ _ _ _ (by intro e; exact hbs (congrArg Addr.block e).symm)).trans k3
  have t3 : x3.cell? ⟨x.heap.size, 2, none⟩ = some (.slice a' n n) := by rw [hx3]; exact (World.cell?_setCell_other _ _ _ _ (by intro e; have := congrArg Addr.block e; simp at this; omega)).trans z2
  have hs23 : x2.heap.size ≤ x3.heap.size := by rw [hx3]; simp
  have F3 : Hid (∀ G, a' = some ⟨G, 0, none⟩ → n ≠ 0 → Full x3 G n ∧ B ≤ G ∧ G < x.heap.size) := by
    intro G hG h0
    obtain ⟨G', e1, e2, e3, e4⟩ := HA.out.full h0
    rw [hG] at e1
    cases e1
    refine ⟨?_, e2, e3⟩
    rw [hx3]
    exact (e4.chg (C := fun _ => False) (Chg.of_up U2.out) e3 id).chg (C := fun g => g = sb) (chg_set1 x2 sb _) (Nat.lt_of_lt_of_le e3 U2.out.size) (fun e => by omega)
  rw [← hx3]
  clear hx3 k2 kf k3 z0 z1 z2 U2
  go_loopw [7] (fun i wr => ∃ k : Nat, k ≤ n ∧ i = .int .i64 k ∧ Chg (fun g => g = sb ∨ RowB a' g) x wr ∧ wr.cell? ⟨sb, 0, none⟩ = some (.bool true) ∧ wr.cell? ⟨hb, 0, none⟩ = some (.int .i64 how) ∧ wr.cell? ⟨x.heap.size, 2, none⟩ = some (.slice a' n n) ∧ ∀ G, a' = some ⟨G, 0, none⟩ → n ≠ 0 → Full wr G n ∧ B ≤ G ∧ G < x.heap.size) (fun i _ => n - (intOf i).toNat)
  case atStart => exact ⟨0, Nat.zero_le _, rfl, c3.out, s3, h3, t3, F3.out⟩
  case round =>
    clear c3 s3 h3 t3 F3 hs23
    obtain ⟨k, hk, rfl, hc, hs, hh, ht, hF⟩ := hrel
    by_cases hlt : k < n
    · have t0 : decide ((k : Int) < n) = true := decide_eq_true (by omega)
      obtain ⟨G, rfl, _, _, _⟩ := HA.out.full (by omega)
      obtain ⟨hfu, hBG, hGx⟩ := hF G rfl (by omega)
      have HC := hide hc
      have HF := hide hfu
      obtain ⟨v0, y0⟩ := hfu.1 (k * 4) (by omega)
      obtain ⟨v1, y1⟩ := hfu.1 (k * 4 + 1) (by omega)
      obtain ⟨v2, y2⟩ := hfu.1 (k * 4 + 2) (by omega)
      obtain ⟨v3, y3⟩ := hfu.1 (k * 4 + 3) (by omega)
      have q0 := hfu.2 (k * 4)
      have q1 := hfu.2 (k * 4 + 1)
      have q2 := hfu.2 (k * 4 + 2)
      have q3 := hfu.2 (k * 4 + 3)
      have hkn : (k : Int) < n := by omega
      have hn63 : n ≤ 2 ^ 63 - 1 := by omega
      clear hc hfu hF
      go_wp2_with fail
      have hcx : ∀ p : Addr, ¬ p.block = G → ((((wr.setCell ⟨G, k * 4, none⟩ (.int .i64 99)).setCell ⟨G, k * 4 + 1, none⟩ (.int .i64 0)).setCell ⟨G, k * 4 + 2, none⟩ (.string ⟨#[]⟩)).setCell ⟨G, k * 4 + 3, none⟩ (.float .f64 0)).cell? p = wr.cell? p := fun p hp => by
        rw [World.cell?_setCell_other _ _ _ _ (by intro e; subst e; exact hp rfl), World.cell?_setCell_other _ _ _ _ (by intro e; subst e; exact hp rfl), World.cell?_setCell_other _ _ _ _ (by intro e; subst e; exact hp rfl), World.cell?_setCell_other _ _ _ _ (by intro e; subst e; exact hp rfl)]
      refine ⟨⟨k + 1, by omega, by go_num, ?_, ?_, ?_, ?_, ?_⟩, by simp [intOf]; omega⟩
      · exact Chg.set' (C := fun g => g = sb ∨ RowB (some ⟨G, 0, none⟩) g) _ _ (Or.inr ⟨0, rfl⟩) (Chg.set' (C := fun g => g = sb ∨ RowB (some ⟨G, 0, none⟩) g) _ _ (Or.inr ⟨0, rfl⟩) (Chg.set' (C := fun g => g = sb ∨ RowB (some ⟨G, 0, none⟩) g) _ _ (Or.inr ⟨0, rfl⟩) (Chg.set' (C := fun g => g = sb ∨ RowB (some ⟨G, 0, none⟩) g) _ _ (Or.inr ⟨0, rfl⟩) HC.out)))
      · exact (hcx _ (by show ¬ sb = G; omega)).trans hs
      · exact (hcx _ (by show ¬ hb = G; omega)).trans hh
      · exact (hcx _ (by show ¬ x.heap.size = G; omega)).trans ht
      · intro G' hG' _
        cases hG'
        exact ⟨(((HF.out.set _ _).set _ _).set _ _).set _ _, hBG, hGx⟩
    · obtain rfl : k = n := by omega
      have t0 : decide ((k : Int) < k) = false := decide_eq_false (by omega)
      have HC := hide hc
      clear hc hF
      go_wp2_with fail
      go_ret
      exact ⟨rfl, HC.out, hs⟩

set_option maxRecDepth 20000 in
set_option maxHeartbeats 4000000 in
theorem ob1_pan (bb ab sb hb : Nat) (a b a' b' : Option Addr) (n c p d : Nat) (m l : List VT) (how : Int) (old : Bool) (B : Nat) (x : World) (hn : n ≤ 12) (hp : p ≤ 12) (hv : Vals x a n m) (hw : Vals x b p l) (ha' : Handed B x a' n m) (hb' : Handed B x b' p l) (hsB : sb < B) (hbs : ¬ hb = sb) (hhB : hb < B)
    (k0 : x.cell? ⟨bb, 0, none⟩ = some (.slice a n c)) (k1 : x.cell? ⟨ab, 0, none⟩ = some (.slice b p d)) (k2 : x.cell? ⟨sb, 0, none⟩ = some (.bool old)) (kf : x.frozen? ⟨sb, 0, none⟩ = false) (k3 : x.cell? ⟨hb, 0, none⟩ = some (.int .i64 how)) (hbit : bits .and .i64 how 1 = 1) :
    Calls Tryd.prog 29 (#[.agg #[.string ⟨#[116]⟩, .int .i64 3, .slice a' n n, .slice b' p p]] ++ #[.pointer (some ⟨bb, 0, none⟩), .pointer (some ⟨ab, 0, none⟩), .pointer (some ⟨sb, 0, none⟩), .pointer (some ⟨hb, 0, none⟩)]) x fun e x' => e = .panicked [{ v := .iface 3 (.int .i64 how), recovered := false }] ∧ Chg (fun g => g = sb ∨ RowB a' g) x x' ∧ x'.cell? ⟨sb, 0, none⟩ = some (.bool true) := by
  show Calls Tryd.prog 29 #[.agg #[.string ⟨#[116]⟩, .int .i64 3, .slice a' n n, .slice b' p p], .pointer (some ⟨bb, 0, none⟩), .pointer (some ⟨ab, 0, none⟩), .pointer (some ⟨sb, 0, none⟩), .pointer (some ⟨hb, 0, none⟩)] x _
  have l0 : bb < x.heap.size := World.block_lt_of_cell? x _ k0
  have l1 : ab < x.heap.size := World.block_lt_of_cell? x _ k1
  have l2 : sb < x.heap.size := World.block_lt_of_cell? x _ k2
  have l3 : hb < x.heap.size := World.block_lt_of_cell? x _ k3
  have HV := hide hv
  have HW := hide hw
  have HA := hide ha'
  have HB := hide hb'
  clear hv hw ha' hb'
  go_enter Tryd.func29, Tryd.ntmps29
  go_wp2_with fail
  obtain ⟨X, hX⟩ : ∃ X, X = x.alloc (.cells #[.string ⟨#[116]⟩, .int .i64 3, .slice a' n n, .slice b' p p] 78) := ⟨_, rfl⟩
  have uX : Hid (Up x X) := by rw [hX]; exact (Up.refl _).alloc _
  have z0 : X.cell? ⟨x.heap.size, 0, none⟩ = some (.string ⟨#[116]⟩) := by rw [hX]; go_simp
  have z1 : X.cell? ⟨x.heap.size, 1, none⟩ = some (.int .i64 3) := by rw [hX]; go_simp
  have z2 : X.cell? ⟨x.heap.size, 2, none⟩ = some (.slice a' n n) := by rw [hX]; go_simp
  have z3 : X.cell? ⟨x.heap.size, 3, none⟩ = some (.slice b' p p) := by rw [hX]; go_simp
  rw [← hX]
  clear hX
  replace k1 := uX.out.cell k1
  replace k2 := uX.out.cell k2
  replace k3 := uX.out.cell k3
  replace kf := (uX.out.frozen (p := ⟨sb, 0, none⟩) l2).trans kf
  go_at_call 21
  refine (same_calls' a' a n n c m X (by unfold maxLen; omega) (HA.out.1.up uX.out) (HV.out.up uX.out)).mono ?_
  rintro _ x1 ⟨rfl, hu1⟩
  have U1 : Hid (Up x x1) := uX.out.trans hu1
  have kfX : X.frozen? ⟨sb, 0, none⟩ = false := kf
  replace kf := (hu1.frozen (p := ⟨sb, 0, none⟩) (Nat.lt_of_lt_of_le l2 uX.out.size)).trans kfX
  replace k1 := hu1.cell k1
  replace k2 := hu1.cell k2
  replace k3 := hu1.cell k3
  replace z0 := hu1.cell z0
  replace z1 := hu1.cell z1
  replace z2 := hu1.cell z2
  replace z3 := hu1.cell z3
  have l2' : sb < x1.heap.size := Nat.lt_of_lt_of_le l2 U1.out.size
  clear hu1 uX k0 kfX
  go_wp2_with fail
  go_at_call 21
  refine (same_calls' b' b p p d l x1 (by unfold maxLen; omega) (HB.out.1.up U1.out) (HW.out.up U1.out)).mono ?_
  rintro _ x2 ⟨rfl, hu2⟩
  replace kf := (hu2.frozen (p := ⟨sb, 0, none⟩) l2').trans kf
  replace k2 := hu2.cell k2
  replace k3 := hu2.cell k3
  replace z0 := hu2.cell z0
  replace z1 := hu2.cell z1
  replace z2 := hu2.cell z2
  have U2 : Hid (Up x x2) := U1.out.trans hu2
  clear hu2 U1 k1 z3 l2' HV HW
  go_wp2_with fail
  obtain ⟨x3, hx3⟩ : ∃ x3, x3 = x2.setCell ⟨sb, 0, none⟩ (.bool true) := ⟨_, rfl⟩
  have c3 : Hid (Chg (fun g => g = sb ∨ RowB a' g) x x3) := by rw [hx3]; exact (Chg.of_up U2.out).set (p := ⟨sb, 0, none⟩) (fun _ => Or.inl rfl) _
  have s3 : x3.cell? ⟨sb, 0, none⟩ = some (.bool true) := by rw [hx3]; exact World.cell?_setCell_same _ _ _ k2
  have h3 : x3.cell? ⟨hb, 0, none⟩ = some (.int .i64 how) := by rw [hx3]; exact (World.cell?_setCell_other _ _ _ _ (by intro e; exact hbs (congrArg Addr.block e).symm)).trans k3
  have t3 : x3.cell? ⟨x.heap.size, 2, none⟩ = some (.slice a' n n) := by rw [hx3]; exact (World.cell?_setCell_other _ _ _ _ (by intro e; have := congrArg Addr.block e; simp at this; omega)).trans z2
  have hs23 : x2.heap.size ≤ x3.heap.size := by rw [hx3]; simp
  have F3 : Hid (∀ G, a' = some ⟨G, 0, none⟩ → n ≠ 0 → Full x3 G n ∧ B ≤ G ∧ G < x.heap.size) := by
    intro G hG h0
    obtain ⟨G', e1, e2, e3, e4⟩ := HA.out.full h0
    rw [hG] at e1
    cases e1
    refine ⟨?_, e2, e3⟩
    rw [hx3]
    exact (e4.chg (C := fun _ => False) (Chg.of_up U2.out) e3 id).chg (C := fun g => g = sb) (chg_set1 x2 sb _) (Nat.lt_of_lt_of_le e3 U2.out.size) (fun e => by omega)
  rw [← hx3]
  clear hx3 k2 kf k3 z0 z1 z2 U2
  go_loopw [7] (fun i wr => ∃ k : Nat, k ≤ n ∧ i = .int .i64 k ∧ Chg (fun g => g = sb ∨ RowB a' g) x wr ∧ wr.cell? ⟨sb, 0, none⟩ = some (.bool true) ∧ wr.cell? ⟨hb, 0, none⟩ = some (.int .i64 how) ∧ wr.cell? ⟨x.heap.size, 2, none⟩ = some (.slice a' n n) ∧ ∀ G, a' = some ⟨G, 0, none⟩ → n ≠ 0 → Full wr G n ∧ B ≤ G ∧ G < x.heap.size) (fun i _ => n - (intOf i).toNat)
  case atStart => exact ⟨0, Nat.zero_le _, rfl, c3.out, s3, h3, t3, F3.out⟩
  case round =>
    clear c3 s3 h3 t3 F3 hs23
    obtain ⟨k, hk, rfl, hc, hs, hh, ht, hF⟩ := hrel
    by_cases hlt : k < n
    · have t0 : decide ((k : Int) < n) = true := decide_eq_true (by omega)
      obtain ⟨G, rfl, _, _, _⟩ := HA.out.full (by omega)
      obtain ⟨hfu, hBG, hGx⟩ := hF G rfl (by omega)
      have HC := hide hc
      have HF := hide hfu
      obtain ⟨v0, y0⟩ := hfu.1 (k * 4) (by omega)
      obtain ⟨v1, y1⟩ := hfu.1 (k * 4 + 1) (by omega)
      obtain ⟨v2, y2⟩ := hfu.1 (k * 4 + 2) (by omega)
      obtain ⟨v3, y3⟩ := hfu.1 (k * 4 + 3) (by omega)
      have q0 := hfu.2 (k * 4)
      have q1 := hfu.2 (k * 4 + 1)
      have q2 := hfu.2 (k * 4 + 2)
      have q3 := hfu.2 (k * 4 + 3)
      have hkn : (k : Int) < n := by omega
      have hn63 : n ≤ 2 ^ 63 - 1 := by omega
      clear hc hfu hF
      go_wp2_with fail
      have hcx : ∀ p : Addr, ¬ p.block = G → ((((wr.setCell ⟨G, k * 4, none⟩ (.int .i64 99)).setCell ⟨G, k * 4 + 1, none⟩ (.int .i64 0)).setCell ⟨G, k * 4 + 2, none⟩ (.string ⟨#[]⟩)).setCell ⟨G, k * 4 + 3, none⟩ (.float .f64 0)).cell? p = wr.cell? p := fun p hp => by
        rw [World.cell?_setCell_other _ _ _ _ (by intro e; subst e; exact hp rfl), World.cell?_setCell_other _ _ _ _ (by intro e; subst e; exact hp rfl), World.cell?_setCell_other _ _ _ _ (by intro e; subst e; exact hp rfl), World.cell?_setCell_other _ _ _ _ (by intro e; subst e; exact hp rfl)]
      refine ⟨⟨k + 1, by omega, by go_num, ?_, ?_, ?_, ?_, ?_⟩, by simp [intOf]; omega⟩
      · exact Chg.set' (C := fun g => g = sb ∨ RowB (some ⟨G, 0, none⟩) g) _ _ (Or.inr ⟨0, rfl⟩) (Chg.set' (C := fun g => g = sb ∨ RowB (some ⟨G, 0, none⟩) g) _ _ (Or.inr ⟨0, rfl⟩) (Chg.set' (C := fun g => g = sb ∨ RowB (some ⟨G, 0, none⟩) g) _ _ (Or.inr ⟨0, rfl⟩) (Chg.set' (C := fun g => g = sb ∨ RowB (some ⟨G, 0, none⟩) g) _ _ (Or.inr ⟨0, rfl⟩) HC.out)))
      · exact (hcx _ (by show ¬ sb = G; omega)).trans hs
      · exact (hcx _ (by show ¬ hb = G; omega)).trans hh
      · exact (hcx _ (by show ¬ x.heap.size = G; omega)).trans ht
      · intro G' hG' _
        cases hG'
        exact ⟨(((HF.out.set _ _).set _ _).set _ _).set _ _, hBG, hGx⟩
    · obtain rfl : k = n := by omega
      have t0 : decide ((k : Int) < k) = false := decide_eq_false (by omega)
      have HC := hide hc
      clear hc hF
      go_wp2_with fail
      exact ⟨rfl, rfl, HC.out, hs⟩

end Go.Proofs.YtmlfkjmondkfnaaDoor

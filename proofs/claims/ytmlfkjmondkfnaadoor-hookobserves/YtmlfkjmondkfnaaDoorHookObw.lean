/-
  HookObserves, walked.
-/
import Derived.Test.YtmlfkjmondkfnaaDoorHookObu
namespace Go.Proofs.YtmlfkjmondkfnaaDoor
open Go.ChangeShapes Go.WideShapes Go.ChangeAt Go.RowKit
set_option linter.unusedVariables false
attribute [local go_sem ↓] Go.wp_at_zero Go.wp_at_succ
attribute [local go_sem] run_store_float

theorem and_1 (a : Int) : bits .and .i64 a 1 = 0 ∨ bits .and .i64 a 1 = 1 := by
  have h : (BitVec.ofInt 64 a &&& BitVec.ofInt 64 1).toNat < 2 := by
    rw [BitVec.toNat_and]
    have h7 : (BitVec.ofInt 64 1).toNat = 1 := by decide
    rw [h7]
    exact Nat.lt_of_le_of_lt Nat.and_le_right (by decide)
  have e : bits .and .i64 a 1 = ((BitVec.ofInt 64 a &&& BitVec.ofInt 64 1).toNat : Int) := by
    show IntKind.i64.wrap ((BitVec.ofInt 64 a &&& BitVec.ofInt 64 1).toNat : Int) = _
    generalize (BitVec.ofInt 64 a &&& BitVec.ofInt 64 1).toNat = k at h
    have := IntKind.wrap_i64 (k : Int)
    rw [this]
    omega
  rw [e]
  generalize (BitVec.ofInt 64 a &&& BitVec.ofInt 64 1).toNat = k at h
  omega
theorem Vals.chgN {C : Nat → Prop} {w w' : World} {a : Option Addr} {n : Nat} {l : List VT} (h : Vals w a n l) (hc : Chg C w w') (ha : ∀ b, b < w.heap.size → n ≠ 0 → RowB a b → ¬ C b) : Vals w' a n l := by
  refine ⟨h.1, h.2.1, ?_⟩
  rcases h.2.2 with h0 | ⟨b, o, rfl, hx⟩
  · exact .inl h0
  · by_cases h0 : n = 0
    · exact .inl h0
    refine .inr ⟨b, o, rfl, fun i hi => ?_⟩
    have hn := ha b (World.block_lt_of_cell? w _ (hx i hi).1) h0 ⟨o, rfl⟩
    exact ⟨hc.cell (hx i hi).1 hn, hc.cell (hx i hi).2.1 hn, hc.cell (hx i hi).2.2.1 hn, hc.cell (hx i hi).2.2.2 hn⟩
theorem Vals.none0 {w : World} {a : Option Addr} {n : Nat} {l : List VT} (h : Vals w a n l) : a = none → n = 0 := by
  intro h0
  rcases h.2.2 with h1 | ⟨b, o, h1, _⟩
  · exact h1
  · rw [h0] at h1; cases h1
theorem few_parts {l : List VT} {k : Int} (h : fewB l k = true) : (∀ i, (l.getD i zeroT).2.2.1.size ≤ 200) ∧ (l.length : Int) ≤ k := by
  unfold fewB at h
  simp only [Bool.and_eq_true, decide_eq_true_eq] at h
  exact ⟨fun i => shortB_get h.1 i, h.2⟩
theorem copyS_calls (a : Option Addr) (n c : Nat) (l : List VT) (w : World) (hn : n ≤ 1000) (hv : Vals w a n l) :
    Calls Tryd.prog 18 #[.slice a n c] w fun e w' => ∃ ca cc, e = .returned (.slice ca n cc) ∧ Vals w' ca n l ∧ (∀ g, RowB ca g → w.heap.size ≤ g ∧ g < w'.heap.size) ∧ Up w w' := by
  refine (copy_calls a n c l w hn hv hv.none0).mono ?_
  rintro _ w' ⟨v, rfl, ho, hu⟩
  have hlt := ho.lt
  obtain ⟨ca, cc, rfl, _, _, _, h1, _⟩ := owns_vals ho hv.2.1
  exact ⟨ca, cc, rfl, h1, fun g hg => by obtain ⟨o, rfl⟩ := hg; exact hlt g rfl, hu⟩
theorem ChB.new (w : World) (s : ByteArray) (id : Int) (u v : Value) (t : TypeId) : ChB (w.alloc (.cells #[.string s, .int .i64 id, u, v] t)) w.heap.size s id u v :=
  ⟨⟨by go_simp, by go_simp, by go_simp, by go_simp⟩, fun i => by simp⟩
/-- Where HookObserves stands when it has made its change. -/
structure TP (w3 : World) (l0 l1 : List VT) (ca : Option Addr) (cc : Nat) (cb : Option Addr) (cd : Nat) (X : World) (kb : Nat) : Prop where
  up : Up w3 X
  box : ChB X kb ⟨#[116]⟩ 3 (.slice ca l0.length cc) (.slice cb l1.length cd)
  va : Vals X ca l0.length l0
  vb : Vals X cb l1.length l1
  ga : ∀ g, RowB ca g → g < X.heap.size
  gb : ∀ g, RowB cb g → g < X.heap.size
theorem TP.ofSet {w3 x2 : World} {l0 l1 : List VT} {ca cb : Option Addr} {cc cd kb : Nat} {s0 : ByteArray} {i0 : Int} {u0 v0 : Value} (hu : Up w3 x2) (hk : w3.heap.size ≤ kb) (h : ChB x2 kb s0 i0 u0 v0) (va : Vals x2 ca l0.length l0) (vb : Vals x2 cb l1.length l1) (ga : ∀ g, RowB ca g → g < x2.heap.size ∧ ¬ g = kb) (gb : ∀ g, RowB cb g → g < x2.heap.size ∧ ¬ g = kb) :
    TP w3 l0 l1 ca cc cb cd ((((x2.setCell ⟨kb, 0, none⟩ (.string ⟨#[116]⟩)).setCell ⟨kb, 1, none⟩ (.int .i64 3)).setCell ⟨kb, 2, none⟩ (.slice ca l0.length cc)).setCell ⟨kb, 3, none⟩ (.slice cb l1.length cd)) kb := by
  have h4 := chg_set4 x2 kb (.string ⟨#[116]⟩) (.int .i64 3) (.slice ca l0.length cc) (.slice cb l1.length cd)
  obtain ⟨⟨h0, h1, h2, h3⟩, hf⟩ := h
  refine ⟨Below.trans hu.below (Chg.below (B := w3.heap.size) h4 (fun x hx e => by omega) hu.size), ⟨⟨by go_simp, by go_simp, by go_simp, by go_simp⟩, fun i => by simp only [World.frozen?_setCell]; exact hf i⟩, va.chg h4 (fun g hg => (ga g hg).2), vb.chg h4 (fun g hg => (gb g hg).2), fun g hg => Nat.lt_of_lt_of_le (ga g hg).1 h4.size, fun g hg => Nat.lt_of_lt_of_le (gb g hg).1 h4.size⟩
theorem TP.ofNew {w3 x2 : World} {l0 l1 : List VT} {ca cb : Option Addr} {cc cd : Nat} (t : TypeId) (hu : Up w3 x2) (va : Vals x2 ca l0.length l0) (vb : Vals x2 cb l1.length l1) (ga : ∀ g, RowB ca g → g < x2.heap.size) (gb : ∀ g, RowB cb g → g < x2.heap.size) :
    TP w3 l0 l1 ca cc cb cd (x2.alloc (.cells #[.string ⟨#[116]⟩, .int .i64 3, .slice ca l0.length cc, .slice cb l1.length cd] t)) x2.heap.size :=
  ⟨hu.alloc _, ChB.new _ _ _ _ _ _, va.up ((Up.refl _).alloc _), vb.up ((Up.refl _).alloc _), fun g hg => by have := ga g hg; simp; omega, fun g hg => by have := gb g hg; simp; omega⟩
theorem Chg.of_below {B : Nat} {w w' : World} (h : Below B w w') : Chg (fun g => B ≤ g) w w' := ⟨Below.mono h (Nat.zero_le _), fun b _ hn => h.block b (by omega)⟩
theorem ob1_enter (v : Value) (cap : Array Value) (w : World) : (callFunc 29 (#[v] ++ cap)).run Tryd.prog w = .ok (.enter 29 (#[v] ++ cap)) w := by
  simp [go_sem]

set_option maxRecDepth 20000 in
set_option maxHeartbeats 8000000 in
theorem hookObserves_all (a0 : Option Addr) (len0 cap0 : Nat) (l0 : List VT) (a1 : Option Addr) (len1 cap1 : Nat) (l1 : List VT) (a2 : Int) (w : World) (w0 : len0 ≤ maxLen ∧ len0 ≤ cap0 ∧ cap0 ≤ maxLen ∧ Vals w a0 len0 l0) (w1 : len1 ≤ maxLen ∧ len1 ≤ cap1 ∧ cap1 ≤ maxLen ∧ Vals w a1 len1 l1) (w2 : (Lit.int .i64 a2).wf = true) (hT : TabE w) :
    Calls Tryd.prog 5 #[.slice a0 len0 cap0, .slice a1 len1 cap1, .int .i64 a2] w fun e w' => e = .returned (.bool true) ∧ Up w w' := by
  have hmf : ∀ (fn : Fn) (first cap : Array Value) (w : World), (Instr.makeFunc fn first cap).run Tryd.prog w = .ok (.func fn first cap) w := fun _ _ _ _ => rfl
  obtain rfl : l0.length = len0 := w0.2.2.2.1
  obtain rfl : l1.length = len1 := w1.2.2.2.1
  have HT := hide hT
  have HV0 := hide w0.2.2.2
  have HV1 := hide w1.2.2.2
  have hm0 : l0.length ≤ maxLen := w0.1
  have hm1 : l1.length ≤ maxLen := w1.1
  clear hT w0 w1 w2
  go_enter Tryd.func5, Tryd.ntmps5
  go_wp2_with fail
  obtain ⟨W0, hW0⟩ : ∃ W0, W0 = ((w.alloc (.cells #[.slice a0 l0.length cap0] 44)).alloc (.cells #[.slice a1 l1.length cap1] 44)).alloc (.cells #[.int .i64 a2] 3) := ⟨_, rfl⟩
  have U0 : Hid (Up w W0) := by rw [hW0]; exact (((Up.refl _).alloc _).alloc _).alloc _
  have k0 : W0.cell? ⟨w.heap.size, 0, none⟩ = some (.slice a0 l0.length cap0) := by rw [hW0]; go_simp
  have k1 : W0.cell? ⟨w.heap.size + 1, 0, none⟩ = some (.slice a1 l1.length cap1) := by rw [hW0]; go_simp
  have k2 : W0.cell? ⟨w.heap.size + 1 + 1, 0, none⟩ = some (.int .i64 a2) := by rw [hW0]; go_simp
  rw [← hW0]
  clear hW0
  go_at_call 8
  refine (known_calls W0 (HT.out.up U0.out)).mono ?_
  rintro _ w1 ⟨rfl, hu1⟩
  replace U0 := hide (U0.out.trans hu1)
  replace k0 := hu1.cell k0
  replace k1 := hu1.cell k1
  replace k2 := hu1.cell k2
  clear hu1
  go_wp2_with fail
  go_at_call 16
  refine (few_calls a0 l0.length cap0 l0 10 w1 hm0 (HV0.out.up U0.out)).mono ?_
  rintro _ w2 ⟨rfl, rfl⟩
  obtain ⟨q, hq0⟩ : ∃ q, fewB l0 10 = q := ⟨_, rfl⟩
  rw [hq0]
  cases q with
  | false =>
    go_wp2
    go_ret
    exact ⟨rfl, U0.out⟩
  | true =>
  go_wp2_with fail
  go_at_call 16
  refine (few_calls a1 l1.length cap1 l1 10 w2 hm1 (HV1.out.up U0.out)).mono ?_
  rintro _ w3 ⟨rfl, rfl⟩
  obtain ⟨q, hq1⟩ : ∃ q, fewB l1 10 = q := ⟨_, rfl⟩
  rw [hq1]
  cases q with
  | false =>
    go_wp2
    go_ret
    exact ⟨rfl, U0.out⟩
  | true =>
  obtain ⟨hs0, hn0⟩ := few_parts hq0
  obtain ⟨hs1, hn1⟩ := few_parts hq1
  replace hs0 := hide hs0
  replace hs1 := hide hs1
  have hn0' : l0.length ≤ 10 := by omega
  have hn1' : l1.length ≤ 10 := by omega
  clear hq0 hq1 hn0 hn1 hm0 hm1
  go_wp2_with fail
  have hl0 : w.heap.size < w3.heap.size := World.block_lt_of_cell? w3 _ k0
  have hl1 : w.heap.size + 1 < w3.heap.size := World.block_lt_of_cell? w3 _ k1
  rename_i Q1 K1 A1
  have tail : ∀ (X : World) (kb : Nat) (ca cb : Option Addr) (cc cd : Nat), TP w3 l0 l1 ca cc cb cd X kb → Exit.then K1 Q1 Exit.normal { tmps := #[.slice a0 l0.length cap0, .slice a1 l1.length cap1, .int .i64 a2, .pointer (some ⟨w.heap.size, 0, none⟩), .pointer (some ⟨w.heap.size + 1, 0, none⟩), .pointer (some ⟨w.heap.size + 1 + 1, 0, none⟩), .bool false, .pointer (some ⟨kb, 0, none⟩), undef, undef, .bool true, .bool false, .slice a0 l0.length cap0, .bool true, .bool false, .bool false, .slice a1 l1.length cap1, .bool true, .bool false, .bool false, .slice a0 l0.length cap0, .slice ca l0.length cc, .slice a1 l1.length cap1, .slice cb l1.length cd, .agg #[.string ⟨#[116]⟩, .int .i64 3, .slice ca l0.length cc, .slice cb l1.length cd], undef, undef, undef, undef, undef, undef, undef, undef, undef, undef, undef, undef, undef, undef, undef, undef, undef, undef, undef, undef, undef, undef, undef, undef, undef, undef, undef, undef, undef], defers := [] } X := by
    intro X kb ca cb cc cd hP
    have HP := hide hP
    have U3 : Hid (Up w X) := U0.out.trans hP.up
    have d0 := hP.up.cell k0
    have d1 := hP.up.cell k1
    have d2 := hP.up.cell k2
    have b0 := hP.box.1.1
    have b1 := hP.box.1.2.1
    have b2 := hP.box.1.2.2.1
    have b3 := hP.box.1.2.2.2
    have hkb : kb < X.heap.size := World.block_lt_of_cell? X _ b0
    have hx2 : w.heap.size + 1 + 1 < X.heap.size := World.block_lt_of_cell? X _ d2
    clear hP
    go_wp2_with fail
    obtain ⟨W, hW⟩ : ∃ W, W = X.alloc (.cells #[.bool false] 4) := ⟨_, rfl⟩
    have uXW : Hid (Up X W) := by rw [hW]; exact (Up.refl _).alloc _
    have zs : W.cell? ⟨X.heap.size, 0, none⟩ = some (.bool false) := by rw [hW]; go_simp
    have zf : W.frozen? ⟨X.heap.size, 0, none⟩ = false := by rw [hW]; go_simp
    have hXW : X.heap.size < W.heap.size := by rw [hW]; simp
    rw [← hW]
    clear hW
    have UW : Hid (Up w W) := U3.out.trans uXW.out
    have z0 := uXW.out.cell d0
    have z1 := uXW.out.cell d1
    have z2 := uXW.out.cell d2
    clear d0 d1 d2 b0 b1 b2 b3 k0 k1 k2
    go_at_call 28
    rcases and_1 a2 with hbit | hbit
    · skip
      refine (obs_ok 29 #[.pointer (some ⟨w.heap.size, 0, none⟩), .pointer (some ⟨w.heap.size + 1, 0, none⟩), .pointer (some ⟨X.heap.size, 0, none⟩), .pointer (some ⟨w.heap.size + 1 + 1, 0, none⟩)] ca cb l0.length cc l1.length cd l0 l1 ⟨#[116]⟩ 3 (fun g => g = X.heap.size) (fun q x' => Chg (fun g => g = X.heap.size ∨ W.heap.size ≤ g) q x' ∧ x'.cell? ⟨X.heap.size, 0, none⟩ = some (.bool true)) W (HT.out.up UW.out) (fun g e => by omega) (by decide) (by omega) (HP.out.va.up uXW.out) hs0.out (by omega) (HP.out.vb.up uXW.out) hs1.out (fun g h => by have := HP.out.ga g h; omega) (fun g h => by have := HP.out.gb g h; omega) (fun v w' => ob1_enter v _ w') (fun x a' b' hx h1 h2 => (ob1_ret w.heap.size (w.heap.size + 1) X.heap.size (w.heap.size + 1 + 1) a0 a1 a' b' l0.length cap0 l1.length cap1 l0 l1 a2 false W.heap.size x (by omega) (by omega) ((HV0.out.up UW.out).up hx) ((HV1.out.up UW.out).up hx) h1 h2 (by omega) (by omega) (by omega) (hx.cell z0) (hx.cell z1) (hx.cell zs) ((hx.frozen (p := ⟨X.heap.size, 0, none⟩) hXW).trans zf) (hx.cell z2) hbit).mono ?_)).mono ?_
      · rintro _ x' ⟨rfl, hc, hse⟩
        refine ⟨rfl, hc.mono (fun g _ h => h.elim Or.inl (fun h => Or.inr (Or.inl h))), ?_, hc.mono (fun g _ h => h.elim Or.inl (fun h => Or.inr (h1.ge h))), hse⟩
        exact hc.cell ((HT.out.up UW.out).up hx) (fun h => h.elim (fun h => by have h' : 0 = X.heap.size := h; have := HT.out.lt; omega) (fun h => by have h' : W.heap.size ≤ 0 := h1.ge h; have := (HT.out.up UW.out).lt; omega))
      rintro _ w4 ⟨rfl, q, x', hq, ⟨hcc, hse⟩, hb⟩
      have FC : Chg (fun g => g = X.heap.size) W w4 := Chg.trans (Chg.trans (Chg.of_up hq) hcc (fun g hg h => h.resolve_right (by omega))) (Chg.of_below hb) (fun g hg h => by omega)
      have s4 : w4.cell? ⟨X.heap.size, 0, none⟩ = some (.bool true) := (hb.cell (p := ⟨X.heap.size, 0, none⟩) hXW).trans hse
      have U4 : Hid (Up w w4) := Below.trans UW.out.below (Chg.below (B := w.heap.size) FC (fun g hg e => by omega) UW.out.size)
      have z0 := FC.cell z0 (by show ¬ w.heap.size = X.heap.size; omega)
      have z2 := FC.cell z2 (by show ¬ w.heap.size + 1 + 1 = X.heap.size; omega)
      have b2 := FC.cell (uXW.out.cell HP.out.box.1.2.2.1) (by show ¬ kb = X.heap.size; omega)
      have V4 : Hid (Vals w4 ca l0.length l0) := (HP.out.va.up uXW.out).chg FC (fun g h e => by have := HP.out.ga g h; omega)
      have V0 : Hid (Vals w4 a0 l0.length l0) := HV0.out.up U4.out
      clear hcc hse hb hq FC
      go_wp2_with fail
      refine region_up (by kernel_rfl) (by kernel_rfl) ?_
      repeat (first
        | go_big_quiet_skip
        | (go_big_quiet_want; go_big_quiet_op; go_big_quiet_on)
        | (go_big_quiet_want
           apply Exists.intro
           refine ⟨fun w' hw' => ?_, ?_⟩
           (skip
            have s4 := hw'.cell s4
            have z0 := hw'.cell z0
            have z2 := hw'.cell z2
            have b2 := hw'.cell b2
            go_simp
            first
            | done
            | with_reducible rfl
            | (go_at_call 21; exact quiet_call hw' (same_calls' ca a0 l0.length cc cap0 l0 w' (by unfold maxLen; omega) (V4.out.up hw') (V0.out.up hw')))
           )
           go_big_quiet_on
           try simp only [Act.put, List.setIfInBounds_toArray, List.set_cons_zero, List.set_cons_succ]))
      refine wpQuiet_nil ?_
      intro w8 hu8
      replace U4 := hide (U4.out.trans hu8)
      clear hu8
      go_wp2
      go_ret
      exact ⟨rfl, U4.out⟩
    · skip
      refine (obs_pan 29 #[.pointer (some ⟨w.heap.size, 0, none⟩), .pointer (some ⟨w.heap.size + 1, 0, none⟩), .pointer (some ⟨X.heap.size, 0, none⟩), .pointer (some ⟨w.heap.size + 1 + 1, 0, none⟩)] ca cb l0.length cc l1.length cd l0 l1 ⟨#[116]⟩ 3 3 (.int .i64 a2) (by decide) (fun g => g = X.heap.size) (fun q x' => Chg (fun g => g = X.heap.size ∨ W.heap.size ≤ g) q x' ∧ x'.cell? ⟨X.heap.size, 0, none⟩ = some (.bool true)) W (HT.out.up UW.out) (fun g e => by omega) (by decide) (by omega) (HP.out.va.up uXW.out) hs0.out (by omega) (HP.out.vb.up uXW.out) hs1.out (fun g h => by have := HP.out.ga g h; omega) (fun g h => by have := HP.out.gb g h; omega) (fun v w' => ob1_enter v _ w') (fun x a' b' hx h1 h2 => (ob1_pan w.heap.size (w.heap.size + 1) X.heap.size (w.heap.size + 1 + 1) a0 a1 a' b' l0.length cap0 l1.length cap1 l0 l1 a2 false W.heap.size x (by omega) (by omega) ((HV0.out.up UW.out).up hx) ((HV1.out.up UW.out).up hx) h1 h2 (by omega) (by omega) (by omega) (hx.cell z0) (hx.cell z1) (hx.cell zs) ((hx.frozen (p := ⟨X.heap.size, 0, none⟩) hXW).trans zf) (hx.cell z2) hbit).mono ?_)).mono ?_
      · rintro _ x' ⟨rfl, hc, hse⟩
        refine ⟨rfl, hc.mono (fun g _ h => h.elim Or.inl (fun h => Or.inr (Or.inl h))), ?_, hc.mono (fun g _ h => h.elim Or.inl (fun h => Or.inr (h1.ge h))), hse⟩
        exact hc.cell ((HT.out.up UW.out).up hx) (fun h => h.elim (fun h => by have h' : 0 = X.heap.size := h; have := HT.out.lt; omega) (fun h => by have h' : W.heap.size ≤ 0 := h1.ge h; have := (HT.out.up UW.out).lt; omega))
      rintro _ w4 ⟨b, rfl, hf, q, x', hq, ⟨hcc, hse⟩, hb⟩
      have FC : Chg (fun g => g = X.heap.size) W w4 := Chg.trans (Chg.trans (Chg.of_up hq) hcc (fun g hg h => h.resolve_right (by omega))) (Chg.of_below hb) (fun g hg h => by omega)
      have s4 : w4.cell? ⟨X.heap.size, 0, none⟩ = some (.bool true) := (hb.cell (p := ⟨X.heap.size, 0, none⟩) hXW).trans hse
      have U4 : Hid (Up w w4) := Below.trans UW.out.below (Chg.below (B := w.heap.size) FC (fun g hg e => by omega) UW.out.size)
      have z0 := FC.cell z0 (by show ¬ w.heap.size = X.heap.size; omega)
      have z2 := FC.cell z2 (by show ¬ w.heap.size + 1 + 1 = X.heap.size; omega)
      have b2 := FC.cell (uXW.out.cell HP.out.box.1.2.2.1) (by show ¬ kb = X.heap.size; omega)
      have V4 : Hid (Vals w4 ca l0.length l0) := (HP.out.va.up uXW.out).chg FC (fun g h e => by have := HP.out.ga g h; omega)
      have V0 : Hid (Vals w4 a0 l0.length l0) := HV0.out.up U4.out
      have HF := hide hf
      clear hcc hse hb hq FC
      go_wp2_with fail
      refine region_up (by kernel_rfl) (by kernel_rfl) ?_
      repeat (first
        | go_big_quiet_skip
        | (go_big_quiet_want; go_big_quiet_op; go_big_quiet_on)
        | (go_big_quiet_want
           apply Exists.intro
           refine ⟨fun w' hw' => ?_, ?_⟩
           (skip
            have s4 := hw'.cell s4
            have z0 := hw'.cell z0
            have z2 := hw'.cell z2
            have b2 := hw'.cell b2
            go_simp
            first
            | done
            | with_reducible rfl
            | (go_at_call 21; exact quiet_call hw' (same_calls' ca a0 l0.length cc cap0 l0 w' (by unfold maxLen; omega) (V4.out.up hw') (V0.out.up hw')))
            | (go_at_call 15; exact quiet_call hw' (struck_int b 0 _ a2 w' (HT.out.up (U4.out.trans hw')) (HF.out.up hw')))
           )
           go_big_quiet_on
           try simp only [Act.put, List.setIfInBounds_toArray, List.set_cons_zero, List.set_cons_succ]))
      refine wpQuiet_nil ?_
      intro w8 hu8
      replace U4 := hide (U4.out.trans hu8)
      clear hu8
      go_wp2
      go_ret
      exact ⟨rfl, U4.out⟩
  have TL := hide tail
  clear tail
  have D0 := hide (HV0.out.up (U0.out.drew))
  have D1 := hide (HV1.out.up (U0.out.drew))
  go_region_law (first
    | (go_simp; go_at_call_of 18 (Value.slice a0 l0.length cap0); refine (copyS_calls a0 l0.length cap0 l0 _ (by omega) ?_).mono ?_; (first | exact D0.out | exact D0.out.up ((Up.refl _).alloc _)); rintro _ x1 ⟨ca, cc, rfl, hv, hg, hu1⟩;
       have U1 : Hid (Up w3.drew x1) := (by first | exact hu1 | exact ((Up.refl _).alloc _).trans hu1);
       have q1 := U1.out.cell (p := ⟨w.heap.size + 1, 0, none⟩) (v := .slice a1 l1.length cap1) k1; have hq1 : w.heap.size + 1 < x1.heap.size := World.block_lt_of_cell? x1 ⟨w.heap.size + 1, 0, none⟩ q1;
       have VA := hide hv; have GA : Hid (∀ g, RowB ca g → g < x1.heap.size) := (fun g h => (hg g h).2);
       (first | (have HA : Hid (ChB x1 w3.heap.size ⟨#[]⟩ 0 (.slice none 0 0) (.slice none 0 0)) := ChB.up (ChB.new w3.drew ⟨#[]⟩ 0 (.slice none 0 0) (.slice none 0 0) 78) hu1; have GA2 : Hid (∀ g, RowB ca g → w3.heap.size < g) := (fun g h => by have := (hg g h).1; simp at this; omega)) | skip);
       clear hv hg hu1; dsimp only)
    | (go_simp; go_at_call_of 18 (Value.slice a1 l1.length cap1); refine (copyS_calls a1 l1.length cap1 l1 _ (by omega) ?_).mono ?_; (first | exact D1.out.up U1.out | exact (D1.out.up U1.out).up ((Up.refl _).alloc _)); rintro _ x2 ⟨cb, cd, rfl, hv, hg, hu2⟩;
       have U2 : Hid (Up x1 x2) := (by first | exact hu2 | exact ((Up.refl _).alloc _).trans hu2);
       have VB := hide hv; have GB : Hid (∀ g, RowB cb g → x1.heap.size ≤ g ∧ g < x2.heap.size) := (fun g h => ⟨Nat.le_trans (by simp) (hg g h).1, (hg g h).2⟩);
       (first
         | (have GB2 : Hid (∀ g, RowB cb g → x1.heap.size < g) := (fun g h => by have := (hg g h).1; simp at this; omega); have HB : Hid (ChB x2 x1.heap.size ⟨#[]⟩ 0 (.slice none 0 0) (.slice none 0 0)) := ChB.up (ChB.new x1 ⟨#[]⟩ 0 (.slice none 0 0) (.slice none 0 0) 78) hu2; have i0 := HB.out.1.1; have i1 := HB.out.1.2.1; have i2 := HB.out.1.2.2.1; have i3 := HB.out.1.2.2.2; have j0 := HB.out.2 0; have j1 := HB.out.2 1; have j2 := HB.out.2 2; have j3 := HB.out.2 3)
         | (have HA2 := hide (HA.out.up hu2); have i0 := HA2.out.1.1; have i1 := HA2.out.1.2.1; have i2 := HA2.out.1.2.2.1; have i3 := HA2.out.1.2.2.2; have j0 := HA2.out.2 0; have j1 := HA2.out.2 1; have j2 := HA2.out.2 2; have j3 := HA2.out.2 3)
         | skip);
       clear hv hg hu2; dsimp only))
  all_goals (
    have u32 : Up w3 x2 := ((Up.refl w3).drew.trans U1.out).trans U2.out
    have s13 : w3.heap.size ≤ x1.heap.size := ((Up.refl w3).drew.trans U1.out).size
    have s12 : x1.heap.size ≤ x2.heap.size := U2.out.size
    first
      | exact TL.out _ x1.heap.size ca cb cc cd (TP.ofSet u32 s13 HB.out (VA.out.up U2.out) VB.out (fun g h => ⟨Nat.lt_of_lt_of_le (GA.out g h) s12, by have := GA.out g h; omega⟩) (fun g h => ⟨(GB.out g h).2, by have := GB2.out g h; omega⟩))
      | exact TL.out _ w3.heap.size ca cb cc cd (TP.ofSet u32 (Nat.le_refl _) HA2.out (VA.out.up U2.out) VB.out (fun g h => ⟨Nat.lt_of_lt_of_le (GA.out g h) s12, by have := GA2.out g h; omega⟩) (fun g h => ⟨(GB.out g h).2, by have := (GB.out g h).1; have := World.block_lt_of_cell? x1 ⟨w3.heap.size, 0, none⟩ HA.out.1.1; simp at this; omega⟩))
      | exact TL.out _ x2.heap.size ca cb cc cd (TP.ofNew _ u32 (VA.out.up U2.out) VB.out (fun g h => Nat.lt_of_lt_of_le (GA.out g h) s12) (fun g h => (GB.out g h).2)))

end Go.Proofs.YtmlfkjmondkfnaaDoor

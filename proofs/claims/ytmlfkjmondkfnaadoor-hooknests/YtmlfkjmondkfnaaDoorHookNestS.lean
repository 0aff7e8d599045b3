/-
  A step of nest (package rialtolaw6): a trial.
-/
import Derived.Test.YtmlfkjmondkfnaaDoorHookNest
import Derived.Deep.RegionLaw
namespace Go.Proofs.YtmlfkjmondkfnaaDoor
open Go.RowKit
set_option linter.unusedVariables false
attribute [local go_sem ↓] Go.wp_at_zero Go.wp_at_succ

set_option maxRecDepth 20000 in
set_option maxHeartbeats 4000000 in
theorem nest_step (k N C m : Nat) (hN : N ≤ 10) (hm : m + 1 ≤ N) (hg : 0 < C) (ih : NestC k N C m) (hk : N - (m + 1) = k) : NestC k N C (m + 1) := by
  intro f w hC hT hc
  have hmf : ∀ (fn : Fn) (first cap : Array Value) (w : World), (Instr.makeFunc fn first cap).run Tryd.prog w = .ok (.func fn first cap) w := fun _ _ _ _ => rfl
  have t0 : ((m : Int) + 1 == 0) = false := by rw [beq_eq_false_iff_ne]; omega
  have em : ((m + 1 : Nat) : Int) = (m : Int) + 1 := by omega
  rw [em]
  have HC := hide hc
  have HT := hide hT
  have hx := hide hk
  clear hc hT hk em
  go_enter Tryd.func30, Tryd.ntmps30
  go_wp2_with fail
  obtain ⟨W, hW⟩ : ∃ W, W = ((((w.alloc (.cells #[.int .i64 ((m : Int) + 1)] 3)).alloc (.cells #[.int .i64 (k : Int)] 3)).alloc (.cells #[.slice (some ⟨C, 0, none⟩) N N] 29)).alloc (.cells #[.int .i64 ((N : Int) - ((m : Int) + 1))] 3)) := ⟨_, rfl⟩
  have uW : Hid (Up w W) := by rw [hW]; exact ((((Up.refl _).alloc _).alloc _).alloc _).alloc _
  have z0 : W.cell? ⟨w.heap.size, 0, none⟩ = some (.int .i64 ((m : Int) + 1)) := by rw [hW]; go_simp
  have z1 : W.cell? ⟨w.heap.size + 1, 0, none⟩ = some (.int .i64 (k : Int)) := by rw [hW]; go_simp
  have z2 : W.cell? ⟨w.heap.size + 1 + 1, 0, none⟩ = some (.slice (some ⟨C, 0, none⟩) N N) := by rw [hW]; go_simp
  have z3 : W.cell? ⟨w.heap.size + 1 + 1 + 1, 0, none⟩ = some (.int .i64 ((N : Int) - ((m : Int) + 1))) := by rw [hW]; go_simp
  have hWs : W.heap.size = w.heap.size + 1 + 1 + 1 + 1 := by rw [hW]; simp
  rw [← hW]
  clear hW
  go_at_call 9
  refine (run_panics _ 62 #[.pointer (some ⟨w.heap.size, 0, none⟩), .pointer (some ⟨w.heap.size + 1, 0, none⟩), .pointer (some ⟨w.heap.size + 1 + 1, 0, none⟩), .pointer (some ⟨w.heap.size + 1 + 1 + 1, 0, none⟩)] 3 (.int .i64 (900 + (k : Int))) (fun x => Cau x C N (nestF k f (N - m)) ∧ Wr C W x) W (by decide) (HT.out.up uW.out) (fun x hx => (HT.out.up uW.out).on hx.2.1 hg) (by decide) (nest1_enter _)
    (fun w' hu => (nest1_calls k N C m w.heap.size hN hm ih f w' hC (by have := hu.size; omega) (HT.out.up (uW.out.trans hu)) ((HC.out.up uW.out hC).up hu (by omega)) (hu.cell z0) (hu.cell z1) (hu.cell z2) (hu.cell z3)).mono ?_)).mono ?_
  · rintro e w2 ⟨hE, hc2, hw2⟩
    rcases hE with ⟨_, rfl⟩ | ⟨nh, _⟩
    · exact ⟨rfl, hw2.keeps (by omega), hc2, (Wr.of_up (by omega) hu).trans hw2⟩
    · exact absurd hx.out nh
  rintro _ w3 ⟨w2, b, rfl, hf, ⟨hc2, hw2⟩, hb⟩
  have HC3 := hide (hc2.below hb (by omega))
  have HW3 := hide (hw2.below hb (by omega) (Nat.le_refl _))
  have HF := hide hf
  have r2 := HW3.out.cell (p := ⟨w.heap.size + 1 + 1, 0, none⟩) (by show C < w.heap.size + 1 + 1; omega) z2
  have r3 := HW3.out.cell (p := ⟨w.heap.size + 1 + 1 + 1, 0, none⟩) (by show C < w.heap.size + 1 + 1 + 1; omega) z3
  have HT3 : Hid (TabE w3) := by
    show TabE w3
    unfold TabE
    rw [(HW3.out.1).cell (p := ⟨0, 0, none⟩) hg]
    exact HT.out.up uW.out
  have ek : (N : Int) - ((m : Int) + 1) = (k : Int) := by have := hx.out; omega
  have kN : k < N := by have := hx.out; omega
  have kNi : (k : Int) < (N : Int) := by omega
  have c3 := (HC3.out k kN).1
  have f3 := (HC3.out k kN).2
  have hC3 : C < w3.heap.size := World.block_lt_of_cell? w3 ⟨C, k, none⟩ c3
  rw [ek] at r3
  rw [ek]
  have HTd := hide (HT3.out.up (Up.refl w3).drew)
  have HFd := hide (HF.out.up (Up.refl w3).drew)
  clear hf hc2 hw2 hb z0 z1 z2 z3
  go_wp2_with fail
  go_region_law (go_simp; go_at_call 15; refine (struck_int b 0 _ (900 + (k : Int)) _ HTd.out HFd.out).mono ?_; rintro _ w4 ⟨rfl, hu4⟩; have q2 := hu4.cell (p := ⟨w.heap.size + 1 + 1, 0, none⟩) (v := .slice (some ⟨C, 0, none⟩) N N) r2; have q3 := hu4.cell (p := ⟨w.heap.size + 1 + 1 + 1, 0, none⟩) (v := .int .i64 (k : Int)) r3; have q4 := hu4.cell (p := ⟨C, k, none⟩) c3; have q5 := (hu4.frozen (p := ⟨C, k, none⟩) hC3).trans f3; dsimp only)
  all_goals (
    have HW4 := hide ((HW3.out.trans (Wr.of_up hC3 (Up.refl w3).drew)).trans (Wr.of_up (w := w3.drew) hC3 hu4))
    have HC4 := hide ((HC3.out.up (Up.refl w3).drew hC3).up hu4 hC3)
    have HF4 := hide (HFd.out.up hu4)
    clear q2 q3 q4 q5 r2 r3 c3 f3
    go_wp2
    go_ret
    have e1 : N - m = k + 1 := by have := hx.out; omega
    refine ⟨.inl ⟨⟨by omega, hx.out⟩, b, ⟨#[120]⟩, rfl, ?_⟩, ?_, ((Wr.of_up hC uW.out).trans HW4.out).set⟩
    · have hbC : b ≠ C := by
        intro e
        have h1 := (HC4.out 0 (by omega)).1
        have h2 := HF4.out.1
        rw [e, h1] at h2
        simp at h2
      exact ⟨(World.cell?_setCell_other _ _ _ _ (fun e => hbC (congrArg Addr.block e).symm)).trans HF4.out.1, (World.cell?_setCell_other _ _ _ _ (fun e => hbC (congrArg Addr.block e).symm)).trans HF4.out.2.1, (World.cell?_setCell_other _ _ _ _ (fun e => hbC (congrArg Addr.block e).symm)).trans HF4.out.2.2⟩
    · have z := HC4.out
      rw [e1] at z
      have y := z.set kN
      rw [if_pos rfl] at y
      rw [hx.out]
      exact y)

set_option maxRecDepth 20000 in
set_option maxHeartbeats 4000000 in
theorem nest_miss (k N C m : Nat) (hN : N ≤ 10) (hm : m + 1 ≤ N) (hg : 0 < C) (ih : NestC k N C m) (hk : ¬ N - (m + 1) = k) : NestC k N C (m + 1) := by
  intro f w hC hT hc
  have hmf : ∀ (fn : Fn) (first cap : Array Value) (w : World), (Instr.makeFunc fn first cap).run Tryd.prog w = .ok (.func fn first cap) w := fun _ _ _ _ => rfl
  have t0 : ((m : Int) + 1 == 0) = false := by rw [beq_eq_false_iff_ne]; omega
  have em : ((m + 1 : Nat) : Int) = (m : Int) + 1 := by omega
  rw [em]
  have HC := hide hc
  have HT := hide hT
  have hx := hide hk
  clear hc hT hk em
  go_enter Tryd.func30, Tryd.ntmps30
  go_wp2_with fail
  obtain ⟨W, hW⟩ : ∃ W, W = ((((w.alloc (.cells #[.int .i64 ((m : Int) + 1)] 3)).alloc (.cells #[.int .i64 (k : Int)] 3)).alloc (.cells #[.slice (some ⟨C, 0, none⟩) N N] 29)).alloc (.cells #[.int .i64 ((N : Int) - ((m : Int) + 1))] 3)) := ⟨_, rfl⟩
  have uW : Hid (Up w W) := by rw [hW]; exact ((((Up.refl _).alloc _).alloc _).alloc _).alloc _
  have z0 : W.cell? ⟨w.heap.size, 0, none⟩ = some (.int .i64 ((m : Int) + 1)) := by rw [hW]; go_simp
  have z1 : W.cell? ⟨w.heap.size + 1, 0, none⟩ = some (.int .i64 (k : Int)) := by rw [hW]; go_simp
  have z2 : W.cell? ⟨w.heap.size + 1 + 1, 0, none⟩ = some (.slice (some ⟨C, 0, none⟩) N N) := by rw [hW]; go_simp
  have z3 : W.cell? ⟨w.heap.size + 1 + 1 + 1, 0, none⟩ = some (.int .i64 ((N : Int) - ((m : Int) + 1))) := by rw [hW]; go_simp
  have hWs : W.heap.size = w.heap.size + 1 + 1 + 1 + 1 := by rw [hW]; simp
  rw [← hW]
  clear hW
  go_at_call 9
  refine (run_ok _ 62 #[.pointer (some ⟨w.heap.size, 0, none⟩), .pointer (some ⟨w.heap.size + 1, 0, none⟩), .pointer (some ⟨w.heap.size + 1 + 1, 0, none⟩), .pointer (some ⟨w.heap.size + 1 + 1 + 1, 0, none⟩)] (fun x => Cau x C N (nestF k f (N - m)) ∧ Wr C W x) W (nest1_enter _)
    (fun w' hu => (nest1_calls k N C m w.heap.size hN hm ih f w' hC (by have := hu.size; omega) (HT.out.up (uW.out.trans hu)) ((HC.out.up uW.out hC).up hu (by omega)) (hu.cell z0) (hu.cell z1) (hu.cell z2) (hu.cell z3)).mono ?_)).mono ?_
  · rintro e w2 ⟨hE, hc2, hw2⟩
    rcases hE with ⟨nh, _⟩ | ⟨_, rfl⟩
    · exact absurd nh hx.out
    · exact ⟨rfl, hw2.keeps (by omega), hc2, (Wr.of_up (by omega) hu).trans hw2⟩
  rintro _ w3 ⟨rfl, w2, ⟨hc2, hw2⟩, hb⟩
  have HC3 := hide (hc2.below hb (by omega))
  have HW3 := hide (hw2.below hb (by omega) (Nat.le_refl _))
  have r2 := HW3.out.cell (p := ⟨w.heap.size + 1 + 1, 0, none⟩) (by show C < w.heap.size + 1 + 1; omega) z2
  have r3 := HW3.out.cell (p := ⟨w.heap.size + 1 + 1 + 1, 0, none⟩) (by show C < w.heap.size + 1 + 1 + 1; omega) z3
  obtain ⟨q, hq⟩ : ∃ q, q = N - (m + 1) := ⟨_, rfl⟩
  have ek : (N : Int) - ((m : Int) + 1) = (q : Int) := by omega
  have kN : q < N := by omega
  have kNi : (q : Int) < (N : Int) := by omega
  have c3 := (HC3.out q kN).1
  have f3 := (HC3.out q kN).2
  have hC3 : C < w3.heap.size := World.block_lt_of_cell? w3 ⟨C, q, none⟩ c3
  have HQ := hide hq
  rw [ek] at r3
  rw [ek]
  clear hc2 hw2 hb z0 z1 z2 z3 hq
  go_wp2_with fail
  go_region_law (go_simp; go_at_call 15; refine (struck_nil _).mono ?_; rintro _ w4 ⟨rfl, hu4⟩; have q2 := hu4.cell (p := ⟨w.heap.size + 1 + 1, 0, none⟩) (v := .slice (some ⟨C, 0, none⟩) N N) r2; have q3 := hu4.cell (p := ⟨w.heap.size + 1 + 1 + 1, 0, none⟩) (v := .int .i64 (q : Int)) r3; have q4 := hu4.cell (p := ⟨C, q, none⟩) c3; have q5 := (hu4.frozen (p := ⟨C, q, none⟩) hC3).trans f3; dsimp only)
  all_goals (
    have HW4 := hide ((HW3.out.trans (Wr.of_up hC3 (Up.refl w3).drew)).trans (Wr.of_up (w := w3.drew) hC3 hu4))
    have HC4 := hide ((HC3.out.up (Up.refl w3).drew hC3).up hu4 hC3)
    clear q2 q3 q4 q5 r2 r3 c3 f3
    go_wp2
    go_ret
    have hq := HQ.out
    have e1 : N - m = q + 1 := by omega
    refine ⟨.inr ⟨fun h => hx.out h.2, rfl⟩, ?_, ((Wr.of_up hC uW.out).trans HW4.out).set⟩
    have z := HC4.out
    rw [e1] at z
    have y := z.set kN
    rw [if_neg (by rw [hq]; exact hx.out)] at y
    rw [← hq]
    exact y)

/-- All of nest. -/
theorem nest_all (k N C : Nat) (hN : N ≤ 10) (hg : 0 < C) : ∀ m, m ≤ N → NestC k N C m
  | 0, _ => nest_zero k N C hN
  | m + 1, hm => by
    by_cases hk : N - (m + 1) = k
    · exact nest_step k N C m hN hm hg (nest_all k N C hN hg m (by omega)) hk
    · exact nest_miss k N C m hN hm hg (nest_all k N C hN hg m (by omega)) hk

end Go.Proofs.YtmlfkjmondkfnaaDoor

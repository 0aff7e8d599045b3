/-
  HookNests, walked (a trial).
-/
import Derived.Test.YtmlfkjmondkfnaaDoorHookNestS
import Derived.Laws.MakeOwn
import Derived.DataShut
namespace Go.Proofs.YtmlfkjmondkfnaaDoor
open Go.RowKit
set_option linter.unusedVariables false
attribute [local go_sem ↓] Go.wp_at_zero Go.wp_at_succ

theorem info_int : (Tryd.prog.info? 3).map (fun i => (i.zero, i.size, i.bytes)) = some (some (.int .i64 0), 1, 8) := by kernel_rfl
set_option maxRecDepth 20000 in
set_option maxHeartbeats 8000000 in
theorem hookNests_all (a0 a1 : Int) (w : World) (w0 : (Lit.int .u8 a0).wf = true) (w1 : (Lit.int .u8 a1).wf = true) (hT : TabE w) :
    Calls Tryd.prog 6 #[.int .u8 a0, .int .u8 a1] w fun e w' => e = .returned (.bool true) ∧ Up w w' := by
  have HT := hide hT
  obtain ⟨x0, y0⟩ := (Lit.wf_int_iff .u8 a0).1 w0
  obtain ⟨x1, y1⟩ := (Lit.wf_int_iff .u8 a1).1 w1
  replace x0 : 0 ≤ a0 := x0
  replace y0 : a0 ≤ 255 := y0
  replace x1 : 0 ≤ a1 := x1
  replace y1 : a1 ≤ 255 := y1
  obtain ⟨n, hn⟩ : ∃ n : Nat, n = (a0 % 10).toNat + 1 := ⟨_, rfl⟩
  have hn1 : 1 ≤ n := by omega
  have hn10 : n ≤ 10 := by omega
  have en : a0 % 10 + 1 = (n : Int) := by omega
  obtain ⟨k, hk⟩ : ∃ k : Nat, k = (a1 % (n : Int)).toNat := ⟨_, rfl⟩
  have hr1 := Int.emod_nonneg a1 (b := (n : Int)) (by omega)
  have hr2 := Int.emod_lt_of_pos a1 (b := (n : Int)) (by omega)
  have hkn : k < n := by omega
  have ek : a1 % (n : Int) = (k : Int) := by omega
  clear hk hr1 hr2
  obtain ⟨i0, hi, hz0, hz1, hz2⟩ := info_parts info_int
  have hmk : ∀ W : World, (Instr.makeSlice 29 (.int .i64 (n : Int)) (.int .i64 (n : Int))).run Tryd.prog W = .ok (.slice (some ⟨W.heap.size, 0, none⟩) n n) (W.alloc (.cells (madeCells #[.int .i64 0] n) 3)) := fun W => by
    have h := run_make (P := Tryd.prog) W 29 3 i0 (.int .i64 0) Tryd.underlying29 hi hz0 .i64 .i64 (n : Int) (n : Int) (by omega) (by omega) (by rw [hz2]; omega) (by omega)
    rw [hz1] at h
    simpa [Value.cells] using h
  have EN := hide en
  have EK := hide ek
  clear hT hi hz0 hz1 hz2 hn en ek
  go_enter Tryd.func6, Tryd.ntmps6
  go_wp2_with fail
  go_at_call 8
  refine (known_calls w HT.out).mono ?_
  rintro _ w2 ⟨rfl, hu2⟩
  go_wp2_with fail
  rw [EN.out, EK.out, hmk]
  clear EN EK x0 y0 x1 y1 w0 w1 hmk
  obtain ⟨M, hM⟩ : ∃ M, M = madeCells #[.int .i64 0] n := ⟨_, rfl⟩
  rw [← hM]
  obtain ⟨w3, hw3⟩ : ∃ w3, w3 = w2.alloc (.cells M 3) := ⟨_, rfl⟩
  rw [← hw3]
  obtain ⟨C, hC⟩ : ∃ C, C = w2.heap.size := ⟨_, rfl⟩
  rw [← hC]
  have c3 : Hid (Cau w3 C n (fun _ => 0)) := by
    intro j hj
    rw [hw3, hC]
    refine ⟨?_, by simp⟩
    simp [hM, madeCells, hj, Nat.mod_one]
  have hs3 : C < w3.heap.size := by rw [hw3, hC]; simp
  have hu3 : Hid (Up w w3) := by rw [hw3]; exact hu2.alloc _
  have hwC : w.heap.size ≤ C := by rw [hC]; exact hu2.size
  clear hw3 hM hC hu2
  go_wp2_with fail
  go_at_call 30
  have hg : 0 < C := Nat.lt_of_lt_of_le (World.block_lt_of_cell? w ⟨0, 0, none⟩ HT.out) hwC
  refine (nest_all k n C hn10 hg n (Nat.le_refl _) (fun _ => 0) w3 hs3 (HT.out.up hu3.out) c3.out).mono ?_
  rintro e w4 ⟨hE, hc4, hw4⟩
  have hu4 : Hid (Up w w4) := Below.trans hu3.out.below (Below.mono hw4.1 hwC)
  have HT4 := hide (HT.out.up hu4.out)
  have C4 : ∀ j, j < n → w4.cell? ⟨C, j, none⟩ = some (.int .i64 (if j = k then 900 + (k : Int) else 0)) := by
    intro j hj
    have h := (hc4 j hj).1
    unfold nestF at h
    rw [if_pos (by omega)] at h
    exact h
  replace C4 := hide C4
  clear hc4 hw4 hg c3 hu3
  have hv : ∃ v, e = .returned v := by
    rcases hE with ⟨_, b, s, rfl, _⟩ | ⟨_, rfl⟩ <;> exact ⟨_, rfl⟩
  obtain ⟨v, rfl⟩ := hv
  have HE := hide hE
  clear hE
  go_wp2_with fail
  go_loopw [9] (fun i wr => ∃ j : Nat, j ≤ n ∧ i = .int .i64 j ∧ wr = w4) (fun i _ => n - (intOf i).toNat)
  case atStart => exact ⟨0, Nat.zero_le _, rfl, rfl⟩
  case round =>
    obtain ⟨j, hj, rfl, rfl⟩ := hrel
    by_cases hlt : j < n
    · have t0 : decide ((j : Int) < (n : Int)) = true := decide_eq_true (by omega)
      have cj := C4.out j hlt
      have hjn : (j : Int) < (n : Int) := by omega
      by_cases hjk : j = k
      · rw [if_pos hjk] at cj
        have t1 : ((j : Int) == (k : Int)) = true := by rw [beq_iff_eq]; omega
        clear hjk
        have hk10 : k < 10 := by omega
        go_wp2
        go_roundw
        case rel => exact ⟨j + 1, by omega, by go_num, trivial⟩
        case measure => simp [intOf]; omega
      · rw [if_neg hjk] at cj
        have t1 : ((j : Int) == (k : Int)) = false := by rw [beq_eq_false_iff_ne]; omega
        clear hjk
        go_wp2
        go_roundw
        case rel => exact ⟨j + 1, by omega, by go_num, trivial⟩
        case measure => simp [intOf]; omega
    · obtain rfl : j = n := by omega
      have t0 : decide ((j : Int) < (j : Int)) = false := decide_eq_false (by omega)
      clear hlt
      rcases HE.out with ⟨⟨_, hk⟩, b, s, hv, hf⟩ | ⟨_, hv⟩
      · cases hv
        obtain rfl : k = 0 := by omega
        have HF := hide hf
        have t2 : decide ((0 : Int) < (j : Int)) = true := decide_eq_true (by omega)
        clear hf hk HE
        go_wp2_with fail
        go_at_call 15
        refine (struck_int b 0 _ _ _ HT4.out HF.out).mono ?_
        rintro _ w5 ⟨rfl, hu5⟩
        have H5 := hide (hu4.out.trans hu5)
        clear hu5
        go_wp2
        go_ret
        exact ⟨rfl, H5.out⟩
      · cases hv
        clear HE
        go_wp2
        go_ret
        exact ⟨rfl, hu4.out⟩

end Go.Proofs.YtmlfkjmondkfnaaDoor

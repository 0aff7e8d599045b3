/-
  The ordered sort of bytes: nextPowerOfTwo of lengths up to 256.
-/
import Derived.Test.YtmbniakobhaomaaBySrN
import Derived.Sort.Walk7a
namespace Go.Proofs.Ytmbniakobhaomaa
open Go.ChangeShapes Go.WideShapes Go.ChangeAt Go.RowKit Go.Sort
set_option linter.unusedVariables false
set_option maxRecDepth 100000

theorem len8_size : Lib.len8tab.size = 256 := by kernel_rfl
theorem len8_at (x : Nat) (h : x < Lib.len8tab.size) : (Lib.len8tab[x]).toNat = bitsLen x := by
  have key : ∀ y : Fin 256, (Lib.len8tab[y.1]'(by rw [len8_size]; exact y.2)).toNat = bitsLen y.1 := by decide +kernel
  exact key ⟨x, by rw [← len8_size]; exact h⟩
set_option maxHeartbeats 4000000 in
theorem len64_at (x : Nat) (w : World) (hx : x < 256) : Calls Try.prog 68 #[.int .u64 x] w fun e w' => e = .returned (.int .i64 (bitsLen x : Nat)) ∧ w' = w := by
  have t1 : decide ((x : Int) ≥ 4294967296) = false := decide_eq_false (by omega)
  have t2 : decide ((x : Int) ≥ 65536) = false := decide_eq_false (by omega)
  have t3 : decide ((x : Int) ≥ 256) = false := decide_eq_false (by omega)
  go_enter Try.func68, Try.ntmps68
  go_wp2
  go_ret
  refine ⟨?_, rfl⟩
  rename_i hx9
  have hb := len8_at x hx9
  have h2 : bitsLen x ≤ 255 := by rw [← hb]; have := (Lib.len8tab[x]).toNat_lt; omega
  have e : wrap64 ((bitsLen x : Nat) : Int) = (bitsLen x : Nat) := by unfold wrap64; omega
  rw [hb, e, e]
  rfl
set_option maxHeartbeats 4000000 in
theorem len64_256 (w : World) : Calls Try.prog 68 #[.int .u64 256] w fun e w' => e = .returned (.int .i64 9) ∧ w' = w := by
  go_enter Try.func68, Try.ntmps68
  go_wp2
  all_goals first | (go_ret; refine ⟨?_, rfl⟩; simp [wrap64]; done) | (exfalso; simp [len8_size] at *; done) | (go_ret; refine ⟨?_, rfl⟩; kernel_rfl)
theorem len64_le (x : Nat) (w : World) (hx : x ≤ 256) : Calls Try.prog 68 #[.int .u64 x] w fun e w' => e = .returned (.int .i64 (bitsLen x : Nat)) ∧ w' = w := by
  by_cases h : x = 256
  · subst h
    have e : bitsLen 256 = 9 := by decide +kernel
    rw [e]
    exact len64_256 w
  · exact len64_at x w (by omega)
set_option maxHeartbeats 4000000 in
theorem len_at (x : Nat) (w : World) (hx : x ≤ 256) : Calls Try.prog 56 #[.int .u64 x] w fun e w' => e = .returned (.int .i64 (bitsLen x : Nat)) ∧ w' = w := by
  go_enter Try.func56, Try.ntmps56
  go_wp2_with fail
  go_at_call 68
  refine (len64_le x w hx).mono ?_
  rintro _ w9 ⟨rfl, hw9⟩
  obtain rfl : w = w9 := hw9.symm
  go_wp2
  go_ret
  exact ⟨rfl, rfl⟩
theorem bitsLen_9 (n : Nat) (hn : n ≤ 256) : bitsLen n ≤ 9 := by
  have key : ∀ y : Fin 257, bitsLen y.1 ≤ 9 := by decide +kernel
  exact key ⟨n, by omega⟩
set_option maxHeartbeats 4000000 in
theorem nextPow_calls (n : Nat) (hn : n ≤ 256) (w : World) : Calls Try.prog 71 #[.int .i64 n] w fun e w' => e = .returned (.int .u64 ((1 <<< bitsLen n : Nat) : Int)) ∧ w' = w := by
  have hk : bitsLen n ≤ 9 := bitsLen_9 n hn
  have hL := hide (len_at n w hn)
  obtain ⟨k, hkk⟩ : ∃ k, k = bitsLen n := ⟨_, rfl⟩
  rw [← hkk] at hL hk ⊢
  have hp := Go.Proofs.wrap_two_pow k (by omega)
  clear hkk
  go_enter Try.func71, Try.ntmps71
  go_wp2_with (go_at_call 56; refine hL.out.mono ?_; rintro _ w9 ⟨rfl, hw9⟩; obtain rfl : w = w9 := hw9.symm)
  go_ret
  exact ⟨rfl, rfl⟩
end Go.Proofs.Ytmbniakobhaomaa

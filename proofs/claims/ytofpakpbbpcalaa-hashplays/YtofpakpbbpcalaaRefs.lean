/-
  What each function of the document's own floats (package rialtoref1) answers, for every float and every word, as its text runs: the same functions of the bits as package bits.
-/
import Derived.Test.YtofpakpbbpcalaaCalls
namespace Go.Proofs.Ytofpakpbbpcalaa
open Go.ChangeShapes Go.WideShapes Go.ChangeAt Go.RowKit

theorem half_shift (b : Nat) (hb : b < whole) : (b : Int) / 9223372036854775808 = if b < half then 0 else 1 := by
  simp only [whole] at hb
  by_cases h : b < half
  · rw [if_pos h]; simp only [half] at h; omega
  · rw [if_neg h]; simp only [half] at h; omega

theorem rorder_calls (b : Nat) (hb : b < whole) (w : World) :
    Calls Try.prog 52 #[.float .f64 b] w fun e w' => e = .returned (.int .u64 (ordN b : Int)) ∧ w' = w := by
  have hrb := run_bits
  have hsg : IntKind.u64.signed = false := rfl
  have hs := half_shift b hb
  by_cases hlt : b < half
  · rw [if_pos hlt] at hs
    have ho := or_half b hlt
    have he : ordN b = b + half := if_pos hlt
    rw [he]
    clear he
    go_enter Try.func52, Try.ntmps52
    go_wp2
    go_ret
    exact ⟨rfl, rfl⟩
  · rw [if_neg hlt] at hs
    have hx := xor_max b hb
    have he : ordN b = whole - 1 - b := if_neg hlt
    rw [he]
    clear he
    go_enter Try.func52, Try.ntmps52
    go_wp2
    go_ret
    exact ⟨rfl, rfl⟩

theorem rcompare_calls (a b : Nat) (ha : a < whole) (hb : b < whole) (w : World) :
    Calls Try.prog 42 #[.float .f64 a, .float .f64 b] w fun e w' => e = .returned (.int .i64 (cmpN a b)) ∧ w' = w := by
  by_cases h1 : ordN a < ordN b
  · rw [show cmpN a b = -1 from if_pos h1]
    go_enter Try.func42, Try.ntmps42
    go_wp2_with (go_at_call 52; refine (rorder_calls _ (by with_reducible assumption) _).mono ?_; rintro _ _ ⟨rfl, rfl⟩)
    go_ret
    exact ⟨rfl, rfl⟩
  · by_cases h2 : ordN b < ordN a
    · rw [show cmpN a b = 1 from by unfold cmpN; rw [if_neg h1, if_pos h2]]
      go_enter Try.func42, Try.ntmps42
      go_wp2_with (go_at_call 52; refine (rorder_calls _ (by with_reducible assumption) _).mono ?_; rintro _ _ ⟨rfl, rfl⟩)
      go_ret
      exact ⟨rfl, rfl⟩
    · rw [show cmpN a b = 0 from by unfold cmpN; rw [if_neg h1, if_neg h2]]
      go_enter Try.func42, Try.ntmps42
      go_wp2_with (go_at_call 52; refine (rorder_calls _ (by with_reducible assumption) _).mono ?_; rintro _ _ ⟨rfl, rfl⟩)
      go_ret
      exact ⟨rfl, rfl⟩

theorem low_twice (b : Nat) : IntKind.u64.wrap ((b : Int) * 2) / 2 = (low b : Int) := by
  rw [IntKind.wrap_u64]
  simp only [low, half]
  omega

theorem low_lt (b : Nat) : low b < half := Nat.mod_lt _ half_pos

theorem classN_one {b : Nat} (h : 9218868437227405312 < low b) : classN b = 1 := if_pos h
theorem classN_two {b : Nat} (h : low b = 9218868437227405312) : classN b = 2 := by
  unfold classN; rw [if_neg (by omega), if_pos h]
theorem classN_three {b : Nat} (h : low b = 0) : classN b = 3 := by
  unfold classN; rw [if_neg (by omega), if_neg (by omega), if_pos h]
theorem classN_four {b : Nat} (h0 : low b ≠ 0) (h : low b < 4503599627370496) : classN b = 4 := by
  unfold classN; rw [if_neg (by omega), if_neg (by omega), if_neg h0, if_pos h]
theorem classN_five {b : Nat} (h : ¬ low b < 4503599627370496) (h' : low b < 9218868437227405312) : classN b = 5 := by
  unfold classN; rw [if_neg (by omega), if_neg (by omega), if_neg (by omega), if_neg h]

theorem way_one {b : Nat} (h : (low b : Int) / 4503599627370496 = 2047) (h2 : (IntKind.u64.wrap ((low b : Int) * 4096) != 0) = true) : 1 = classN b := by
  have l := low_lt b
  rw [IntKind.wrap_u64, bne_iff_ne] at h2
  simp only [half] at l
  exact (classN_one (by omega)).symm
theorem way_two {b : Nat} (h : (low b : Int) / 4503599627370496 = 2047) (h2 : (IntKind.u64.wrap ((low b : Int) * 4096) != 0) = false) : 2 = classN b := by
  have l := low_lt b
  rw [IntKind.wrap_u64, bne_eq_false_iff_eq] at h2
  simp only [half] at l
  exact (classN_two (by omega)).symm
theorem way_three {b : Nat} (h : ((low b : Int) == 0) = true) : 3 = classN b := by
  rw [beq_iff_eq] at h
  exact (classN_three (by omega)).symm
theorem way_four {b : Nat} (h : ((low b : Int) == 0) = false) (h2 : ((low b : Int) / 4503599627370496 == 0) = true) : 4 = classN b := by
  rw [beq_iff_eq] at h2
  rw [beq_eq_false_iff_ne] at h
  exact (classN_four (by omega) (by omega)).symm
theorem way_five {b : Nat} (h : ¬ (low b : Int) / 4503599627370496 = 2047) (h2 : ((low b : Int) / 4503599627370496 == 0) = false) : 5 = classN b := by
  have l := low_lt b
  rw [beq_eq_false_iff_ne] at h2
  simp only [half] at l
  exact (classN_five (by omega) (by omega)).symm

end Go.Proofs.Ytofpakpbbpcalaa

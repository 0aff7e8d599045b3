/-
  What each function of package bits answers, for every float and every word, as the program's own text runs: contracts, from the leaves up.
-/
import Derived.Test.YtfabhfllobjbkaaRows
import Derived.Test.YtfabhfllobjbkaaBits
import Derived.WalkKit
import Derived.WalkLawsBesides
import Derived.ProofKit
import Derived.OpenShut
namespace Go.Proofs.Ytfabhfllobjbkaa
open Go.ChangeShapes Go.WideShapes Go.ChangeAt Go.RowKit

/-- math.Float64bits. -/
theorem run_bits (b : Nat) (w : World) : (callFunc 26 #[.float .f64 b]).run Try.prog w = .ok (.value (.int .u64 b)) w := by
  rw [run_callFunc_extern Try.func26 (by kernel_rfl) (by kernel_rfl) (by kernel_rfl) (e := Extern.MathFloatBits.float64bits) (by kernel_rfl)]
  rfl
/-- math.Float64frombits. -/
theorem run_from (b : Nat) (w : World) : (callFunc 10 #[.int .u64 (b : Int)]).run Try.prog w = .ok (.value (.float .f64 b)) w := by
  rw [run_callFunc_extern Try.func10 (by kernel_rfl) (by kernel_rfl) (by kernel_rfl) (e := Extern.MathFloatBits.float64frombits) (by kernel_rfl)]
  rfl

theorem order_calls (b : Nat) (hb : b < whole) (w : World) :
    Calls Try.prog 13 #[.float .f64 b] w fun e w' => e = .returned (.int .u64 (ordN b : Int)) ∧ w' = w := by
  have hrb := run_bits
  have ha := and_half b hb
  by_cases hlt : b < half
  · rw [if_pos hlt] at ha
    have ho := or_half b hlt
    have he : ordN b = b + half := if_pos hlt
    rw [he]
    clear he
    go_enter Try.func13, Try.ntmps13
    go_wp2
    go_ret
    exact ⟨rfl, rfl⟩
  · rw [if_neg hlt] at ha
    have hx := xor_max b hb
    have he : ordN b = whole - 1 - b := if_neg hlt
    rw [he]
    clear he
    have hz : (((half : Nat) : Int) == 0) = false := by simp [half]
    go_enter Try.func13, Try.ntmps13
    go_wp2
    go_ret
    exact ⟨rfl, rfl⟩

theorem of_calls (n : Nat) (hn : n < whole) (w : World) :
    Calls Try.prog 16 #[.int .u64 (n : Int)] w fun e w' => e = .returned (.float .f64 (ofN n)) ∧ w' = w := by
  have hrf := run_from
  have ha := and_half n hn
  by_cases hlt : n < half
  · rw [if_pos hlt] at ha
    have hx := xor_max n hn
    have he : ofN n = whole - 1 - n := if_pos hlt
    rw [he]
    clear he
    go_enter Try.func16, Try.ntmps16
    go_wp2
    go_ret
    exact ⟨rfl, rfl⟩
  · rw [if_neg hlt] at ha
    have hx := andNot_half n hn
    have he : ofN n = low n := by
      have e := whole_half
      unfold low
      rw [show ofN n = n - half from if_neg hlt, Nat.mod_eq_sub_mod (by omega), Nat.mod_eq_of_lt (by omega)]
    rw [he]
    clear he
    have hz : (((half : Nat) : Int) != 0) = true := by simp [half]
    go_enter Try.func16, Try.ntmps16
    go_wp2
    go_ret
    exact ⟨rfl, rfl⟩

theorem same_calls (a b : Nat) (w : World) :
    Calls Try.prog 15 #[.float .f64 a, .float .f64 b] w fun e w' => e = .returned (.bool ((a : Int) == (b : Int))) ∧ w' = w := by
  have hrb := run_bits
  go_enter Try.func15, Try.ntmps15
  go_wp2
  go_ret
  exact ⟨rfl, rfl⟩

theorem compare_calls (a b : Nat) (ha : a < whole) (hb : b < whole) (w : World) :
    Calls Try.prog 18 #[.float .f64 a, .float .f64 b] w fun e w' => e = .returned (.int .i64 (cmpN a b)) ∧ w' = w := by
  by_cases h1 : ordN a < ordN b
  · rw [show cmpN a b = -1 from if_pos h1]
    go_enter Try.func18, Try.ntmps18
    go_wp2_with (go_at_call 13; refine (order_calls _ (by with_reducible assumption) _).mono ?_; rintro _ _ ⟨rfl, rfl⟩)
    go_ret
    exact ⟨rfl, rfl⟩
  · by_cases h2 : ordN b < ordN a
    · rw [show cmpN a b = 1 from by unfold cmpN; rw [if_neg h1, if_pos h2]]
      go_enter Try.func18, Try.ntmps18
      go_wp2_with (go_at_call 13; refine (order_calls _ (by with_reducible assumption) _).mono ?_; rintro _ _ ⟨rfl, rfl⟩)
      go_ret
      exact ⟨rfl, rfl⟩
    · rw [show cmpN a b = 0 from by unfold cmpN; rw [if_neg h1, if_neg h2]]
      go_enter Try.func18, Try.ntmps18
      go_wp2_with (go_at_call 13; refine (order_calls _ (by with_reducible assumption) _).mono ?_; rintro _ _ ⟨rfl, rfl⟩)
      go_ret
      exact ⟨rfl, rfl⟩

theorem class1 (b : Nat) (hb : b < whole) (h1 : (9218868437227405312 : Int) < (low b : Int)) (w : World) :
    Calls Try.prog 20 #[.float .f64 b] w fun e w' => e = .returned (.int .i64 1) ∧ w' = w := by
  have hrb := run_bits
  have hx := andNot_half b hb
  go_enter Try.func20, Try.ntmps20
  go_wp2
  go_ret
  exact ⟨rfl, rfl⟩

theorem class2 (b : Nat) (hb : b < whole) (h1 : ¬ (9218868437227405312 : Int) < (low b : Int)) (h2 : ((low b : Int) == 9218868437227405312) = true) (w : World) :
    Calls Try.prog 20 #[.float .f64 b] w fun e w' => e = .returned (.int .i64 2) ∧ w' = w := by
  have hrb := run_bits
  have hx := andNot_half b hb
  go_enter Try.func20, Try.ntmps20
  go_wp2
  go_ret
  exact ⟨rfl, rfl⟩

theorem class3 (b : Nat) (hb : b < whole) (h1 : ¬ (9218868437227405312 : Int) < (low b : Int)) (h2 : ((low b : Int) == 9218868437227405312) = false) (h3 : ((low b : Int) == 0) = true) (w : World) :
    Calls Try.prog 20 #[.float .f64 b] w fun e w' => e = .returned (.int .i64 3) ∧ w' = w := by
  have hrb := run_bits
  have hx := andNot_half b hb
  go_enter Try.func20, Try.ntmps20
  go_wp2
  go_ret
  exact ⟨rfl, rfl⟩

theorem class4 (b : Nat) (hb : b < whole) (h1 : ¬ (9218868437227405312 : Int) < (low b : Int)) (h2 : ((low b : Int) == 9218868437227405312) = false) (h3 : ((low b : Int) == 0) = false) (h4 : (low b : Int) < 4503599627370496) (w : World) :
    Calls Try.prog 20 #[.float .f64 b] w fun e w' => e = .returned (.int .i64 4) ∧ w' = w := by
  have hrb := run_bits
  have hx := andNot_half b hb
  go_enter Try.func20, Try.ntmps20
  go_wp2
  go_ret
  exact ⟨rfl, rfl⟩

theorem class5 (b : Nat) (hb : b < whole) (h1 : ¬ (9218868437227405312 : Int) < (low b : Int)) (h2 : ((low b : Int) == 9218868437227405312) = false) (h3 : ((low b : Int) == 0) = false) (h4 : ¬ (low b : Int) < 4503599627370496) (w : World) :
    Calls Try.prog 20 #[.float .f64 b] w fun e w' => e = .returned (.int .i64 5) ∧ w' = w := by
  have hrb := run_bits
  have hx := andNot_half b hb
  go_enter Try.func20, Try.ntmps20
  go_wp2
  go_ret
  exact ⟨rfl, rfl⟩

theorem class_calls (b : Nat) (hb : b < whole) (w : World) :
    Calls Try.prog 20 #[.float .f64 b] w fun e w' => e = .returned (.int .i64 (classN b)) ∧ w' = w := by
  by_cases h1 : 9218868437227405312 < low b
  · rw [show classN b = 1 from if_pos h1]
    exact class1 b hb (by omega) w
  · by_cases h2 : low b = 9218868437227405312
    · rw [show classN b = 2 from by unfold classN; rw [if_neg h1, if_pos h2]]
      exact class2 b hb (by omega) (beq_iff_eq.2 (by omega)) w
    · by_cases h3 : low b = 0
      · rw [show classN b = 3 from by unfold classN; rw [if_neg h1, if_neg h2, if_pos h3]]
        exact class3 b hb (by omega) (beq_eq_false_iff_ne.2 (by omega)) (beq_iff_eq.2 (by omega)) w
      · by_cases h4 : low b < 4503599627370496
        · rw [show classN b = 4 from by unfold classN; rw [if_neg h1, if_neg h2, if_neg h3, if_pos h4]]
          exact class4 b hb (by omega) (beq_eq_false_iff_ne.2 (by omega)) (beq_eq_false_iff_ne.2 (by omega)) (by omega) w
        · rw [show classN b = 5 from by unfold classN; rw [if_neg h1, if_neg h2, if_neg h3, if_neg h4]]
          exact class5 b hb (by omega) (beq_eq_false_iff_ne.2 (by omega)) (beq_eq_false_iff_ne.2 (by omega)) (by omega) w

theorem next_calls_last (b : Nat) (hb : b < whole) (hl : ordN b = whole - 1) (w : World) :
    Calls Try.prog 11 #[.float .f64 b] w fun e w' => e = .returned (.tuple #[.float .f64 b, .bool false]) ∧ w' = w := by
  have ht : ((ordN b : Int) == 18446744073709551615) = true := by rw [hl]; simp [whole]
  clear hl
  go_enter Try.func11, Try.ntmps11
  go_wp2_with (go_at_call 13; refine (order_calls _ (by with_reducible assumption) _).mono ?_; rintro _ _ ⟨rfl, rfl⟩)
  go_ret2
  exact ⟨rfl, rfl⟩

theorem wrap_next (n m : Nat) (h : m = n + 1) (hm : m < whole) : IntKind.u64.wrap ((n : Int) + 1) = (m : Int) := by
  rw [IntKind.wrap_u64]
  simp only [whole] at hm
  omega

theorem next_calls (b : Nat) (hb : b < whole) (hl : ordN b ≠ whole - 1) (w : World) :
    Calls Try.prog 11 #[.float .f64 b] w fun e w' => e = .returned (.tuple #[.float .f64 (ofN (ordN b + 1)), .bool true]) ∧ w' = w := by
  have ht : ((ordN b : Int) == 18446744073709551615) = false := by
    simp only [whole] at hl
    exact beq_eq_false_iff_ne.2 (by omega)
  have hlt : ordN b + 1 < whole := by have := ordN_lt hb; omega
  obtain ⟨m, hm⟩ : ∃ m, m = ordN b + 1 := ⟨_, rfl⟩
  rw [← hm] at hlt ⊢
  have hwr := wrap_next (ordN b) m hm hlt
  clear hl hm
  go_enter Try.func11, Try.ntmps11
  go_wp2_with (first | (go_at_call 13; refine (order_calls _ (by with_reducible assumption) _).mono ?_; rintro _ _ ⟨rfl, rfl⟩) | (go_at_call 16; refine (of_calls _ (by with_reducible assumption) _).mono ?_; rintro _ _ ⟨rfl, rfl⟩))
  go_ret2
  exact ⟨rfl, rfl⟩

/-- math.Float64frombits of whatever whole number. -/
theorem run_from_int (n : Int) (w : World) : (callFunc 10 #[.int .u64 n]).run Try.prog w = .ok (.value (.float .f64 n.toNat)) w := by
  rw [run_callFunc_extern Try.func10 (by kernel_rfl) (by kernel_rfl) (by kernel_rfl) (e := Extern.MathFloatBits.float64frombits) (by kernel_rfl)]
  rfl

theorem nan_calls (w : World) : Calls Try.prog 25 #[] w fun e w' => e = .returned (.float .f64 9221120237041090561) ∧ w' = w := by
  have hrf := run_from_int
  go_enter Try.func25, Try.ntmps25
  go_wp2
  go_ret
  exact ⟨rfl, rfl⟩

theorem inf_calls (w : World) : Calls Try.prog 22 #[.int .i64 1] w fun e w' => e = .returned (.float .f64 9218868437227405312) ∧ w' = w := by
  have hrf := run_from_int
  go_enter Try.func22, Try.ntmps22
  go_wp2
  go_ret
  exact ⟨rfl, rfl⟩

theorem copy_bits : (bits .or .u64 (bits .andNot .u64 0 9223372036854775808) (bits .and .u64 13830554455654793216 9223372036854775808)).toNat = 9223372036854775808 := by decide +kernel

theorem copysign_calls (w : World) : Calls Try.prog 24 #[.float .f64 0, .float .f64 13830554455654793216] w fun e w' => e = .returned (.float .f64 9223372036854775808) ∧ w' = w := by
  have hrf := run_from_int
  have hrb := run_bits
  go_enter Try.func24, Try.ntmps24
  go_wp2
  go_ret
  exact ⟨congrArg (fun n => Ending.returned (Value.float .f64 n)) copy_bits, rfl⟩

theorem known_calls (w : World) : Calls Try.prog 9 #[] w fun e w' => e = .returned (.bool true) ∧ w' = w := by
  have k1 : ((ordN 4607182418800017408 : Int) == 13830554455654793216) = true := by decide +kernel
  have k2 : (cmpN 9223372036854775808 0 == -1) = true := by decide +kernel
  have k3 : ((ofN (ordN 9223372036854775808 + 1) : Int) == 0) = true := by decide +kernel
  have k4 : (classN 9221120237041090561 == 1) = true := by decide +kernel
  have l1 : 4607182418800017408 < whole := by decide +kernel
  have l2 : 9223372036854775808 < whole := by decide +kernel
  have l3 : 9221120237041090561 < whole := by decide +kernel
  have l4 : 0 < whole := by decide +kernel
  have l5 : ordN 9223372036854775808 ≠ whole - 1 := by decide +kernel
  go_enter Try.func9, Try.ntmps9
  go_wp2_with (first
    | (go_at_call 13; refine (order_calls _ (by with_reducible assumption) _).mono ?_; rintro _ _ ⟨rfl, rfl⟩)
    | (go_at_call 18; refine (compare_calls _ _ (by with_reducible assumption) (by with_reducible assumption) _).mono ?_; rintro _ _ ⟨rfl, rfl⟩)
    | (go_at_call 20; refine (class_calls _ (by with_reducible assumption) _).mono ?_; rintro _ _ ⟨rfl, rfl⟩)
    | (go_at_call 11; refine (next_calls _ (by with_reducible assumption) (by with_reducible assumption) _).mono ?_; rintro _ _ ⟨rfl, rfl⟩)
    | (go_at_call 15; refine (same_calls _ _ _).mono ?_; rintro _ _ ⟨rfl, rfl⟩)
    | (go_at_call 24; refine (copysign_calls _).mono ?_; rintro _ _ ⟨rfl, rfl⟩)
    | (go_at_call 25; refine (nan_calls _).mono ?_; rintro _ _ ⟨rfl, rfl⟩))
  go_ret
  exact ⟨rfl, rfl⟩
end Go.Proofs.Ytfabhfllobjbkaa

/-
  What each function of package bits answers, for every float and every word, as the program's own text runs: contracts, from the leaves up.
-/
import Derived.Test.YtofpakpbbpcalaaRows
import Derived.Test.YtofpakpbbpcalaaBits
import Derived.WalkKit
import Derived.WalkLawsBesides
import Derived.ProofKit
import Derived.OpenShut
namespace Go.Proofs.Ytofpakpbbpcalaa
open Go.ChangeShapes Go.WideShapes Go.ChangeAt Go.RowKit

/-- math.Float64bits. -/
theorem run_bits (b : Nat) (w : World) : (callFunc 63 #[.float .f64 b]).run Try.prog w = .ok (.value (.int .u64 b)) w := by
  rw [run_callFunc_extern Try.func63 (by kernel_rfl) (by kernel_rfl) (by kernel_rfl) (e := Extern.MathFloatBits.float64bits) (by kernel_rfl)]
  rfl

/-- math.Float64frombits. -/
theorem run_from (b : Nat) (w : World) : (callFunc 21 #[.int .u64 (b : Int)]).run Try.prog w = .ok (.value (.float .f64 b)) w := by
  rw [run_callFunc_extern Try.func21 (by kernel_rfl) (by kernel_rfl) (by kernel_rfl) (e := Extern.MathFloatBits.float64frombits) (by kernel_rfl)]
  rfl

theorem order_calls (b : Nat) (hb : b < whole) (w : World) :
    Calls Try.prog 60 #[.float .f64 b] w fun e w' => e = .returned (.int .u64 (ordN b : Int)) ∧ w' = w := by
  have hrb := run_bits
  have ha := and_half b hb
  by_cases hlt : b < half
  · rw [if_pos hlt] at ha
    have ho := or_half b hlt
    have he : ordN b = b + half := if_pos hlt
    rw [he]
    clear he
    go_enter Try.func60, Try.ntmps60
    go_wp2
    go_ret
    exact ⟨rfl, rfl⟩
  · rw [if_neg hlt] at ha
    have hx := xor_max b hb
    have he : ordN b = whole - 1 - b := if_neg hlt
    rw [he]
    clear he
    have hz : (((half : Nat) : Int) == 0) = false := by simp [half]
    go_enter Try.func60, Try.ntmps60
    go_wp2
    go_ret
    exact ⟨rfl, rfl⟩

theorem same_calls (a b : Nat) (w : World) :
    Calls Try.prog 58 #[.float .f64 a, .float .f64 b] w fun e w' => e = .returned (.bool ((a : Int) == (b : Int))) ∧ w' = w := by
  have hrb := run_bits
  go_enter Try.func58, Try.ntmps58
  go_wp2
  go_ret
  exact ⟨rfl, rfl⟩

theorem compare_calls (a b : Nat) (ha : a < whole) (hb : b < whole) (w : World) :
    Calls Try.prog 77 #[.float .f64 a, .float .f64 b] w fun e w' => e = .returned (.int .i64 (cmpN a b)) ∧ w' = w := by
  by_cases h1 : ordN a < ordN b
  · rw [show cmpN a b = -1 from if_pos h1]
    go_enter Try.func77, Try.ntmps77
    go_wp2_with (go_at_call 60; refine (order_calls _ (by with_reducible assumption) _).mono ?_; rintro _ _ ⟨rfl, rfl⟩)
    go_ret
    exact ⟨rfl, rfl⟩
  · by_cases h2 : ordN b < ordN a
    · rw [show cmpN a b = 1 from by unfold cmpN; rw [if_neg h1, if_pos h2]]
      go_enter Try.func77, Try.ntmps77
      go_wp2_with (go_at_call 60; refine (order_calls _ (by with_reducible assumption) _).mono ?_; rintro _ _ ⟨rfl, rfl⟩)
      go_ret
      exact ⟨rfl, rfl⟩
    · rw [show cmpN a b = 0 from by unfold cmpN; rw [if_neg h1, if_neg h2]]
      go_enter Try.func77, Try.ntmps77
      go_wp2_with (go_at_call 60; refine (order_calls _ (by with_reducible assumption) _).mono ?_; rintro _ _ ⟨rfl, rfl⟩)
      go_ret
      exact ⟨rfl, rfl⟩

theorem wrap_next (n m : Nat) (h : m = n + 1) (hm : m < whole) : IntKind.u64.wrap ((n : Int) + 1) = (m : Int) := by
  rw [IntKind.wrap_u64]
  simp only [whole] at hm
  omega

/-- math.Float64frombits of whatever whole number. -/
theorem run_from_int (n : Int) (w : World) : (callFunc 21 #[.int .u64 n]).run Try.prog w = .ok (.value (.float .f64 n.toNat)) w := by
  rw [run_callFunc_extern Try.func21 (by kernel_rfl) (by kernel_rfl) (by kernel_rfl) (e := Extern.MathFloatBits.float64frombits) (by kernel_rfl)]
  rfl


theorem copy_bits : (bits .or .u64 (bits .andNot .u64 0 9223372036854775808) (bits .and .u64 13830554455654793216 9223372036854775808)).toNat = 9223372036854775808 := by decide +kernel

end Go.Proofs.Ytofpakpbbpcalaa

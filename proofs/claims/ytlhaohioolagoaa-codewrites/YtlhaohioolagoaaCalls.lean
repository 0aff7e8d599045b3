/-
  What each function of package bits answers, for every float and every word, as the program's own text runs: contracts, from the leaves up.
-/
import Derived.Test.YtlhaohioolagoaaRows
import Derived.Test.YtlhaohioolagoaaBits
import Derived.WalkKit
import Derived.WalkLawsBesides
import Derived.ProofKit
import Derived.OpenShut
namespace Go.Proofs.Ytlhaohioolagoaa
open Go.ChangeShapes Go.WideShapes Go.ChangeAt Go.RowKit

/-- math.Float64bits. -/
theorem run_bits (b : Nat) (w : World) : (callFunc 31 #[.float .f64 b]).run Try.prog w = .ok (.value (.int .u64 b)) w := by
  rw [run_callFunc_extern Try.func31 (by kernel_rfl) (by kernel_rfl) (by kernel_rfl) (e := Extern.MathFloatBits.float64bits) (by kernel_rfl)]
  rfl
/-- math.Float64frombits. -/
theorem run_from (b : Nat) (w : World) : (callFunc 38 #[.int .u64 (b : Int)]).run Try.prog w = .ok (.value (.float .f64 b)) w := by
  rw [run_callFunc_extern Try.func38 (by kernel_rfl) (by kernel_rfl) (by kernel_rfl) (e := Extern.MathFloatBits.float64frombits) (by kernel_rfl)]
  rfl

theorem order_calls (b : Nat) (hb : b < whole) (w : World) :
    Calls Try.prog 28 #[.float .f64 b] w fun e w' => e = .returned (.int .u64 (ordN b : Int)) ∧ w' = w := by
  have hrb := run_bits
  have ha := and_half b hb
  by_cases hlt : b < half
  · rw [if_pos hlt] at ha
    have ho := or_half b hlt
    have he : ordN b = b + half := if_pos hlt
    rw [he]
    clear he
    go_enter Try.func28, Try.ntmps28
    go_wp2
    go_ret
    exact ⟨rfl, rfl⟩
  · rw [if_neg hlt] at ha
    have hx := xor_max b hb
    have he : ordN b = whole - 1 - b := if_neg hlt
    rw [he]
    clear he
    have hz : (((half : Nat) : Int) == 0) = false := by simp [half]
    go_enter Try.func28, Try.ntmps28
    go_wp2
    go_ret
    exact ⟨rfl, rfl⟩

theorem of_calls (n : Nat) (hn : n < whole) (w : World) :
    Calls Try.prog 34 #[.int .u64 (n : Int)] w fun e w' => e = .returned (.float .f64 (ofN n)) ∧ w' = w := by
  have hrf := run_from
  have ha := and_half n hn
  by_cases hlt : n < half
  · rw [if_pos hlt] at ha
    have hx := xor_max n hn
    have he : ofN n = whole - 1 - n := if_pos hlt
    rw [he]
    clear he
    go_enter Try.func34, Try.ntmps34
    go_wp2
    go_ret
    exact ⟨rfl, rfl⟩
  · rw [if_neg hlt] at ha
    have hx := andNot_half n hn
    have he : ofN n = low n := by
      have e := whole_half
      unfold low
      rw [show ofN n = n - half from if_neg hlt, Nat.mod_eq_sub_mod (by omega), Nat.mod_eq_of_lt (by omega)]
    rw [he]
    clear he
    have hz : (((half : Nat) : Int) != 0) = true := by simp [half]
    go_enter Try.func34, Try.ntmps34
    go_wp2
    go_ret
    exact ⟨rfl, rfl⟩

theorem same_calls (a b : Nat) (w : World) :
    Calls Try.prog 26 #[.float .f64 a, .float .f64 b] w fun e w' => e = .returned (.bool ((a : Int) == (b : Int))) ∧ w' = w := by
  have hrb := run_bits
  go_enter Try.func26, Try.ntmps26
  go_wp2
  go_ret
  exact ⟨rfl, rfl⟩

theorem wrap_next (n m : Nat) (h : m = n + 1) (hm : m < whole) : IntKind.u64.wrap ((n : Int) + 1) = (m : Int) := by
  rw [IntKind.wrap_u64]
  simp only [whole] at hm
  omega

/-- math.Float64frombits of whatever whole number. -/
theorem run_from_int (n : Int) (w : World) : (callFunc 38 #[.int .u64 n]).run Try.prog w = .ok (.value (.float .f64 n.toNat)) w := by
  rw [run_callFunc_extern Try.func38 (by kernel_rfl) (by kernel_rfl) (by kernel_rfl) (e := Extern.MathFloatBits.float64frombits) (by kernel_rfl)]
  rfl


theorem copy_bits : (bits .or .u64 (bits .andNot .u64 0 9223372036854775808) (bits .and .u64 13830554455654793216 9223372036854775808)).toNat = 9223372036854775808 := by decide +kernel

end Go.Proofs.Ytlhaohioolagoaa

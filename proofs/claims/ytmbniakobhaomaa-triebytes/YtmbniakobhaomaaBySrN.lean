/-
  The ordered sort of bytes: the random numbers that breakPatterns draws by.
-/
import Derived.Test.YtmbniakobhaomaaBySrt
import Derived.Sort.LotD5
import Derived.Sort.Row
import Derived.Laws.Bits64
import Derived.Laws.Bits64b
namespace Go.Proofs.Ytmbniakobhaomaa
open Go.ChangeShapes Go.WideShapes Go.ChangeAt Go.RowKit Go.Sort
set_option linter.unusedVariables false
set_option maxRecDepth 100000

theorem setCell_twice (w : World) (c o : Nat) (v v' : Value) : (w.setCell ⟨c, o, none⟩ v).setCell ⟨c, o, none⟩ v' = w.setCell ⟨c, o, none⟩ v' := by
  simp only [Go.Sort.setCell_eq, Go.Sort.mapBlock_mapBlock]
  congr 1
  funext x
  simp
set_option maxHeartbeats 4000000 in
theorem nextBy_calls (c r : Nat) (hr : r < 18446744073709551616) (w : World) (hc : w.cell? ⟨c, 0, none⟩ = some (.int .u64 r)) (hf : w.frozen? ⟨c, 0, none⟩ = false) :
    Calls Try.prog 72 #[.pointer (some ⟨c, 0, none⟩)] w fun e w' => e = .returned (.int .u64 (xorNextN r : Nat)) ∧ ∃ q, w' = (w.setCell ⟨c, 0, none⟩ (.int .u64 (xorNextN r : Nat))).drewN q := by
  obtain ⟨s1, h1⟩ : ∃ s1 : Nat, s1 = r ^^^ (r * 8192 % 18446744073709551616) := ⟨_, rfl⟩
  obtain ⟨s2, h2⟩ : ∃ s2 : Nat, s2 = s1 ^^^ (s1 / 128) := ⟨_, rfl⟩
  obtain ⟨s3, h3⟩ : ∃ s3 : Nat, s3 = s2 ^^^ (s2 * 131072 % 18446744073709551616) := ⟨_, rfl⟩
  have b1 : s1 < 18446744073709551616 := by rw [h1]; exact Nat.xor_lt_two_pow (n := 64) (by omega) (by omega)
  have b2 : s2 < 18446744073709551616 := by rw [h2]; exact Nat.xor_lt_two_pow (n := 64) (by omega) (by omega)
  have q1 : bits .xor .u64 (r : Int) (IntKind.u64.wrap ((r : Int) * 8192)) = (s1 : Int) := by
    have e : ((r : Int) * 8192 % 18446744073709551616) = ((r * 8192 % 18446744073709551616 : Nat) : Int) := by omega
    rw [IntKind.wrap_u64, e, bits_xor_u64_nat _ _ hr (by omega), h1]
  have q2 : bits .xor .u64 (s1 : Int) ((s1 : Int) / 128) = (s2 : Int) := by
    have e : ((s1 : Int) / 128) = ((s1 / 128 : Nat) : Int) := by omega
    rw [e, bits_xor_u64_nat _ _ b1 (by omega), h2]
  have q3 : bits .xor .u64 (s2 : Int) (IntKind.u64.wrap ((s2 : Int) * 131072)) = (s3 : Int) := by
    have e : ((s2 : Int) * 131072 % 18446744073709551616) = ((s2 * 131072 % 18446744073709551616 : Nat) : Int) := by omega
    rw [IntKind.wrap_u64, e, bits_xor_u64_nat _ _ b2 (by omega), h3]
  have hx : xorNextN r = s3 := by unfold xorNextN; simp only []; rw [← h1, ← h2, ← h3]
  rw [hx]
  clear h1 h2 h3 hx
  have ht : ∀ v v', (w.setCell ⟨c, 0, none⟩ v).setCell ⟨c, 0, none⟩ v' = w.setCell ⟨c, 0, none⟩ v' := setCell_twice w c 0
  go_enter Try.func72, Try.ntmps72
  go_wp2
  go_region
  all_goals go_wp2
  all_goals go_region
  all_goals go_wp2
  all_goals go_region
  all_goals go_wp2
  go_ret
  exact ⟨rfl, 3, rfl⟩
end Go.Proofs.Ytmbniakobhaomaa

/-
  The shapes and definitions that the law SchemaMany makes, plainly, and what Is and Def answer of them.
-/
import Derived.Test.YteigjboelhcaiaaSchKnown
import Derived.Test.YteigjboelhcaiaaOwnSlc
namespace Go.Proofs.Yteigjboelhcaiaa
open Go.RowKit

def letters : ByteArray := ⟨#[97, 98, 99, 100, 101, 102, 103, 104, 105, 106, 107, 108]⟩
/-- So many fields. -/
def fldsK (k : Nat) : List FT := (List.range k).map fun i => (letters.extract i (i + 1), 3)
theorem fldsK_succ (k : Nat) : fldsK (k + 1) = fldsK k ++ [(letters.extract k (k + 1), 3)] := by
  unfold fldsK
  rw [List.range_succ, List.map_append]
  rfl
theorem fldsK_length (k : Nat) : (fldsK k).length = k := by simp [fldsK]
theorem fldsK_fits (k i : Nat) : FitsF ((fldsK k).getD i zeroF) := by
  induction k with
  | zero => exact fits_zeroF
  | succ k ih =>
    rw [fldsK_succ]
    refine getD_add (ok := FitsF) ?_ ?_ fits_zeroF i
    · intro j
      clear ih
      induction k generalizing j with
      | zero => exact fits_zeroF
      | succ k ih2 =>
        rw [fldsK_succ]
        refine getD_add (ok := FitsF) ih2 ?_ fits_zeroF j
        exact ⟨by simp [ByteArray.size_extract, letters, maxLen]; omega, (by decide : IntKind.i64.min ≤ 3), (by decide : (3 : Int) ≤ IntKind.i64.max)⟩
    · exact ⟨by simp [ByteArray.size_extract, letters, maxLen]; omega, (by decide : IntKind.i64.min ≤ 3), (by decide : (3 : Int) ≤ IntKind.i64.max)⟩
/-- So many parts. -/
def prtsK (p : Nat) : List PT := List.replicate p (0, 0)
theorem prtsK_succ (p : Nat) : prtsK (p + 1) = prtsK p ++ [(0, 0)] := List.replicate_succ'
theorem prtsK_length (p : Nat) : (prtsK p).length = p := by simp [prtsK]
theorem prtsK_fits (p i : Nat) : FitsP ((prtsK p).getD i zeroP) := by
  have : (prtsK p).getD i zeroP = zeroP := by
    unfold prtsK
    rw [List.getD_eq_getElem?_getD, List.getElem?_replicate]
    split <;> rfl
  rw [this]
  exact fits_zeroP

theorem many_is : ∀ k, k < 12 → isF (fldsK k) = (decide (1 ≤ k) && decide (k ≤ 8)) := by decide +kernel
/-- How many parts may be. -/
def wantB (q p : Nat) : Bool := if q = 4 ∨ q = 5 then decide (p = 0) else if q = 6 then decide (p = 1) else decide (1 ≤ p) && decide (p ≤ 3)
theorem many_def : ∀ k, k < 12 → ∀ p, p < 6 → ∀ q, q < 7 → defN (fldsK k) ⟨#[120]⟩ ((q + 1 : Nat) : Int) (prtsK p) (-1) [] [] = if 1 ≤ k ∧ k ≤ 8 then if wantB q p = true then 0 else 82 else 40 := by decide +kernel

end Go.Proofs.Yteigjboelhcaiaa

/-
  What the document's own Rows and Hash (package rialtoref2) answer of every row of values, as their text runs.
-/
import Derived.Test.YtjnnmghehoodhaaDoorRefVals
namespace Go.Proofs.YtjnnmghehoodhaaDoor
open Go.ChangeShapes Go.WideShapes Go.ChangeAt Go.RowKit
attribute [local go_sem ↓] Go.wp_at_zero Go.wp_at_succ
attribute [local go_sem] run_store_float

theorem sgn_len (x y : Nat) (h : ¬ x = y) : sgnB (decide (x < y)) = cmpI x y := by
  unfold sgnB cmpI
  by_cases hlt : x < y
  · rw [decide_eq_true hlt, if_pos rfl, if_pos (by omega)]
  · rw [decide_eq_false hlt, if_neg Bool.false_ne_true, if_neg (by omega), if_pos (by omega)]

theorem and_byte (n : Nat) (hn : n < whole) : bits .and .u64 (n : Int) 255 = ((n % 256 : Nat) : Int) := by
  have h := u64_and_nat n 255 hn (by decide)
  have e : ((255 : Nat) : Int) = 255 := rfl
  rw [e] at h
  rw [h]
  have : n &&& 255 = n % 2 ^ 8 := Nat.and_two_pow_sub_one_eq_mod n 8
  rw [this]

end Go.Proofs.YtjnnmghehoodhaaDoor

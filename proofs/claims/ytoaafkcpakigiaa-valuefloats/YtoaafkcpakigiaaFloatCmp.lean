/-
  How the program's order of two floats goes with Go's own comparisons of them: plain facts.
-/
import Derived.Test.YtoaafkcpakigiaaNewVals
import Derived.Test.YtoaafkcpakigiaaFloatOrd
namespace Go.Proofs.Ytoaafkcpakigiaa

theorem less_cmp {a b : Nat} (ha : a < whole) (hb : b < whole) (h : (FloatKind.f64.format.order a b == some .lt) = true) : cmpN a b = -1 := by
  by_cases n1 : top < low a
  · rw [order_none a b ha n1] at h; exact absurd h (by decide)
  · by_cases n2 : top < low b
    · rw [order_none' a b hb n2] at h; exact absurd h (by decide)
    · rw [order_num a b ha hb (by omega) (by omega)] at h
      have hl : num a < num b := by
        by_cases x : num a < num b
        · exact x
        · by_cases y : num a = num b
          · rw [y, cmp_of_eq] at h; exact absurd h (by decide)
          · rw [cmp_of_gt (by omega)] at h; exact absurd h (by decide)
      exact if_pos (num_lt_ord a b ha hb hl)

theorem more_cmp {a b : Nat} (ha : a < whole) (hb : b < whole) (h1 : (FloatKind.f64.format.order a b == some .lt) = false) (h2 : ¬ FloatKind.f64.format.order a b = some .eq)
    (h3 : FloatKind.f64.format.order a a = some .eq) (h4 : FloatKind.f64.format.order b b = some .eq) : cmpN a b = 1 := by
  have n1 : ¬ top < low a := fun h => by rw [order_none a a ha h] at h3; cases h3
  have n2 : ¬ top < low b := fun h => by rw [order_none b b hb h] at h4; cases h4
  rw [order_num a b ha hb (by omega) (by omega)] at h1 h2
  have hl : num b < num a := by
    by_cases x : num b < num a
    · exact x
    · by_cases y : num a = num b
      · rw [y, cmp_of_eq] at h2; exact absurd rfl h2
      · rw [cmp_of_lt (by omega)] at h1; exact absurd h1 (by decide)
  have := num_lt_ord b a hb ha hl
  unfold cmpN
  rw [if_neg (by omega), if_pos this]

theorem self_order (a : Nat) (ha : a < whole) : FloatKind.f64.format.order a a = some .eq ∨ FloatKind.f64.format.order a a = none := by
  by_cases n : top < low a
  · exact .inr (order_none a a ha n)
  · exact .inl (by rw [order_num a a ha ha (by omega) (by omega), cmp_of_eq])

theorem cmpV_float (q n : Int) (s : ByteArray) (a b : Nat) : cmpV (q, n, s, a) (q, n, s, b) = cmpN a b := by
  unfold cmpV
  simp only [cmpI_self, cmpS_self]
  rfl

end Go.Proofs.Ytoaafkcpakigiaa

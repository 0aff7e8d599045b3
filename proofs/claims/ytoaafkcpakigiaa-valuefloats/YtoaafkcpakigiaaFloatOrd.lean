/-
  The order of floats as numbers, told by their bits: of two words that are no NaN, IEEE's order is that of a whole number each, and that number rises with the word's place.
-/
import Derived.Test.YtoaafkcpakigiaaBits
import GoSem.Core.Float
import Ieee.Arith
namespace Go.Proofs.Ytoaafkcpakigiaa

/-- How many rungs a binade has. -/
def bin : Nat := 4503599627370496
/-- The rung of infinity. -/
def top : Nat := 9218868437227405312

/-- A rung's number, in units of the least one. -/
def mag (r : Nat) : Nat := if r < bin then r else (bin + r % bin) * 2 ^ (r / bin - 1)

theorem bin_pos : 0 < bin := by simp [bin]

theorem mag_succ (r : Nat) : mag r < mag (r + 1) := by
  have hp := bin_pos
  unfold mag
  by_cases h : r + 1 < bin
  · rw [if_pos (by omega), if_pos h]; omega
  · by_cases h2 : r < bin
    · have e : r + 1 = bin := by omega
      rw [if_pos h2, if_neg h, e, Nat.mod_self, Nat.div_self hp]
      simp; omega
    · rw [if_neg h2, if_neg h]
      have hd : 1 ≤ r / bin := (Nat.le_div_iff_mul_le hp).2 (by omega)
      by_cases h3 : r % bin + 1 < bin
      · have e1 : (r + 1) / bin = r / bin := by
          have h4 := Nat.div_add_mod r bin
          have : r + 1 = bin * (r / bin) + (r % bin + 1) := by omega
          rw [this, Nat.mul_add_div hp, Nat.div_eq_of_lt h3, Nat.add_zero]
        have e2 : (r + 1) % bin = r % bin + 1 := by
          have h4 := Nat.div_add_mod r bin
          have : r + 1 = bin * (r / bin) + (r % bin + 1) := by omega
          rw [this, Nat.mul_add_mod, Nat.mod_eq_of_lt h3]
        rw [e1, e2]
        exact Nat.mul_lt_mul_of_pos_right (by omega) (Nat.two_pow_pos _)
      · have hm := Nat.mod_lt r hp
        have e0 : r + 1 = bin * (r / bin + 1) := by
          have h4 := Nat.div_add_mod r bin
          rw [Nat.mul_add, Nat.mul_one]; omega
        have e1 : (r + 1) / bin = r / bin + 1 := by rw [e0, Nat.mul_div_cancel_left _ hp]
        have e2 : (r + 1) % bin = 0 := by rw [e0, Nat.mul_mod_right]
        rw [e1, e2, Nat.add_zero, show r / bin + 1 - 1 = (r / bin - 1) + 1 from by omega, Nat.pow_succ, Nat.mul_comm (2 ^ _) 2, ← Nat.mul_assoc]
        exact Nat.mul_lt_mul_of_pos_right (by omega) (Nat.two_pow_pos _)

theorem mag_lt {r s : Nat} (h : r < s) : mag r < mag s := by
  induction s with
  | zero => omega
  | succ s ih =>
    by_cases e : r = s
    · rw [e]; exact mag_succ s
    · exact Nat.lt_trans (ih (by omega)) (mag_succ s)

theorem mag_lt_iff (r s : Nat) : mag r < mag s ↔ r < s := by
  constructor
  · intro h
    by_cases e : r < s
    · exact e
    · by_cases e2 : r = s
      · rw [e2] at h; omega
      · have := mag_lt (show s < r by omega); omega
  · exact mag_lt

theorem mag_inj {r s : Nat} (h : mag r = mag s) : r = s := by
  by_cases e : r < s
  · have := mag_lt e; omega
  · by_cases e2 : s < r
    · have := mag_lt e2; omega
    · omega

theorem mag_zero : mag 0 = 0 := by unfold mag; rw [if_pos bin_pos]

/-- A word's number, in units of the least one. -/
def num (b : Nat) : Int := if b < half then (mag b : Int) else - (mag (b - half) : Int)

theorem cmp_int (x y : Int) : compare x y = if x < y then Ordering.lt else if x = y then .eq else .gt := rfl

theorem cmp_scale (x y : Int) (c : Nat) (hc : 0 < c) : compare (x * c) (y * c) = compare x y := by
  have hc' : (0 : Int) < c := by omega
  rw [cmp_int, cmp_int]
  by_cases h : x < y
  · rw [if_pos h, if_pos (Int.mul_lt_mul_of_pos_right h hc')]
  · by_cases e : x = y
    · subst e; rw [if_neg (Int.lt_irrefl _), if_pos rfl, if_neg h, if_pos rfl]
    · have h2 : y < x := by omega
      have h3 := Int.mul_lt_mul_of_pos_right h2 hc'
      rw [if_neg h, if_neg e, if_neg (by omega), if_neg (by omega)]

/-- A number with its sign. -/
def sgn (neg : Bool) (m : Nat) : Int := if neg then - (m : Int) else (m : Int)

theorem signed_eq (neg : Bool) (m e : Nat) : Ieee.signed neg m e = sgn neg (m * 2 ^ e) := by
  unfold Ieee.signed sgn; rw [Nat.shiftLeft_eq]

theorem sgn_mul (neg : Bool) (m c : Nat) : sgn neg m * (c : Int) = sgn neg (m * c) := by
  unfold sgn; cases neg
  · simp
  · simp [Int.neg_mul]

/-- The order of two numbers whose places are so far above one. -/
theorem order_number (s t : Bool) (m n : Nat) (p : Int) (i j : Nat) :
    Ieee.Datum.order (.number s m (p + i)) (.number t n (p + j)) = some (compare (sgn s (m * 2 ^ i)) (sgn t (n * 2 ^ j))) := by
  have e : ∀ k : Nat, min i j ≤ k → (p + (k : Int) - min (p + (i : Int)) (p + (j : Int))).toNat = k - min i j := by
    intro k hk
    by_cases h : i ≤ j
    · rw [Int.min_eq_left (by omega)]
      rw [Nat.min_eq_left h] at hk ⊢
      omega
    · rw [Int.min_eq_right (by omega)]
      rw [Nat.min_eq_right (by omega)] at hk ⊢
      omega
  show some (compare (Ieee.signed s m (p + (i : Int) - min (p + (i : Int)) (p + (j : Int))).toNat) (Ieee.signed t n (p + (j : Int) - min (p + (i : Int)) (p + (j : Int))).toNat)) = _
  rw [e i (Nat.min_le_left _ _), e j (Nat.min_le_right _ _), signed_eq, signed_eq]
  have h1 : m * 2 ^ (i - min i j) * 2 ^ (min i j) = m * 2 ^ i := by
    rw [Nat.mul_assoc, ← Nat.pow_add, Nat.sub_add_cancel (Nat.min_le_left _ _)]
  have h2 : n * 2 ^ (j - min i j) * 2 ^ (min i j) = n * 2 ^ j := by
    rw [Nat.mul_assoc, ← Nat.pow_add, Nat.sub_add_cancel (Nat.min_le_right _ _)]
  rw [← cmp_scale _ _ (2 ^ min i j) (Nat.two_pow_pos _), sgn_mul, sgn_mul, h1, h2]

theorem sw_eq : Ieee.double.signWeight = half := by decide +kernel
theorem bin_eq : Ieee.double.binade = bin := by decide +kernel
theorem top_eq : Ieee.double.infRung = top := by decide +kernel

/-- Whether a word's sign bit is set. -/
def negB (b : Nat) : Bool := !decide (b < half)

theorem neg_eq (b : Nat) (hb : b < whole) : (b / half % 2 == 1) = negB b := by
  have e := whole_half
  have p := half_pos
  unfold negB
  by_cases h : b < half
  · rw [Nat.div_eq_of_lt h]; simp [h]
  · have : b / half = 1 := by
      apply Nat.div_eq_of_lt_le
      · omega
      · omega
    rw [this]; simp [h]

theorem read_eq (b : Nat) (hb : b < whole) : FloatKind.f64.format.read b =
    if low b < bin then .number (negB b) (low b) Ieee.double.leastPlace
    else if low b < top then .number (negB b) (bin + low b % bin) (Ieee.double.leastPlace + (low b / bin - 1 : Nat))
    else if low b = top then .infinity (negB b)
    else .nan (negB b) (low b - top) := by
  show Ieee.Format.read Ieee.double b = _
  unfold Ieee.Format.read
  rw [sw_eq, bin_eq, top_eq]
  show (if low b < bin then Ieee.Datum.number (b / half % 2 == 1) (low b) Ieee.double.leastPlace else
    if low b < top then Ieee.Datum.number (b / half % 2 == 1) (bin + low b % bin) (Ieee.double.leastPlace + (low b / bin - 1 : Nat)) else
    if low b = top then Ieee.Datum.infinity (b / half % 2 == 1) else Ieee.Datum.nan (b / half % 2 == 1) (low b - top)) = _
  rw [neg_eq b hb]

/-- A word that is neither a NaN nor an infinity. -/
theorem read_number (b : Nat) (hb : b < whole) (h : low b < top) :
    ∃ m i : Nat, m * 2 ^ i = mag (low b) ∧ FloatKind.f64.format.read b = .number (negB b) m (Ieee.double.leastPlace + (i : Int)) := by
  rw [read_eq b hb]
  by_cases h1 : low b < bin
  · rw [if_pos h1]
    exact ⟨low b, 0, by unfold mag; rw [if_pos h1]; simp, by simp⟩
  · rw [if_neg h1, if_pos h]
    exact ⟨bin + low b % bin, low b / bin - 1, by unfold mag; rw [if_neg h1], rfl⟩

theorem read_inf (b : Nat) (hb : b < whole) (h : low b = top) : FloatKind.f64.format.read b = .infinity (negB b) := by
  rw [read_eq b hb, if_neg (by rw [h]; simp [bin, top]), if_neg (by omega), if_pos h]

theorem read_nan (b : Nat) (hb : b < whole) (h : top < low b) : FloatKind.f64.format.read b = .nan (negB b) (low b - top) := by
  have : bin < top := by simp [bin, top]
  rw [read_eq b hb, if_neg (by omega), if_neg (by omega), if_neg (by omega)]

/-- A word's number by its sign and its rung. -/
theorem num_sgn (b : Nat) (hb : b < whole) : num b = sgn (negB b) (mag (low b)) := by
  have e := whole_half
  unfold num sgn negB
  by_cases h : b < half
  · rw [if_pos h, show low b = b from Nat.mod_eq_of_lt h]; simp [h]
  · have : low b = b - half := by
      unfold low; rw [Nat.mod_eq_sub_mod (by omega), Nat.mod_eq_of_lt (by omega)]
    rw [if_neg h, this]; simp [h]

theorem cmp_of_lt {x y : Int} (h : x < y) : compare x y = .lt := by rw [cmp_int]; exact if_pos h
theorem cmp_of_gt {x y : Int} (h : y < x) : compare x y = .gt := by rw [cmp_int, if_neg (by omega), if_neg (by omega)]
theorem cmp_of_eq (x : Int) : compare x x = .eq := by rw [cmp_int, if_neg (by omega), if_pos rfl]

theorem sgn_lt (s t : Bool) {m n : Nat} (h : m < n) : compare (sgn s m) (sgn t n) = if t then .gt else .lt := by
  cases s <;> cases t
  · exact cmp_of_lt (show (m : Int) < n by omega)
  · exact cmp_of_gt (show - (n : Int) < m by omega)
  · exact cmp_of_lt (show - (m : Int) < n by omega)
  · exact cmp_of_gt (show - (n : Int) < - (m : Int) by omega)

theorem sgn_gt (s t : Bool) {m n : Nat} (h : n < m) : compare (sgn s m) (sgn t n) = if s then .lt else .gt := by
  cases s <;> cases t
  · exact cmp_of_gt (show (n : Int) < m by omega)
  · exact cmp_of_gt (show - (n : Int) < m by omega)
  · exact cmp_of_lt (show - (m : Int) < n by omega)
  · exact cmp_of_lt (show - (m : Int) < - (n : Int) by omega)

theorem order_num (a b : Nat) (ha : a < whole) (hb : b < whole) (h1 : low a ≤ top) (h2 : low b ≤ top) :
    FloatKind.f64.format.order a b = some (compare (num a) (num b)) := by
  show Ieee.Datum.order (FloatKind.f64.format.read a) (FloatKind.f64.format.read b) = _
  rw [num_sgn a ha, num_sgn b hb]
  by_cases e1 : low a < top
  · obtain ⟨m, i, hm, hr⟩ := read_number a ha e1
    rw [hr]
    by_cases e2 : low b < top
    · obtain ⟨n, j, hn, hr2⟩ := read_number b hb e2
      rw [hr2, order_number, hm, hn]
    · have e2' : low b = top := by omega
      rw [read_inf b hb e2', sgn_lt _ _ (mag_lt (show low a < low b by omega))]
      rfl
  · have e1' : low a = top := by omega
    rw [read_inf a ha e1']
    by_cases e2 : low b < top
    · obtain ⟨n, j, hn, hr2⟩ := read_number b hb e2
      rw [hr2, sgn_gt _ _ (mag_lt (show low b < low a by omega))]
      rfl
    · have e2' : low b = top := by omega
      rw [read_inf b hb e2', e1', e2']
      have hp : 0 < mag top := by have := mag_lt (show 0 < top by simp [top]); omega
      show some (compare (negB b).toNat (negB a).toNat) = _
      congr 1
      cases negB a <;> cases negB b
      · exact (cmp_of_eq _).symm
      · exact (cmp_of_gt (show - (mag top : Int) < mag top by omega)).symm
      · exact (cmp_of_lt (show - (mag top : Int) < mag top by omega)).symm
      · exact (cmp_of_eq _).symm

theorem order_none (a b : Nat) (ha : a < whole) (h : top < low a) : FloatKind.f64.format.order a b = none := by
  show Ieee.Datum.order (FloatKind.f64.format.read a) (FloatKind.f64.format.read b) = _
  rw [read_nan a ha h]
  rfl

theorem order_none' (a b : Nat) (hb : b < whole) (h : top < low b) : FloatKind.f64.format.order a b = none := by
  show Ieee.Datum.order (FloatKind.f64.format.read a) (FloatKind.f64.format.read b) = _
  rw [read_nan b hb h]
  cases FloatKind.f64.format.read a <;> rfl

/-- The number rises with the place. -/
theorem num_lt_ord (a b : Nat) (ha : a < whole) (hb : b < whole) (h : num a < num b) : ordN a < ordN b := by
  have e := whole_half
  unfold num at h
  unfold ordN
  by_cases x : a < half
  · rw [if_pos x] at h
    by_cases y : b < half
    · rw [if_pos y] at h
      have := (mag_lt_iff a b).1 (by omega)
      rw [if_pos x, if_pos y]; omega
    · rw [if_neg y] at h; omega
  · rw [if_neg x] at h
    by_cases y : b < half
    · rw [if_neg x, if_pos y]; omega
    · rw [if_neg y] at h
      have := (mag_lt_iff (b - half) (a - half)).1 (by omega)
      rw [if_neg x, if_neg y]; omega

end Go.Proofs.Ytoaafkcpakigiaa

/-
  What float64(n) and float64(n)/2 are, for a whole number n of at most 2^31 in size: words whose numbers are n and n/2 just so.
-/
import Derived.Test.YtfabhfllobjbkabFloatOrd
import Derived.Laws.FloatArith
namespace Go.Proofs.Ytfabhfllobjbkab

theorem least_eq : Ieee.double.leastPlace = -1074 := by decide +kernel
theorem frac_eq : Ieee.double.fractionBits = 52 := rfl
theorem bin_pow : bin = 2 ^ 52 := by simp [bin]

theorem cut_exact (neg : Bool) (k d : Nat) (hk : 0 < k) : Ieee.Toward.even.cut neg (k * 2 ^ d) d = k := by
  have hp := Nat.two_pow_pos d
  have hl : d ≤ (k * 2 ^ d).log2 := by
    have hne : k * 2 ^ d ≠ 0 := Nat.mul_ne_zero (by omega) (by omega)
    exact (Nat.le_log2 hne).2 (Nat.le_mul_of_pos_left _ hk)
  have hg : (1 : Nat) <<< min d ((k * 2 ^ d).log2 + 2) = 2 ^ d := by
    rw [Nat.min_eq_left (by omega), Nat.shiftLeft_eq, Nat.one_mul]
  unfold Ieee.Toward.cut
  simp only [hg]
  rw [Nat.mul_div_cancel _ hp, Nat.mul_mod_left]
  have h0 : (2 ^ d == 2 * 0) = false := beq_eq_false_iff_ne.2 (by omega)
  simp

theorem nearest_exact (neg : Bool) (k d : Nat) (p : Int) (hk : bin ≤ k) (hk2 : k < 2 * bin) (hp : -1074 ≤ p + d)
    (ht : (p + d + 1074).toNat * bin + k ≤ top) :
    Ieee.double.nearest neg (k * 2 ^ d) p = Ieee.double.word neg ((p + d + 1074).toNat * bin + k) := by
  have hb := bin_pos
  have h2 := Nat.two_pow_pos d
  have hne : k * 2 ^ d ≠ 0 := Nat.mul_ne_zero (by omega) (by omega)
  have hl : (k * 2 ^ d).log2 = 52 + d := by
    rw [Nat.log2_eq_iff hne, bin_pow] at *
    constructor
    · rw [Nat.pow_add]; exact Nat.mul_le_mul_right _ hk
    · rw [show 52 + d + 1 = (52 + 1) + d from by omega, Nat.pow_add]
      exact Nat.mul_lt_mul_of_pos_right (by rw [Nat.pow_succ]; omega) h2
  unfold Ieee.Format.nearest
  rw [if_neg hne]
  simp only [hl, least_eq, frac_eq, bin_eq, top_eq]
  have e1 : max (p + ((52 + d : Nat) : Int) - ((52 : Nat) : Int)) (-1074) = p + d := by
    rw [Int.max_eq_left (by omega)]; omega
  rw [e1]
  have e2 : (p - (p + (d : Int))).toNat = 0 := by omega
  have e3 : (p + (d : Int) - p).toNat = d := by omega
  have e4 : (p + (d : Int) - -1074).toNat = (p + d + 1074).toNat := by omega
  rw [e2, e3, e4, Nat.shiftLeft_zero, cut_exact neg k d (by omega), Nat.min_eq_left ht]

theorem nearest_small (neg : Bool) (m L : Nat) (p : Int) (hm : m ≠ 0) (hL : m.log2 = L) (h52 : L ≤ 52) (hp : -1074 ≤ p + L - 52)
    (ht : (p + L - 52 + 1074).toNat * bin + m * 2 ^ (52 - L) ≤ top) :
    Ieee.double.nearest neg m p = Ieee.double.word neg ((p + L - 52 + 1074).toNat * bin + m * 2 ^ (52 - L)) := by
  unfold Ieee.Format.nearest
  rw [if_neg hm]
  simp only [hL, least_eq, frac_eq, bin_eq, top_eq]
  have e1 : max (p + (L : Int) - ((52 : Nat) : Int)) (-1074) = p + L - 52 := by
    rw [Int.max_eq_left (by omega)]; omega
  rw [e1]
  have e2 : (p - (p + (L : Int) - 52)).toNat = 52 - L := by omega
  have e3 : (p + (L : Int) - 52 - p).toNat = 0 := by omega
  have e4 : (p + (L : Int) - 52 - -1074).toNat = (p + L - 52 + 1074).toNat := by omega
  have hpos : 0 < m * 2 ^ (52 - L) := Nat.mul_pos (by omega) (Nat.two_pow_pos _)
  have hc := cut_exact neg (m * 2 ^ (52 - L)) 0 hpos
  rw [Nat.pow_zero, Nat.mul_one] at hc
  rw [e2, e3, e4, Nat.shiftLeft_eq, hc, Nat.min_eq_left ht]

theorem rung_div (e k : Nat) (hk : bin ≤ k) (hk2 : k < 2 * bin) : (e * bin + k) / bin = e + 1 ∧ (e * bin + k) % bin = k - bin := by
  have hb := bin_pos
  obtain ⟨c, rfl⟩ : ∃ c, k = bin + c := ⟨k - bin, by omega⟩
  have e0 : e * bin + (bin + c) = bin * (e + 1) + c := by rw [Nat.mul_add, Nat.mul_comm]; omega
  rw [e0, Nat.mul_add_div hb, Nat.div_eq_of_lt (by omega), Nat.mul_add_mod, Nat.mod_eq_of_lt (by omega)]
  omega

theorem mag_rung (e k : Nat) (hk : bin ≤ k) (hk2 : k < 2 * bin) : mag (e * bin + k) = k * 2 ^ e := by
  obtain ⟨h1, h2⟩ := rung_div e k hk hk2
  have hb := bin_pos
  unfold mag
  rw [if_neg (by have := Nat.zero_le (e * bin); omega), h1, h2, Nat.add_sub_cancel, show bin + (k - bin) = k from by omega]

theorem word_eq (neg : Bool) (r : Nat) : Ieee.double.word neg r = if neg then half + r else r := by
  unfold Ieee.Format.word; rw [sw_eq]

theorem top_half : top < half := by simp [top, half]

theorem word_facts (neg : Bool) (r : Nat) (hr : r ≤ top) :
    Ieee.double.word neg r < whole ∧ low (Ieee.double.word neg r) = r ∧ negB (Ieee.double.word neg r) = neg ∧ num (Ieee.double.word neg r) = sgn neg (mag r) := by
  have e := whole_half
  have th := top_half
  rw [word_eq]
  cases neg
  · have hlt : r < half := by omega
    refine ⟨by simp; omega, by simp; exact Nat.mod_eq_of_lt hlt, by simp [negB, hlt], ?_⟩
    show num r = (mag r : Int)
    unfold num; rw [if_pos hlt]
  · have hge : ¬ half + r < half := by omega
    refine ⟨by simp; omega, ?_, by simp [negB], ?_⟩
    · show low (half + r) = r
      unfold low; rw [Nat.add_mod_left, Nat.mod_eq_of_lt (by omega)]
    · show num (half + r) = - (mag r : Int)
      unfold num; rw [if_neg hge, Nat.add_sub_cancel_left]

/-- A whole number's size as a word's rung. -/
theorem int_rung (m : Nat) (hm : m ≠ 0) (h : m ≤ 2147483648) :
    ∃ L k : Nat, m.log2 = L ∧ L ≤ 31 ∧ bin ≤ k ∧ k < 2 * bin ∧ k * 2 ^ L = m * 2 ^ 52 ∧ k = m * 2 ^ (52 - L) := by
  have hL : m.log2 ≤ 31 := by
    have : m < 2 ^ 32 := by omega
    have := (Nat.log2_lt hm).2 this
    omega
  have h1 := Nat.log2_self_le hm
  have h2 := Nat.lt_log2_self (n := m)
  refine ⟨m.log2, m * 2 ^ (52 - m.log2), rfl, hL, ?_, ?_, ?_, rfl⟩
  · rw [bin_pow, show (2 : Nat) ^ 52 = 2 ^ m.log2 * 2 ^ (52 - m.log2) from by rw [← Nat.pow_add]; congr 1; omega]
    exact Nat.mul_le_mul_right _ h1
  · rw [bin_pow, show 2 * (2 : Nat) ^ 52 = 2 ^ (m.log2 + 1) * 2 ^ (52 - m.log2) from by
      rw [← Nat.pow_add, show m.log2 + 1 + (52 - m.log2) = 52 + 1 from by omega, Nat.pow_succ, Nat.mul_comm]]
    exact Nat.mul_lt_mul_of_pos_right h2 (Nat.two_pow_pos _)
  · rw [Nat.mul_assoc, ← Nat.pow_add]; congr 2; omega

theorem rung_le (e k : Nat) (he : e ≤ 1060) (hk2 : k < 2 * bin) : e * bin + k ≤ top := by
  have : e * bin ≤ 1060 * bin := Nat.mul_le_mul_right _ he
  have : top = 2047 * bin := by simp [top, bin]
  omega

theorem div_zero_two : Ieee.double.div 0 4611686018427387904 = some 0 := by decide +kernel
theorem read_two : Ieee.double.read 4611686018427387904 = .number false 4503599627370496 (-51) := by decide +kernel

theorem of_int_zero : floatOfInt .f64 0 = 0 := by decide +kernel

theorem sgn_int (n : Int) (c : Nat) : sgn (decide (n < 0)) (n.natAbs * c) = n * (c : Int) := by
  unfold sgn
  by_cases h : n < 0
  · rw [if_pos (decide_eq_true h), Int.natCast_mul, ← Int.neg_mul]
    congr 1; omega
  · rw [if_neg (by simp [h]), Int.natCast_mul]
    congr 1; omega

/-- So many least units. -/
def unit (e : Nat) : Nat := 2 ^ (52 + e)
theorem unit_pos (e : Nat) : 0 < unit e := Nat.two_pow_pos _

theorem pow_shift (k L m c : Nat) (h : k * 2 ^ L = m * 2 ^ 52) : k * 2 ^ (L + c) = m * unit c := by
  unfold unit
  rw [Nat.pow_add, ← Nat.mul_assoc, h, Nat.mul_assoc, ← Nat.pow_add]

/-- float64(n) is n, and float64(n)/2 is its half. -/
theorem int_float (n : Int) (h : n.natAbs ≤ 2147483648) :
    floatOfInt .f64 n < whole ∧ num (floatOfInt .f64 n) = n * ((unit 1022 : Nat) : Int) ∧
    ∃ v, Ieee.double.div (floatOfInt .f64 n) 4611686018427387904 = some v ∧ v < whole ∧ num v = n * ((unit 1021 : Nat) : Int) := by
  by_cases hz : n = 0
  · subst hz
    rw [of_int_zero]
    have z : num 0 = 0 := by unfold num; rw [if_pos half_pos, mag_zero]; rfl
    exact ⟨by simp [whole], by rw [z, Int.zero_mul], 0, div_zero_two, by simp [whole], by rw [z, Int.zero_mul]⟩
  · have hm : n.natAbs ≠ 0 := by omega
    obtain ⟨L, k, hL, hL31, hk, hk2, hkm, hke⟩ := int_rung n.natAbs hm h
    have hb := bin_pos
    have e1 : ((0 : Int) + (L : Int) - 52 + 1074).toNat = L + 1022 := by omega
    have hr := rung_le (L + 1022) k (by omega) hk2
    have hw : floatOfInt .f64 n = Ieee.double.word (decide (n < 0)) ((L + 1022) * bin + k) := by
      have hn := nearest_small (decide (n < 0)) n.natAbs L 0 hm hL (by omega) (by omega) (by rw [e1, ← hke]; exact hr)
      rw [e1, ← hke] at hn
      exact hn
    obtain ⟨f1, f2, f3, f4⟩ := word_facts (decide (n < 0)) ((L + 1022) * bin + k) hr
    have hmg := mag_rung (L + 1022) k hk hk2
    have p1 : k * 2 ^ (L + 1022) = n.natAbs * unit 1022 := pow_shift k L n.natAbs 1022 hkm
    have hr2 := rung_le (L + 1021) k (by omega) hk2
    obtain ⟨g1, g2, g3, g4⟩ := word_facts (decide (n < 0)) ((L + 1021) * bin + k) hr2
    have hmg2 := mag_rung (L + 1021) k hk hk2
    have p2 : k * 2 ^ (L + 1021) = n.natAbs * unit 1021 := pow_shift k L n.natAbs 1021 hkm
    rw [hw]
    refine ⟨f1, by rw [f4, hmg, p1, sgn_int], Ieee.double.word (decide (n < 0)) ((L + 1021) * bin + k), ?_, g1, by rw [g4, hmg2, p2, sgn_int]⟩
    have htop : (L + 1022) * bin + k < top := by
      have := rung_le (L + 1023) k (by omega) hk2
      have e : (L + 1023) * bin = (L + 1022) * bin + bin := by rw [show L + 1023 = (L + 1022) + 1 from rfl, Nat.succ_mul]
      omega
    have hrd : Ieee.double.read (Ieee.double.word (decide (n < 0)) ((L + 1022) * bin + k)) = .number (decide (n < 0)) k ((L : Int) - 52) := by
      have hre := read_eq _ f1
      obtain ⟨d1, d2⟩ := rung_div (L + 1022) k hk hk2
      rw [f2, f3, if_neg (by have := Nat.zero_le ((L + 1022) * bin); omega), if_pos htop, d1, d2, least_eq] at hre
      rw [show Ieee.double.read (Ieee.double.word (decide (n < 0)) ((L + 1022) * bin + k)) = FloatKind.f64.format.read (Ieee.double.word (decide (n < 0)) ((L + 1022) * bin + k)) from rfl, hre]
      rw [show bin + (k - bin) = k from by omega, show (-1074 : Int) + ((L + 1022 + 1 - 1 : Nat) : Int) = (L : Int) - 52 from by omega]
    have hlk : k.log2 = 52 := by
      rw [Nat.log2_eq_iff (by omega)]
      rw [bin_pow] at hk hk2
      exact ⟨hk, by rw [Nat.pow_succ]; omega⟩
    have hlb : (4503599627370496 : Nat).log2 = 52 := by decide +kernel
    unfold Ieee.Format.div
    rw [hrd, read_two, frac_eq]
    have hq : Ieee.Datum.quotient (52 + 2) (.number (decide (n < 0)) k ((L : Int) - 52)) (.number false 4503599627370496 (-51)) = some (.number (decide (n < 0)) (k * 2 ^ 3) ((L : Int) - 56)) := by
      unfold Ieee.Datum.quotient
      dsimp only
      rw [if_neg (by decide)]
      simp only [hlk, hlb]
      rw [Nat.shiftLeft_eq, show (2 : Nat) ^ (52 + 2 + 52 - 52) = 4503599627370496 * 4 from by decide, ← Nat.mul_assoc, Nat.mul_right_comm, Nat.mul_div_cancel _ (by decide), Nat.mul_mod_left]
      rw [Bool.xor_false]
      have q1 : 2 * (k * 4) + ((0 : Nat) != 0).toNat = k * 2 ^ 3 := by
        show 2 * (k * 4) + 0 = k * 8
        omega
      have q2 : (L : Int) - 52 - -51 - ((52 + 2 + 52 - 52 : Nat) : Int) - 1 = (L : Int) - 56 := by omega
      rw [q1, q2]
    rw [hq]
    show some (Ieee.double.nearest (decide (n < 0)) (k * 2 ^ 3) ((L : Int) - 56)) = _
    have e5 : ((L : Int) - 56 + ((3 : Nat) : Int) + 1074).toNat = L + 1021 := by omega
    rw [nearest_exact (decide (n < 0)) k 3 ((L : Int) - 56) hk hk2 (by omega) (by rw [e5]; exact hr2), e5]

/-- What the two come to under Compare. -/
theorem cmp_of_num {a b : Nat} (ha : a < whole) (hb : b < whole) (m n : Int) (c : Nat) (hc : 0 < c) (h1 : num a = m * (c : Int)) (h2 : num b = n * (c : Int)) (h : m < n) : cmpN a b = -1 := by
  refine if_pos (num_lt_ord a b ha hb ?_)
  rw [h1, h2]
  exact Int.mul_lt_mul_of_pos_right h (by omega)

end Go.Proofs.Ytfabhfllobjbkab

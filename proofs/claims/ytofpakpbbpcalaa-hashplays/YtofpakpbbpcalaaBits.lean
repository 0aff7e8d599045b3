/-
  Plain facts on the bits of 64-bit words, as the walks of package bits write them; no program is named here.
-/
import Derived.Laws.Entries
import Derived.Laws.Bits64
import Derived.Laws.BitsAllLaws
namespace Go.Proofs.Ytofpakpbbpcalaa

/-- The half of all words: the sign bit's weight. -/
def half : Nat := 9223372036854775808
/-- All words are below it. -/
def whole : Nat := 18446744073709551616

theorem whole_half : whole = half + half := by simp [whole, half]
theorem half_pos : 0 < half := by simp [half]

/-- A float's place by its bits. -/
def ordN (b : Nat) : Nat := if b < half then b + half else whole - 1 - b
/-- The bits at a place. -/
def ofN (n : Nat) : Nat := if n < half then whole - 1 - n else n - half

theorem ordN_lt {b : Nat} (hb : b < whole) : ordN b < whole := by
  have := whole_half
  unfold ordN; split <;> omega
theorem ofN_lt {n : Nat} (hn : n < whole) : ofN n < whole := by
  have := whole_half
  unfold ofN; split <;> omega
theorem ofN_ordN {b : Nat} (hb : b < whole) : ofN (ordN b) = b := by
  have := whole_half
  unfold ordN; split
  · unfold ofN; split <;> omega
  · unfold ofN; split <;> omega
theorem ordN_ofN {n : Nat} (hn : n < whole) : ordN (ofN n) = n := by
  have := whole_half
  unfold ofN; split
  · unfold ordN; split <;> omega
  · unfold ordN; split <;> omega
theorem ordN_inj {a b : Nat} (ha : a < whole) (hb : b < whole) (h : ordN a = ordN b) : a = b := by
  rw [← ofN_ordN ha, h, ofN_ordN hb]

/-- A word without its sign bit. -/
def low (b : Nat) : Nat := b % half

/-- A word with its sign bit turned. -/
def flip (b : Nat) : Nat := (b + half) % whole

/-- What Compare answers. -/
def cmpN (a b : Nat) : Int := if ordN a < ordN b then -1 else if ordN b < ordN a then 1 else 0

/-- What Class answers. -/
def classN (b : Nat) : Int :=
  if 9218868437227405312 < low b then 1 else if low b = 9218868437227405312 then 2 else if low b = 0 then 3 else if low b < 4503599627370496 then 4 else 5

theorem u64_max : IntKind.u64.max = ((whole - 1 : Nat) : Int) := by simp [IntKind.max, IntKind.bits, IntKind.signed, whole]

theorem and_half (b : Nat) (hb : b < whole) : bits .and .u64 (b : Int) 9223372036854775808 = if b < half then 0 else (half : Int) := by
  have h := u64_and_nat b 9223372036854775808 hb (by decide)
  have e : ((9223372036854775808 : Nat) : Int) = 9223372036854775808 := rfl
  rw [e] at h
  rw [h]
  have hh : b &&& 9223372036854775808 = b / 9223372036854775808 % 2 * 9223372036854775808 := nat_bit 63 b
  rw [hh]
  simp only [whole] at hb
  by_cases hlt : b < half
  · rw [if_pos hlt]; simp only [half] at hlt; omega
  · rw [if_neg hlt]; simp only [half] at hlt ⊢; omega

theorem or_half (b : Nat) (hb : b < half) : bits .or .u64 (b : Int) 9223372036854775808 = ((b + half : Nat) : Int) := by
  have h := u64_or_nat b 9223372036854775808 (by simp only [half] at hb; omega) (by decide)
  have e : ((9223372036854775808 : Nat) : Int) = 9223372036854775808 := rfl
  rw [e] at h
  rw [h, Nat.or_comm, nat_join 63 9223372036854775808 b (by decide) hb]
  simp only [half]; omega

theorem xor_max (b : Nat) (hb : b < whole) : bits .xor .u64 IntKind.u64.max (b : Int) = ((whole - 1 - b : Nat) : Int) := by
  rw [u64_max]
  have h := u64_xor_nat (whole - 1) b (by simp [whole]) hb
  rw [h]
  congr 1
  have h2 : (BitVec.allOnes 64 ^^^ BitVec.ofNat 64 b).toNat = (~~~ (BitVec.ofNat 64 b)).toNat := by
    rw [BitVec.allOnes_xor]
  rw [BitVec.toNat_xor, BitVec.toNat_not, BitVec.toNat_allOnes, BitVec.toNat_ofNat, Nat.mod_eq_of_lt (by simpa [whole] using hb)] at h2
  simpa [whole] using h2

theorem andNot_half (b : Nat) (hb : b < whole) : bits .andNot .u64 (b : Int) 9223372036854775808 = ((low b : Nat) : Int) := by
  have h := u64_andNot_nat b 9223372036854775808 hb (by decide)
  have e : ((9223372036854775808 : Nat) : Int) = 9223372036854775808 := rfl
  rw [e] at h
  rw [h]
  congr 1
  exact Nat.and_two_pow_sub_one_eq_mod b 63

theorem nat_xor_low (c : Nat) (hc : c < 2 ^ 63) : c ^^^ 2 ^ 63 = 2 ^ 63 + c := by
  rw [← nat_join 63 (2 ^ 63) c (by decide) hc]
  apply Nat.eq_of_testBit_eq
  intro i
  rw [Nat.testBit_xor, Nat.testBit_or, Nat.testBit_two_pow]
  by_cases hi : 63 = i
  · subst hi; simp [Nat.testBit_lt_two_pow hc]
  · simp [hi]

theorem nat_xor_high (c : Nat) (hc : c < 2 ^ 63) : (2 ^ 63 + c) ^^^ 2 ^ 63 = c := by
  rw [← nat_xor_low c hc, Nat.xor_assoc, Nat.xor_self, Nat.xor_zero]

theorem half_eq : half = 2 ^ 63 := by simp [half]

theorem nat_xor_half (b : Nat) (hb : b < whole) : b ^^^ half = (b + half) % whole := by
  have e := whole_half
  by_cases hlt : b < half
  · have h := nat_xor_low b (by rw [← half_eq]; exact hlt)
    rw [← half_eq] at h
    rw [h, Nat.mod_eq_of_lt (by omega)]; omega
  · obtain ⟨c, rfl⟩ : ∃ c, b = half + c := ⟨b - half, by omega⟩
    have h := nat_xor_high c (by rw [← half_eq]; omega)
    rw [← half_eq] at h
    rw [h, show half + c + half = c + whole from by omega, Nat.add_mod_right, Nat.mod_eq_of_lt (by omega)]

theorem xor_half (b : Nat) (hb : b < whole) : bits .xor .u64 (b : Int) 9223372036854775808 = ((flip b : Nat) : Int) := by
  have h := u64_xor_nat b 9223372036854775808 hb (by decide)
  have e : ((9223372036854775808 : Nat) : Int) = 9223372036854775808 := rfl
  rw [e] at h
  rw [h]
  exact congrArg Int.ofNat (nat_xor_half b hb)

theorem flip_lt (b : Nat) : flip b < whole := Nat.mod_lt _ (by simp [whole])
theorem flip_low {b : Nat} (h : b < half) : flip b = b + half := by
  have e := whole_half
  unfold flip; exact Nat.mod_eq_of_lt (by omega)
theorem flip_high {b : Nat} (hb : b < whole) (h : ¬ b < half) : flip b = b - half := by
  have e := whole_half
  unfold flip; rw [show b + half = (b - half) + whole from by omega, Nat.add_mod_right, Nat.mod_eq_of_lt (by omega)]
theorem ordN_flip {b : Nat} (hb : b < whole) : ordN (flip b) = whole - 1 - ordN b := by
  have e := whole_half
  by_cases h : b < half
  · rw [flip_low h]; unfold ordN; rw [if_neg (by omega), if_pos h]
  · rw [flip_high hb h]; unfold ordN; rw [if_pos (by omega), if_neg h]; omega
theorem low_flip {b : Nat} (hb : b < whole) : low (flip b) = low b := by
  have e := whole_half
  unfold low
  by_cases h : b < half
  · rw [flip_low h, Nat.add_mod_right]
  · rw [flip_high hb h, Nat.mod_eq_sub_mod (a := b) (by omega)]
theorem classN_flip {b : Nat} (hb : b < whole) : classN (flip b) = classN b := by unfold classN; rw [low_flip hb]
theorem cmpN_flip {a b : Nat} (ha : a < whole) (hb : b < whole) : cmpN (flip a) (flip b) = - cmpN a b := by
  have h1 := ordN_lt ha
  have h2 := ordN_lt hb
  unfold cmpN
  rw [ordN_flip ha, ordN_flip hb]
  by_cases x : ordN a < ordN b
  · rw [if_pos x, if_neg (by omega), if_pos (by omega)]
    rfl
  · by_cases y : ordN b < ordN a
    · rw [if_neg x, if_pos y, if_pos (by omega)]
    · rw [if_neg x, if_neg y, if_neg (by omega), if_neg (by omega)]; rfl
theorem cmpN_cases (a b : Nat) : cmpN a b = -1 ∨ cmpN a b = 0 ∨ cmpN a b = 1 := by
  unfold cmpN; split
  · exact Or.inl rfl
  · split
    · exact Or.inr (Or.inr rfl)
    · exact Or.inr (Or.inl rfl)
theorem cmpN_swap (a b : Nat) : cmpN b a = - cmpN a b := by
  unfold cmpN
  by_cases x : ordN a < ordN b
  · rw [if_pos x, if_neg (by omega), if_pos (by omega)]; rfl
  · by_cases y : ordN b < ordN a
    · rw [if_pos y, if_neg x, if_pos y]
    · rw [if_neg y, if_neg x, if_neg x, if_neg y]; rfl
theorem cmpN_zero {a b : Nat} (ha : a < whole) (hb : b < whole) : cmpN a b = 0 ↔ a = b := by
  constructor
  · intro h
    unfold cmpN at h
    by_cases x : ordN a < ordN b
    · rw [if_pos x] at h; omega
    · by_cases y : ordN b < ordN a
      · rw [if_neg x, if_pos y] at h; omega
      · exact ordN_inj ha hb (by omega)
  · rintro rfl
    unfold cmpN
    rw [if_neg (Nat.lt_irrefl _)]
    rw [if_neg (Nat.lt_irrefl _)]

end Go.Proofs.Ytofpakpbbpcalaa

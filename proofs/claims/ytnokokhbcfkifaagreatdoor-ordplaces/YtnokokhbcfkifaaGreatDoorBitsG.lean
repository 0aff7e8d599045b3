/-
  Plain facts on the bits of 64-bit words, as the walks of package bits write them; no program is named here.
  What each function of package bits answers, for every float and every word, as the program's own text runs: contracts, from the leaves up.
  What each function of the document's own floats (package rialtoref1) answers, for every float and every word, as its text runs: the same functions of the bits as package bits.
  What the library's and the program's comparisons of whole numbers, strings and values answer, for every argument, as their text runs: contracts, from the leaves up.
-/
import Derived.Laws.Entries
import Derived.Laws.Bits64
import Derived.Laws.BitsAllLaws
import Derived.Test.YtnokokhbcfkifaaGreatDoorRows
import Derived.WalkKit
import Derived.WalkLawsBesides
import Derived.ProofKit
import Derived.OpenShut
import Derived.Deep.RegionHeld3
import Derived.Deep.DrawnRows
import Derived.Lib.Bytealg
namespace Go.Proofs.YtnokokhbcfkifaaGreatDoor

/-- The half of all words: the sign bit's weight. -/
def half : Nat := 9223372036854775808
/-- All words are below it. -/
def whole : Nat := 18446744073709551616

theorem whole_half : whole = half + half := by simp [whole, half]
theorem half_pos : 0 < half := by simp [half]

/-- A float's place by its bits. -/
def ordN (b : Nat) : Nat := if b < half then b + half else whole - 1 - b
/-- The bits at a place. -/
def ofN (n : Nat) : Nat := if n < half then whole - 1 - n else n - half

theorem ordN_lt {b : Nat} (hb : b < whole) : ordN b < whole := by
  have := whole_half
  unfold ordN; split <;> omega
theorem ofN_lt {n : Nat} (hn : n < whole) : ofN n < whole := by
  have := whole_half
  unfold ofN; split <;> omega
theorem ofN_ordN {b : Nat} (hb : b < whole) : ofN (ordN b) = b := by
  have := whole_half
  unfold ordN; split
  · unfold ofN; split <;> omega
  · unfold ofN; split <;> omega
theorem ordN_ofN {n : Nat} (hn : n < whole) : ordN (ofN n) = n := by
  have := whole_half
  unfold ofN; split
  · unfold ordN; split <;> omega
  · unfold ordN; split <;> omega
theorem ordN_inj {a b : Nat} (ha : a < whole) (hb : b < whole) (h : ordN a = ordN b) : a = b := by
  rw [← ofN_ordN ha, h, ofN_ordN hb]

/-- A word without its sign bit. -/
def low (b : Nat) : Nat := b % half

/-- A word with its sign bit turned. -/
def flip (b : Nat) : Nat := (b + half) % whole

/-- What Compare answers. -/
def cmpN (a b : Nat) : Int := if ordN a < ordN b then -1 else if ordN b < ordN a then 1 else 0

/-- What Class answers. -/
def classN (b : Nat) : Int :=
  if 9218868437227405312 < low b then 1 else if low b = 9218868437227405312 then 2 else if low b = 0 then 3 else if low b < 4503599627370496 then 4 else 5

theorem u64_max : IntKind.u64.max = ((whole - 1 : Nat) : Int) := by simp [IntKind.max, IntKind.bits, IntKind.signed, whole]

theorem and_half (b : Nat) (hb : b < whole) : bits .and .u64 (b : Int) 9223372036854775808 = if b < half then 0 else (half : Int) := by
  have h := u64_and_nat b 9223372036854775808 hb (by decide)
  have e : ((9223372036854775808 : Nat) : Int) = 9223372036854775808 := rfl
  rw [e] at h
  rw [h]
  have hh : b &&& 9223372036854775808 = b / 9223372036854775808 % 2 * 9223372036854775808 := nat_bit 63 b
  rw [hh]
  simp only [whole] at hb
  by_cases hlt : b < half
  · rw [if_pos hlt]; simp only [half] at hlt; omega
  · rw [if_neg hlt]; simp only [half] at hlt ⊢; omega

theorem or_half (b : Nat) (hb : b < half) : bits .or .u64 (b : Int) 9223372036854775808 = ((b + half : Nat) : Int) := by
  have h := u64_or_nat b 9223372036854775808 (by simp only [half] at hb; omega) (by decide)
  have e : ((9223372036854775808 : Nat) : Int) = 9223372036854775808 := rfl
  rw [e] at h
  rw [h, Nat.or_comm, nat_join 63 9223372036854775808 b (by decide) hb]
  simp only [half]; omega

theorem xor_max (b : Nat) (hb : b < whole) : bits .xor .u64 IntKind.u64.max (b : Int) = ((whole - 1 - b : Nat) : Int) := by
  rw [u64_max]
  have h := u64_xor_nat (whole - 1) b (by simp [whole]) hb
  rw [h]
  congr 1
  have h2 : (BitVec.allOnes 64 ^^^ BitVec.ofNat 64 b).toNat = (~~~ (BitVec.ofNat 64 b)).toNat := by
    rw [BitVec.allOnes_xor]
  rw [BitVec.toNat_xor, BitVec.toNat_not, BitVec.toNat_allOnes, BitVec.toNat_ofNat, Nat.mod_eq_of_lt (by simpa [whole] using hb)] at h2
  simpa [whole] using h2

theorem andNot_half (b : Nat) (hb : b < whole) : bits .andNot .u64 (b : Int) 9223372036854775808 = ((low b : Nat) : Int) := by
  have h := u64_andNot_nat b 9223372036854775808 hb (by decide)
  have e : ((9223372036854775808 : Nat) : Int) = 9223372036854775808 := rfl
  rw [e] at h
  rw [h]
  congr 1
  exact Nat.and_two_pow_sub_one_eq_mod b 63

theorem nat_xor_low (c : Nat) (hc : c < 2 ^ 63) : c ^^^ 2 ^ 63 = 2 ^ 63 + c := by
  rw [← nat_join 63 (2 ^ 63) c (by decide) hc]
  apply Nat.eq_of_testBit_eq
  intro i
  rw [Nat.testBit_xor, Nat.testBit_or, Nat.testBit_two_pow]
  by_cases hi : 63 = i
  · subst hi; simp [Nat.testBit_lt_two_pow hc]
  · simp [hi]

theorem nat_xor_high (c : Nat) (hc : c < 2 ^ 63) : (2 ^ 63 + c) ^^^ 2 ^ 63 = c := by
  rw [← nat_xor_low c hc, Nat.xor_assoc, Nat.xor_self, Nat.xor_zero]

theorem half_eq : half = 2 ^ 63 := by simp [half]

theorem nat_xor_half (b : Nat) (hb : b < whole) : b ^^^ half = (b + half) % whole := by
  have e := whole_half
  by_cases hlt : b < half
  · have h := nat_xor_low b (by rw [← half_eq]; exact hlt)
    rw [← half_eq] at h
    rw [h, Nat.mod_eq_of_lt (by omega)]; omega
  · obtain ⟨c, rfl⟩ : ∃ c, b = half + c := ⟨b - half, by omega⟩
    have h := nat_xor_high c (by rw [← half_eq]; omega)
    rw [← half_eq] at h
    rw [h, show half + c + half = c + whole from by omega, Nat.add_mod_right, Nat.mod_eq_of_lt (by omega)]

theorem xor_half (b : Nat) (hb : b < whole) : bits .xor .u64 (b : Int) 9223372036854775808 = ((flip b : Nat) : Int) := by
  have h := u64_xor_nat b 9223372036854775808 hb (by decide)
  have e : ((9223372036854775808 : Nat) : Int) = 9223372036854775808 := rfl
  rw [e] at h
  rw [h]
  exact congrArg Int.ofNat (nat_xor_half b hb)

theorem flip_lt (b : Nat) : flip b < whole := Nat.mod_lt _ (by simp [whole])
theorem flip_low {b : Nat} (h : b < half) : flip b = b + half := by
  have e := whole_half
  unfold flip; exact Nat.mod_eq_of_lt (by omega)
theorem flip_high {b : Nat} (hb : b < whole) (h : ¬ b < half) : flip b = b - half := by
  have e := whole_half
  unfold flip; rw [show b + half = (b - half) + whole from by omega, Nat.add_mod_right, Nat.mod_eq_of_lt (by omega)]
theorem ordN_flip {b : Nat} (hb : b < whole) : ordN (flip b) = whole - 1 - ordN b := by
  have e := whole_half
  by_cases h : b < half
  · rw [flip_low h]; unfold ordN; rw [if_neg (by omega), if_pos h]
  · rw [flip_high hb h]; unfold ordN; rw [if_pos (by omega), if_neg h]; omega
theorem low_flip {b : Nat} (hb : b < whole) : low (flip b) = low b := by
  have e := whole_half
  unfold low
  by_cases h : b < half
  · rw [flip_low h, Nat.add_mod_right]
  · rw [flip_high hb h, Nat.mod_eq_sub_mod (a := b) (by omega)]
theorem classN_flip {b : Nat} (hb : b < whole) : classN (flip b) = classN b := by unfold classN; rw [low_flip hb]
theorem cmpN_flip {a b : Nat} (ha : a < whole) (hb : b < whole) : cmpN (flip a) (flip b) = - cmpN a b := by
  have h1 := ordN_lt ha
  have h2 := ordN_lt hb
  unfold cmpN
  rw [ordN_flip ha, ordN_flip hb]
  by_cases x : ordN a < ordN b
  · rw [if_pos x, if_neg (by omega), if_pos (by omega)]
    rfl
  · by_cases y : ordN b < ordN a
    · rw [if_neg x, if_pos y, if_pos (by omega)]
    · rw [if_neg x, if_neg y, if_neg (by omega), if_neg (by omega)]; rfl
theorem cmpN_cases (a b : Nat) : cmpN a b = -1 ∨ cmpN a b = 0 ∨ cmpN a b = 1 := by
  unfold cmpN; split
  · exact Or.inl rfl
  · split
    · exact Or.inr (Or.inr rfl)
    · exact Or.inr (Or.inl rfl)
theorem cmpN_swap (a b : Nat) : cmpN b a = - cmpN a b := by
  unfold cmpN
  by_cases x : ordN a < ordN b
  · rw [if_pos x, if_neg (by omega), if_pos (by omega)]; rfl
  · by_cases y : ordN b < ordN a
    · rw [if_pos y, if_neg x, if_pos y]
    · rw [if_neg y, if_neg x, if_neg x, if_neg y]; rfl
theorem cmpN_zero {a b : Nat} (ha : a < whole) (hb : b < whole) : cmpN a b = 0 ↔ a = b := by
  constructor
  · intro h
    unfold cmpN at h
    by_cases x : ordN a < ordN b
    · rw [if_pos x] at h; omega
    · by_cases y : ordN b < ordN a
      · rw [if_neg x, if_pos y] at h; omega
      · exact ordN_inj ha hb (by omega)
  · rintro rfl
    unfold cmpN
    rw [if_neg (Nat.lt_irrefl _)]
    rw [if_neg (Nat.lt_irrefl _)]

end Go.Proofs.YtnokokhbcfkifaaGreatDoor

namespace Go.Proofs.YtnokokhbcfkifaaGreatDoor
open Go.ChangeShapes Go.WideShapes Go.ChangeAt Go.RowKit

/-- math.Float64bits. -/
theorem run_bits (b : Nat) (w : World) : (callFunc 92 #[.float .f64 b]).run Tryz.prog w = .ok (.value (.int .u64 b)) w := by
  rw [run_callFunc_extern Tryz.func92 (by kernel_rfl) (by kernel_rfl) (by kernel_rfl) (e := Extern.MathFloatBits.float64bits) (by kernel_rfl)]
  rfl

/-- math.Float64frombits. -/
theorem run_from (b : Nat) (w : World) : (callFunc 91 #[.int .u64 (b : Int)]).run Tryz.prog w = .ok (.value (.float .f64 b)) w := by
  rw [run_callFunc_extern Tryz.func91 (by kernel_rfl) (by kernel_rfl) (by kernel_rfl) (e := Extern.MathFloatBits.float64frombits) (by kernel_rfl)]
  rfl

theorem order_calls (b : Nat) (hb : b < whole) (w : World) :
    Calls Tryz.prog 125 #[.float .f64 b] w fun e w' => e = .returned (.int .u64 (ordN b : Int)) ∧ w' = w := by
  have hrb := run_bits
  have ha := and_half b hb
  by_cases hlt : b < half
  · rw [if_pos hlt] at ha
    have ho := or_half b hlt
    have he : ordN b = b + half := if_pos hlt
    rw [he]
    clear he
    go_enter Tryz.func125, Tryz.ntmps125
    go_wp2
    go_ret
    exact ⟨rfl, rfl⟩
  · rw [if_neg hlt] at ha
    have hx := xor_max b hb
    have he : ordN b = whole - 1 - b := if_neg hlt
    rw [he]
    clear he
    have hz : (((half : Nat) : Int) == 0) = false := by simp [half]
    go_enter Tryz.func125, Tryz.ntmps125
    go_wp2
    go_ret
    exact ⟨rfl, rfl⟩

theorem compare_calls (a b : Nat) (ha : a < whole) (hb : b < whole) (w : World) :
    Calls Tryz.prog 117 #[.float .f64 a, .float .f64 b] w fun e w' => e = .returned (.int .i64 (cmpN a b)) ∧ w' = w := by
  by_cases h1 : ordN a < ordN b
  · rw [show cmpN a b = -1 from if_pos h1]
    go_enter Tryz.func117, Tryz.ntmps117
    go_wp2_with (go_at_call 125; refine (order_calls _ (by with_reducible assumption) _).mono ?_; rintro _ _ ⟨rfl, rfl⟩)
    go_ret
    exact ⟨rfl, rfl⟩
  · by_cases h2 : ordN b < ordN a
    · rw [show cmpN a b = 1 from by unfold cmpN; rw [if_neg h1, if_pos h2]]
      go_enter Tryz.func117, Tryz.ntmps117
      go_wp2_with (go_at_call 125; refine (order_calls _ (by with_reducible assumption) _).mono ?_; rintro _ _ ⟨rfl, rfl⟩)
      go_ret
      exact ⟨rfl, rfl⟩
    · rw [show cmpN a b = 0 from by unfold cmpN; rw [if_neg h1, if_neg h2]]
      go_enter Tryz.func117, Tryz.ntmps117
      go_wp2_with (go_at_call 125; refine (order_calls _ (by with_reducible assumption) _).mono ?_; rintro _ _ ⟨rfl, rfl⟩)
      go_ret
      exact ⟨rfl, rfl⟩

theorem wrap_next (n m : Nat) (h : m = n + 1) (hm : m < whole) : IntKind.u64.wrap ((n : Int) + 1) = (m : Int) := by
  rw [IntKind.wrap_u64]
  simp only [whole] at hm
  omega

/-- math.Float64frombits of whatever whole number. -/
theorem run_from_int (n : Int) (w : World) : (callFunc 91 #[.int .u64 n]).run Tryz.prog w = .ok (.value (.float .f64 n.toNat)) w := by
  rw [run_callFunc_extern Tryz.func91 (by kernel_rfl) (by kernel_rfl) (by kernel_rfl) (e := Extern.MathFloatBits.float64frombits) (by kernel_rfl)]
  rfl


theorem copy_bits : (bits .or .u64 (bits .andNot .u64 0 9223372036854775808) (bits .and .u64 13830554455654793216 9223372036854775808)).toNat = 9223372036854775808 := by decide +kernel

end Go.Proofs.YtnokokhbcfkifaaGreatDoor

namespace Go.Proofs.YtnokokhbcfkifaaGreatDoor
open Go.ChangeShapes Go.WideShapes Go.ChangeAt Go.RowKit

theorem half_shift (b : Nat) (hb : b < whole) : (b : Int) / 9223372036854775808 = if b < half then 0 else 1 := by
  simp only [whole] at hb
  by_cases h : b < half
  · rw [if_pos h]; simp only [half] at h; omega
  · rw [if_neg h]; simp only [half] at h; omega

theorem rorder_calls (b : Nat) (hb : b < whole) (w : World) :
    Calls Tryz.prog 77 #[.float .f64 b] w fun e w' => e = .returned (.int .u64 (ordN b : Int)) ∧ w' = w := by
  have hrb := run_bits
  have hsg : IntKind.u64.signed = false := rfl
  have hs := half_shift b hb
  by_cases hlt : b < half
  · rw [if_pos hlt] at hs
    have ho := or_half b hlt
    have he : ordN b = b + half := if_pos hlt
    rw [he]
    clear he
    go_enter Tryz.func77, Tryz.ntmps77
    go_wp2
    go_ret
    exact ⟨rfl, rfl⟩
  · rw [if_neg hlt] at hs
    have hx := xor_max b hb
    have he : ordN b = whole - 1 - b := if_neg hlt
    rw [he]
    clear he
    go_enter Tryz.func77, Tryz.ntmps77
    go_wp2
    go_ret
    exact ⟨rfl, rfl⟩

theorem rof_calls (n : Nat) (hn : n < whole) (w : World) :
    Calls Tryz.prog 76 #[.int .u64 (n : Int)] w fun e w' => e = .returned (.float .f64 (ofN n)) ∧ w' = w := by
  have hrf := run_from
  have hsg : IntKind.u64.signed = false := rfl
  have hs := half_shift n hn
  by_cases hlt : n < half
  · rw [if_pos hlt] at hs
    have hx := xor_max n hn
    have he : ofN n = whole - 1 - n := if_pos hlt
    rw [he]
    clear he
    go_enter Tryz.func76, Tryz.ntmps76
    go_wp2
    go_ret
    exact ⟨rfl, rfl⟩
  · rw [if_neg hlt] at hs
    have hx := xor_half n hn
    have he : ofN n = flip n := by rw [flip_high hn hlt]; exact if_neg hlt
    rw [he]
    clear he
    go_enter Tryz.func76, Tryz.ntmps76
    go_wp2
    go_ret
    exact ⟨rfl, rfl⟩

theorem rcompare_calls (a b : Nat) (ha : a < whole) (hb : b < whole) (w : World) :
    Calls Tryz.prog 93 #[.float .f64 a, .float .f64 b] w fun e w' => e = .returned (.int .i64 (cmpN a b)) ∧ w' = w := by
  by_cases h1 : ordN a < ordN b
  · rw [show cmpN a b = -1 from if_pos h1]
    go_enter Tryz.func93, Tryz.ntmps93
    go_wp2_with (go_at_call 77; refine (rorder_calls _ (by with_reducible assumption) _).mono ?_; rintro _ _ ⟨rfl, rfl⟩)
    go_ret
    exact ⟨rfl, rfl⟩
  · by_cases h2 : ordN b < ordN a
    · rw [show cmpN a b = 1 from by unfold cmpN; rw [if_neg h1, if_pos h2]]
      go_enter Tryz.func93, Tryz.ntmps93
      go_wp2_with (go_at_call 77; refine (rorder_calls _ (by with_reducible assumption) _).mono ?_; rintro _ _ ⟨rfl, rfl⟩)
      go_ret
      exact ⟨rfl, rfl⟩
    · rw [show cmpN a b = 0 from by unfold cmpN; rw [if_neg h1, if_neg h2]]
      go_enter Tryz.func93, Tryz.ntmps93
      go_wp2_with (go_at_call 77; refine (rorder_calls _ (by with_reducible assumption) _).mono ?_; rintro _ _ ⟨rfl, rfl⟩)
      go_ret
      exact ⟨rfl, rfl⟩

theorem low_twice (b : Nat) : IntKind.u64.wrap ((b : Int) * 2) / 2 = (low b : Int) := by
  rw [IntKind.wrap_u64]
  simp only [low, half]
  omega

theorem low_lt (b : Nat) : low b < half := Nat.mod_lt _ half_pos

theorem classN_one {b : Nat} (h : 9218868437227405312 < low b) : classN b = 1 := if_pos h
theorem classN_two {b : Nat} (h : low b = 9218868437227405312) : classN b = 2 := by
  unfold classN; rw [if_neg (by omega), if_pos h]
theorem classN_three {b : Nat} (h : low b = 0) : classN b = 3 := by
  unfold classN; rw [if_neg (by omega), if_neg (by omega), if_pos h]
theorem classN_four {b : Nat} (h0 : low b ≠ 0) (h : low b < 4503599627370496) : classN b = 4 := by
  unfold classN; rw [if_neg (by omega), if_neg (by omega), if_neg h0, if_pos h]
theorem classN_five {b : Nat} (h : ¬ low b < 4503599627370496) (h' : low b < 9218868437227405312) : classN b = 5 := by
  unfold classN; rw [if_neg (by omega), if_neg (by omega), if_neg (by omega), if_neg h]

theorem way_one {b : Nat} (h : (low b : Int) / 4503599627370496 = 2047) (h2 : (IntKind.u64.wrap ((low b : Int) * 4096) != 0) = true) : 1 = classN b := by
  have l := low_lt b
  rw [IntKind.wrap_u64, bne_iff_ne] at h2
  simp only [half] at l
  exact (classN_one (by omega)).symm
theorem way_two {b : Nat} (h : (low b : Int) / 4503599627370496 = 2047) (h2 : (IntKind.u64.wrap ((low b : Int) * 4096) != 0) = false) : 2 = classN b := by
  have l := low_lt b
  rw [IntKind.wrap_u64, bne_eq_false_iff_eq] at h2
  simp only [half] at l
  exact (classN_two (by omega)).symm
theorem way_three {b : Nat} (h : ((low b : Int) == 0) = true) : 3 = classN b := by
  rw [beq_iff_eq] at h
  exact (classN_three (by omega)).symm
theorem way_four {b : Nat} (h : ((low b : Int) == 0) = false) (h2 : ((low b : Int) / 4503599627370496 == 0) = true) : 4 = classN b := by
  rw [beq_iff_eq] at h2
  rw [beq_eq_false_iff_ne] at h
  exact (classN_four (by omega) (by omega)).symm
theorem way_five {b : Nat} (h : ¬ (low b : Int) / 4503599627370496 = 2047) (h2 : ((low b : Int) / 4503599627370496 == 0) = false) : 5 = classN b := by
  have l := low_lt b
  rw [beq_eq_false_iff_ne] at h2
  simp only [half] at l
  exact (classN_five (by omega) (by omega)).symm

end Go.Proofs.YtnokokhbcfkifaaGreatDoor

namespace Go.Proofs.YtnokokhbcfkifaaGreatDoor
open Go.ChangeShapes Go.WideShapes Go.ChangeAt Go.RowKit
attribute [local go_sem ↓] Go.wp_at_zero Go.wp_at_succ

/-- How two whole numbers stand. -/
def cmpI (x y : Int) : Int := if x < y then -1 else if y < x then 1 else 0
/-- How two strings stand, byte by byte. -/
def cmpS (s t : ByteArray) : Int := Lib.compareBytes s.data.toList t.data.toList
/-- The first that isn't nought. -/
def orI (a b c d : Int) : Int := if a = 0 then if b = 0 then if c = 0 then d else c else b else a

theorem cmpInt_calls (x y : Int) (w : World) :
    Calls Tryz.prog 109 #[.int .i64 x, .int .i64 y] w fun e w' => e = .returned (.int .i64 (cmpI x y)) ∧ w' = w := by
  by_cases h1 : x < y
  · rw [show cmpI x y = -1 from if_pos h1]
    go_enter Tryz.func109, Tryz.ntmps109
    go_wp2
    go_ret
    exact ⟨rfl, rfl⟩
  · by_cases h2 : y < x
    · rw [show cmpI x y = 1 from by unfold cmpI; rw [if_neg h1, if_pos h2]]
      go_enter Tryz.func109, Tryz.ntmps109
      go_wp2
      go_ret
      exact ⟨rfl, rfl⟩
    · rw [show cmpI x y = 0 from by unfold cmpI; rw [if_neg h1, if_neg h2]]
      go_enter Tryz.func109, Tryz.ntmps109
      go_wp2
      go_ret
      exact ⟨rfl, rfl⟩

theorem cmpInt64_calls (x y : Int) (w : World) :
    Calls Tryz.prog 115 #[.int .i64 x, .int .i64 y] w fun e w' => e = .returned (.int .i64 (cmpI x y)) ∧ w' = w := by
  by_cases h1 : x < y
  · rw [show cmpI x y = -1 from if_pos h1]
    go_enter Tryz.func115, Tryz.ntmps115
    go_wp2
    go_ret
    exact ⟨rfl, rfl⟩
  · by_cases h2 : y < x
    · rw [show cmpI x y = 1 from by unfold cmpI; rw [if_neg h1, if_pos h2]]
      go_enter Tryz.func115, Tryz.ntmps115
      go_wp2
      go_ret
      exact ⟨rfl, rfl⟩
    · rw [show cmpI x y = 0 from by unfold cmpI; rw [if_neg h1, if_neg h2]]
      go_enter Tryz.func115, Tryz.ntmps115
      go_wp2
      go_ret
      exact ⟨rfl, rfl⟩

theorem run_cmpstring (s t : ByteArray) (w : World) : (callFunc 128 #[.string s, .string t]).run Tryz.prog w = .ok (.value (.int .i64 (cmpS s t))) w := by
  rw [run_callFunc_extern Tryz.func128 (by kernel_rfl) (by kernel_rfl) (by kernel_rfl) (e := Extern.BytealgCompare.compare) (by kernel_rfl), Lib.run_compareString]
  rfl

theorem cmpStr_calls (s t : ByteArray) (w : World) :
    Calls Tryz.prog 116 #[.string s, .string t] w fun e w' => e = .returned (.int .i64 (cmpS s t)) ∧ w' = w := by
  have hr := run_cmpstring
  go_enter Tryz.func116, Tryz.ntmps116
  go_wp2
  go_ret
  exact ⟨rfl, rfl⟩

theorem or_calls (b : Nat) (c0 c1 c2 c3 : Int) (w : World) (h0 : w.cell? ⟨b, 0, none⟩ = some (.int .i64 c0)) (h1 : w.cell? ⟨b, 1, none⟩ = some (.int .i64 c1))
    (h2 : w.cell? ⟨b, 2, none⟩ = some (.int .i64 c2)) (h3 : w.cell? ⟨b, 3, none⟩ = some (.int .i64 c3)) :
    Calls Tryz.prog 114 #[.slice (some ⟨b, 0, none⟩) 4 4] w fun e w' => e = .returned (.int .i64 (orI c0 c1 c2 c3)) ∧ w' = w := by
  by_cases z0 : c0 = 0
  · subst z0
    by_cases z1 : c1 = 0
    · subst z1
      by_cases z2 : c2 = 0
      · subst z2
        by_cases z3 : c3 = 0
        · subst z3
          rw [show orI 0 0 0 0 = 0 from rfl]
          go_enter Tryz.func114, Tryz.ntmps114
          go_wp2
          refine wp_loop_rounds 5 ?_
          repeat (rw [rounds_succ]; go_wp2)
          go_ret
          exact ⟨rfl, rfl⟩
        · have t : (c3 != 0) = true := by simpa using z3
          rw [show orI 0 0 0 c3 = c3 from rfl]
          go_enter Tryz.func114, Tryz.ntmps114
          go_wp2
          refine wp_loop_rounds 5 ?_
          repeat (rw [rounds_succ]; go_wp2)
          go_ret
          exact ⟨rfl, rfl⟩
      · have t : (c2 != 0) = true := by simpa using z2
        rw [show orI 0 0 c2 c3 = c2 from if_neg z2]
        go_enter Tryz.func114, Tryz.ntmps114
        go_wp2
        refine wp_loop_rounds 5 ?_
        repeat (rw [rounds_succ]; go_wp2)
        go_ret
        exact ⟨rfl, rfl⟩
    · have t : (c1 != 0) = true := by simpa using z1
      rw [show orI 0 c1 c2 c3 = c1 from if_neg z1]
      go_enter Tryz.func114, Tryz.ntmps114
      go_wp2
      refine wp_loop_rounds 5 ?_
      repeat (rw [rounds_succ]; go_wp2)
      go_ret
      exact ⟨rfl, rfl⟩
  · have t : (c0 != 0) = true := by simpa using z0
    rw [show orI c0 c1 c2 c3 = c0 from if_neg z0]
    go_enter Tryz.func114, Tryz.ntmps114
    go_wp2
    refine wp_loop_rounds 5 ?_
    repeat (rw [rounds_succ]; go_wp2)
    go_ret
    exact ⟨rfl, rfl⟩

end Go.Proofs.YtnokokhbcfkifaaGreatDoor

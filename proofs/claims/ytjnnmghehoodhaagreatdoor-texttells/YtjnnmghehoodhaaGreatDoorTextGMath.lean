/-
  Plain facts on what the library's number readers read, and on what a text's first sign tells. No call is walked here.
-/
import Derived.Test.YtjnnmghehoodhaaGreatDoorTextPu
import Derived.Test.YtjnnmghehoodhaaGreatDoorTextUq
import Derived.Test.YtjnnmghehoodhaaGreatDoorTextRows
import Derived.Lib.ParseIntB
namespace Go.Proofs.YtjnnmghehoodhaaGreatDoor
open Go.RowKit
set_option linter.unusedVariables false

theorem dig16_hex : ∀ n, n < 16 → dig16 (hexD n) = some n := by decide
theorem dig16_hi (c : UInt8) : dig16 (hexHi c) = some (c.toNat / 16) := dig16_hex _ (hi_lt c)
theorem dig16_lo (c : UInt8) : dig16 (hexLo c) = some (c.toNat % 16) := dig16_hex _ (lo_lt c)
theorem pu16_hexL (M : Nat) (hM : M ≤ 18446744073709551615) : ∀ (l : List UInt8) (acc : Nat), acc * 256 ^ l.length + numT l ≤ M → pu16 M acc (hexL l) = .ok (acc * 256 ^ l.length + numT l)
  | [], acc, h => by simp [hexL, pu16, numT]
  | c :: l, acc, h => by
    have hc := c.toNat_lt
    have e : acc * 256 ^ (c :: l).length + numT (c :: l) = (acc * 256 + c.toNat) * 256 ^ l.length + numT l := by
      rw [numT_cons, List.length_cons, Nat.pow_succ, Nat.add_mul, Nat.mul_assoc, Nat.mul_comm (256 ^ l.length) 256, Nat.add_assoc]
    rw [e] at h ⊢
    have h1 : acc * 256 + c.toNat ≤ M := by
      have : acc * 256 + c.toNat ≤ (acc * 256 + c.toNat) * 256 ^ l.length := Nat.le_mul_of_pos_right _ (Nat.pow_pos (by decide))
      omega
    rw [hexL, pu16_next (dig16_hi c) (by omega) (by omega), pu16_next (dig16_lo c) (by omega) (by omega)]
    rw [show (acc * 16 + c.toNat / 16) * 16 + c.toNat % 16 = acc * 256 + c.toNat by omega]
    exact pu16_hexL M hM l _ h
theorem pu16_le {M : Nat} : ∀ (l : List UInt8) (acc n : Nat), acc ≤ M → pu16 M acc l = .ok n → n ≤ M
  | [], acc, n, ha, h => by
    rw [pu16] at h
    injection h with h
    omega
  | c :: r, acc, n, ha, h => by
    cases hd : dig16 c with
    | none => rw [pu16_none hd] at h; cases h
    | some d =>
      by_cases hc : 1152921504606846976 ≤ acc
      · rw [pu16_cut hd hc] at h; cases h
      · by_cases ho : M < acc * 16 + d
        · rw [pu16_over hd hc ho] at h; cases h
        · rw [pu16_next hd hc ho] at h
          exact pu16_le r _ n (by omega) h
theorem puR_le {M : Nat} {l : List UInt8} {n : Nat} (h : puR M l = some n) : n ≤ M := by
  unfold puR at h
  split at h
  · cases h
  · split at h
    · next m hm =>
      obtain rfl := Option.some.inj h
      exact pu16_le _ 0 _ (Nat.zero_le _) hm
    · cases h
theorem puR_hexL {M : Nat} (hM : M ≤ 18446744073709551615) {l : List UInt8} (hl : l ≠ []) (h : numT l ≤ M) : puR M (hexL l) = some (numT l) := by
  have hne : hexL l ≠ [] := by
    cases l with
    | nil => exact absurd rfl hl
    | cons c l => simp [hexL]
  have := pu16_hexL M hM l 0 (by simpa using h)
  rw [puR, if_neg hne, this]
  simp
theorem puR_byte (c : UInt8) : puR 255 [hexHi c, hexLo c] = some c.toNat := by
  have hc := c.toNat_lt
  have e : numT [c] = c.toNat := by simp [numT]
  have := puR_hexL (M := 255) (by decide) (l := [c]) (by simp) (by rw [e]; omega)
  rw [e] at this
  exact this
theorem puR_word {f : Nat} (h : f < whole) : puR 18446744073709551615 (hexL (wordL f)) = some f := by
  have e := numT_wordL f h
  have := puR_hexL (M := 18446744073709551615) (by decide) (l := wordL f) (by simp [wordL]) (by rw [e]; simp only [whole] at h; omega)
  rw [e] at this
  exact this

/-- Decimal digits. -/
theorem pum_dec : ∀ (l : List UInt8) (acc : Nat), Digs l → acc * 10 ^ l.length + decV l ≤ 18446744073709551615 → Go.Lib.parseUintM 18446744073709551615 acc l = .ok (acc * 10 ^ l.length + decV l) := by
  have hV : ∀ (l : List UInt8) (x : Nat), l.foldl (fun n c => 10 * n + (c.toNat - 48)) x = x * 10 ^ l.length + decV l := by
    intro l
    induction l with
    | nil => intro x; simp [decV]
    | cons c l ih =>
      intro x
      show l.foldl (fun n c => 10 * n + (c.toNat - 48)) (10 * x + (c.toNat - 48)) = x * 10 ^ (l.length + 1) + l.foldl (fun n c => 10 * n + (c.toNat - 48)) (10 * 0 + (c.toNat - 48))
      rw [ih, ih (10 * 0 + (c.toNat - 48)), Nat.pow_succ, Nat.add_mul, Nat.add_mul]
      have : 10 * x * 10 ^ l.length = x * (10 ^ l.length * 10) := by rw [Nat.mul_comm 10 x, Nat.mul_assoc, Nat.mul_comm 10]
      omega
  have hC : ∀ (c : UInt8) (l : List UInt8), decV (c :: l) = (c.toNat - 48) * 10 ^ l.length + decV l := by
    intro c l
    have := hV l (c.toNat - 48)
    show l.foldl (fun n c => 10 * n + (c.toNat - 48)) (10 * 0 + (c.toNat - 48)) = _
    rw [Nat.mul_zero, Nat.zero_add, this]
  intro l
  induction l with
  | nil => intro acc _ _; simp [Go.Lib.parseUintM, decV]
  | cons c l ih =>
    intro acc hd h
    have hc := hd c (by simp)
    have e : acc * 10 ^ (c :: l).length + decV (c :: l) = (acc * 10 + (c.toNat - 48)) * 10 ^ l.length + decV l := by
      rw [hC, List.length_cons, Nat.pow_succ, Nat.add_mul, Nat.mul_assoc, Nat.mul_comm (10 ^ l.length) 10, Nat.add_assoc]
    rw [e] at h ⊢
    have h1 : acc * 10 + (c.toNat - 48) ≤ 18446744073709551615 := by
      have : acc * 10 + (c.toNat - 48) ≤ (acc * 10 + (c.toNat - 48)) * 10 ^ l.length := Nat.le_mul_of_pos_right _ (Nat.pow_pos (by decide))
      omega
    rw [Go.Lib.parseUintM, if_pos hc, if_neg (by omega), if_neg (by omega)]
    exact ih _ (fun x hx => hd x (by simp [hx])) h
theorem pub_dec {n : Nat} (h : n ≤ 9223372036854775808) : Go.Lib.parseUintB 64 (decN n) = .ok n := by
  have e := decV_decN n
  have := pum_dec (decN n) 0 (decN_digs n) (by rw [e]; omega)
  rw [e, Nat.zero_mul, Nat.zero_add] at this
  rw [Go.Lib.parseUintB, if_neg (decN_ne n)]
  exact this
theorem pib_neg {r : List UInt8} {u : Nat} (h : Go.Lib.parseUintB 64 r = .ok u) (hu : u ≤ 9223372036854775808) : Go.Lib.parseIntB 64 (45 :: r) = .ok (-(u : Int)) := by
  have hp : (2 : Nat) ^ (64 - 1) = 9223372036854775808 := by decide
  rw [Go.Lib.parseIntB]
  simp only [show (UInt8.toNat 45 = 43 ∨ UInt8.toNat 45 = 45) = True from eq_true (.inr rfl), if_true, h, hp]
  rw [if_neg (fun e => e.1 rfl), if_neg (fun e => absurd e.2 (by omega))]
  rfl
theorem pib_pos {c : UInt8} {r : List UInt8} {u : Nat} (hc : 48 ≤ c.toNat) (h : Go.Lib.parseUintB 64 (c :: r) = .ok u) (hu : u < 9223372036854775808) : Go.Lib.parseIntB 64 (c :: r) = .ok (u : Int) := by
  have hp : (2 : Nat) ^ (64 - 1) = 9223372036854775808 := by decide
  have h1 : ¬ (c.toNat = 43 ∨ c.toNat = 45) := by omega
  have h2 : ¬ c.toNat = 45 := by omega
  rw [Go.Lib.parseIntB]
  rw [if_neg h1]
  simp only [h, hp]
  rw [if_neg (fun e => absurd e.2 (by omega)), if_neg (fun e => h2 e.1), if_neg h2]
theorem pib_dec (n : Int) (h : IntKind.i64.min ≤ n ∧ n ≤ IntKind.i64.max) : Go.Lib.parseIntB 64 (decI n) = .ok n := by
  have m0 : IntKind.i64.min = -9223372036854775808 := by decide
  have m1 : IntKind.i64.max = 9223372036854775807 := by decide
  rw [m0, m1] at h
  unfold decI
  by_cases hn : n < 0
  · rw [if_pos hn, pib_neg (pub_dec (n := n.natAbs) (by omega)) (by omega)]
    congr 1; omega
  · rw [if_neg hn]
    obtain ⟨c, r, hcr⟩ : ∃ c r, decN n.natAbs = c :: r := by
      cases hd : decN n.natAbs with
      | nil => exact absurd hd (decN_ne _)
      | cons c r => exact ⟨c, r, rfl⟩
    have hdig := decN_digs n.natAbs c (by rw [hcr]; simp)
    have hp := pub_dec (n := n.natAbs) (by omega)
    rw [hcr] at hp ⊢
    rw [pib_pos hdig.1 hp (by omega)]
    congr 1; omega
theorem pib_range {l : List UInt8} {v : Int} (h : Go.Lib.parseIntB 64 l = .ok v) : IntKind.i64.min ≤ v ∧ v ≤ IntKind.i64.max := by
  have m0 : IntKind.i64.min = -9223372036854775808 := by decide
  have m1 : IntKind.i64.max = 9223372036854775807 := by decide
  have hp : (2 : Nat) ^ (64 - 1) = 9223372036854775808 := by decide
  rw [m0, m1]
  cases l with
  | nil => simp [Go.Lib.parseIntB] at h
  | cons c r =>
    rw [Go.Lib.parseIntB] at h
    split at h
    · cases h
    · cases h
    · next u _ =>
      rw [hp] at h
      split at h
      · cases h
      · split at h
        · cases h
        · next h1 h2 =>
          injection h with h
          by_cases hc : c.toNat = 45
          · rw [if_pos hc] at h; omega
          · rw [if_neg hc] at h; omega
theorem sat_range (l : List UInt8) : IntKind.i64.min ≤ Go.Lib.intSat 64 l ∧ Go.Lib.intSat 64 l ≤ IntKind.i64.max := by
  unfold Go.Lib.intSat
  split <;> decide

end Go.Proofs.YtjnnmghehoodhaaGreatDoor

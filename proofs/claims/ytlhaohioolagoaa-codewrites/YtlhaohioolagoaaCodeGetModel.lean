/-
  What bytes are read as, row by row, in plain words; what was written is read again. No program is named here.
-/
import Derived.Test.YtlhaohioolagoaaCodeRead
namespace Go.Proofs.Ytlhaohioolagoaa
open Go.RowKit

theorem unescL_shorter : ∀ (n : Nat) (l t r : List UInt8), l.length ≤ n → unescL l = some (t, r) → r.length < l.length := by
  intro n
  induction n with
  | zero =>
    intro l t r h hu
    obtain rfl : l = [] := List.length_eq_zero_iff.1 (by omega)
    rw [unescL_nil] at hu; cases hu
  | succ n ih =>
    intro l t r h hu
    cases l with
    | nil => rw [unescL_nil] at hu; cases hu
    | cons c m =>
      by_cases hc : c = 0
      · subst hc
        cases m with
        | nil => rw [unescL_last] at hu; cases hu
        | cons d m =>
          by_cases h1 : d = 1
          · subst h1
            rw [unescL_end] at hu
            simp at hu
            rw [← hu.2]; simp only [List.length_cons]; omega
          · by_cases h2 : d = 255
            · subst h2
              rw [unescL_zero] at hu
              cases hm : unescL m with
              | none => rw [hm] at hu; cases hu
              | some p =>
                rw [hm] at hu
                simp at hu
                have := ih m p.1 p.2 (by simp at h; omega) hm
                rw [← hu.2]; simp; omega
            · rw [unescL_bad h1 h2] at hu; cases hu
      · rw [unescL_char hc] at hu
        cases hm : unescL m with
        | none => rw [hm] at hu; cases hu
        | some p =>
          rw [hm] at hu
          simp at hu
          have := ih m p.1 p.2 (by simp at h; omega) hm
          rw [← hu.2]; simp; omega

theorem takeW_shorter {k : Int} {m r : List UInt8} {v : VT} (h : takeW k m = some (v, r)) : r.length ≤ m.length := by
  unfold takeW at h
  by_cases h8 : 8 ≤ m.length
  · rw [if_pos h8] at h; simp at h; rw [← h.2, List.length_drop]; omega
  · rw [if_neg h8] at h; cases h
theorem takeB_shorter {m r : List UInt8} {v : VT} (h : takeB m = some (v, r)) : r.length ≤ m.length := by
  cases m with
  | nil => cases h
  | cons y m =>
    rw [takeB] at h
    by_cases hy : y.toNat ≤ 1
    · rw [if_pos hy] at h; simp at h; rw [← h.2]; simp
    · rw [if_neg hy] at h; cases h
theorem takeS_shorter {k : Int} {m r : List UInt8} {v : VT} (h : takeS k m = some (v, r)) : r.length ≤ m.length := by
  unfold takeS at h
  cases hm : unescL m with
  | none => rw [hm] at h; cases h
  | some p =>
    obtain ⟨t, q⟩ := p
    rw [hm] at h
    simp at h
    have := unescL_shorter m.length m t q (Nat.le_refl _) hm
    rw [← h.2.2]; omega
theorem takeV_shorter {l r : List UInt8} {v : VT} (h : takeV l = some (v, r)) : r.length < l.length := by
  cases l with
  | nil => cases h
  | cons x m =>
    rw [takeV] at h
    have key : r.length ≤ m.length := by
      by_cases h1 : x = 1
      · rw [if_pos h1] at h; exact takeW_shorter h
      · rw [if_neg h1] at h
        by_cases h2 : x = 2
        · rw [if_pos h2] at h; exact takeB_shorter h
        · rw [if_neg h2] at h
          by_cases h3 : x = 3
          · rw [if_pos h3] at h; exact takeS_shorter h
          · rw [if_neg h3] at h
            by_cases h4 : x = 4
            · rw [if_pos h4] at h; exact takeS_shorter h
            · rw [if_neg h4] at h
              by_cases h5 : x = 5
              · rw [if_pos h5] at h; exact takeW_shorter h
              · rw [if_neg h5] at h; cases h
    simp; omega

/-- The row of which these are the bytes; so many steps at most. -/
def getN : Nat → List UInt8 → Option (List VT)
  | 0, l => if l = [] then some [] else none
  | n + 1, l => if l = [] then some [] else match takeV l with
    | none => none
    | some (v, r) => (getN n r).map fun m => v :: m
def getL (l : List UInt8) : Option (List VT) := getN l.length l
theorem getN_enough : ∀ (n k : Nat) (l : List UInt8), l.length ≤ n → l.length ≤ k → getN n l = getN k l := by
  intro n
  induction n with
  | zero =>
    intro k l h _
    obtain rfl : l = [] := List.length_eq_zero_iff.1 (by omega)
    cases k <;> simp [getN]
  | succ n ih =>
    intro k l h h'
    by_cases hl : l = []
    · subst hl; cases k <;> simp [getN]
    · cases k with
      | zero => exact absurd (List.length_eq_zero_iff.1 (by omega)) hl
      | succ k =>
        unfold getN
        rw [if_neg hl, if_neg hl]
        cases ht : takeV l with
        | none => rfl
        | some p =>
          obtain ⟨v, r⟩ := p
          have := takeV_shorter ht
          simp only
          rw [ih k r (by omega) (by omega)]
theorem getL_nil : getL [] = some [] := by simp [getL, getN]
theorem getL_none {l : List UInt8} (hl : ¬ l = []) (h : takeV l = none) : getL l = none := by
  unfold getL
  cases l with
  | nil => exact absurd rfl hl
  | cons x m =>
    show getN (m.length + 1) (x :: m) = none
    unfold getN
    rw [if_neg hl, h]
theorem getL_step {l r : List UInt8} {v : VT} (h : takeV l = some (v, r)) : getL l = (getL r).map fun m => v :: m := by
  have hs := takeV_shorter h
  unfold getL
  cases l with
  | nil => simp at hs
  | cons x m =>
    show getN (m.length + 1) (x :: m) = _
    rw [getN, if_neg (by simp), h]
    simp only
    rw [getN_enough m.length r.length r (by simp at hs; omega) (Nat.le_refl _)]

theorem downI_fits (x : Nat) : IntKind.i64.min ≤ downI x ∧ downI x ≤ IntKind.i64.max := by
  have h1 : IntKind.i64.min = -9223372036854775808 := by decide
  have h2 : IntKind.i64.max = 9223372036854775807 := by decide
  rw [h1, h2]
  unfold downI wrap64
  omega

/-- What is read is a value. -/
theorem takeV_fits {l r : List UInt8} {v : VT} (h : takeV l = some (v, r)) : Fits v := by
  have m1 : IntKind.i64.min = -9223372036854775808 := by decide
  have m2 : IntKind.i64.max = 9223372036854775807 := by decide
  have fw : ∀ (k : Int) (m : List UInt8), takeW k m = some (v, r) → Fits v := by
    intro k m h
    unfold takeW at h
    by_cases h8 : 8 ≤ m.length
    · rw [if_pos h8] at h
      simp only [Option.some.injEq, Prod.mk.injEq] at h
      by_cases hk : k = 1
      · rw [if_pos hk] at h
        rw [← h.1]
        refine ⟨by first | decide | (rw [m1]; simp) | (rw [m2]; simp), by first | decide | (rw [m1]; simp) | (rw [m2]; simp), (downI_fits _).1, (downI_fits _).2, by simp [maxLen, ByteArray.size], by simp [whole]⟩
      · rw [if_neg hk] at h
        rw [← h.1]
        refine ⟨by first | decide | (rw [m1]; simp) | (rw [m2]; simp), by first | decide | (rw [m1]; simp) | (rw [m2]; simp), by first | decide | (rw [m1]; simp) | (rw [m2]; simp), by first | decide | (rw [m1]; simp) | (rw [m2]; simp), by simp [maxLen, ByteArray.size], ofN_lt numL_whole⟩
    · rw [if_neg h8] at h; cases h
  have fs : ∀ (k : Int) (m : List UInt8), (k = 3 ∨ k = 4) → takeS k m = some (v, r) → Fits v := by
    intro k m hk h
    unfold takeS at h
    cases hm : unescL m with
    | none => rw [hm] at h; cases h
    | some p =>
      obtain ⟨t, q⟩ := p
      rw [hm] at h
      simp at h
      rw [← h.2.1]
      have hq : (⟨t.toArray⟩ : ByteArray).size = t.length := by simp [ByteArray.size]
      refine ⟨?_, ?_, by first | decide | (rw [m1]; simp) | (rw [m2]; simp), by first | decide | (rw [m1]; simp) | (rw [m2]; simp), ?_, by simp [whole]⟩
      · rw [m1]; show _ ≤ k; omega
      · rw [m2]; show k ≤ _; omega
      · show (⟨t.toArray⟩ : ByteArray).size ≤ maxLen
        rw [hq]; unfold maxLen; omega
  cases l with
  | nil => cases h
  | cons x m =>
    rw [takeV] at h
    by_cases h1 : x = 1
    · rw [if_pos h1] at h; exact fw _ _ h
    · rw [if_neg h1] at h
      by_cases h2 : x = 2
      · rw [if_pos h2] at h
        cases m with
        | nil => cases h
        | cons y m =>
          rw [takeB] at h
          by_cases hy : y.toNat ≤ 1
          · rw [if_pos hy] at h; simp at h; rw [← h.1]
            refine ⟨by first | decide | (rw [m1]; simp) | (rw [m2]; simp), by first | decide | (rw [m1]; simp) | (rw [m2]; simp), ?_, ?_, by simp [maxLen, ByteArray.size], by simp [whole]⟩
            · rw [m1]; show _ ≤ (y.toNat : Int); omega
            · rw [m2]; show (y.toNat : Int) ≤ _; omega
          · rw [if_neg hy] at h; cases h
      · rw [if_neg h2] at h
        by_cases h3 : x = 3
        · rw [if_pos h3] at h; exact fs _ _ (.inl rfl) h
        · rw [if_neg h3] at h
          by_cases h4 : x = 4
          · rw [if_pos h4] at h; exact fs _ _ (.inr rfl) h
          · rw [if_neg h4] at h
            by_cases h5 : x = 5
            · rw [if_pos h5] at h; exact fw _ _ h
            · rw [if_neg h5] at h; cases h

end Go.Proofs.Ytlhaohioolagoaa

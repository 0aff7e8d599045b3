/-
  rialtohelp.Logs and rialtolaw11.cost, as their text runs: how many binary digits a number has; what a tree's height is against it.
-/
import Derived.Test.YtcaccbjolgjmkaaTrKnw
namespace Go.Proofs.Ytcaccbjolgjmkaa
open Go.ChangeShapes Go.WideShapes Go.ChangeAt Go.RowKit
set_option linter.unusedVariables false
set_option maxRecDepth 100000
attribute [local go_sem ↓] Go.wp_at_zero Go.wp_at_succ

/-- How many binary digits. -/
def bitsN (m : Nat) : Nat := if m = 0 then 0 else Nat.log2 m + 1
theorem bitsN_pos {m : Nat} (h : m ≠ 0) : bitsN m = bitsN (m / 2) + 1 := by
  unfold bitsN
  rw [if_neg h]
  by_cases h2 : 2 ≤ m
  · rw [Nat.log2_def, if_pos h2, if_neg (by omega)]
  · rw [Nat.log2_def, if_neg h2, if_pos (by omega)]
theorem bitsN_ge {m k : Nat} (h : 2 ^ k ≤ m) : k + 1 ≤ bitsN m := by
  have h0 : m ≠ 0 := by have := Nat.pow_pos (n := k) (show 0 < 2 by decide); omega
  unfold bitsN
  rw [if_neg h0]
  have := (Nat.le_log2 h0).2 h
  omega
theorem bitsN_le {m : Nat} (h : m ≤ 1000001) : bitsN m ≤ 100 := by
  unfold bitsN
  split
  · omega
  · rename_i h0
    have h1 : 2 ^ m.log2 ≤ m := Nat.log2_self_le h0
    rcases Nat.lt_or_ge m.log2 20 with h2 | h2
    · omega
    · have h3 : 2 ^ 20 ≤ 2 ^ m.log2 := Nat.pow_le_pow_right (by decide) h2
      have h4 : (2 : Nat) ^ 20 = 1048576 := by decide
      omega
theorem logs_calls (n : Nat) (hn : n ≤ 1000000) (w : World) : Calls Try.prog 20 #[.int .i64 n] w fun e w' => e = .returned (.int .i64 (bitsN (n + 1) : Nat)) ∧ w' = w := by
  have e0 : IntKind.i64.wrap ((n : Int) + 1) = ((n + 1 : Nat) : Int) := by rw [IntKind.wrap_i64]; omega
  have hb := bitsN_le (m := n + 1) (by omega)
  go_enter Try.func20, Try.ntmps20
  go_wp2_with fail
  rw [show (n : Int) + 1 = ((n + 1 : Nat) : Int) by omega]
  go_loopw [3, 4] (fun kv mv wr => ∃ k m : Nat, m ≤ 1000001 ∧ kv = .int .i64 k ∧ mv = .int .i64 m ∧ Hid (k + bitsN m = bitsN (n + 1)) ∧ wr = w) (fun _ mv _ => (intOf mv).toNat)
  case atStart => exact ⟨0, n + 1, by omega, rfl, rfl, by unfold Hid; omega, rfl⟩
  case round =>
    obtain ⟨k, m, hm, rfl, rfl, hk, rfl⟩ := hrel
    by_cases h0 : m = 0
    · have hd : decide ((m : Int) > 0) = false := decide_eq_false (by omega)
      have hd' : ¬ ((m : Int) > 0) := by omega
      have hd2 : decide (0 < m) = false := decide_eq_false (by omega)
      have HM := hide h0
      clear h0
      go_wp2
      go_ret
      have := hk.out
      rw [HM.out] at this
      have hz : bitsN 0 = 0 := rfl
      exact ⟨by rw [← this, hz]; rfl, rfl⟩
    · have hd : decide ((m : Int) > 0) = true := decide_eq_true (by omega)
      have hd' : (m : Int) > 0 := by omega
      have hd2 : decide (0 < m) = true := decide_eq_true (by omega)
      have hk' := hk.out
      rw [bitsN_pos h0] at hk'
      have e1 : IntKind.i64.wrap ((k : Int) + 1) = (k : Int) + 1 := by rw [IntKind.wrap_i64]; omega
      obtain ⟨q, hq⟩ : ∃ q, q = m / 2 := ⟨_, rfl⟩
      have q1 : (m : Int) / 2 = (q : Int) := by omega
      have q2 : (m : Int).tdiv 2 = (q : Int) := by rw [Int.tdiv_eq_ediv_of_nonneg (by omega)]; exact q1
      have q3 : m / 2 = q := hq.symm
      have q4 : IntKind.i64.wrap (q : Int) = (q : Int) := by rw [IntKind.wrap_i64]; omega
      have HQ := hide hq
      have HK := hide hk'
      clear hq hk hk'
      go_wp2
      go_roundw
      case rel => exact ⟨k + 1, q, by omega, by first | rfl | congr 1, by first | rfl | congr 1, by unfold Hid; rw [HQ.out]; have := HK.out; omega, by first | rfl | trivial⟩
      case measure => simp [intOf]; omega
theorem cost_calls (n d : Nat) (hn : n ≤ 1000000) (hd : d ≤ 8 * bitsN (n + 1)) (w : World) : Calls Try.prog 17 #[.int .i64 n, .int .i64 d] w fun e w' => e = .returned (.bool true) ∧ w' = w := by
  have hb := bitsN_le (m := n + 1) (by omega)
  obtain ⟨b, hbb⟩ : ∃ b, b = bitsN (n + 1) := ⟨_, rfl⟩
  have HL : Hid (Calls Try.prog 20 #[.int .i64 n] w fun e w' => e = .returned (.int .i64 b) ∧ w' = w) := by rw [hbb]; exact logs_calls n hn w
  rw [← hbb] at hb hd
  have e1 : IntKind.i64.wrap (8 * (b : Int)) = 8 * (b : Int) := by rw [IntKind.wrap_i64]; omega
  have hc : decide ((d : Int) ≤ 8 * (b : Int)) = true := decide_eq_true (by omega)
  have hc' : (d : Int) ≤ 8 * (b : Int) := by omega
  clear hbb
  go_enter Try.func17, Try.ntmps17
  go_wp2_with (go_at_call 20; refine HL.out.mono ?_; rintro _ w1 ⟨rfl, hw1⟩; subst hw1)
  go_ret
  exact ⟨rfl, rfl⟩
/-- A tree is low. -/
theorem Tr.logs {α : Type} {enc : α → Value} {w : World} {T : Nat} {xs : List α} {h n : Nat} (t : Tr enc w T xs h n) : 2 * h + 3 ≤ 8 * bitsN (xs.length + 1) ∧ (xs ≠ [] → h + 1 ≤ bitsN (xs.length + 1)) := by
  by_cases h0 : h = 0
  · subst h0
    refine ⟨?_, fun hx => ?_⟩
    · have := bitsN_ge (m := xs.length + 1) (k := 0) (by simp)
      omega
    · have := bitsN_ge (m := xs.length + 1) (k := 0) (by simp)
      omega
  · have h1 := t.many h0
    have h2 : 2 ^ (2 * h + 1) ≤ xs.length + 1 := by
      rw [Nat.pow_succ, Nat.pow_mul]
      have : (2 : Nat) ^ 2 = 4 := by decide
      rw [this]
      omega
    have := bitsN_ge h2
    exact ⟨by omega, fun _ => by omega⟩
theorem theight_any (T h n : Nat) (xs : List Int) (w : World) (t : TrI w T xs h n) (hx : xs.length ≤ 100000) :
    Calls Try.prog 19 #[.pointer (some ⟨T, 0, none⟩)] w fun e w' => ∃ q : Nat, e = .returned (.int .i64 q) ∧ (q = 0 ↔ xs = []) ∧ q ≤ bitsN (xs.length + 1) ∧ q ≤ 100 ∧ Up w w' := by
  by_cases h0 : xs = []
  · subst h0
    refine (theightI_zero T h n w t).mono ?_
    rintro e w' ⟨rfl, hu⟩
    exact ⟨0, rfl, by simp, Nat.zero_le _, by omega, hu⟩
  · have := t.hle hx
    refine (theightI_some T h n xs w t h0 (by omega)).mono ?_
    rintro e w' ⟨rfl, hu⟩
    exact ⟨h + 1, by first | rfl | (congr 2), ⟨fun h => by omega, fun h => absurd h h0⟩, t.logs.2 h0, by omega, hu⟩
end Go.Proofs.Ytcaccbjolgjmkaa

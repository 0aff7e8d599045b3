/-
  A list with marks: isPlace, Move, Swap, as their text runs.
-/
import Derived.Test.YtbnkddnjfkagkaaPlPut
import Derived.Test.YtbnkddnjfkagkaaPlSwp
import Derived.Test.YtbnkddnjfkagkaaTrSetL
import Derived.BigRegion
namespace Go.Proofs.Ytbnkddnjfkagkaa
open Go.ChangeShapes Go.WideShapes Go.ChangeAt Go.RowKit
set_option linter.unusedVariables false
set_option maxRecDepth 100000
attribute [local go_sem ↓] Go.wp_at_zero Go.wp_at_succ

variable {Y : Nat → Prop} {p T M : Nat} {xs zs : List Int} {h n h' n' : Nat} {f f' : Int → Option Nat} {w w' : World}
theorem isPlace_calls (j : Int) (ix : PlIx Y p T M xs h n f w) (b : Bool) (hb : b = decide (0 ≤ j ∧ j < (xs.length : Int))) :
    Calls Try.prog 72 #[.pointer (some ⟨p, 0, none⟩), .int .i64 j] w fun e w' => e = .returned (.bool b) ∧ w' = w := by
  have HLN := hide (pllen_calls ix)
  clear ix
  by_cases h0 : 0 ≤ j
  · have d0 : decide (j ≥ 0) = true := decide_eq_true h0
    have d0' : decide (0 ≤ j) = true := decide_eq_true h0
    by_cases h1 : j < (xs.length : Int)
    · obtain rfl : b = true := by rw [hb]; exact decide_eq_true ⟨h0, h1⟩
      have d1 : decide (j < (xs.length : Int)) = true := decide_eq_true h1
      clear hb
      go_enter Try.func72, Try.ntmps72
      go_wp2_with (go_at_call 52; refine HLN.out.mono ?_; rintro _ w2 ⟨rfl, hw2⟩; subst hw2)
      go_ret
      exact ⟨rfl, rfl⟩
    · obtain rfl : b = false := by rw [hb]; exact decide_eq_false (fun e => h1 e.2)
      have d1 : decide (j < (xs.length : Int)) = false := decide_eq_false h1
      clear hb
      go_enter Try.func72, Try.ntmps72
      go_wp2_with (go_at_call 52; refine HLN.out.mono ?_; rintro _ w2 ⟨rfl, hw2⟩; subst hw2)
      go_ret
      exact ⟨rfl, rfl⟩
  · obtain rfl : b = false := by rw [hb]; exact decide_eq_false (fun e => h0 e.1)
    have d0 : decide (j ≥ 0) = false := decide_eq_false h0
    have d0' : decide (0 ≤ j) = false := decide_eq_false h0
    clear hb
    go_enter Try.func72, Try.ntmps72
    go_wp2_with (go_at_call 52; refine HLN.out.mono ?_; rintro _ w2 ⟨rfl, hw2⟩; subst hw2)
    go_ret
    exact ⟨rfl, rfl⟩
/-- No such place: told by Move and Swap. -/
theorem plmove_not (j k : Int) (ix : PlIx Y p T M xs h n f w) (hno : ¬ (0 ≤ j ∧ j < (xs.length : Int)) ∨ ¬ (0 ≤ k ∧ k < (xs.length : Int))) :
    Calls Try.prog 56 #[.pointer (some ⟨p, 0, none⟩), .int .i64 j, .int .i64 k] w fun e w' => e = .returned (.int .i64 73) ∧ w' = w := by
  by_cases h1 : 0 ≤ j ∧ j < (xs.length : Int)
  · have H1 := hide (isPlace_calls j ix true (by simpa using h1))
    have H2 := hide (isPlace_calls k ix false (by
      have := hno.resolve_left (fun h => h h1)
      rw [decide_eq_false this]))
    clear ix hno h1
    go_enter Try.func56, Try.ntmps56
    go_wp2_with fail
    refine H1.out.mono ?_
    rintro _ w1 ⟨rfl, hw1⟩
    subst hw1
    dsimp only
    go_wp2_with fail
    refine H2.out.mono ?_
    rintro _ w2 ⟨rfl, hw2⟩
    subst hw2
    dsimp only
    go_wp2
    go_ret
    exact ⟨rfl, rfl⟩
  · have H1 := hide (isPlace_calls j ix false (by rw [decide_eq_false h1]))
    clear ix hno h1
    go_enter Try.func56, Try.ntmps56
    go_wp2_with fail
    refine H1.out.mono ?_
    rintro _ w1 ⟨rfl, hw1⟩
    subst hw1
    dsimp only
    go_wp2
    go_ret
    exact ⟨rfl, rfl⟩
theorem plswap_not (j k : Int) (ix : PlIx Y p T M xs h n f w) (hno : ¬ (0 ≤ j ∧ j < (xs.length : Int)) ∨ ¬ (0 ≤ k ∧ k < (xs.length : Int))) :
    Calls Try.prog 57 #[.pointer (some ⟨p, 0, none⟩), .int .i64 j, .int .i64 k] w fun e w' => e = .returned (.int .i64 73) ∧ w' = w := by
  by_cases h1 : 0 ≤ j ∧ j < (xs.length : Int)
  · have H1 := hide (isPlace_calls j ix true (by simpa using h1))
    have H2 := hide (isPlace_calls k ix false (by
      have := hno.resolve_left (fun h => h h1)
      rw [decide_eq_false this]))
    clear ix hno h1
    go_enter Try.func57, Try.ntmps57
    go_wp2_with fail
    refine H1.out.mono ?_
    rintro _ w1 ⟨rfl, hw1⟩
    subst hw1
    dsimp only
    go_wp2_with fail
    refine H2.out.mono ?_
    rintro _ w2 ⟨rfl, hw2⟩
    subst hw2
    dsimp only
    go_wp2
    go_ret
    exact ⟨rfl, rfl⟩
  · have H1 := hide (isPlace_calls j ix false (by rw [decide_eq_false h1]))
    clear ix hno h1
    go_enter Try.func57, Try.ntmps57
    go_wp2_with fail
    refine H1.out.mono ?_
    rintro _ w1 ⟨rfl, hw1⟩
    subst hw1
    dsimp only
    go_wp2
    go_ret
    exact ⟨rfl, rfl⟩
/-- The list with what stands at a at t. -/
def mvL (xs : List Int) (a t : Nat) : List Int := if t = a then xs else insL (xs.getD a 0) (delL xs a) t
set_option maxHeartbeats 2000000 in
theorem plmove_ok (a t : Nat) (ix : PlIx Y p T M xs h n f w) (ha : a < xs.length) (ht : t < xs.length) (hx : xs.length ≤ 1000) (hn : n ≤ 9000000) :
    Calls Try.prog 56 #[.pointer (some ⟨p, 0, none⟩), .int .i64 a, .int .i64 t] w fun e w' => e = .returned (.int .i64 0) ∧ PlDone Y p T M (mvL xs a t) n (16 * bitsN (xs.length + 1)) w w' := by
  have H1 := hide (isPlace_calls (a : Int) ix true (by symm; exact decide_eq_true ⟨by omega, by omega⟩))
  have H2 := hide (isPlace_calls (t : Int) ix true (by symm; exact decide_eq_true ⟨by omega, by omega⟩))
  by_cases hat : t = a
  · have hmv : mvL xs a t = xs := by unfold mvL; rw [if_pos hat]
    rw [hmv]
    have hdone : Hid (PlDone Y p T M xs n (16 * bitsN (xs.length + 1)) w w) := ⟨h, 0, f, ix, Nat.zero_le _, Chg.refl _ _⟩
    obtain rfl : t = a := hat
    clear ix hmv
    go_enter Try.func56, Try.ntmps56
    go_wp2_with fail
    refine H1.out.mono ?_
    rintro _ w1 ⟨rfl, hw1⟩
    subst hw1
    dsimp only
    go_wp2_with fail
    refine H2.out.mono ?_
    rintro _ w2 ⟨rfl, hw2⟩
    subst hw2
    dsimp only
    go_wp2
    go_ret
    exact ⟨rfl, hdone.out⟩
  · have hmv : mvL xs a t = insL (xs.getD a 0) (delL xs a) t := by unfold mvL; rw [if_neg hat]
    rw [hmv]
    clear hmv
    have hlb := delL_len xs a ha
    have hb8 := bitsN_le (m := xs.length + 1) (by omega)
    have HTK := hide (plerase_ok a ix ha hx (by omega))
    have hvx : xs.getD a 0 ∈ xs ∧ xs.getD a 0 ∉ delL xs a := by
      rw [getD_in xs ha]
      exact ⟨List.getElem_mem ha, fun e => ((delL_mem ha ix.ok.nd).1 e).2 rfl⟩
    have hwv := ix.ok.wf _ hvx.1
    have hbm : bitsN ((delL xs a).length + 1) ≤ bitsN (xs.length + 1) := bitsN_mono (by omega)
    have tail : Hid (∀ w1, PlDone Y p T M (delL xs a) n (8 * bitsN (xs.length + 1)) w w1 → Calls Try.prog 51 #[.pointer (some ⟨p, 0, none⟩), .int .i64 t, .int .i64 (xs.getD a 0)] w1 fun e w' => e = .returned (.int .i64 0) ∧ PlDone Y p T M (insL (xs.getD a 0) (delL xs a) t) n (16 * bitsN (xs.length + 1)) w w') := by
      rintro w1 ⟨h1, k1, f1, ix1, hk1, hc1⟩
      refine (plinsert_ok t _ ix1 (by omega) hwv hvx.2 (by omega) (by omega)).mono ?_
      rintro _ w2 ⟨rfl, h2, k2, f2, ix2, hk2, hc2⟩
      exact ⟨rfl, h2, k1 + k2, f2, by rw [← Nat.add_assoc]; exact ix2, by omega, hc1.trans hc2 (fun _ _ h => h)⟩
    generalize xs.getD a 0 = v at *
    have hne : ((a : Int) == (t : Int)) = false := by simp; omega
    have hne2 : ¬ (a = t) := fun e => hat e.symm
    clear ix
    go_enter Try.func56, Try.ntmps56
    go_wp2_with fail
    refine H1.out.mono ?_
    rintro _ w1 ⟨rfl, hw1⟩
    subst hw1
    dsimp only
    go_wp2_with fail
    refine H2.out.mono ?_
    rintro _ w2 ⟨rfl, hw2⟩
    subst hw2
    dsimp only
    go_wp2_with fail
    refine HTK.out.mono ?_
    rintro _ w3 ⟨rfl, hd3⟩
    replace hd3 := hide hd3
    dsimp only
    go_wp2_with fail
    refine (tail.out w3 hd3.out).mono ?_
    rintro _ w4 ⟨rfl, hd4⟩
    replace hd4 := hide hd4
    dsimp only
    go_wp2
    go_ret
    exact ⟨rfl, hd4.out⟩
end Go.Proofs.Ytbnkddnjfkagkaa

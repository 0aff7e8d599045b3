/-
  HashRows, walked.
-/
import Derived.Test.YtofpakpbbpcalaaHaHlp
namespace Go.Proofs.Ytofpakpbbpcalaa
open Go.ChangeShapes Go.WideShapes Go.ChangeAt Go.RowKit
set_option linter.unusedVariables false
set_option maxRecDepth 100000
attribute [local go_sem ↓] Go.wp_at_zero Go.wp_at_succ

set_option maxHeartbeats 16000000 in
theorem hashRows_main (a0 a1 : Option Addr) (n0 n1 c0 c1 : Nat) (l0 l1 : List VT) (w : World) (hn0 : n0 ≤ maxLen) (hn1 : n1 ≤ maxLen) (hc0 : n0 ≤ c0) (v0 : Vals w a0 n0 l0) (v1 : Vals w a1 n1 l1) (h0 : fewB l0 5 = true) (h1 : fewB l1 5 = true) (hne : ¬ n0 = 0) :
    Calls Try.prog 6 #[.slice a0 n0 c0, .slice a1 n1 c1] w fun e w' => e = .returned (.bool true) ∧ Up w w' := by
  have V0 := hide v0
  have V1 := hide v1
  have G0 := hide (good_few (many := 5) h0 (by decide) v0.2.1)
  have G1 := hide (good_few (many := 5) h1 (by decide) v1.2.1)
  have q0 : n0 ≤ 5 := by rw [← v0.1]; exact few_len (many := 5) h0
  have q1 : n1 ≤ 5 := by rw [← v1.1]; exact few_len (many := 5) h1
  have VS := hide (v0.takeK (k := n0 - 1) (by omega))
  have GS := hide (good_take G0.out (n0 - 1))
  have hSl : (l0.take (n0 - 1)).length = n0 - 1 := by rw [List.length_take, v0.1]; omega
  have hdif : Hid (l0.take (n0 - 1) ≠ l0) := fun e => by
    have := congrArg List.length e
    rw [hSl, v0.1] at this
    omega
  have e1 : ((n0 : Int) == 0) = false := by simp; omega
  have e2 : IntKind.i64.wrap ((n0 : Int) - 1) = ((n0 - 1 : Nat) : Int) := by simp [IntKind.wrap, IntKind.bits, IntKind.signed]; omega
  have HN := hide hne
  have H0 := hide h0
  have H1 := hide h1
  obtain ⟨k, hk⟩ : ∃ k, k = n0 - 1 := ⟨_, rfl⟩
  rw [← hk] at VS GS hdif e2
  have hk2 : Hid (k + 1 = n0) := by show k + 1 = n0; omega
  have hkn : k ≤ n0 := by omega
  have hk3 : (k : Int) ≤ (n0 : Int) := by omega
  have hk4 : (k : Int) ≤ (c0 : Int) := by omega
  have hk5 : (0 : Int) ≤ (k : Int) := by omega
  have hkm : k ≤ 5 := by omega
  have e3 : (n0 : Int) - 1 = (k : Int) := by omega
  obtain ⟨S, hS⟩ : ∃ S, S = l0.take k := ⟨_, rfl⟩
  rw [← hS] at VS GS hdif
  clear v0 v1 h0 h1 hne hSl hk hS
  go_enter Try.func6, Try.ntmps6
  go_wp2_with fail
  go_at_call 7
  refine (known_calls _).mono ?_
  rintro _ w1 ⟨rfl, hu1⟩
  have U1 := hide hu1
  clear hu1
  go_wp2_with fail
  go_at_call 9
  refine (few_calls a0 n0 c0 l0 5 _ hn0 (V0.out.up U1.out)).mono ?_
  rintro _ w2 ⟨rfl, hw2⟩
  obtain rfl : w1 = w2 := hw2.symm
  rw [H0.out]
  clear hw2
  --R0
  go_wp2_with fail
  go_at_call 9
  refine (few_calls a1 n1 c1 l1 5 _ hn1 (V1.out.up U1.out)).mono ?_
  rintro _ w2 ⟨rfl, hw2⟩
  obtain rfl : w1 = w2 := hw2.symm
  rw [H1.out]
  clear hw2
  go_wp2_with fail
  go_at_call 8
  refine (newX_calls true w _ U1.out).mono ?_
  rintro _ w2 ⟨p, rfl, hi2⟩
  have I2 := hide hi2
  clear hi2 U1
  go_wp2_with fail
  go_at_call 12
  refine (copyX_calls a0 n0 c0 l0 _ (by omega) (V0.out.up I2.out.1)).mono ?_
  rintro _ w3 ⟨a3, c3, rfl, hv3, hu3⟩
  have I3 := hide (I2.out.up hu3)
  have V3 := hide hv3
  clear hv3 hu3 I2
  go_wp2_with fail
  go_at_call 11
  refine (insX_new I3.out a3 n0 c3 l0 1 G0.out V3.out rfl (by omega) (by omega)).mono ?_
  rintro _ w4 ⟨rfl, hi4⟩
  obtain ⟨T4, hT4⟩ : ∃ T, T = setT (fun _ => []) l0 [1] := ⟨_, rfl⟩
  rw [← hT4] at hi4
  have t4 : Hid (T4 l0 = [1] ∧ ∀ x, x ≠ l0 → T4 x = []) := by show _ ∧ _; rw [hT4]; exact ⟨setT_same _ _ _, fun x hx => setT_other _ _ hx⟩
  have I4 := hide hi4
  clear hi4 I3 V3 hT4
  --R1
  go_wp2_with fail
  go_at_call 12
  refine (copyX_calls a0 k c0 S _ (by omega) (VS.out.up I4.out.1)).mono ?_
  rintro _ w5 ⟨a5, c5, rfl, hv5, hu5⟩
  have I5 := hide (I4.out.up hu5)
  have V5 := hide hv5
  clear hv5 hu5 I4
  --R2
  go_wp2_with fail
  go_at_call 11
  refine (insX_new I5.out a5 k c5 S 2 GS.out V5.out (t4.out.2 S hdif.out) (by omega) (by omega)).mono ?_
  rintro _ w6 ⟨rfl, hi6⟩
  obtain ⟨T6, hT6⟩ : ∃ T, T = setT T4 S [2] := ⟨_, rfl⟩
  rw [← hT6] at hi6
  have t6 : Hid (T6 l0 = [1] ∧ T6 S = [2] ∧ ∀ x, x ≠ l0 → x ≠ S → T6 x = []) := by
    show _ ∧ _
    rw [hT6]
    refine ⟨?_, setT_same _ _ _, fun x hx hy => ?_⟩
    · rw [setT_other _ _ (fun e => hdif.out e.symm)]; exact t4.out.1
    · rw [setT_other _ _ hy]; exact t4.out.2 x hx
  have I6 := hide hi6
  clear hi6 I5 V5 hT6
  go_wp2_with fail
  go_at_call 23
  refine (vals_calls a0 a1 n0 n1 c0 c1 l0 l1 _ hn0 hn1 (V0.out.up I6.out.1) (V1.out.up I6.out.1)).mono ?_
  rintro _ w7 ⟨rfl, hu7⟩
  have I7 := hide (I6.out.up hu7)
  clear hu7 I6
  --R3
  go_wp2_with fail
  go_at_call 23
  refine (vals_calls a0 a1 k n1 c0 c1 S l1 _ (by omega) hn1 (VS.out.up I7.out.1) (V1.out.up I7.out.1)).mono ?_
  rintro _ w8 ⟨rfl, hu8⟩
  have I8 := hide (I7.out.up hu8)
  clear hu8 I7
  go_wp2_with fail
  go_at_call 12
  refine (copyX_calls a1 n1 c1 l1 _ (by omega) (V1.out.up I8.out.1)).mono ?_
  rintro _ w9 ⟨a9, c9, rfl, hv9, hu9⟩
  have I9 := hide (I8.out.up hu9)
  have V9 := hide hv9
  clear hv9 hu9 I8
  go_wp2_with fail
  go_at_call 11
  by_cases hA : l1 = l0 ∨ l1 = S
  · have hT : T6 l1 ≠ [] ∧ (3 : Int) ∉ T6 l1 := by
      rcases hA with rfl | rfl
      · rw [t6.out.1]; decide
      · rw [t6.out.2.1]; decide
    have hb : (decide (l0 = l1) || decide (S = l1)) = true := by
      rcases hA with rfl | rfl
      · simp
      · simp
    refine (insX_not I9.out a9 n1 c9 l1 3 G1.out V9.out (.inr ⟨hT.2, hT.1, rfl⟩)).mono ?_
    rintro _ w10 ⟨rfl, hu10⟩
    rw [if_neg hT.2]
    have I10 := hide (I9.out.up hu10)
    have h3 : Hid (decide ((3 : Int) ∈ T6 l1) = false) := decide_eq_false hT.2
    have h1 : Hid (decide ((1 : Int) ∈ T6 l0) = true) := decide_eq_true (by rw [t6.out.1]; decide)
    have h2 : Hid (decide ((2 : Int) ∈ T6 l0) = false) := decide_eq_false (by rw [t6.out.1]; decide)
    clear hu10 I9 V9 hA hT
    --R4
    cases hx : decide (l0 = l1) <;> cases hy : decide (S = l1) <;> rw [hx, hy] at hb <;> first | (exact absurd hb (by decide)) | skip
    all_goals
      clear hb
      have tk1 : True := trivial
      have tk2 : True := trivial
      have tk3 : True := trivial
      go_wp2_with fail
      go_at_call 17
      refine (hasX_calls I10.out a0 n0 c0 l0 1 G0.out (V0.out.up I10.out.1)).mono ?_
      rintro _ w11 ⟨rfl, hu11⟩
      rw [h1.out]
      have I11 := hide (I10.out.up hu11)
      clear hu11
      go_wp2_with fail
      go_at_call 17
      refine (hasX_calls I11.out a0 n0 c0 l0 2 G0.out (V0.out.up I11.out.1)).mono ?_
      rintro _ w12 ⟨rfl, hu12⟩
      rw [h2.out]
      have I12 := hide (I11.out.up hu12)
      clear hu12
      go_wp2_with fail
      go_at_call 17
      refine (hasX_calls I12.out a1 n1 c1 l1 3 G1.out (V1.out.up I12.out.1)).mono ?_
      rintro _ w13 ⟨rfl, hu13⟩
      rw [h3.out]
      have I13 := hide (I12.out.up hu13)
      clear hu13
      go_wp2
      go_ret
      exact ⟨rfl, I13.out.1⟩
  · have hA1 : l1 ≠ l0 := fun e => hA (.inl e)
    have hA2 : l1 ≠ S := fun e => hA (.inr e)
    have hx : decide (l0 = l1) = false := decide_eq_false (fun e => hA1 e.symm)
    have hy : decide (S = l1) = false := decide_eq_false (fun e => hA2 e.symm)
    refine (insX_new I9.out a9 n1 c9 l1 3 G1.out V9.out (t6.out.2.2 l1 hA1 hA2) (by omega) (by omega)).mono ?_
    rintro _ w10 ⟨rfl, hi10⟩
    obtain ⟨T10, hT10⟩ : ∃ T, T = setT T6 l1 [3] := ⟨_, rfl⟩
    rw [← hT10] at hi10
    have e1 : T10 l1 = [3] := by rw [hT10]; exact setT_same _ _ _
    have e2 : T10 l0 = [1] := by rw [hT10, setT_other _ _ (fun e => hA1 e.symm)]; exact t6.out.1
    have h3 : Hid (decide ((3 : Int) ∈ T10 l1) = true) := decide_eq_true (by rw [e1]; decide)
    have h1 : Hid (decide ((1 : Int) ∈ T10 l0) = true) := decide_eq_true (by rw [e2]; decide)
    have h2 : Hid (decide ((2 : Int) ∈ T10 l0) = false) := decide_eq_false (by rw [e2]; decide)
    have I10 := hide hi10
    clear hi10 I9 V9 hA hA1 hA2 hT10 e1 e2
    rw [hx, hy]
    --R5
    go_wp2_with fail
    go_at_call 17
    refine (hasX_calls I10.out a0 n0 c0 l0 1 G0.out (V0.out.up I10.out.1)).mono ?_
    rintro _ w11 ⟨rfl, hu11⟩
    rw [h1.out]
    have I11 := hide (I10.out.up hu11)
    clear hu11
    go_wp2_with fail
    go_at_call 17
    refine (hasX_calls I11.out a0 n0 c0 l0 2 G0.out (V0.out.up I11.out.1)).mono ?_
    rintro _ w12 ⟨rfl, hu12⟩
    rw [h2.out]
    have I12 := hide (I11.out.up hu12)
    clear hu12
    go_wp2_with fail
    go_at_call 17
    refine (hasX_calls I12.out a1 n1 c1 l1 3 G1.out (V1.out.up I12.out.1)).mono ?_
    rintro _ w13 ⟨rfl, hu13⟩
    rw [h3.out]
    have I13 := hide (I12.out.up hu13)
    clear hu13
    go_wp2
    go_ret
    exact ⟨rfl, I13.out.1⟩

set_option maxHeartbeats 4000000 in
theorem hashRows_all (a0 a1 : Option Addr) (n0 n1 c0 c1 : Nat) (l0 l1 : List VT) (w : World) (hn0 : n0 ≤ maxLen) (hn1 : n1 ≤ maxLen) (hc0 : n0 ≤ c0) (v0 : Vals w a0 n0 l0) (v1 : Vals w a1 n1 l1) :
    Calls Try.prog 6 #[.slice a0 n0 c0, .slice a1 n1 c1] w fun e w' => e = .returned (.bool true) ∧ Up w w' := by
  by_cases h0 : fewB l0 5 = true
  · by_cases h1 : fewB l1 5 = true
    · by_cases hne : n0 = 0
      · have V0 := hide v0
        have V1 := hide v1
        have H0 := hide h0
        have H1 := hide h1
        have e1 : ((n0 : Int) == 0) = true := by simp; omega
        clear v0 v1 h0 h1
        replace hne := hide hne
        go_enter Try.func6, Try.ntmps6
        go_wp2_with fail
        go_at_call 7
        refine (known_calls _).mono ?_
        rintro _ w1 ⟨rfl, hu1⟩
        have U1 := hide hu1
        clear hu1
        go_wp2_with fail
        go_at_call 9
        refine (few_calls a0 n0 c0 l0 5 _ hn0 (V0.out.up U1.out)).mono ?_
        rintro _ w2 ⟨rfl, hw2⟩
        obtain rfl : w1 = w2 := hw2.symm
        rw [H0.out]
        clear hw2
        go_wp2_with fail
        go_at_call 9
        refine (few_calls a1 n1 c1 l1 5 _ hn1 (V1.out.up U1.out)).mono ?_
        rintro _ w2 ⟨rfl, hw2⟩
        obtain rfl : w1 = w2 := hw2.symm
        rw [H1.out]
        clear hw2
        go_wp2
        go_ret
        exact ⟨rfl, U1.out⟩
      · exact hashRows_main a0 a1 n0 n1 c0 c1 l0 l1 w hn0 hn1 hc0 v0 v1 h0 h1 hne
    · have V0 := hide v0
      have V1 := hide v1
      have H0 := hide h0
      have H1 := hide (show fewB l1 5 = false by simpa using h1)
      clear v0 v1 h0 h1
      go_enter Try.func6, Try.ntmps6
      go_wp2_with fail
      go_at_call 7
      refine (known_calls _).mono ?_
      rintro _ w1 ⟨rfl, hu1⟩
      have U1 := hide hu1
      clear hu1
      go_wp2_with fail
      go_at_call 9
      refine (few_calls a0 n0 c0 l0 5 _ hn0 (V0.out.up U1.out)).mono ?_
      rintro _ w2 ⟨rfl, hw2⟩
      obtain rfl : w1 = w2 := hw2.symm
      rw [H0.out]
      clear hw2
      go_wp2_with fail
      go_at_call 9
      refine (few_calls a1 n1 c1 l1 5 _ hn1 (V1.out.up U1.out)).mono ?_
      rintro _ w2 ⟨rfl, hw2⟩
      obtain rfl : w1 = w2 := hw2.symm
      rw [H1.out]
      clear hw2
      go_wp2
      go_ret
      exact ⟨rfl, U1.out⟩
  · have V0 := hide v0
    have H0 := hide (show fewB l0 5 = false by simpa using h0)
    clear v0 v1 h0
    go_enter Try.func6, Try.ntmps6
    go_wp2_with fail
    go_at_call 7
    refine (known_calls _).mono ?_
    rintro _ w1 ⟨rfl, hu1⟩
    have U1 := hide hu1
    clear hu1
    go_wp2_with fail
    go_at_call 9
    refine (few_calls a0 n0 c0 l0 5 _ hn0 (V0.out.up U1.out)).mono ?_
    rintro _ w2 ⟨rfl, hw2⟩
    obtain rfl : w1 = w2 := hw2.symm
    rw [H0.out]
    clear hw2
    go_wp2
    go_ret
    exact ⟨rfl, U1.out⟩

end Go.Proofs.Ytofpakpbbpcalaa

/-
  TreeCosts of rialtolaw11, as its text runs.
-/
import Derived.Test.YtcaccbjolgjmkaaTrLog
namespace Go.Proofs.Ytcaccbjolgjmkaa
open Go.ChangeShapes Go.WideShapes Go.ChangeAt Go.RowKit
set_option linter.unusedVariables false
set_option maxRecDepth 100000
attribute [local go_sem ↓] Go.wp_at_zero Go.wp_at_succ

theorem idx3_0 (a b c : Value) (W : World) : (Instr.index 44 (.agg #[a, b, c]) (.int .u8 0)).run Try.prog W = .ok a W := by kernel_rfl
theorem idx3_1 (a b c : Value) (W : World) : (Instr.index 44 (.agg #[a, b, c]) (.int .u8 1)).run Try.prog W = .ok b W := by kernel_rfl
theorem idx3_2 (a b c : Value) (W : World) : (Instr.index 44 (.agg #[a, b, c]) (.int .u8 2)).run Try.prog W = .ok c W := by kernel_rfl
/-- What holds from round to round. -/
def CosA (w : World) (T i : Nat) (wr : World) : Prop := ∃ (xs : List Int) (h n : Nat), TrI wr T xs h n ∧ xs.length = i ∧ n ≤ 20 * i ∧ Up w wr
def CosB (w : World) (T k i : Nat) (wr : World) : Prop := ∃ (xs : List Int) (h n : Nat), TrI wr T xs h n ∧ xs.length = i ∧ n ≤ 20 * k + 20 * (k - i) ∧ Up w wr
set_option maxHeartbeats 8000000 in
theorem treeCosts_all (a0 a1 : Int) (a2 : Bool) (w : World) (h0 : 0 ≤ a0 ∧ a0 ≤ 255) (h1 : 0 ≤ a1 ∧ a1 ≤ 255) :
    Calls Try.prog 5 #[.int .u8 a0, .int .u8 a1, .bool a2] w fun e w' => e = .returned (.bool true) ∧ Up w w' := by
  obtain ⟨k, rfl⟩ : ∃ k : Nat, a0 = (k : Int) := ⟨a0.toNat, by omega⟩
  have hk : k ≤ 255 := by omega
  have ek : IntKind.i64.wrap (k : Int) = (k : Int) := by rw [IntKind.wrap_i64]; omega
  obtain ⟨r1, hr1⟩ : ∃ r : Int, r = a1 % 3 := ⟨_, rfl⟩
  obtain ⟨s1, hs1⟩ : ∃ s : Int, s = a1 / 3 := ⟨_, rfl⟩
  obtain ⟨r2, hr2⟩ : ∃ r : Int, r = s1 % 3 := ⟨_, rfl⟩
  have hr1' : r1 = 0 ∨ r1 = 1 ∨ r1 = 2 := by omega
  have hr2' : r2 = 0 ∨ r2 = 1 ∨ r2 = 2 := by omega
  have m1 : a1 % 3 = r1 := hr1.symm
  have m2 : a1.tmod 3 = r1 := by rw [Int.tmod_eq_emod_of_nonneg h1.1]; exact m1
  have d1 : a1 / 3 = s1 := hs1.symm
  have d2 : a1.tdiv 3 = s1 := by rw [Int.tdiv_eq_ediv_of_nonneg h1.1]; exact d1
  have hs0 : 0 ≤ s1 ∧ s1 ≤ 255 := by omega
  have m3 : s1 % 3 = r2 := hr2.symm
  have m4 : s1.tmod 3 = r2 := by rw [Int.tmod_eq_emod_of_nonneg hs0.1]; exact m3
  have w1 : IntKind.u8.wrap r1 = r1 := by rcases hr1' with h | h | h <;> rw [h] <;> rfl
  have w2 : IntKind.u8.wrap r2 = r2 := by rcases hr2' with h | h | h <;> rw [h] <;> rfl
  have w3 : IntKind.u8.wrap s1 = s1 := by
    have : ∀ x : Int, 0 ≤ x ∧ x ≤ 255 → IntKind.u8.wrap x = x := fun x hx => by simp [IntKind.wrap, IntKind.signed, IntKind.bits]; omega
    exact this s1 hs0
  have HR1 := hide hr1'
  have HR2 := hide hr2'
  clear hr1 hs1 hr2 hr1' hr2' h1 hs0
  go_enter Try.func5, Try.ntmps5
  go_wp2_with fail
  refine (known11_calls w).mono ?_
  rintro _ wk ⟨rfl, huk⟩
  replace huk := hide huk
  dsimp only
  go_wp2_with fail
  refine (tnewI_calls wk).mono ?_
  rintro _ w0 ⟨T, rfl, t0, hTw, hu0⟩
  have hT : w.heap.size ≤ T := Nat.le_trans huk.out.size hTw
  have HA0 : Hid (CosA w T 0 w0) := ⟨[], 0, 0, t0, rfl, Nat.le_refl _, huk.out.trans hu0⟩
  clear t0 hu0
  dsimp only
  go_wp2_with fail
  go_loopw [9] (fun iv wr => ∃ i : Nat, i ≤ k ∧ iv = .int .i64 i ∧ Hid (CosA w T i wr)) (fun iv _ => k - (intOf iv).toNat)
  case atStart => exact ⟨0, Nat.zero_le _, rfl, HA0⟩
  case round =>
    obtain ⟨i, hi, rfl, hA⟩ := hrel
    by_cases hlt : i < k
    · have hlt' : (i : Int) < (k : Int) := by omega
      obtain ⟨xs, h, n, t, hxl, hn, hu⟩ := hA.out
      obtain ⟨q, hq⟩ : ∃ q, q = i / 2 := ⟨_, rfl⟩
      have hqi : q ≤ i := by rw [hq]; exact Nat.div_le_self _ _
      have q1 : (i : Int) / 2 = (q : Int) := by omega
      have q2 : (i : Int).tdiv 2 = (q : Int) := by rw [Int.tdiv_eq_ediv_of_nonneg (by omega)]; exact q1
      have q3 : i / 2 = q := hq.symm
      have q4 : IntKind.i64.wrap (q : Int) = (q : Int) := by rw [IntKind.wrap_i64]; omega
      have q5 : wrap64 (q : Int) = (q : Int) := wrap64_id _ (by omega)
      have e1 : IntKind.i64.wrap ((i : Int) + 1) = (i : Int) + 1 := by rw [IntKind.wrap_i64]; omega
      have HT := hide t
      have HXL := hide hxl
      have HU := hide hu
      have hh : h ≤ 8 := t.hle (by omega)
      have HLG := hide t.logs.1
      clear hA t hxl hu hq
      have key : ∀ p : Nat, p ≤ i → Hid (∀ x : Int, Calls Try.prog 12 #[.pointer (some ⟨T, 0, none⟩), .int .i64 p, .int .i64 x] wr fun e w' => e = .returned (.int .i64 0) ∧ TrDoneI T n h (insL x xs p) wr w') := fun p hp x => insertAtI_ok T h n p x xs wr HT.out (by rw [HXL.out]; exact hp) (by rw [HXL.out]; omega) (by omega)
      have hkey : ∃ p : Nat, p ≤ i ∧ ∀ W, (Instr.index 44 (.agg #[.int .i64 0, .int .i64 i, .int .i64 q]) (.int .u8 r1)).run Try.prog W = .ok (.int .i64 p) W := by
        rcases HR1.out with h | h | h
        · exact ⟨0, Nat.zero_le _, fun W => by rw [h]; exact idx3_0 _ _ _ W⟩
        · exact ⟨i, Nat.le_refl _, fun W => by rw [h]; exact idx3_1 _ _ _ W⟩
        · exact ⟨q, hqi, fun W => by rw [h]; exact idx3_2 _ _ _ W⟩
      obtain ⟨p, hp, hidx⟩ := hkey
      have hb1 := bitsN_le (m := i + 1) (by omega)
      have hb2 := bitsN_le (m := i + 2) (by omega)
      go_wp2_with fail
      refine (twritesI_calls T h n xs wr HT.out).mono ?_
      rintro _ w1 ⟨rfl, hw1⟩
      obtain rfl : wr = w1 := hw1.symm
      dsimp only
      go_wp2_with fail
      refine ((key p hp).out (i : Int)).mono ?_
      rintro _ w2 ⟨rfl, h2, k2, t2, hk1, hk2, hc2⟩
      have hu2 := hide (up_of_tree HU.out hT hc2)
      have hl2 : (insL (i : Int) xs p).length = i + 1 := by rw [insL_len _ _ _ (by rw [HXL.out]; exact hp), HXL.out]
      have hne2 : insL (i : Int) xs p ≠ [] := fun e => by rw [e] at hl2; simp at hl2
      generalize insL (i : Int) xs p = ys at t2 hl2 hne2
      have T2 := hide t2
      have HL2 := hide hl2
      have HNE := hide hne2
      have c1 : decide (((n + k2 : Nat) : Int) ≤ (n : Int)) = false := decide_eq_false (by omega)
      have c1' : ¬ (((n + k2 : Nat) : Int) ≤ (n : Int)) := by omega
      have c2 : IntKind.i64.wrap (((n + k2 : Nat) : Int) - (n : Int)) = (k2 : Int) := by rw [IntKind.wrap_i64]; omega
      have hcost : k2 ≤ 8 * bitsN (i + 1) := by have := HLG.out; rw [HXL.out] at this; omega
      have HC2 := hide hcost
      obtain ⟨m2, hm2⟩ : ∃ m, m = n + k2 := ⟨_, rfl⟩
      rw [← hm2] at c1 c1' c2 T2
      have hm20 : m2 ≤ 20 * (i + 1) := by omega
      clear t2 hc2 hl2 hne2 hcost hm2 key hidx
      dsimp only
      go_wp2_with fail
      refine (twritesI_calls T h2 _ ys w2 T2.out).mono ?_
      rintro _ w3 ⟨rfl, hw3⟩
      obtain rfl : w2 = w3 := hw3.symm
      dsimp only
      go_wp2_with fail
      refine (twritesI_calls T h2 _ ys w2 T2.out).mono ?_
      rintro _ w3 ⟨rfl, hw3⟩
      obtain rfl : w2 = w3 := hw3.symm
      dsimp only
      go_wp2_with fail
      refine (cost_calls i k2 (by omega) HC2.out w2).mono ?_
      rintro _ w3 ⟨rfl, hw3⟩
      obtain rfl : w2 = w3 := hw3.symm
      dsimp only
      go_wp2_with fail
      refine (theight_any T h2 _ ys w2 T2.out (by rw [HL2.out]; omega)).mono ?_
      rintro _ w4 ⟨qh, rfl, -, hqh, hqh2, hu4⟩
      rw [HL2.out] at hqh
      have T4 := hide (T2.out.up hu4)
      have hu4' := hide (hu2.out.trans hu4)
      have hlog : Hid (Calls Try.prog 20 #[.int .i64 ((i : Int) + 1)] w4 fun e w' => e = .returned (.int .i64 (bitsN (i + 2) : Nat)) ∧ w' = w4) := by
        have := logs_calls (i + 1) (by omega) w4
        exact this
      obtain ⟨bb, hbb⟩ : ∃ b, b = bitsN (i + 2) := ⟨_, rfl⟩
      have hqb : qh ≤ bb := by rw [hbb]; exact hqh
      rw [← hbb] at hlog
      have c3 : decide ((qh : Int) > (bb : Int)) = false := decide_eq_false (by omega)
      have c3' : ¬ ((qh : Int) > (bb : Int)) := by omega
      have c3'' : decide (bb < qh) = false := decide_eq_false (by omega)
      clear hbb hqh hu4
      dsimp only
      go_wp2_with fail
      refine hlog.out.mono ?_
      rintro _ w5 ⟨rfl, hw5⟩
      obtain rfl : w4 = w5 := hw5.symm
      dsimp only
      go_wp2
      go_roundw
      case rel => exact ⟨i + 1, by omega, by first | rfl | congr 1, ys, h2, m2, T4.out, HL2.out, hm20, hu4'.out⟩
      case measure => simp [intOf]; omega
    · obtain rfl : k = i := by omega
      have hlt' : ¬ (k : Int) < (k : Int) := by omega
      have HB0 : Hid (CosB w T k k wr) := by
        obtain ⟨xs, h, n, t, hxl, hn, hu⟩ := hA.out
        exact ⟨xs, h, n, t, hxl, by omega, hu⟩
      clear hA
      obtain ⟨W0, rfl⟩ : ∃ W0, W0 = wr := ⟨_, rfl⟩
      cases a2 with
      | false =>
        go_wp2_with fail
        refine wp_loop_rounds 1 ?_
        rw [rounds_succ]
        go_wp2
        go_ret
        obtain ⟨_, _, _, _, _, _, hu⟩ := HB0.out
        exact ⟨rfl, hu⟩
      | true =>
        go_wp2_with fail
        go_loopw [12] (fun iv wr => ∃ i : Nat, i ≤ k ∧ iv = .int .i64 i ∧ Hid (CosB w T k i wr)) (fun iv _ => (intOf iv).toNat)
        case atStart => exact ⟨k, Nat.le_refl _, rfl, HB0⟩
        case round =>
          obtain ⟨i, hi, rfl, hB⟩ := hrel
          by_cases hi0 : i = 0
          · have g1 : decide ((i : Int) > 0) = false := decide_eq_false (by omega)
            have g2 : ¬ ((i : Int) > 0) := by omega
            have g3 : decide (0 < i) = false := decide_eq_false (by omega)
            obtain ⟨xs, h, n, t, hxl, hn, hu⟩ := hB.out
            have hx0 : xs = [] := List.length_eq_zero_iff.1 (by omega)
            subst hx0
            have HT := hide t
            have HU := hide hu
            clear hB t hxl hu hi0
            go_wp2_with fail
            refine (theightI_zero T h n wr HT.out).mono ?_
            rintro _ w1 ⟨rfl, hu1⟩
            have hu1' := hide (HU.out.trans hu1)
            clear hu1
            dsimp only
            go_wp2
            go_ret
            exact ⟨rfl, hu1'.out⟩
          · have g1 : decide ((i : Int) > 0) = true := decide_eq_true (by omega)
            have g2 : (i : Int) > 0 := by omega
            have g3 : decide (0 < i) = true := decide_eq_true (by omega)
            obtain ⟨xs, h, n, t, hxl, hn, hu⟩ := hB.out
            obtain ⟨q, hq⟩ : ∃ q, q = i / 2 := ⟨_, rfl⟩
            have hqi : q < i := by rw [hq]; exact Nat.div_lt_self (by omega) (by decide)
            obtain ⟨im, him⟩ : ∃ im, im = i - 1 := ⟨_, rfl⟩
            have him1 : im + 1 = i := by omega
            have q1 : (i : Int) / 2 = (q : Int) := by omega
            have q2 : (i : Int).tdiv 2 = (q : Int) := by rw [Int.tdiv_eq_ediv_of_nonneg (by omega)]; exact q1
            have q3 : i / 2 = q := hq.symm
            have q4 : IntKind.i64.wrap (q : Int) = (q : Int) := by rw [IntKind.wrap_i64]; omega
            have q5 : wrap64 (q : Int) = (q : Int) := wrap64_id _ (by omega)
            have e1 : IntKind.i64.wrap ((i : Int) - 1) = (im : Int) := by rw [IntKind.wrap_i64]; omega
            have e2 : (i : Int) - 1 = (im : Int) := by omega
            have HT := hide t
            have HXL := hide hxl
            have HU := hide hu
            have hh : h ≤ 8 := t.hle (by rw [hxl]; exact Nat.le_trans hi (Nat.le_trans hk (by decide)))
            have HLG := hide t.logs.1
            have HIM := hide him1
            clear hB t hxl hu hq him him1
            have key : ∀ p : Nat, p < i → Hid (Calls Try.prog 13 #[.pointer (some ⟨T, 0, none⟩), .int .i64 p] wr fun e w' => e = .returned (.tuple #[.int .i64 (xs.getD p 0), .int .i64 0]) ∧ TrDoneI T n h (delL xs p) wr w') := fun p hp => eraseAtI_ok T h n p 0 xs wr HT.out (by rw [HXL.out]; exact hp) (by rw [HXL.out]; exact Nat.le_trans hi (Nat.le_trans hk (by decide))) (by omega)
            have hkey : ∃ p : Nat, p < i ∧ ∀ W, (Instr.index 44 (.agg #[.int .i64 0, .int .i64 im, .int .i64 q]) (.int .u8 r2)).run Try.prog W = .ok (.int .i64 p) W := by
              rcases HR2.out with h | h | h
              · exact ⟨0, by omega, fun W => by rw [h]; exact idx3_0 _ _ _ W⟩
              · exact ⟨im, by have := HIM.out; omega, fun W => by rw [h]; exact idx3_1 _ _ _ W⟩
              · exact ⟨q, hqi, fun W => by rw [h]; exact idx3_2 _ _ _ W⟩
            obtain ⟨p, hp, hidx⟩ := hkey
            go_wp2_with fail
            refine (twritesI_calls T h n xs wr HT.out).mono ?_
            rintro _ w1 ⟨rfl, hw1⟩
            obtain rfl : wr = w1 := hw1.symm
            dsimp only
            go_wp2_with fail
            refine (key p hp).out.mono ?_
            rintro _ w2 ⟨rfl, h2, k2, t2, hk1, hk2, hc2⟩
            have hu2 := hide (up_of_tree HU.out hT hc2)
            have hl2 : (delL xs p).length = im := by have := delL_len xs p (by rw [HXL.out]; exact hp); have := HXL.out; have := HIM.out; omega
            generalize delL xs p = ys at t2 hl2
            generalize xs.getD p 0 = out at *
            have T2 := hide t2
            have HL2 := hide hl2
            have c1 : decide (((n + k2 : Nat) : Int) ≤ (n : Int)) = false := decide_eq_false (by omega)
            have c1' : ¬ (((n + k2 : Nat) : Int) ≤ (n : Int)) := by omega
            have c2 : IntKind.i64.wrap (((n + k2 : Nat) : Int) - (n : Int)) = (k2 : Int) := by rw [IntKind.wrap_i64]; omega
            have hcost : k2 ≤ 8 * bitsN (i + 1) := by have := HLG.out; rw [HXL.out] at this; omega
            have HC2 := hide hcost
            obtain ⟨m2, hm2⟩ : ∃ m, m = n + k2 := ⟨_, rfl⟩
            rw [← hm2] at c1 c1' c2 T2
            have hm20 : m2 ≤ 20 * k + 20 * (k - im) := by have := HIM.out; omega
            have c4 : ((im : Int) != (im : Int)) = false := by simp
            clear t2 hc2 hl2 hcost hm2 key hidx
            dsimp only
            go_wp2_with fail
            refine (twritesI_calls T h2 _ ys w2 T2.out).mono ?_
            rintro _ w3 ⟨rfl, hw3⟩
            obtain rfl : w2 = w3 := hw3.symm
            dsimp only
            go_wp2_with fail
            refine (twritesI_calls T h2 _ ys w2 T2.out).mono ?_
            rintro _ w3 ⟨rfl, hw3⟩
            obtain rfl : w2 = w3 := hw3.symm
            dsimp only
            go_wp2_with fail
            refine (cost_calls i k2 (by omega) HC2.out w2).mono ?_
            rintro _ w3 ⟨rfl, hw3⟩
            obtain rfl : w2 = w3 := hw3.symm
            dsimp only
            go_wp2_with fail
            have hlen : Hid (Calls Try.prog 18 #[.pointer (some ⟨T, 0, none⟩)] w2 fun e w' => e = .returned (.int .i64 im) ∧ w' = w2) := by
              have := tlenI_calls T h2 _ ys w2 T2.out
              rw [HL2.out] at this
              exact this
            refine hlen.out.mono ?_
            rintro _ w3 ⟨rfl, hw3⟩
            obtain rfl : w2 = w3 := hw3.symm
            dsimp only
            go_wp2_with fail
            refine (theight_any T h2 _ ys w2 T2.out (by rw [HL2.out]; have := HIM.out; omega)).mono ?_
            rintro _ w4 ⟨qh, rfl, -, hqh, hqh2, hu4⟩
            rw [HL2.out] at hqh
            have T4 := hide (T2.out.up hu4)
            have hu4' := hide (hu2.out.trans hu4)
            have hlog : Hid (Calls Try.prog 20 #[.int .i64 im] w4 fun e w' => e = .returned (.int .i64 (bitsN (im + 1) : Nat)) ∧ w' = w4) := logs_calls im (by have := HIM.out; omega) w4
            obtain ⟨bb, hbb⟩ : ∃ b, b = bitsN (im + 1) := ⟨_, rfl⟩
            have hqb : qh ≤ bb := by rw [hbb]; exact hqh
            rw [← hbb] at hlog
            have c3 : decide ((qh : Int) > (bb : Int)) = false := decide_eq_false (by omega)
            have c3' : ¬ ((qh : Int) > (bb : Int)) := by omega
            have c3'' : decide (bb < qh) = false := decide_eq_false (by omega)
            clear hbb hqh hu4 hlen
            dsimp only
            go_wp2_with fail
            refine hlog.out.mono ?_
            rintro _ w5 ⟨rfl, hw5⟩
            obtain rfl : w4 = w5 := hw5.symm
            dsimp only
            go_wp2
            go_roundw
            case rel => exact ⟨im, by have := HIM.out; omega, by first | rfl | congr 1, ys, h2, m2, T4.out, HL2.out, hm20, hu4'.out⟩
            case measure => simp [intOf]; have := HIM.out; omega
end Go.Proofs.Ytcaccbjolgjmkaa

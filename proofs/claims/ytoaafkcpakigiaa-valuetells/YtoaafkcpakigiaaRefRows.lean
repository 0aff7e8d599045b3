/-
  What the document's own Rows and Hash (package rialtoref2) answer of every row of values, as their text runs.
-/
import Derived.Test.YtoaafkcpakigiaaRefVals
import Derived.Test.YtoaafkcpakigiaaValHash
namespace Go.Proofs.Ytoaafkcpakigiaa
open Go.ChangeShapes Go.WideShapes Go.ChangeAt Go.RowKit
attribute [local go_sem ↓] Go.wp_at_zero Go.wp_at_succ
attribute [local go_sem] run_store_float

theorem sgn_len (x y : Nat) (h : ¬ x = y) : sgnB (decide (x < y)) = cmpI x y := by
  unfold sgnB cmpI
  by_cases hlt : x < y
  · rw [decide_eq_true hlt, if_pos rfl, if_pos (by omega)]
  · rw [decide_eq_false hlt, if_neg Bool.false_ne_true, if_neg (by omega), if_pos (by omega)]

theorem and_byte (n : Nat) (hn : n < whole) : bits .and .u64 (n : Int) 255 = ((n % 256 : Nat) : Int) := by
  have h := u64_and_nat n 255 hn (by decide)
  have e : ((255 : Nat) : Int) = 255 := rfl
  rw [e] at h
  rw [h]
  have : n &&& 255 = n % 2 ^ 8 := Nat.and_two_pow_sub_one_eq_mod n 8
  rw [this]

theorem eight_calls (h n : Nat) (hh : h < whole) (hn : n < whole) (w : World) :
    Calls Try.prog 38 #[.int .u64 (h : Int), .int .u64 (n : Int)] w fun e w' => e = .returned (.int .u64 (hw 8 h n : Int)) ∧ w' = w := by
  go_enter Try.func38, Try.ntmps38
  go_wp2_with fail
  go_loop [0, 1, 5] (fun x y i => ∃ (k h' n' : Nat), k ≤ 8 ∧ i = .int .i64 k ∧ x = .int .u64 (h' : Int) ∧ y = .int .u64 (n' : Int) ∧ h' < whole ∧ n' < whole ∧ Hid (hw (8 - k) h' n' = hw 8 h n)) (fun _ _ i => 8 - (intOf i).toNat)
  case atStart => exact ⟨0, h, n, by omega, rfl, rfl, rfl, hh, hn, rfl⟩
  case round =>
    obtain ⟨k, h', n', hk, rfl, rfl, rfl, hh', hn', he⟩ := hrel
    by_cases hlt : k < 8
    · have hw8 := and_byte n' hn'
      obtain ⟨b, hb'⟩ : ∃ b, b = n' % 256 := ⟨_, rfl⟩
      rw [← hb'] at hw8
      have hb2 : b < 256 := by omega
      have hbw := hb_wrap h' b hh' hb2
      replace hb' := hide hb'
      go_wp2
      refine ⟨⟨k + 1, hb h' b, n' / 256, by omega, by go_num, rfl, congrArg (Value.int .u64) (by omega), hb_lt _ _, by omega, ?_⟩, by simp [intOf]; omega⟩
      have e : 8 - k = (8 - (k + 1)) + 1 := by omega
      have h2 := he.out
      rw [e, hw, ← hb'.out] at h2
      exact h2
    · obtain rfl : k = 8 := by omega
      go_wp2
      go_ret
      exact ⟨congrArg (fun n : Nat => Ending.returned (Value.int .u64 (n : Int))) he.out, rfl⟩

/-- Of no values. -/
theorem rvhash_none (a : Option Addr) (c : Nat) (w : World) :
    Calls Try.prog 22 #[.slice a 0 c] w fun e w' => e = .returned (.int .u64 (14695981039346656037 : Nat)) ∧ Up w w' := by
  go_enter Try.func22, Try.ntmps22
  go_wp2_with fail
  refine wp_loop_rounds 1 ?_
  rw [rounds_succ]
  go_wp2
  go_ret
  exact ⟨rfl, Up.refl _⟩

set_option maxHeartbeats 4000000 in
theorem rvhash_some (b off n c : Nat) (l : List VT) (w : World) (hl : l.length = n) (hn : n ≤ maxLen) (hg : ∀ i, Fits (l.getD i zeroT)) (hx : ∀ i, i < n → At w b (off + i * 4) (l.getD i zeroT)) :
    Calls Try.prog 22 #[.slice (some ⟨b, off, none⟩) n c] w fun e w' => e = .returned (.int .u64 (hashV l : Int)) ∧ Up w w' := by
  have H := hide hx
  have G := hide hg
  have HL := hide hl
  clear hx hg hl
  unfold maxLen at hn
  go_enter Try.func22, Try.ntmps22
  go_wp2_with fail
  go_loop [3, 4] (fun x i => ∃ (k h : Nat), k ≤ n ∧ i = .int .i64 k ∧ x = .int .u64 (h : Int) ∧ h < whole ∧ Hid ((l.drop k).foldl hv h = hashV l)) (fun _ i => n - (intOf i).toNat)
  case atStart => exact ⟨0, 14695981039346656037, Nat.zero_le _, rfl, rfl, by simp [whole], rfl⟩
  case round =>
    obtain ⟨k, h, hk, rfl, rfl, hh, he⟩ := hrel
    by_cases hlt : k < n
    · obtain ⟨l0, l1, l2, l3⟩ := H.out k hlt
      have hfit := G.out k
      obtain ⟨⟨q, m, s, f⟩, hx⟩ : ∃ x, x = l.getD k zeroT := ⟨_, rfl⟩
      rw [← hx] at l0 l1 l2 l3 hfit
      simp only at l0 l1 l2 l3
      obtain ⟨_, _, _, _, hsz, hf⟩ := hfit
      simp only at hsz hf
      unfold maxLen at hsz
      replace hx := hide hx
      have i0 : (0 : Int) ≤ (k : Int) := by omega
      have i1 : (k : Int) < (n : Int) := by omega
      obtain ⟨qb, hqb⟩ : ∃ qb : Nat, qb = (q % 256).toNat := ⟨_, rfl⟩
      have eq1 : bits .and .u64 (IntKind.u64.wrap q) 255 = (qb : Int) := by
        have e : IntKind.u64.wrap q = (((q % 18446744073709551616).toNat : Nat) : Int) := by rw [IntKind.wrap_u64]; omega
        rw [e, and_byte _ (by unfold whole; omega), hqb]
        omega
      have eq2 : qb < 256 := by omega
      obtain ⟨mb, hmb⟩ : ∃ mb : Nat, mb = (m % 18446744073709551616).toNat := ⟨_, rfl⟩
      have em1 : IntKind.u64.wrap m = (mb : Int) := by rw [IntKind.wrap_u64]; omega
      have em2 : mb < whole := by unfold whole; omega
      have es2 : s.size < whole := by unfold whole; omega
      have eo2 : ordN f < whole := ordN_lt hf
      have hb0 := hb_wrap h qb hh eq2
      replace hqb := hide hqb
      replace hmb := hide hmb
      have hb1 := hb_lt h qb
      have hb2 := hw_lt 8 (hb h qb) mb hb1
      have hb3 := hw_lt 8 _ s.size hb2
      go_wp2_with (go_at_call 38; refine (eight_calls _ _ (by with_reducible assumption) (by with_reducible assumption) _).mono ?_; rintro _ w1 ⟨rfl, hw1⟩; obtain rfl : w = w1 := hw1.symm)
      go_loop [3, 5] (fun x i => ∃ (j g : Nat), j ≤ s.size ∧ i = .int .i64 j ∧ x = .int .u64 (g : Int) ∧ g < whole ∧ Hid (hs g (s.data.toList.drop j) = hs (hw 8 (hw 8 (hb h qb) mb) s.size) s.data.toList)) (fun _ i => s.size - (intOf i).toNat)
      case atStart => exact ⟨0, _, Nat.zero_le _, rfl, rfl, hb3, rfl⟩
      case round =>
        obtain ⟨j, g, hj, rfl, rfl, hg, hq⟩ := hrel
        by_cases hjs : j < s.size
        · have j0 : (0 : Int) ≤ (j : Int) := by omega
          have j1 : (j : Int) < (s.size : Int) := by omega
          have jb : s[j].toNat < 256 := s[j].toNat_lt
          have jw := hb_wrap g s[j].toNat hg jb
          have hst : hs g (s.data.toList.drop j) = hs (hb g s[j].toNat) (s.data.toList.drop (j + 1)) := by
            rw [drop_byte s j hjs]; rfl
          replace hst := hide hst
          go_wp2
          refine ⟨⟨j + 1, _, by omega, by go_num, rfl, hb_lt _ _, ?_⟩, by simp [intOf]; omega⟩
          exact hst.out.symm.trans hq.out
        · obtain rfl : j = s.size := by omega
          have e : s.data.toList.drop s.size = [] := List.drop_eq_nil_of_le (by rw [Array.length_toList]; exact Nat.le_refl _)
          have hq2 := hq.out
          rw [e] at hq2
          replace hq2 := hide hq2
          have hb4 := hw_lt 8 g (ordN f) hg
          have hstep : (l.drop k).foldl hv h = (l.drop (k + 1)).foldl hv (hw 8 g (ordN f)) := by
            rw [drop_value l k (by rw [HL.out]; exact hlt), List.foldl_cons, ← hx.out]
            have : hv h (q, m, s, f) = hw 8 g (ordN f) := by
              show hw 8 (hs (hw 8 (hw 8 (hb h (q % 256).toNat) (m % 18446744073709551616).toNat) s.size) s.data.toList) (ordN f) = _
              rw [← hqb.out, ← hmb.out, ← hq2.out]; rfl
            rw [this]
          replace hstep := hide hstep
          go_wp2_with (first
            | (go_at_call 39; refine (rorder_calls _ (by with_reducible assumption) _).mono ?_; rintro _ w1 ⟨rfl, hw1⟩; obtain rfl : w = w1 := hw1.symm)
            | (go_at_call 38; refine (eight_calls _ _ (by with_reducible assumption) (by with_reducible assumption) _).mono ?_; rintro _ w1 ⟨rfl, hw1⟩; obtain rfl : w = w1 := hw1.symm))
          refine ⟨⟨k + 1, _, by omega, by go_num, rfl, hb4, hstep.out.symm.trans he.out⟩, by simp [intOf]; omega⟩
    · obtain rfl : k = n := by omega
      have e : l.drop k = [] := List.drop_eq_nil_of_le (by rw [HL.out]; exact Nat.le_refl _)
      have h2 := he.out
      rw [e] at h2
      replace h2 := hide h2
      go_wp2
      go_ret
      exact ⟨congrArg (fun n : Nat => Ending.returned (Value.int .u64 (n : Int))) h2.out, Up.refl _⟩

theorem rvhash_calls (a : Option Addr) (n c : Nat) (l : List VT) (w : World) (hn : n ≤ maxLen) (hv : Vals w a n l) :
    Calls Try.prog 22 #[.slice a n c] w fun e w' => e = .returned (.int .u64 (hashV l : Int)) ∧ Up w w' := by
  obtain ⟨hl, hg, h⟩ := hv
  rcases h with rfl | ⟨b, off, rfl, hx⟩
  · obtain rfl : l = [] := List.length_eq_zero_iff.1 hl
    exact rvhash_none _ _ _
  · exact rvhash_some _ _ _ _ l w hl hn hg hx

end Go.Proofs.Ytoaafkcpakigiaa

/-
  What value.Hash answers of every row of values, as its text runs: the number that the bytes make, one behind the other.
-/
import Derived.Test.YtoaafkcpakigiaaVals
namespace Go.Proofs.Ytoaafkcpakigiaa
open Go.ChangeShapes Go.WideShapes Go.ChangeAt Go.RowKit
attribute [local go_sem ↓] Go.wp_at_zero Go.wp_at_succ
attribute [local go_sem] run_store_float

/-- One byte more. -/
def hb (h b : Nat) : Nat := ((h ^^^ b) * 1099511628211) % whole
theorem hb_lt (h b : Nat) : hb h b < whole := Nat.mod_lt _ (by simp [whole])
/-- So many bytes of a number more, the lowest first. -/
def hw : Nat → Nat → Nat → Nat
  | 0, h, _ => h
  | k + 1, h, n => hw k (hb h (n % 256)) (n / 256)
theorem hw_lt (k : Nat) : ∀ (h n : Nat), h < whole → hw k h n < whole := by
  induction k with
  | zero => intro h n hh; exact hh
  | succ k ih => intro h n _; exact ih _ _ (hb_lt _ _)
/-- A string's bytes more. -/
def hs (h : Nat) (l : List UInt8) : Nat := l.foldl (fun h c => hb h c.toNat) h
theorem hs_lt (l : List UInt8) : ∀ (h : Nat), h < whole → hs h l < whole := by
  induction l with
  | nil => intro h hh; exact hh
  | cons c l ih => intro h _; exact ih _ (hb_lt _ _)
/-- A value more. -/
def hv (h : Nat) (v : VT) : Nat := hw 8 (hs (hw 8 (hw 8 (hb h (v.1 % 256).toNat) (v.2.1 % 18446744073709551616).toNat) v.2.2.1.size) v.2.2.1.data.toList) (ordN v.2.2.2)
theorem hv_lt (h : Nat) (v : VT) : hv h v < whole := hw_lt _ _ _ (hs_lt _ _ (hw_lt _ _ _ (hw_lt _ _ _ (hb_lt _ _))))
/-- A row's number. -/
def hashV (l : List VT) : Nat := l.foldl hv 14695981039346656037

theorem hb_wrap (h b : Nat) (hh : h < whole) (hb' : b < 256) : IntKind.u64.wrap (bits .xor .u64 (h : Int) (b : Int) * 1099511628211) = (hb h b : Int) := by
  rw [u64_xor_nat h b hh (by omega), IntKind.wrap_u64]
  unfold hb whole
  omega

theorem hashByte_calls (h b : Nat) (hh : h < whole) (hb' : b < 256) (w : World) :
    Calls Try.prog 35 #[.int .u64 (h : Int), .int .u8 (b : Int)] w fun e w' => e = .returned (.int .u64 (hb h b : Int)) ∧ w' = w := by
  have he := hb_wrap h b hh hb'
  go_enter Try.func35, Try.ntmps35
  go_wp2
  go_ret
  exact ⟨rfl, rfl⟩

theorem u8_nat (n : Nat) : IntKind.u8.wrap (n : Int) = ((n % 256 : Nat) : Int) := by rw [IntKind.wrap_u8]; omega

theorem hashWord_calls (h n : Nat) (hh : h < whole) (hn : n < whole) (w : World) :
    Calls Try.prog 36 #[.int .u64 (h : Int), .int .u64 (n : Int)] w fun e w' => e = .returned (.int .u64 (hw 8 h n : Int)) ∧ w' = w := by
  go_enter Try.func36, Try.ntmps36
  go_wp2_with fail
  go_loop [0, 1, 5] (fun x y i => ∃ (k h' n' : Nat), k ≤ 8 ∧ i = .int .i64 k ∧ x = .int .u64 (h' : Int) ∧ y = .int .u64 (n' : Int) ∧ h' < whole ∧ n' < whole ∧ Hid (hw (8 - k) h' n' = hw 8 h n)) (fun _ _ i => 8 - (intOf i).toNat)
  case atStart => exact ⟨0, h, n, by omega, rfl, rfl, rfl, hh, hn, rfl⟩
  case round =>
    obtain ⟨k, h', n', hk, rfl, rfl, rfl, hh', hn', he⟩ := hrel
    by_cases hlt : k < 8
    · have hw8 := u8_nat n'
      obtain ⟨b, hb'⟩ : ∃ b, b = n' % 256 := ⟨_, rfl⟩
      rw [← hb'] at hw8
      have hb2 : b < 256 := by omega
      replace hb' := hide hb'
      go_wp2_with (go_at_call 35; refine (hashByte_calls _ _ (by with_reducible assumption) (by with_reducible assumption) _).mono ?_; rintro _ _ ⟨rfl, rfl⟩)
      refine ⟨⟨k + 1, hb h' b, n' / 256, by omega, by go_num, rfl, congrArg (Value.int .u64) (by omega), hb_lt _ _, by omega, ?_⟩, by simp [intOf]; omega⟩
      have e : 8 - k = (8 - (k + 1)) + 1 := by omega
      have h2 := he.out
      rw [e, hw, ← hb'.out] at h2
      exact h2
    · obtain rfl : k = 8 := by omega
      go_wp2
      go_ret
      exact ⟨congrArg (fun n : Nat => Ending.returned (Value.int .u64 (n : Int))) he.out, rfl⟩

theorem drop_byte (s : ByteArray) (j : Nat) (h : j < s.size) : s.data.toList.drop j = s[j] :: s.data.toList.drop (j + 1) := by
  rw [List.drop_eq_getElem_cons (by rw [Array.length_toList]; exact h)]
  rfl
theorem drop_value (l : List VT) (k : Nat) (h : k < l.length) : l.drop k = l.getD k zeroT :: l.drop (k + 1) := by
  rw [List.drop_eq_getElem_cons h, List.getD_eq_getElem?_getD, List.getElem?_eq_getElem h]
  rfl

/-- Of no values. -/
theorem vhash_none (a : Option Addr) (c : Nat) (w : World) :
    Calls Try.prog 21 #[.slice a 0 c] w fun e w' => e = .returned (.int .u64 (14695981039346656037 : Nat)) ∧ Up w w' := by
  go_enter Try.func21, Try.ntmps21
  go_wp2_with fail
  refine wp_loop_rounds 1 ?_
  rw [rounds_succ]
  go_wp2
  go_ret
  exact ⟨rfl, Up.refl _⟩

set_option maxHeartbeats 4000000 in
theorem vhash_some (b off n c : Nat) (l : List VT) (w : World) (hl : l.length = n) (hn : n ≤ maxLen) (hg : ∀ i, Fits (l.getD i zeroT)) (hx : ∀ i, i < n → At w b (off + i * 4) (l.getD i zeroT)) :
    Calls Try.prog 21 #[.slice (some ⟨b, off, none⟩) n c] w fun e w' => e = .returned (.int .u64 (hashV l : Int)) ∧ Up w w' := by
  have H := hide hx
  have G := hide hg
  have HL := hide hl
  clear hx hg hl
  unfold maxLen at hn
  go_enter Try.func21, Try.ntmps21
  go_wp2_with fail
  go_loopw [3, 9] (fun x i wr => ∃ (k h : Nat), k ≤ n ∧ i = .int .i64 k ∧ x = .int .u64 (h : Int) ∧ h < whole ∧ Up w wr ∧ Hid ((l.drop k).foldl hv h = hashV l)) (fun _ i _ => n - (intOf i).toNat)
  case atStart => exact ⟨0, 14695981039346656037, Nat.zero_le _, rfl, rfl, by simp [whole], Up.refl _, rfl⟩
  case round =>
    obtain ⟨k, h, hk, rfl, rfl, hh, hu, he⟩ := hrel
    by_cases hlt : k < n
    · obtain ⟨l0, l1, l2, l3⟩ := (H.out k hlt).up hu
      have hfit := G.out k
      obtain ⟨⟨q, m, s, f⟩, hx⟩ : ∃ x, x = l.getD k zeroT := ⟨_, rfl⟩
      rw [← hx] at l0 l1 l2 l3 hfit
      simp only at l0 l1 l2 l3
      obtain ⟨_, _, _, _, hsz, hf⟩ := hfit
      simp only at hsz hf
      unfold maxLen at hsz
      replace hx := hide hx
      replace hu := hide hu
      have i0 : (0 : Int) ≤ (k : Int) := by omega
      have i1 : (k : Int) < (n : Int) := by omega
      obtain ⟨W, hW⟩ : ∃ W, wr.alloc (.cells #[.int .i64 q, .int .i64 m, .string s, .float .f64 f] 24) = W := ⟨_, rfl⟩
      have c0 : W.cell? ⟨wr.heap.size, 0, none⟩ = some (.int .i64 q) := by subst hW; simp
      have c1 : W.cell? ⟨wr.heap.size, 1, none⟩ = some (.int .i64 m) := by subst hW; simp
      have c2 : W.cell? ⟨wr.heap.size, 2, none⟩ = some (.string s) := by subst hW; simp
      have c3 : W.cell? ⟨wr.heap.size, 3, none⟩ = some (.float .f64 f) := by subst hW; simp
      have hu2 : Hid (Up w W) := by subst hW; exact hu.out.alloc _
      obtain ⟨qb, hqb⟩ : ∃ qb : Nat, qb = (q % 256).toNat := ⟨_, rfl⟩
      have eq1 : q % 256 = (qb : Int) := by omega
      have eq2 : qb < 256 := by omega
      obtain ⟨mb, hmb⟩ : ∃ mb : Nat, mb = (m % 18446744073709551616).toNat := ⟨_, rfl⟩
      have em1 : IntKind.u64.wrap m = (mb : Int) := by rw [IntKind.wrap_u64]; omega
      have em2 : mb < whole := by unfold whole; omega
      have es2 : s.size < whole := by unfold whole; omega
      have eo2 : ordN f < whole := ordN_lt hf
      replace hqb := hide hqb
      replace hmb := hide hmb
      have hb1 := hb_lt h qb
      have hb2 := hw_lt 8 (hb h qb) mb hb1
      have hb3 := hw_lt 8 _ s.size hb2
      go_wp2_with (first
        | (go_at_call 35; refine (hashByte_calls _ _ (by with_reducible assumption) (by with_reducible assumption) _).mono ?_; rintro _ w1 ⟨rfl, hw1⟩; obtain rfl : W = w1 := hw1.symm)
        | (go_at_call 36; refine (hashWord_calls _ _ (by with_reducible assumption) (by with_reducible assumption) _).mono ?_; rintro _ w1 ⟨rfl, hw1⟩; obtain rfl : W = w1 := hw1.symm))
      clear l0 l1 l2 l3
      go_loop [3, 32] (fun x i => ∃ (j g : Nat), j ≤ s.size ∧ i = .int .i64 j ∧ x = .int .u64 (g : Int) ∧ g < whole ∧ Hid (hs g (s.data.toList.drop j) = hs (hw 8 (hw 8 (hb h qb) mb) s.size) s.data.toList)) (fun _ i => s.size - (intOf i).toNat)
      case atStart => exact ⟨0, _, Nat.zero_le _, rfl, rfl, hb3, rfl⟩
      case round =>
        obtain ⟨j, g, hj, rfl, rfl, hg, hq⟩ := hrel
        by_cases hjs : j < s.size
        · have j0 : (0 : Int) ≤ (j : Int) := by omega
          have j1 : (j : Int) < (s.size : Int) := by omega
          have jb : s[j].toNat < 256 := s[j].toNat_lt
          have hst : hs g (s.data.toList.drop j) = hs (hb g s[j].toNat) (s.data.toList.drop (j + 1)) := by
            rw [drop_byte s j hjs]; rfl
          replace hst := hide hst
          go_wp2_with (go_at_call 35; refine (hashByte_calls _ _ (by with_reducible assumption) (by with_reducible assumption) _).mono ?_; rintro _ w1 ⟨rfl, hw1⟩; obtain rfl : W = w1 := hw1.symm)
          refine ⟨⟨j + 1, _, by omega, by go_num, rfl, hb_lt _ _, ?_⟩, by simp [intOf]; omega⟩
          exact hst.out.symm.trans hq.out
        · obtain rfl : j = s.size := by omega
          have e : s.data.toList.drop s.size = [] := List.drop_eq_nil_of_le (by rw [Array.length_toList]; exact Nat.le_refl _)
          have hq2 := hq.out
          rw [e] at hq2
          replace hq2 := hide hq2
          have hb4 := hw_lt 8 g (ordN f) hg
          have hstep : (l.drop k).foldl hv h = (l.drop (k + 1)).foldl hv (hw 8 g (ordN f)) := by
            rw [drop_value l k (by rw [HL.out]; exact hlt), List.foldl_cons, ← hx.out]
            have : hv h (q, m, s, f) = hw 8 g (ordN f) := by
              show hw 8 (hs (hw 8 (hw 8 (hb h (q % 256).toNat) (m % 18446744073709551616).toNat) s.size) s.data.toList) (ordN f) = _
              rw [← hqb.out, ← hmb.out, ← hq2.out]; rfl
            rw [this]
          replace hstep := hide hstep
          go_wp2_with (first
            | (go_at_call 37; refine (order_calls _ (by with_reducible assumption) _).mono ?_; rintro _ w1 ⟨rfl, hw1⟩; obtain rfl : W = w1 := hw1.symm)
            | (go_at_call 36; refine (hashWord_calls _ _ (by with_reducible assumption) (by with_reducible assumption) _).mono ?_; rintro _ w1 ⟨rfl, hw1⟩; obtain rfl : W = w1 := hw1.symm))
          go_roundw
          case rel => exact ⟨k + 1, _, by omega, by go_num, rfl, hb4, hu2.out, hstep.out.symm.trans he.out⟩
          case measure => simp [intOf]; omega
    · obtain rfl : k = n := by omega
      replace hu := hide hu
      have e : l.drop k = [] := List.drop_eq_nil_of_le (by rw [HL.out]; exact Nat.le_refl _)
      have h2 := he.out
      rw [e] at h2
      replace h2 := hide h2
      go_wp2
      go_ret
      exact ⟨congrArg (fun n : Nat => Ending.returned (Value.int .u64 (n : Int))) h2.out, hu.out⟩

theorem vhash_calls (a : Option Addr) (n c : Nat) (l : List VT) (w : World) (hn : n ≤ maxLen) (hv : Vals w a n l) :
    Calls Try.prog 21 #[.slice a n c] w fun e w' => e = .returned (.int .u64 (hashV l : Int)) ∧ Up w w' := by
  obtain ⟨hl, hg, h⟩ := hv
  rcases h with rfl | ⟨b, off, rfl, hx⟩
  · obtain rfl : l = [] := List.length_eq_zero_iff.1 hl
    exact vhash_none _ _ _
  · exact vhash_some _ _ _ _ l w hl hn hg hx

end Go.Proofs.Ytoaafkcpakigiaa

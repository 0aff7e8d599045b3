/-
  What the document's own values (package rialtoref2) answer, as their text runs: the same functions of the fields as package value.
  What the document's own Rows and Hash (package rialtoref2) answer of every row of values, as their text runs.
  What the document's own Rows (package rialtoref2) answers of every two rows of values, as its text runs.
-/
import Derived.Test.YtnokokhbcfkifaaGreatDoorValCmpG
import Derived.Test.YtnokokhbcfkifaaGreatDoorNewVals
namespace Go.Proofs.YtnokokhbcfkifaaGreatDoor
open Go.ChangeShapes Go.WideShapes Go.ChangeAt Go.RowKit
attribute [local go_sem ↓] Go.wp_at_zero Go.wp_at_succ
attribute [local go_sem] run_store_float

/-- Which is ahead, of two that are unlike. -/
def sgnB (b : Bool) : Int := if b then -1 else 1

theorem rsign_calls (b : Bool) (w : World) : Calls Tryz.prog 79 #[.bool b] w fun e w' => e = .returned (.int .i64 (sgnB b)) ∧ w' = w := by
  cases b
  · go_enter Tryz.func79, Tryz.ntmps79
    go_wp2
    go_ret
    exact ⟨rfl, rfl⟩
  · go_enter Tryz.func79, Tryz.ntmps79
    go_wp2
    go_ret
    exact ⟨rfl, rfl⟩

theorem rvcompare_kind (k n k' n' : Int) (s s' : ByteArray) (f f' : Nat) (hk : ¬ k = k') (w : World) :
    Calls Tryz.prog 78 #[.agg #[.int .i64 k, .int .i64 n, .string s, .float .f64 f], .agg #[.int .i64 k', .int .i64 n', .string s', .float .f64 f']] w
      fun e w' => e = .returned (.int .i64 (sgnB (decide (k < k')))) ∧ Up w w' := by
  have t0 : (k != k') = true := by simpa using hk
  obtain ⟨W, hW⟩ : ∃ W, (w.alloc (.cells #[.int .i64 k, .int .i64 n, .string s, .float .f64 f] 77)).alloc (.cells #[.int .i64 k', .int .i64 n', .string s', .float .f64 f'] 77) = W := ⟨_, rfl⟩
  have hu : Hid (Up w W) := by subst hW; exact ((Up.refl _).alloc _).alloc _
  have l0 : W.cell? ⟨w.heap.size, 0, none⟩ = some (.int .i64 k) := by subst hW; go_simp
  have l1 : W.cell? ⟨w.heap.size, 1, none⟩ = some (.int .i64 n) := by subst hW; go_simp
  have l2 : W.cell? ⟨w.heap.size, 2, none⟩ = some (.string s) := by subst hW; go_simp
  have l3 : W.cell? ⟨w.heap.size, 3, none⟩ = some (.float .f64 f) := by subst hW; go_simp
  have r0 : W.cell? ⟨w.heap.size + 1, 0, none⟩ = some (.int .i64 k') := by subst hW; go_simp
  have r1 : W.cell? ⟨w.heap.size + 1, 1, none⟩ = some (.int .i64 n') := by subst hW; go_simp
  have r2 : W.cell? ⟨w.heap.size + 1, 2, none⟩ = some (.string s') := by subst hW; go_simp
  have r3 : W.cell? ⟨w.heap.size + 1, 3, none⟩ = some (.float .f64 f') := by subst hW; go_simp
  go_enter Tryz.func78, Tryz.ntmps78
  go_wp2_with (go_at_call 79; refine (rsign_calls _ _).mono ?_; rintro _ w1 ⟨rfl, hw1⟩; obtain rfl : W = w1 := hw1.symm)
  go_ret
  exact ⟨rfl, hu.out⟩

theorem rvcompare_int (k n n' : Int) (s s' : ByteArray) (f f' : Nat) (hk : ¬ n = n') (w : World) :
    Calls Tryz.prog 78 #[.agg #[.int .i64 k, .int .i64 n, .string s, .float .f64 f], .agg #[.int .i64 k, .int .i64 n', .string s', .float .f64 f']] w
      fun e w' => e = .returned (.int .i64 (sgnB (decide (n < n')))) ∧ Up w w' := by
  have t0 : (n != n') = true := by simpa using hk
  obtain ⟨W, hW⟩ : ∃ W, (w.alloc (.cells #[.int .i64 k, .int .i64 n, .string s, .float .f64 f] 77)).alloc (.cells #[.int .i64 k, .int .i64 n', .string s', .float .f64 f'] 77) = W := ⟨_, rfl⟩
  have hu : Hid (Up w W) := by subst hW; exact ((Up.refl _).alloc _).alloc _
  have l0 : W.cell? ⟨w.heap.size, 0, none⟩ = some (.int .i64 k) := by subst hW; go_simp
  have l1 : W.cell? ⟨w.heap.size, 1, none⟩ = some (.int .i64 n) := by subst hW; go_simp
  have l2 : W.cell? ⟨w.heap.size, 2, none⟩ = some (.string s) := by subst hW; go_simp
  have l3 : W.cell? ⟨w.heap.size, 3, none⟩ = some (.float .f64 f) := by subst hW; go_simp
  have r0 : W.cell? ⟨w.heap.size + 1, 0, none⟩ = some (.int .i64 k) := by subst hW; go_simp
  have r1 : W.cell? ⟨w.heap.size + 1, 1, none⟩ = some (.int .i64 n') := by subst hW; go_simp
  have r2 : W.cell? ⟨w.heap.size + 1, 2, none⟩ = some (.string s') := by subst hW; go_simp
  have r3 : W.cell? ⟨w.heap.size + 1, 3, none⟩ = some (.float .f64 f') := by subst hW; go_simp
  go_enter Tryz.func78, Tryz.ntmps78
  go_wp2_with (go_at_call 79; refine (rsign_calls _ _).mono ?_; rintro _ w1 ⟨rfl, hw1⟩; obtain rfl : W = w1 := hw1.symm)
  go_ret
  exact ⟨rfl, hu.out⟩

theorem rvcompare_str (k n : Int) (s s' : ByteArray) (f f' : Nat) (hk : ¬ s.toList = s'.toList) (w : World) :
    Calls Tryz.prog 78 #[.agg #[.int .i64 k, .int .i64 n, .string s, .float .f64 f], .agg #[.int .i64 k, .int .i64 n, .string s', .float .f64 f']] w
      fun e w' => e = .returned (.int .i64 (sgnB (Op.bytesLess s.toList s'.toList))) ∧ Up w w' := by
  have t0 : (s.toList == s'.toList) = false := beq_eq_false_iff_ne.2 hk
  clear hk
  obtain ⟨W, hW⟩ : ∃ W, (w.alloc (.cells #[.int .i64 k, .int .i64 n, .string s, .float .f64 f] 77)).alloc (.cells #[.int .i64 k, .int .i64 n, .string s', .float .f64 f'] 77) = W := ⟨_, rfl⟩
  have hu : Hid (Up w W) := by subst hW; exact ((Up.refl _).alloc _).alloc _
  have l0 : W.cell? ⟨w.heap.size, 0, none⟩ = some (.int .i64 k) := by subst hW; go_simp
  have l1 : W.cell? ⟨w.heap.size, 1, none⟩ = some (.int .i64 n) := by subst hW; go_simp
  have l2 : W.cell? ⟨w.heap.size, 2, none⟩ = some (.string s) := by subst hW; go_simp
  have l3 : W.cell? ⟨w.heap.size, 3, none⟩ = some (.float .f64 f) := by subst hW; go_simp
  have r0 : W.cell? ⟨w.heap.size + 1, 0, none⟩ = some (.int .i64 k) := by subst hW; go_simp
  have r1 : W.cell? ⟨w.heap.size + 1, 1, none⟩ = some (.int .i64 n) := by subst hW; go_simp
  have r2 : W.cell? ⟨w.heap.size + 1, 2, none⟩ = some (.string s') := by subst hW; go_simp
  have r3 : W.cell? ⟨w.heap.size + 1, 3, none⟩ = some (.float .f64 f') := by subst hW; go_simp
  go_enter Tryz.func78, Tryz.ntmps78
  go_wp2_with (go_at_call 79; refine (rsign_calls _ _).mono ?_; rintro _ w1 ⟨rfl, hw1⟩; obtain rfl : W = w1 := hw1.symm)
  go_ret
  exact ⟨rfl, hu.out⟩

theorem rvcompare_float (k n : Int) (s : ByteArray) (f f' : Nat) (hf : f < whole) (hf' : f' < whole) (w : World) :
    Calls Tryz.prog 78 #[.agg #[.int .i64 k, .int .i64 n, .string s, .float .f64 f], .agg #[.int .i64 k, .int .i64 n, .string s, .float .f64 f']] w
      fun e w' => e = .returned (.int .i64 (cmpN f f')) ∧ Up w w' := by
  obtain ⟨W, hW⟩ : ∃ W, (w.alloc (.cells #[.int .i64 k, .int .i64 n, .string s, .float .f64 f] 77)).alloc (.cells #[.int .i64 k, .int .i64 n, .string s, .float .f64 f'] 77) = W := ⟨_, rfl⟩
  have hu : Hid (Up w W) := by subst hW; exact ((Up.refl _).alloc _).alloc _
  have l0 : W.cell? ⟨w.heap.size, 0, none⟩ = some (.int .i64 k) := by subst hW; go_simp
  have l1 : W.cell? ⟨w.heap.size, 1, none⟩ = some (.int .i64 n) := by subst hW; go_simp
  have l2 : W.cell? ⟨w.heap.size, 2, none⟩ = some (.string s) := by subst hW; go_simp
  have l3 : W.cell? ⟨w.heap.size, 3, none⟩ = some (.float .f64 f) := by subst hW; go_simp
  have r0 : W.cell? ⟨w.heap.size + 1, 0, none⟩ = some (.int .i64 k) := by subst hW; go_simp
  have r1 : W.cell? ⟨w.heap.size + 1, 1, none⟩ = some (.int .i64 n) := by subst hW; go_simp
  have r2 : W.cell? ⟨w.heap.size + 1, 2, none⟩ = some (.string s) := by subst hW; go_simp
  have r3 : W.cell? ⟨w.heap.size + 1, 3, none⟩ = some (.float .f64 f') := by subst hW; go_simp
  go_enter Tryz.func78, Tryz.ntmps78
  go_wp2_with (go_at_call 93; refine (rcompare_calls _ _ (by with_reducible assumption) (by with_reducible assumption) _).mono ?_; rintro _ w1 ⟨rfl, hw1⟩; obtain rfl : W = w1 := hw1.symm)
  go_ret
  exact ⟨rfl, hu.out⟩

theorem cmpV_kind {k n k' n' : Int} {s s' : ByteArray} {f f' : Nat} (h : ¬ k = k') : sgnB (decide (k < k')) = cmpV (k, n, s, f) (k', n', s', f') := by
  rcases cmpV_cases (k, n, s, f) (k', n', s', f') with ⟨h1, _⟩ | ⟨h1, _⟩ | ⟨h1, h2⟩
  · rcases cmpV_neg.1 h1 with h2 | ⟨h2, _⟩
    · rw [h1, decide_eq_true h2]; rfl
    · exact absurd h2 h
  · exact absurd (cmpV_zero.1 h1).1 h
  · rcases cmpV_neg.1 h2 with h3 | ⟨h3, _⟩
    · rw [h1, decide_eq_false (by simp only at h3; omega)]; rfl
    · exact absurd h3.symm h
theorem cmpV_int {k n n' : Int} {s s' : ByteArray} {f f' : Nat} (h : ¬ n = n') : sgnB (decide (n < n')) = cmpV (k, n, s, f) (k, n', s', f') := by
  rcases cmpV_cases (k, n, s, f) (k, n', s', f') with ⟨h1, _⟩ | ⟨h1, _⟩ | ⟨h1, h2⟩
  · rcases cmpV_neg.1 h1 with h2 | ⟨_, h2 | ⟨h2, _⟩⟩
    · simp only at h2; omega
    · rw [h1, decide_eq_true h2]; rfl
    · exact absurd h2 h
  · exact absurd (cmpV_zero.1 h1).2.1 h
  · rcases cmpV_neg.1 h2 with h3 | ⟨_, h3 | ⟨h3, _⟩⟩
    · simp only at h3; omega
    · rw [h1, decide_eq_false (by simp only at h3; omega)]; rfl
    · exact absurd h3.symm h
theorem cmpV_str {k n : Int} {s s' : ByteArray} {f f' : Nat} (h : ¬ s.toList = s'.toList) : sgnB (Op.bytesLess s.toList s'.toList) = cmpV (k, n, s, f) (k, n, s', f') := by
  have e : cmpV (k, n, s, f) (k, n, s', f') = orI 0 0 (cmpS s s') (cmpN f f') := by
    unfold cmpV
    simp only [cmpI_self]
  rw [e, Lib.toList_data, Lib.toList_data, cmpB_less]
  show sgnB (decide (cmpS s s' = -1)) = _
  rcases cmpS_cases s s' with ⟨h1, _⟩ | ⟨_, h1⟩ | ⟨h1, _⟩
  · rw [h1]; rfl
  · exact absurd (by rw [h1]) h
  · rw [h1]; rfl
theorem cmpV_flt {k n : Int} {s : ByteArray} {f f' : Nat} : cmpN f f' = cmpV (k, n, s, f) (k, n, s, f') := by
  unfold cmpV
  simp only [cmpI_self, cmpS_self]
  rfl

theorem rvcompare_calls (k n k' n' : Int) (s s' : ByteArray) (f f' : Nat) (hf : f < whole) (hf' : f' < whole) (w : World) :
    Calls Tryz.prog 78 #[.agg #[.int .i64 k, .int .i64 n, .string s, .float .f64 f], .agg #[.int .i64 k', .int .i64 n', .string s', .float .f64 f']] w
      fun e w' => e = .returned (.int .i64 (cmpV (k, n, s, f) (k', n', s', f'))) ∧ Up w w' := by
  by_cases hk : k = k'
  · subst hk
    by_cases hn : n = n'
    · subst hn
      by_cases hs : s.toList = s'.toList
      · have e : s = s' := by
          rw [Lib.toList_data, Lib.toList_data] at hs
          have := Array.toList_inj.1 hs
          cases s; cases s'; simp_all
        subst e
        rw [← cmpV_flt]
        exact rvcompare_float k n s f f' hf hf' w
      · rw [← cmpV_str hs]
        exact rvcompare_str k n s s' f f' hs w
    · rw [← cmpV_int hn]
      exact rvcompare_int k n n' s s' f f' hn w
  · rw [← cmpV_kind hk]
    exact rvcompare_kind k n k' n' s s' f f' hk w

end Go.Proofs.YtnokokhbcfkifaaGreatDoor

namespace Go.Proofs.YtnokokhbcfkifaaGreatDoor
open Go.ChangeShapes Go.WideShapes Go.ChangeAt Go.RowKit
attribute [local go_sem ↓] Go.wp_at_zero Go.wp_at_succ
attribute [local go_sem] run_store_float

theorem sgn_len (x y : Nat) (h : ¬ x = y) : sgnB (decide (x < y)) = cmpI x y := by
  unfold sgnB cmpI
  by_cases hlt : x < y
  · rw [decide_eq_true hlt, if_pos rfl, if_pos (by omega)]
  · rw [decide_eq_false hlt, if_neg Bool.false_ne_true, if_neg (by omega), if_pos (by omega)]

theorem and_byte (n : Nat) (hn : n < whole) : bits .and .u64 (n : Int) 255 = ((n % 256 : Nat) : Int) := by
  have h := u64_and_nat n 255 hn (by decide)
  have e : ((255 : Nat) : Int) = 255 := rfl
  rw [e] at h
  rw [h]
  have : n &&& 255 = n % 2 ^ 8 := Nat.and_two_pow_sub_one_eq_mod n 8
  rw [this]

end Go.Proofs.YtnokokhbcfkifaaGreatDoor

namespace Go.Proofs.YtnokokhbcfkifaaGreatDoor
open Go.ChangeShapes Go.WideShapes Go.ChangeAt Go.RowKit
attribute [local go_sem ↓] Go.wp_at_zero Go.wp_at_succ

theorem rvrows_none (a0 a1 : Option Addr) (n0 n1 c0 c1 : Nat) (w : World) (h : n0 = 0 ∨ n1 = 0) :
    Calls Tryz.prog 54 #[.slice a0 n0 c0, .slice a1 n1 c1] w fun e w' => e = .returned (.int .i64 (cmpI n0 n1)) ∧ Up w w' := by
  by_cases he : n0 = n1
  · obtain rfl : n0 = 0 := by omega
    subst he
    go_enter Tryz.func54, Tryz.ntmps54
    go_wp2_with fail
    refine wp_loop_rounds 1 ?_
    rw [rounds_succ]
    go_wp2
    go_ret
    exact ⟨rfl, Up.refl _⟩
  · rw [← sgn_len n0 n1 he]
    rcases h with rfl | rfl
    · have ht : ((0 : Int) == (n1 : Int)) = false := beq_eq_false_iff_ne.2 (by omega)
      go_enter Tryz.func54, Tryz.ntmps54
      go_wp2_with fail
      refine wp_loop_rounds 1 ?_
      rw [rounds_succ]
      go_wp2_with (go_at_call 79; refine (rsign_calls _ _).mono ?_; rintro _ w1 ⟨rfl, hw1⟩; obtain rfl : w = w1 := hw1.symm)
      go_ret
      exact ⟨by first | rfl | simp, Up.refl _⟩
    · have ht : ((n0 : Int) == 0) = false := beq_eq_false_iff_ne.2 (by omega)
      go_enter Tryz.func54, Tryz.ntmps54
      go_wp2_with fail
      refine wp_loop_rounds 1 ?_
      rw [rounds_succ]
      go_wp2_with (go_at_call 79; refine (rsign_calls _ _).mono ?_; rintro _ w1 ⟨rfl, hw1⟩; obtain rfl : w = w1 := hw1.symm)
      go_ret
      exact ⟨by first | rfl | simp, Up.refl _⟩

set_option maxHeartbeats 4000000 in
theorem rvrows_some (b0 o0 n0 c0 b1 o1 n1 c1 : Nat) (l m : List VT) (w : World) (hl : l.length = n0) (hm : m.length = n1) (h0 : n0 ≤ maxLen) (h1 : n1 ≤ maxLen)
    (g0 : ∀ i, Fits (l.getD i zeroT)) (g1 : ∀ i, Fits (m.getD i zeroT)) (x0 : ∀ i, i < n0 → At w b0 (o0 + i * 4) (l.getD i zeroT)) (x1 : ∀ i, i < n1 → At w b1 (o1 + i * 4) (m.getD i zeroT)) :
    Calls Tryz.prog 54 #[.slice (some ⟨b0, o0, none⟩) n0 c0, .slice (some ⟨b1, o1, none⟩) n1 c1] w fun e w' => e = .returned (.int .i64 (rowsV l m)) ∧ Up w w' := by
  have H0 := hide x0
  have H1 := hide x1
  have F0 := hide g0
  have F1 := hide g1
  have HL := hide hl
  have HM := hide hm
  clear x0 x1 g0 g1 hl hm
  unfold maxLen at h0 h1
  go_enter Tryz.func54, Tryz.ntmps54
  go_wp2_with fail
  go_loopw [5] (fun i wr => ∃ k : Nat, k ≤ n0 ∧ k ≤ n1 ∧ i = .int .i64 k ∧ Up w wr ∧ Hid (∀ j, j < k → cmpV (l.getD j zeroT) (m.getD j zeroT) = 0)) (fun i _ => n0 - (intOf i).toNat)
  case atStart => exact ⟨0, Nat.zero_le _, Nat.zero_le _, rfl, Up.refl _, fun j hj => absurd hj (Nat.not_lt_zero j)⟩
  case round =>
    obtain ⟨k, hk0, hk1, rfl, hu, he⟩ := hrel
    by_cases hlt : k < n0 ∧ k < n1
    · obtain ⟨hlt0, hlt1⟩ := hlt
      obtain ⟨l0, l1, l2, l3⟩ := (H0.out k hlt0).up hu
      obtain ⟨r0, r1, r2, r3⟩ := (H1.out k hlt1).up hu
      have hf := (F0.out k).2.2.2.2.2
      have hf' := (F1.out k).2.2.2.2.2
      have hst := rowsV_differ l m k (by rw [HL.out]; omega) (by rw [HM.out]; omega) he.out
      obtain ⟨⟨q, n, s, f⟩, hx⟩ : ∃ x, x = l.getD k zeroT := ⟨_, rfl⟩
      obtain ⟨⟨q', n', s', f'⟩, hy⟩ : ∃ x, x = m.getD k zeroT := ⟨_, rfl⟩
      rw [← hx] at l0 l1 l2 l3 hf hst
      rw [← hy] at r0 r1 r2 r3 hf' hst
      replace hx := hide hx
      replace hy := hide hy
      replace hst := hide hst
      replace hu := hide hu
      simp only at l0 l1 l2 l3 r0 r1 r2 r3 hf hf'
      have i0 : (0 : Int) ≤ (k : Int) := by omega
      have i1 : (k : Int) < (n0 : Int) := by omega
      have i2 : (k : Int) < (n1 : Int) := by omega
      go_wp2_with fail
      go_region_held3 (fun w' => w'.cell? ⟨b0, o0 + k * 4, none⟩ = some (.int .i64 q) ∧ w'.cell? ⟨b0, o0 + k * 4 + 1, none⟩ = some (.int .i64 n) ∧ w'.cell? ⟨b0, o0 + k * 4 + 2, none⟩ = some (.string s) ∧ w'.cell? ⟨b0, o0 + k * 4 + 3, none⟩ = some (.float .f64 f)
          ∧ w'.cell? ⟨b1, o1 + k * 4, none⟩ = some (.int .i64 q') ∧ w'.cell? ⟨b1, o1 + k * 4 + 1, none⟩ = some (.int .i64 n') ∧ w'.cell? ⟨b1, o1 + k * 4 + 2, none⟩ = some (.string s') ∧ w'.cell? ⟨b1, o1 + k * 4 + 3, none⟩ = some (.float .f64 f')) (first | go_keep | exact ⟨hu1.cell l0, hu1.cell l1, hu1.cell l2, hu1.cell l3, hu1.cell r0, hu1.cell r1, hu1.cell r2, hu1.cell r3⟩)
        (first | (go_at_call 78; refine (rvcompare_calls _ _ _ _ _ _ _ _ (by with_reducible assumption) (by with_reducible assumption) _).mono ?_; rintro _ w1 ⟨rfl, hu1⟩))
      by_cases hz : cmpV (q, n, s, f) (q', n', s', f') = 0
      · have ht : (cmpV (q, n, s, f) (q', n', s', f') != 0) = false := by simp [hz]
        replace hz := hide hz
        clear l0 l1 l2 l3 r0 r1 r2 r3
        go_wp2
        go_roundw
        case rel =>
          refine ⟨k + 1, by omega, by omega, by go_num, hu.out.drew.trans hu1, fun j hj => ?_⟩
          rcases Nat.lt_succ_iff_lt_or_eq.1 hj with hj | rfl
          · exact he.out j hj
          · rw [← hx.out, ← hy.out]; exact hz.out
        case measure => simp [intOf]; omega
      · have ht : (cmpV (q, n, s, f) (q', n', s', f') != 0) = true := by simpa using hz
        replace hz := hide hz
        clear l0 l1 l2 l3 r0 r1 r2 r3
        go_wp2
        go_ret
        exact ⟨by rw [hst.out hz.out]; rfl, hu.out.drew.trans hu1⟩
    · have hres := rowsV_alike l m (fun j h1 h2 => he.out j (by rw [HL.out] at h1; rw [HM.out] at h2; omega))
      rw [HL.out, HM.out] at hres
      replace hu := hide hu
      by_cases hee : n0 = n1
      · subst hee
        obtain rfl : k = n0 := by omega
        have e0 : cmpI (k : Int) (k : Int) = 0 := cmpI_self _
        rw [e0] at hres
        replace hres := hide hres
        clear e0 hlt
        go_wp2
        go_ret
        exact ⟨by rw [hres.out]; first | rfl | simp, hu.out⟩
      · rw [← sgn_len n0 n1 hee] at hres
        replace hres := hide hres
        have ht : ((n0 : Int) == (n1 : Int)) = false := beq_eq_false_iff_ne.2 (by omega)
        by_cases hlt0 : k < n0
        · have hk : ¬ k < n1 := fun h => hlt ⟨hlt0, h⟩
          clear hlt
          go_wp2_with (go_at_call 79; refine (rsign_calls _ _).mono ?_; rintro _ w1 ⟨rfl, hw1⟩; obtain rfl : wr = w1 := hw1.symm)
          go_ret
          exact ⟨by rw [hres.out]; first | rfl | simp, hu.out⟩
        · clear hlt
          go_wp2_with (go_at_call 79; refine (rsign_calls _ _).mono ?_; rintro _ w1 ⟨rfl, hw1⟩; obtain rfl : wr = w1 := hw1.symm)
          go_ret
          exact ⟨by rw [hres.out]; first | rfl | simp, hu.out⟩

theorem rvrows_calls (a0 a1 : Option Addr) (n0 n1 c0 c1 : Nat) (l m : List VT) (w : World) (h0 : n0 ≤ maxLen) (h1 : n1 ≤ maxLen) (v0 : Vals w a0 n0 l) (v1 : Vals w a1 n1 m) :
    Calls Tryz.prog 54 #[.slice a0 n0 c0, .slice a1 n1 c1] w fun e w' => e = .returned (.int .i64 (rowsV l m)) ∧ Up w w' := by
  obtain ⟨hl, g0, v0⟩ := v0
  obtain ⟨hm, g1, v1⟩ := v1
  by_cases hz : n0 = 0 ∨ n1 = 0
  · have he : rowsV l m = cmpI n0 n1 := by
      rw [rowsV_alike l m (fun j h1 h2 => by omega), hl, hm]
    rw [he]
    exact rvrows_none _ _ _ _ _ _ _ hz
  · rcases v0 with v0 | ⟨b0, o0, rfl, x0⟩
    · omega
    · rcases v1 with v1 | ⟨b1, o1, rfl, x1⟩
      · omega
      · exact rvrows_some _ _ _ _ _ _ _ _ l m w hl hm h0 h1 g0 g1 x0 x1

end Go.Proofs.YtnokokhbcfkifaaGreatDoor

/-
  What the document's own values (package rialtoref2) answer, as their text runs: the same functions of the fields as package value.
-/
import Derived.Test.YtmlfkjmondkfnaaDoorValIs
import Derived.Test.YtmlfkjmondkfnaaDoorNewVals
namespace Go.Proofs.YtmlfkjmondkfnaaDoor
open Go.ChangeShapes Go.WideShapes Go.ChangeAt Go.RowKit
attribute [local go_sem ↓] Go.wp_at_zero Go.wp_at_succ
attribute [local go_sem] run_store_float

/-- Which is ahead, of two that are unlike. -/
def sgnB (b : Bool) : Int := if b then -1 else 1

theorem rsign_calls (b : Bool) (w : World) : Calls Tryd.prog 76 #[.bool b] w fun e w' => e = .returned (.int .i64 (sgnB b)) ∧ w' = w := by
  cases b
  · go_enter Tryd.func76, Tryd.ntmps76
    go_wp2
    go_ret
    exact ⟨rfl, rfl⟩
  · go_enter Tryd.func76, Tryd.ntmps76
    go_wp2
    go_ret
    exact ⟨rfl, rfl⟩

theorem rvcompare_kind (k n k' n' : Int) (s s' : ByteArray) (f f' : Nat) (hk : ¬ k = k') (w : World) :
    Calls Tryd.prog 53 #[.agg #[.int .i64 k, .int .i64 n, .string s, .float .f64 f], .agg #[.int .i64 k', .int .i64 n', .string s', .float .f64 f']] w
      fun e w' => e = .returned (.int .i64 (sgnB (decide (k < k')))) ∧ Up w w' := by
  have t0 : (k != k') = true := by simpa using hk
  obtain ⟨W, hW⟩ : ∃ W, (w.alloc (.cells #[.int .i64 k, .int .i64 n, .string s, .float .f64 f] 58)).alloc (.cells #[.int .i64 k', .int .i64 n', .string s', .float .f64 f'] 58) = W := ⟨_, rfl⟩
  have hu : Hid (Up w W) := by subst hW; exact ((Up.refl _).alloc _).alloc _
  have l0 : W.cell? ⟨w.heap.size, 0, none⟩ = some (.int .i64 k) := by subst hW; go_simp
  have l1 : W.cell? ⟨w.heap.size, 1, none⟩ = some (.int .i64 n) := by subst hW; go_simp
  have l2 : W.cell? ⟨w.heap.size, 2, none⟩ = some (.string s) := by subst hW; go_simp
  have l3 : W.cell? ⟨w.heap.size, 3, none⟩ = some (.float .f64 f) := by subst hW; go_simp
  have r0 : W.cell? ⟨w.heap.size + 1, 0, none⟩ = some (.int .i64 k') := by subst hW; go_simp
  have r1 : W.cell? ⟨w.heap.size + 1, 1, none⟩ = some (.int .i64 n') := by subst hW; go_simp
  have r2 : W.cell? ⟨w.heap.size + 1, 2, none⟩ = some (.string s') := by subst hW; go_simp
  have r3 : W.cell? ⟨w.heap.size + 1, 3, none⟩ = some (.float .f64 f') := by subst hW; go_simp
  go_enter Tryd.func53, Tryd.ntmps53
  go_wp2_with (go_at_call 76; refine (rsign_calls _ _).mono ?_; rintro _ w1 ⟨rfl, hw1⟩; obtain rfl : W = w1 := hw1.symm)
  go_ret
  exact ⟨rfl, hu.out⟩

theorem rvcompare_int (k n n' : Int) (s s' : ByteArray) (f f' : Nat) (hk : ¬ n = n') (w : World) :
    Calls Tryd.prog 53 #[.agg #[.int .i64 k, .int .i64 n, .string s, .float .f64 f], .agg #[.int .i64 k, .int .i64 n', .string s', .float .f64 f']] w
      fun e w' => e = .returned (.int .i64 (sgnB (decide (n < n')))) ∧ Up w w' := by
  have t0 : (n != n') = true := by simpa using hk
  obtain ⟨W, hW⟩ : ∃ W, (w.alloc (.cells #[.int .i64 k, .int .i64 n, .string s, .float .f64 f] 58)).alloc (.cells #[.int .i64 k, .int .i64 n', .string s', .float .f64 f'] 58) = W := ⟨_, rfl⟩
  have hu : Hid (Up w W) := by subst hW; exact ((Up.refl _).alloc _).alloc _
  have l0 : W.cell? ⟨w.heap.size, 0, none⟩ = some (.int .i64 k) := by subst hW; go_simp
  have l1 : W.cell? ⟨w.heap.size, 1, none⟩ = some (.int .i64 n) := by subst hW; go_simp
  have l2 : W.cell? ⟨w.heap.size, 2, none⟩ = some (.string s) := by subst hW; go_simp
  have l3 : W.cell? ⟨w.heap.size, 3, none⟩ = some (.float .f64 f) := by subst hW; go_simp
  have r0 : W.cell? ⟨w.heap.size + 1, 0, none⟩ = some (.int .i64 k) := by subst hW; go_simp
  have r1 : W.cell? ⟨w.heap.size + 1, 1, none⟩ = some (.int .i64 n') := by subst hW; go_simp
  have r2 : W.cell? ⟨w.heap.size + 1, 2, none⟩ = some (.string s') := by subst hW; go_simp
  have r3 : W.cell? ⟨w.heap.size + 1, 3, none⟩ = some (.float .f64 f') := by subst hW; go_simp
  go_enter Tryd.func53, Tryd.ntmps53
  go_wp2_with (go_at_call 76; refine (rsign_calls _ _).mono ?_; rintro _ w1 ⟨rfl, hw1⟩; obtain rfl : W = w1 := hw1.symm)
  go_ret
  exact ⟨rfl, hu.out⟩

theorem rvcompare_str (k n : Int) (s s' : ByteArray) (f f' : Nat) (hk : ¬ s.toList = s'.toList) (w : World) :
    Calls Tryd.prog 53 #[.agg #[.int .i64 k, .int .i64 n, .string s, .float .f64 f], .agg #[.int .i64 k, .int .i64 n, .string s', .float .f64 f']] w
      fun e w' => e = .returned (.int .i64 (sgnB (Op.bytesLess s.toList s'.toList))) ∧ Up w w' := by
  have t0 : (s.toList == s'.toList) = false := beq_eq_false_iff_ne.2 hk
  clear hk
  obtain ⟨W, hW⟩ : ∃ W, (w.alloc (.cells #[.int .i64 k, .int .i64 n, .string s, .float .f64 f] 58)).alloc (.cells #[.int .i64 k, .int .i64 n, .string s', .float .f64 f'] 58) = W := ⟨_, rfl⟩
  have hu : Hid (Up w W) := by subst hW; exact ((Up.refl _).alloc _).alloc _
  have l0 : W.cell? ⟨w.heap.size, 0, none⟩ = some (.int .i64 k) := by subst hW; go_simp
  have l1 : W.cell? ⟨w.heap.size, 1, none⟩ = some (.int .i64 n) := by subst hW; go_simp
  have l2 : W.cell? ⟨w.heap.size, 2, none⟩ = some (.string s) := by subst hW; go_simp
  have l3 : W.cell? ⟨w.heap.size, 3, none⟩ = some (.float .f64 f) := by subst hW; go_simp
  have r0 : W.cell? ⟨w.heap.size + 1, 0, none⟩ = some (.int .i64 k) := by subst hW; go_simp
  have r1 : W.cell? ⟨w.heap.size + 1, 1, none⟩ = some (.int .i64 n) := by subst hW; go_simp
  have r2 : W.cell? ⟨w.heap.size + 1, 2, none⟩ = some (.string s') := by subst hW; go_simp
  have r3 : W.cell? ⟨w.heap.size + 1, 3, none⟩ = some (.float .f64 f') := by subst hW; go_simp
  go_enter Tryd.func53, Tryd.ntmps53
  go_wp2_with (go_at_call 76; refine (rsign_calls _ _).mono ?_; rintro _ w1 ⟨rfl, hw1⟩; obtain rfl : W = w1 := hw1.symm)
  go_ret
  exact ⟨rfl, hu.out⟩

theorem rvcompare_float (k n : Int) (s : ByteArray) (f f' : Nat) (hf : f < whole) (hf' : f' < whole) (w : World) :
    Calls Tryd.prog 53 #[.agg #[.int .i64 k, .int .i64 n, .string s, .float .f64 f], .agg #[.int .i64 k, .int .i64 n, .string s, .float .f64 f']] w
      fun e w' => e = .returned (.int .i64 (cmpN f f')) ∧ Up w w' := by
  obtain ⟨W, hW⟩ : ∃ W, (w.alloc (.cells #[.int .i64 k, .int .i64 n, .string s, .float .f64 f] 58)).alloc (.cells #[.int .i64 k, .int .i64 n, .string s, .float .f64 f'] 58) = W := ⟨_, rfl⟩
  have hu : Hid (Up w W) := by subst hW; exact ((Up.refl _).alloc _).alloc _
  have l0 : W.cell? ⟨w.heap.size, 0, none⟩ = some (.int .i64 k) := by subst hW; go_simp
  have l1 : W.cell? ⟨w.heap.size, 1, none⟩ = some (.int .i64 n) := by subst hW; go_simp
  have l2 : W.cell? ⟨w.heap.size, 2, none⟩ = some (.string s) := by subst hW; go_simp
  have l3 : W.cell? ⟨w.heap.size, 3, none⟩ = some (.float .f64 f) := by subst hW; go_simp
  have r0 : W.cell? ⟨w.heap.size + 1, 0, none⟩ = some (.int .i64 k) := by subst hW; go_simp
  have r1 : W.cell? ⟨w.heap.size + 1, 1, none⟩ = some (.int .i64 n) := by subst hW; go_simp
  have r2 : W.cell? ⟨w.heap.size + 1, 2, none⟩ = some (.string s) := by subst hW; go_simp
  have r3 : W.cell? ⟨w.heap.size + 1, 3, none⟩ = some (.float .f64 f') := by subst hW; go_simp
  go_enter Tryd.func53, Tryd.ntmps53
  go_wp2_with (go_at_call 77; refine (rcompare_calls _ _ (by with_reducible assumption) (by with_reducible assumption) _).mono ?_; rintro _ w1 ⟨rfl, hw1⟩; obtain rfl : W = w1 := hw1.symm)
  go_ret
  exact ⟨rfl, hu.out⟩

theorem cmpV_kind {k n k' n' : Int} {s s' : ByteArray} {f f' : Nat} (h : ¬ k = k') : sgnB (decide (k < k')) = cmpV (k, n, s, f) (k', n', s', f') := by
  rcases cmpV_cases (k, n, s, f) (k', n', s', f') with ⟨h1, _⟩ | ⟨h1, _⟩ | ⟨h1, h2⟩
  · rcases cmpV_neg.1 h1 with h2 | ⟨h2, _⟩
    · rw [h1, decide_eq_true h2]; rfl
    · exact absurd h2 h
  · exact absurd (cmpV_zero.1 h1).1 h
  · rcases cmpV_neg.1 h2 with h3 | ⟨h3, _⟩
    · rw [h1, decide_eq_false (by simp only at h3; omega)]; rfl
    · exact absurd h3.symm h
theorem cmpV_int {k n n' : Int} {s s' : ByteArray} {f f' : Nat} (h : ¬ n = n') : sgnB (decide (n < n')) = cmpV (k, n, s, f) (k, n', s', f') := by
  rcases cmpV_cases (k, n, s, f) (k, n', s', f') with ⟨h1, _⟩ | ⟨h1, _⟩ | ⟨h1, h2⟩
  · rcases cmpV_neg.1 h1 with h2 | ⟨_, h2 | ⟨h2, _⟩⟩
    · simp only at h2; omega
    · rw [h1, decide_eq_true h2]; rfl
    · exact absurd h2 h
  · exact absurd (cmpV_zero.1 h1).2.1 h
  · rcases cmpV_neg.1 h2 with h3 | ⟨_, h3 | ⟨h3, _⟩⟩
    · simp only at h3; omega
    · rw [h1, decide_eq_false (by simp only at h3; omega)]; rfl
    · exact absurd h3.symm h
theorem cmpV_str {k n : Int} {s s' : ByteArray} {f f' : Nat} (h : ¬ s.toList = s'.toList) : sgnB (Op.bytesLess s.toList s'.toList) = cmpV (k, n, s, f) (k, n, s', f') := by
  have e : cmpV (k, n, s, f) (k, n, s', f') = orI 0 0 (cmpS s s') (cmpN f f') := by
    unfold cmpV
    simp only [cmpI_self]
  rw [e, Lib.toList_data, Lib.toList_data, cmpB_less]
  show sgnB (decide (cmpS s s' = -1)) = _
  rcases cmpS_cases s s' with ⟨h1, _⟩ | ⟨_, h1⟩ | ⟨h1, _⟩
  · rw [h1]; rfl
  · exact absurd (by rw [h1]) h
  · rw [h1]; rfl
theorem cmpV_flt {k n : Int} {s : ByteArray} {f f' : Nat} : cmpN f f' = cmpV (k, n, s, f) (k, n, s, f') := by
  unfold cmpV
  simp only [cmpI_self, cmpS_self]
  rfl

theorem rvcompare_calls (k n k' n' : Int) (s s' : ByteArray) (f f' : Nat) (hf : f < whole) (hf' : f' < whole) (w : World) :
    Calls Tryd.prog 53 #[.agg #[.int .i64 k, .int .i64 n, .string s, .float .f64 f], .agg #[.int .i64 k', .int .i64 n', .string s', .float .f64 f']] w
      fun e w' => e = .returned (.int .i64 (cmpV (k, n, s, f) (k', n', s', f'))) ∧ Up w w' := by
  by_cases hk : k = k'
  · subst hk
    by_cases hn : n = n'
    · subst hn
      by_cases hs : s.toList = s'.toList
      · have e : s = s' := by
          rw [Lib.toList_data, Lib.toList_data] at hs
          have := Array.toList_inj.1 hs
          cases s; cases s'; simp_all
        subst e
        rw [← cmpV_flt]
        exact rvcompare_float k n s f f' hf hf' w
      · rw [← cmpV_str hs]
        exact rvcompare_str k n s s' f f' hs w
    · rw [← cmpV_int hn]
      exact rvcompare_int k n n' s s' f f' hn w
  · rw [← cmpV_kind hk]
    exact rvcompare_kind k n k' n' s s' f f' hk w

theorem rvsame_calls (k n k' n' : Int) (s s' : ByteArray) (f f' : Nat) (hf : f < whole) (hf' : f' < whole) (w : World) :
    Calls Tryd.prog 23 #[.agg #[.int .i64 k, .int .i64 n, .string s, .float .f64 f], .agg #[.int .i64 k', .int .i64 n', .string s', .float .f64 f']] w
      fun e w' => e = .returned (.bool (cmpV (k, n, s, f) (k', n', s', f') == 0)) ∧ Up w w' := by
  go_enter Tryd.func23, Tryd.ntmps23
  go_wp2_with (go_at_call 53; refine (rvcompare_calls _ _ _ _ _ _ _ _ (by with_reducible assumption) (by with_reducible assumption) _).mono ?_; rintro _ w1 ⟨rfl, hb1⟩)
  go_ret
  exact ⟨rfl, (((Up.refl _).alloc _).alloc _).trans hb1⟩

end Go.Proofs.YtmlfkjmondkfnaaDoor

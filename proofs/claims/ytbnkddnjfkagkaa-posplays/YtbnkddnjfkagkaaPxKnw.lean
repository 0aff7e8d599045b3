/-
  Positions as a law sees them; known of rialtolaw14, as its text runs.
-/
import Derived.Test.YtbnkddnjfkagkaaPxWr
import Derived.Test.YtbnkddnjfkagkaaSqIns
namespace Go.Proofs.Ytbnkddnjfkagkaa
open Go.ChangeShapes Go.WideShapes Go.ChangeAt Go.RowKit
set_option linter.unusedVariables false
set_option maxRecDepth 100000
attribute [local go_sem ↓] Go.wp_at_zero Go.wp_at_succ

theorem mvL_eq {xs : List Int} {a t : Nat} (ha : a < xs.length) : mvL xs a t = insL (xs.getD a 0) (delL xs a) t := by
  unfold mvL
  by_cases h : t = a
  · rw [if_pos h, h, ins_back ha]
  · rw [if_neg h]
theorem mvL_len {xs : List Int} {a t : Nat} (ha : a < xs.length) (ht : t < xs.length) : (mvL xs a t).length = xs.length := by
  have := delL_len xs a ha
  rw [mvL_eq ha, insL_len _ _ _ (by omega)]
  exact this
theorem mvL_at {xs : List Int} {a t : Nat} (ha : a < xs.length) (ht : t < xs.length) : (mvL xs a t)[t]? = some (xs.getD a 0) := by
  have := delL_len xs a ha
  rw [mvL_eq ha, insL_get _ _ (by omega), if_neg (by omega), if_pos rfl]
theorem delL_insL {α : Type} (v : α) (l : List α) {j : Nat} (hj : j ≤ l.length) : delL (insL v l j) j = l := by
  unfold delL insL
  have h1 : (l.take j).length = j := by rw [List.length_take]; omega
  rw [List.take_left' h1, List.drop_append, h1, List.drop_eq_nil_of_le (by omega), List.nil_append, show j + 1 - j = 1 by omega, List.drop_succ_cons, List.drop_zero, List.take_append_drop]
theorem mvL_back {xs : List Int} {a t : Nat} (ha : a < xs.length) (ht : t < xs.length) : mvL (mvL xs a t) t a = xs := by
  have hl := delL_len xs a ha
  have h1 := mvL_len ha ht
  have h2 := mvL_at ha ht
  have h3 : (mvL xs a t).getD t 0 = xs.getD a 0 := by rw [List.getD_eq_getElem?_getD, h2]; rfl
  rw [mvL_eq (by omega), h3]
  have h4 : delL (mvL xs a t) t = delL xs a := by rw [mvL_eq ha, delL_insL _ _ (by omega)]
  rw [h4, ins_back ha]
variable {w wr : World} {p T M N : Nat} {xs : List Int}
theorem pin_new (w wk : World) (hu : Up w wk) : Calls Try.prog 27 #[] wk fun e w' => ∃ p T M, e = .returned (.pointer (some ⟨p, 0, none⟩)) ∧ SqIn w p T M [] 0 w' ∧ w.heap.size ≤ T ∧ w.heap.size ≤ M := by
  refine (pxnew_calls wk).mono ?_
  rintro _ w' ⟨p, T, M, rfl, ix, _, hT, hM, hu'⟩
  exact ⟨p, T, M, rfl, ⟨0, 0, _, ix, Nat.le_refl _, hu.trans hu'⟩, Nat.le_trans hu.size hT, Nat.le_trans hu.size hM⟩
theorem pin_ins (j : Nat) (id : Int) (hT : w.heap.size ≤ T) (hM : w.heap.size ≤ M) (i : SqIn w p T M xs N wr) (hw : wf64 id) (hid : id ∉ xs) (hj : j ≤ xs.length) (hx : xs.length ≤ 1000) (hN : N ≤ 1000000) :
    Calls Try.prog 30 #[.pointer (some ⟨p, 0, none⟩), .int .i64 j, .int .i64 id] wr fun e w' => e = .returned (.int .i64 0) ∧ SqIn w p T M (insL id xs j) (N + 800) w' := by
  obtain ⟨h, n, f, ix, hn, hu⟩ := i
  have hb := bitsN_le (m := xs.length + 1) (by omega)
  refine (pxinsertAt_ok j id ix hw hid hj hx (by omega)).mono ?_
  rintro _ w' ⟨rfl, d⟩
  exact ⟨rfl, SqIn.of hT hM hu d (by omega)⟩
theorem pin_insnot (j id : Int) (i : SqIn w p T M xs N wr) (hw : wf64 id) (hid : id ∉ xs) (hj : j < 0 ∨ (xs.length : Int) < j) :
    Calls Try.prog 30 #[.pointer (some ⟨p, 0, none⟩), .int .i64 j, .int .i64 id] wr fun e w' => e = .returned (.int .i64 73) ∧ SqIn w p T M xs N w' := by
  have i0 := i
  obtain ⟨h, n, f, ix, hn, hu⟩ := i
  refine (pxinsertAt_not j id ix hw hid hj).mono ?_
  rintro _ w' ⟨rfl, d⟩
  exact ⟨rfl, i0.up d⟩
theorem pin_move (a t : Nat) (id : Int) (hT : w.heap.size ≤ T) (hM : w.heap.size ≤ M) (i : SqIn w p T M xs N wr) (ha : a < xs.length) (hid : xs[a] = id) (ht : t < xs.length) (hx : xs.length ≤ 1000) (hN : N ≤ 1000000) :
    Calls Try.prog 32 #[.pointer (some ⟨p, 0, none⟩), .int .i64 id, .int .i64 t] wr fun e w' => e = .returned (.tuple #[.int .i64 a, .int .i64 0]) ∧ SqIn w p T M (mvL xs a t) (N + 1600) w' := by
  obtain ⟨h, n, f, ix, hn, hu⟩ := i
  have hb := bitsN_le (m := xs.length + 1) (by omega)
  refine (pxmove_ok a t id ix ha hid ht hx (by omega)).mono ?_
  rintro _ w' ⟨rfl, d⟩
  exact ⟨rfl, SqIn.of hT hM hu d (by omega)⟩
theorem pin_swap (a t : Nat) (hT : w.heap.size ≤ T) (hM : w.heap.size ≤ M) (i : SqIn w p T M xs N wr) (ha : a < xs.length) (ht : t < xs.length) (hx : xs.length ≤ 1000) (hN : N ≤ 1000000) :
    Calls Try.prog 34 #[.pointer (some ⟨p, 0, none⟩), .int .i64 a, .int .i64 t] wr fun e w' => e = .returned (.int .i64 0) ∧ SqIn w p T M (swL xs a t) (N + 1600) w' := by
  obtain ⟨h, n, f, ix, hn, hu⟩ := i
  have hb := bitsN_le (m := xs.length + 1) (by omega)
  refine (pxswap_ok a t ix ha ht hx (by omega)).mono ?_
  rintro _ w' ⟨rfl, d⟩
  exact ⟨rfl, SqIn.of hT hM hu d (by omega)⟩
theorem pin_all (i : SqIn w p T M xs N wr) (hx : xs.length ≤ 1000) :
    Calls Try.prog 36 #[.pointer (some ⟨p, 0, none⟩)] wr fun e w' => ∃ v, e = .returned v ∧ Told wr xs v w' ∧ SqIn w p T M xs N w' ∧ Up wr w' := by
  have i0 := i
  obtain ⟨h, n, f, ix, hn, hu⟩ := i
  refine (pxall_calls ix (by omega)).mono ?_
  rintro _ w' ⟨v, rfl, ho, d⟩
  exact ⟨v, rfl, ho, i0.up d, d⟩
theorem pin_place (k : Nat) (id : Int) (i : SqIn w p T M xs N wr) (hk : xs[k]? = some id) (hx : xs.length ≤ 1000) :
    Calls Try.prog 37 #[.pointer (some ⟨p, 0, none⟩), .int .i64 id] wr fun e w' => e = .returned (.tuple #[.int .i64 k, .bool true]) ∧ SqIn w p T M xs N w' := by
  have i0 := i
  obtain ⟨h, n, f, ix, hn, hu⟩ := i
  obtain ⟨h1, h2⟩ := List.getElem?_eq_some_iff.1 hk
  refine (pxplace_yes k id ix h1 h2 (by omega)).mono ?_
  rintro _ w' ⟨rfl, d⟩
  exact ⟨rfl, i0.up d⟩
theorem pin_at (k : Nat) (id : Int) (i : SqIn w p T M xs N wr) (hk : xs[k]? = some id) (hx : xs.length ≤ 1000) :
    Calls Try.prog 38 #[.pointer (some ⟨p, 0, none⟩), .int .i64 k] wr fun e w' => e = .returned (.tuple #[.int .i64 id, .bool true]) ∧ SqIn w p T M xs N w' := by
  have i0 := i
  obtain ⟨h, n, f, ix, hn, hu⟩ := i
  obtain ⟨h1, h2⟩ := List.getElem?_eq_some_iff.1 hk
  have := pxat_ok k ix h1 (by omega)
  rw [getD_in xs h1, h2] at this
  refine this.mono ?_
  rintro _ w' ⟨rfl, d⟩
  exact ⟨rfl, i0.up d⟩
theorem SqIn.nodup (i : SqIn w p T M xs N wr) : xs.Nodup := by
  obtain ⟨_, _, _, ix, _, _⟩ := i
  exact ix.ok.nd
theorem SqIn.upw (i : SqIn w p T M xs N wr) : Up w wr := by
  obtain ⟨_, _, _, _, _, hu⟩ := i
  exact hu
theorem ups_get {k j : Nat} (h : j < k) : (ups k)[j]? = some ((j : Int) + 1) := by
  unfold ups
  rw [List.getElem?_map, List.getElem?_range h]
  rfl
theorem ups_ins (i : Nat) : insL ((i : Int) + 1) (ups i) i = ups (i + 1) := by
  have h := insL_last ((i : Int) + 1) (ups i)
  rw [ups_len] at h
  rw [h, ups_succ]
set_option maxHeartbeats 4000000 in
theorem known14_calls (w : World) : Calls Try.prog 26 #[] w fun e w' => e = .returned (.bool true) ∧ Up w w' := by
  go_enter Try.func26, Try.ntmps26
  go_wp2_with fail
  refine (pin_new w w (Up.refl _)).mono ?_
  rintro _ w0 ⟨p, T, M, rfl, i0, hT, hM⟩
  replace i0 := hide i0
  dsimp only
  go_wp2_with fail
  refine (pin_ins 0 1 hT hM i0.out (wf64_small (by omega)) (by simp) (by simp) (by simp) (by omega)).mono ?_
  rintro _ w1 ⟨rfl, i1⟩
  replace i1 : Hid (SqIn w p T M [1] 1000 w1) := by
    obtain ⟨h, n, f, ix, hn, hu⟩ := i1
    exact ⟨h, n, f, ix, by omega, hu⟩
  dsimp only
  go_wp2_with fail
  refine (pin_ins 1 2 hT hM i1.out (wf64_small (by omega)) (by simp) (by simp) (by simp) (by omega)).mono ?_
  rintro _ w2 ⟨rfl, i2⟩
  replace i2 : Hid (SqIn w p T M [1, 2] 2000 w2) := by
    obtain ⟨h, n, f, ix, hn, hu⟩ := i2
    exact ⟨h, n, f, ix, by omega, hu⟩
  dsimp only
  go_wp2_with fail
  refine (pin_ins 2 3 hT hM i2.out (wf64_small (by omega)) (by simp) (by simp) (by simp) (by omega)).mono ?_
  rintro _ w3 ⟨rfl, i3⟩
  replace i3 : Hid (SqIn w p T M [1, 2, 3] 3000 w3) := by
    obtain ⟨h, n, f, ix, hn, hu⟩ := i3
    exact ⟨h, n, f, ix, by omega, hu⟩
  dsimp only
  go_wp2_with fail
  refine (pin_insnot 5 4 i3.out (wf64_small (by omega)) (by simp) (by simp)).mono ?_
  rintro _ w4 ⟨rfl, i4⟩
  replace i4 := hide i4
  dsimp only
  go_wp2_with fail
  have hmv : Hid (Calls Try.prog 32 #[.pointer (some ⟨p, 0, none⟩), .int .i64 1, .int .i64 2] w4 fun e w' => e = .returned (.tuple #[.int .i64 0, .int .i64 0]) ∧ SqIn w p T M [2, 3, 1] 4600 w') := pin_move 0 2 1 hT hM i4.out (by simp) rfl (by simp) (by simp) (by omega)
  refine hmv.out.mono ?_
  rintro _ w5 ⟨rfl, i5⟩
  replace i5 := hide i5
  clear hmv
  dsimp only
  go_wp2_with fail
  refine (pin_all i5.out (by simp)).mono ?_
  rintro _ w6 ⟨v6, rfl, ho6, i6, -⟩
  replace ho6 := hide ho6
  replace i6 := hide i6
  dsimp only
  have hnew : Hid (Own 2 (Value.int .i64) (w6.alloc (.cells #[.int .i64 2, .int .i64 3, .int .i64 1] 2)) w6.heap.size (.slice (some ⟨w6.heap.size, 0, none⟩) 3 3) [(2 : Int), 3, 1]) :=
    Own.mk (e := 2) (n := 3) (cap := 3) (l := [(2 : Int), 3, 1]) (Nat.le_refl _) (heap_alloc_new _ _) rfl (Nat.le_refl _) (by unfold maxLen; omega) rfl rfl
  have HUA : Hid (Up w6 (w6.alloc (.cells #[.int .i64 2, .int .i64 3, .int .i64 1] 2))) := (Up.refl _).alloc _
  obtain ⟨a6, n6, c6, rfl, -, -⟩ := ho6.out.sliceN
  go_wp2_with fail
  refine (ids_same (fun _ => False) (fun _ => False) _ _ [2, 3, 1] _ ((Own.up ho6.out HUA.out).rd (fun _ _ h => h)) (hnew.out.rd (fun _ _ h => h)) (by simp)).mono ?_
  rintro _ w7 ⟨rfl, hu7⟩
  replace i6 := hide (i6.out.up (HUA.out.trans hu7))
  clear hu7 HUA hnew ho6
  dsimp only
  go_wp2
  go_ret
  exact ⟨rfl, i6.out.upw⟩
end Go.Proofs.Ytbnkddnjfkagkaa

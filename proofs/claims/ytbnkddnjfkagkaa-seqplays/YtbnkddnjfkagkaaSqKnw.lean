/-
  Ids of rialtohelp at two equal rows, known of rialtolaw13, as their text runs.
-/
import Derived.Test.YtbnkddnjfkagkaaSqMov
import Derived.Test.YtbnkddnjfkagkaaSqInG
namespace Go.Proofs.Ytbnkddnjfkagkaa
open Go.ChangeShapes Go.WideShapes Go.ChangeAt Go.RowKit
set_option linter.unusedVariables false
set_option maxRecDepth 100000
attribute [local go_sem ↓] Go.wp_at_zero Go.wp_at_succ

/-- Add of what isn't there, among what a law has made. -/
theorem in_add {w wr : World} {p T M N : Nat} {xs : List Int} (id : Int) (hT : w.heap.size ≤ T) (hM : w.heap.size ≤ M) (i : SqIn w p T M xs N wr) (hw : wf64 id) (hid : id ∉ xs) (hx : xs.length ≤ 1000) (hN : N ≤ 1000000) :
    Calls Try.prog 13 #[.pointer (some ⟨p, 0, none⟩), .int .i64 id] wr fun e w' => e = .returned (.int .i64 0) ∧ SqIn w p T M (xs ++ [id]) (N + 800) w' := by
  obtain ⟨h, n, f, ix, hn, hu⟩ := i
  have hb := bitsN_le (m := xs.length + 1) (by omega)
  refine (sqadd_ok id ix hw hid hx (by omega)).mono ?_
  rintro _ w' ⟨rfl, d⟩
  exact ⟨rfl, SqIn.of hT hM hu d (by omega)⟩
theorem in_there {w wr : World} {p T M N : Nat} {xs : List Int} (id : Int) (i : SqIn w p T M xs N wr) (hw : wf64 id) (hid : id ∈ xs) :
    Calls Try.prog 13 #[.pointer (some ⟨p, 0, none⟩), .int .i64 id] wr fun e w' => e = .returned (.int .i64 72) ∧ SqIn w p T M xs N w' := by
  have i0 := i
  obtain ⟨h, n, f, ix, hn, hu⟩ := i
  refine (sqadd_there id ix hw hid).mono ?_
  rintro _ w' ⟨rfl, d⟩
  exact ⟨rfl, i0.up d⟩
theorem in_move {w wr : World} {p T M N : Nat} {xs : List Int} (a t : Nat) (id b : Int) (hT : w.heap.size ≤ T) (hM : w.heap.size ≤ M) (i : SqIn w p T M xs N wr) (ha : a < xs.length) (hid : xs[a] = id) (ht : TgtAt xs b t) (hx : xs.length ≤ 1000) (hN : N ≤ 1000000) :
    Calls Try.prog 15 #[.pointer (some ⟨p, 0, none⟩), .int .i64 id, .int .i64 b] wr fun e w' => e = .returned (.tuple #[.int .i64 a, .int .i64 0]) ∧ SqIn w p T M (shL xs a t) (N + 1600) w' ∧ Chg (TM T M) wr w' := by
  obtain ⟨h, n, f, ix, hn, hu⟩ := i
  have hb := bitsN_le (m := xs.length + 1) (by omega)
  refine (sqmove_ok a t id b ix ha hid ht hx (by omega)).mono ?_
  rintro _ w' ⟨rfl, d⟩
  obtain ⟨_, _, _, _, _, hc⟩ := (show _ from d)
  exact ⟨rfl, SqIn.of hT hM hu d (by omega), hc⟩
theorem in_all {w wr : World} {p T M N : Nat} {xs : List Int} (i : SqIn w p T M xs N wr) (hx : xs.length ≤ 1000) :
    Calls Try.prog 23 #[.pointer (some ⟨p, 0, none⟩)] wr fun e w' => ∃ v, e = .returned v ∧ Told wr xs v w' ∧ SqIn w p T M xs N w' ∧ Up wr w' := by
  have i0 := i
  obtain ⟨h, n, f, ix, hn, hu⟩ := i
  refine (sqall_calls ix (by omega)).mono ?_
  rintro _ w' ⟨v, rfl, ho, d⟩
  exact ⟨v, rfl, ho, i0.up d, d⟩
theorem in_place {w wr : World} {p T M N : Nat} {xs : List Int} (k : Nat) (id : Int) (i : SqIn w p T M xs N wr) (hk : k < xs.length) (hid : xs[k] = id) (hx : xs.length ≤ 1000) :
    Calls Try.prog 24 #[.pointer (some ⟨p, 0, none⟩), .int .i64 id] wr fun e w' => e = .returned (.tuple #[.int .i64 k, .bool true]) ∧ SqIn w p T M xs N w' ∧ Up wr w' := by
  have i0 := i
  obtain ⟨h, n, f, ix, hn, hu⟩ := i
  refine (sqplace_yes k id ix hk hid (by omega)).mono ?_
  rintro _ w' ⟨rfl, d⟩
  exact ⟨rfl, i0.up d, d⟩
theorem in_new (w wk : World) (hu : Up w wk) : Calls Try.prog 10 #[] wk fun e w' => ∃ p T M, e = .returned (.pointer (some ⟨p, 0, none⟩)) ∧ SqIn w p T M [] 0 w' ∧ w.heap.size ≤ T ∧ w.heap.size ≤ M := by
  refine (sqnew_calls wk).mono ?_
  rintro _ w' ⟨p, T, M, rfl, ix, _, hT, hM, hu'⟩
  exact ⟨p, T, M, rfl, ⟨0, 0, _, ix, Nat.le_refl _, hu.trans hu'⟩, Nat.le_trans hu.size hT, Nat.le_trans hu.size hM⟩
set_option maxHeartbeats 4000000 in
theorem known13_calls (w : World) : Calls Try.prog 9 #[] w fun e w' => e = .returned (.bool true) ∧ Up w w' := by
  go_enter Try.func9, Try.ntmps9
  go_wp2_with fail
  refine (in_new w w (Up.refl _)).mono ?_
  rintro _ w0 ⟨p, T, M, rfl, i0, hT, hM⟩
  replace i0 := hide i0
  dsimp only
  go_wp2_with fail
  refine (in_add 1 hT hM i0.out (wf64_small (by omega)) (by simp) (by simp) (by omega)).mono ?_
  rintro _ w1 ⟨rfl, i1⟩
  replace i1 := hide i1
  dsimp only
  go_wp2_with fail
  refine (in_add 2 hT hM i1.out (wf64_small (by omega)) (by simp) (by simp) (by omega)).mono ?_
  rintro _ w2 ⟨rfl, i2⟩
  replace i2 := hide i2
  dsimp only
  go_wp2_with fail
  refine (in_add 3 hT hM i2.out (wf64_small (by omega)) (by simp) (by simp) (by omega)).mono ?_
  rintro _ w3 ⟨rfl, i3⟩
  replace i3 := hide i3
  dsimp only
  go_wp2_with fail
  refine (in_there 3 i3.out (wf64_small (by omega)) (by simp)).mono ?_
  rintro _ w4 ⟨rfl, i4⟩
  replace i4 := hide i4
  dsimp only
  go_wp2_with fail
  have hmv : Hid (Calls Try.prog 15 #[.pointer (some ⟨p, 0, none⟩), .int .i64 3, .int .i64 1] w4 fun e w' => e = .returned (.tuple #[.int .i64 2, .int .i64 0]) ∧ SqIn w p T M [3, 1, 2] 4000 w') := (in_move 2 0 3 1 hT hM i4.out (by simp) rfl (.inr ⟨by omega, rfl⟩) (by simp) (by omega)).mono (fun _ _ ⟨h1, h2, _⟩ => ⟨h1, h2⟩)
  refine hmv.out.mono ?_
  rintro _ w5 ⟨rfl, i5⟩
  replace i5 := hide i5
  clear hmv
  dsimp only
  go_wp2_with fail
  refine (in_all i5.out (by simp)).mono ?_
  rintro _ w6 ⟨v6, rfl, ho6, i6, -⟩
  replace ho6 := hide ho6
  replace i6 := hide i6
  dsimp only
  have hnew : Hid (Own 2 (Value.int .i64) (w6.alloc (.cells #[.int .i64 3, .int .i64 1, .int .i64 2] 2)) w6.heap.size (.slice (some ⟨w6.heap.size, 0, none⟩) 3 3) [(3 : Int), 1, 2]) :=
    Own.mk (e := 2) (n := 3) (cap := 3) (l := [(3 : Int), 1, 2]) (Nat.le_refl _) (heap_alloc_new _ _) rfl (Nat.le_refl _) (by unfold maxLen; omega) rfl rfl
  have HUA : Hid (Up w6 (w6.alloc (.cells #[.int .i64 3, .int .i64 1, .int .i64 2] 2))) := (Up.refl _).alloc _
  obtain ⟨a6, n6, c6, rfl, -, -⟩ := ho6.out.sliceN
  go_wp2_with fail
  refine (ids_same (fun _ => False) (fun _ => False) _ _ [3, 1, 2] _ ((Own.up ho6.out HUA.out).rd (fun _ _ h => h)) (hnew.out.rd (fun _ _ h => h)) (by simp)).mono ?_
  rintro _ w7 ⟨rfl, hu7⟩
  replace i6 := hide (i6.out.up (HUA.out.trans hu7))
  clear hu7 HUA hnew ho6
  dsimp only
  go_wp2
  go_ret
  obtain ⟨_, _, _, _, _, hu⟩ := i6.out
  exact ⟨rfl, hu⟩
end Go.Proofs.Ytbnkddnjfkagkaa

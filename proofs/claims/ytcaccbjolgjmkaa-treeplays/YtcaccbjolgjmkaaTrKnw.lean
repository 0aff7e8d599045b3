/-
  known of rialtolaw11, as its text runs: it tells true.
-/
import Derived.Test.YtcaccbjolgjmkaaTrAskI
namespace Go.Proofs.Ytcaccbjolgjmkaa
open Go.ChangeShapes Go.WideShapes Go.ChangeAt Go.RowKit
set_option linter.unusedVariables false
set_option maxRecDepth 100000
attribute [local go_sem ↓] Go.wp_at_zero Go.wp_at_succ

theorem up_of_tree {w w1 w2 : World} {T : Nat} (hu : Up w w1) (hT : w.heap.size ≤ T) (hc : Chg (fun y => y = T) w1 w2) : Up w w2 := up_of_chg_new hu hc hT
set_option maxHeartbeats 4000000 in
theorem known11_calls (w : World) : Calls Try.prog 9 #[] w fun e w' => e = .returned (.bool true) ∧ Up w w' := by
  go_enter Try.func9, Try.ntmps9
  go_wp2_with fail
  refine (tnewI_calls w).mono ?_
  rintro _ w1 ⟨T, rfl, t1, hTw, hu1⟩
  replace t1 := hide t1
  replace hu1 := hide hu1
  dsimp only
  go_wp2_with fail
  refine (insertAtI_ok T 0 0 0 5 [] w1 t1.out (by simp) (by simp) (by decide)).mono ?_
  rintro _ w2 ⟨rfl, h2, k2, t2, -, hk2, hc2⟩
  have hu2 := hide (up_of_tree hu1.out hTw hc2)
  replace t2 := hide t2
  clear hc2
  dsimp only
  go_wp2_with fail
  refine (insertAtI_ok T h2 _ 0 6 _ w2 t2.out (by simp) (by simp [insL]) (by omega)).mono ?_
  rintro _ w3 ⟨rfl, h3, k3, t3, -, hk3, hc3⟩
  have hh2 := t2.out.low (by simp [insL])
  have hu3 := hide (up_of_tree hu2.out hTw hc3)
  replace t3 := hide t3
  clear hc3
  dsimp only
  go_wp2_with fail
  refine (insertAtI_ok T h3 _ 1 7 _ w3 t3.out (by simp [insL]) (by simp [insL]) (by omega)).mono ?_
  rintro _ w4 ⟨rfl, h4, k4, t4, -, hk4, hc4⟩
  have hh3 := t3.out.low (by simp [insL])
  have hu4 := hide (up_of_tree hu3.out hTw hc4)
  replace t4 := hide t4
  clear hc4
  dsimp only
  go_wp2_with fail
  have ha : Hid (Calls Try.prog 21 #[.pointer (some ⟨T, 0, none⟩), .int .i64 1] w4 fun e w' => e = .returned (.tuple #[.int .i64 7, .bool true]) ∧ Up w4 w') := tatI_ok T h4 _ 1 0 _ w4 t4.out (by simp [insL]) (by simp [insL])
  refine ha.out.mono ?_
  rintro _ w5 ⟨rfl, hu5⟩
  replace t4 := hide (t4.out.up hu5)
  have hu5' := hide (hu4.out.trans hu5)
  clear hu5 ha
  dsimp only
  go_wp2_with fail
  have he : Hid (Calls Try.prog 13 #[.pointer (some ⟨T, 0, none⟩), .int .i64 0] w5 fun e w' => e = .returned (.tuple #[.int .i64 6, .int .i64 0]) ∧ TrDoneI T (0 + k2 + k3 + k4) h4 (delL (insL 7 (insL 6 (insL 5 [] 0) 0) 1) 0) w5 w') := eraseAtI_ok T h4 _ 0 0 _ w5 t4.out (by simp [insL]) (by simp [insL]) (by omega)
  refine he.out.mono ?_
  rintro _ w6 ⟨rfl, h6, k6, t6, -, hk6, hc6⟩
  have hu6 := hide (up_of_tree hu5'.out hTw hc6)
  have hl : delL (insL (7 : Int) (insL 6 (insL 5 [] 0) 0) 1) 0 = [7, 5] := rfl
  rw [hl] at t6
  have hh6 : h6 = 0 := t6.low (by simp)
  subst hh6
  replace t6 := hide t6
  clear hc6 he hl
  dsimp only
  go_wp2_with fail
  refine (tlenI_calls T 0 _ _ w6 t6.out).mono ?_
  rintro _ w7 ⟨rfl, hw7⟩
  obtain rfl : w6 = w7 := hw7.symm
  dsimp only
  go_wp2_with fail
  refine (insertAtI_not T 0 _ 9 1 _ w6 t6.out (.inr (by simp)) (by simp)).mono ?_
  rintro _ w8 ⟨rfl, hu8⟩
  replace t6 := hide (t6.out.up hu8)
  have hu8' := hide (hu6.out.trans hu8)
  clear hu8
  dsimp only
  go_wp2_with fail
  refine (theightI_some T 0 _ _ w8 t6.out (by simp) (by omega)).mono ?_
  rintro _ w9 ⟨rfl, hu9⟩
  have hu9' := hide (hu8'.out.trans hu9)
  clear hu9
  dsimp only
  go_wp2
  go_ret
  exact ⟨rfl, hu9'.out⟩
end Go.Proofs.Ytcaccbjolgjmkaa

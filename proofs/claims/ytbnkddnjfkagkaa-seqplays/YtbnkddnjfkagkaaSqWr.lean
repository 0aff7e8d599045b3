/-
  A sequence's calls that hand on to its list, as their text runs.
-/
import Derived.Test.YtbnkddnjfkagkaaSqIx
namespace Go.Proofs.Ytbnkddnjfkagkaa
open Go.ChangeShapes Go.WideShapes Go.ChangeAt Go.RowKit
set_option linter.unusedVariables false
set_option maxRecDepth 100000
attribute [local go_sem ↓] Go.wp_at_zero Go.wp_at_succ

variable {Y : Nat → Prop} {p q T M : Nat} {xs zs : List Int} {h n h' n' : Nat} {f f' : Int → Option Nat} {w w' : World}
set_option maxHeartbeats 2000000 in
theorem sqnew_calls (w : World) : Calls Try.prog 10 #[] w fun e w' => ∃ q T M, e = .returned (.pointer (some ⟨q, 0, none⟩)) ∧ SqIx (fun _ => False) q T M [] 0 0 (fun _ => none) w' ∧ w.heap.size ≤ q ∧ w.heap.size ≤ T ∧ w.heap.size ≤ M ∧ Up w w' := by
  go_enter Try.func10, Try.ntmps10
  go_wp2_with fail
  refine (plnew_calls w).mono ?_
  rintro _ w1 ⟨p, T, M, rfl, ix, hp, hT, hM, hu⟩
  have HIX := hide ix
  have HU := hide hu
  clear ix hu
  dsimp only
  go_wp2
  go_ret
  have hTl := HIX.out.tr.tr.lt
  have hMl := HIX.out.mp.lt
  have hu2 : Up w1 (w1.alloc (.cells #[.pointer (some ⟨p, 0, none⟩)] 68)) := (Up.refl _).alloc _
  exact ⟨w1.heap.size, T, M, rfl, ⟨⟨p, by go_simp, HIX.out.up hu2⟩, by omega, by omega, fun h => h⟩, HU.out.size, hT, hM, HU.out.trans hu2⟩
theorem sqlen_calls (i : SqIx Y q T M xs h n f w) :
    Calls Try.prog 21 #[.pointer (some ⟨q, 0, none⟩)] w fun e w' => e = .returned (.int .i64 xs.length) ∧ w' = w := by
  obtain ⟨p, cq, ix⟩ := i.ex
  have HC := hide (pllen_calls ix)
  clear ix i
  go_enter Try.func21, Try.ntmps21
  go_wp2_with (go_at_call 52; refine HC.out.mono ?_; rintro _ w1 ⟨rfl, hw1⟩; subst hw1)
  go_ret
  exact ⟨rfl, rfl⟩
theorem sqwrites_calls (i : SqIx Y q T M xs h n f w) :
    Calls Try.prog 12 #[.pointer (some ⟨q, 0, none⟩)] w fun e w' => e = .returned (.int .i64 n) ∧ w' = w := by
  obtain ⟨p, cq, ix⟩ := i.ex
  have HC := hide (plwrites_calls ix)
  clear ix i
  go_enter Try.func12, Try.ntmps12
  go_wp2_with (go_at_call 40; refine HC.out.mono ?_; rintro _ w1 ⟨rfl, hw1⟩; subst hw1)
  go_ret
  exact ⟨rfl, rfl⟩
theorem sqat_ok (k : Nat) (i : SqIx Y q T M xs h n f w) (hk : k < xs.length) (hx : xs.length ≤ 100000) :
    Calls Try.prog 25 #[.pointer (some ⟨q, 0, none⟩), .int .i64 k] w fun e w' => e = .returned (.tuple #[.int .i64 (xs.getD k 0), .bool true]) ∧ Up w w' := by
  obtain ⟨p, cq, ix⟩ := i.ex
  have HC := hide (plat_ok k ix hk hx)
  generalize xs.getD k 0 = v at *
  clear ix i
  go_enter Try.func25, Try.ntmps25
  go_wp2_with (go_at_call 55; refine HC.out.mono ?_; rintro _ w1 ⟨rfl, hw1⟩; replace hw1 := hide hw1)
  go_ret2
  exact ⟨rfl, hw1.out⟩
theorem sqat_not (k : Int) (i : SqIx Y q T M xs h n f w) (hk : k < 0 ∨ (xs.length : Int) ≤ k) :
    Calls Try.prog 25 #[.pointer (some ⟨q, 0, none⟩), .int .i64 k] w fun e w' => e = .returned (.tuple #[.int .i64 0, .bool false]) ∧ Up w w' := by
  obtain ⟨p, cq, ix⟩ := i.ex
  have HC := hide (plat_not k ix hk)
  clear hk
  clear ix i
  go_enter Try.func25, Try.ntmps25
  go_wp2_with (go_at_call 55; refine HC.out.mono ?_; rintro _ w1 ⟨rfl, hw1⟩; replace hw1 := hide hw1)
  go_ret2
  exact ⟨rfl, hw1.out⟩
theorem sqall_calls (i : SqIx Y q T M xs h n f w) (hx : xs.length ≤ 100000) :
    Calls Try.prog 23 #[.pointer (some ⟨q, 0, none⟩)] w fun e w' => AppPost w xs e w' := by
  obtain ⟨p, cq, ix⟩ := i.ex
  have HC := hide (plall_calls ix hx)
  clear ix i
  go_enter Try.func23, Try.ntmps23
  go_wp2_with fail
  refine HC.out.mono ?_
  rintro _ w1 ⟨v1, rfl, ho, hu⟩
  replace ho := hide ho
  replace hu := hide hu
  obtain ⟨a6, n6, c6, rfl, -, -⟩ := ho.out.sliceN
  dsimp only
  go_wp2
  go_ret
  exact ⟨_, rfl, ho.out, hu.out⟩
theorem sqplace_no (id : Int) (i : SqIx Y q T M xs h n f w) (hw : wf64 id) (hid : id ∉ xs) :
    Calls Try.prog 24 #[.pointer (some ⟨q, 0, none⟩), .int .i64 id] w fun e w' => e = .returned (.tuple #[.int .i64 0, .bool false]) ∧ Up w w' := by
  obtain ⟨p, cq, ix⟩ := i.ex
  have HC := hide (plplace_no id ix hw hid)
  clear hid
  clear ix i
  go_enter Try.func24, Try.ntmps24
  go_wp2_with (go_at_call 54; refine HC.out.mono ?_; rintro _ w1 ⟨rfl, hw1⟩; replace hw1 := hide hw1)
  go_ret2
  exact ⟨rfl, hw1.out⟩
theorem sqplace_yes (k : Nat) (id : Int) (i : SqIx Y q T M xs h n f w) (hk : k < xs.length) (hid : xs[k] = id) (hx : xs.length ≤ 100000) :
    Calls Try.prog 24 #[.pointer (some ⟨q, 0, none⟩), .int .i64 id] w fun e w' => e = .returned (.tuple #[.int .i64 k, .bool true]) ∧ Up w w' := by
  obtain ⟨p, cq, ix⟩ := i.ex
  have HC := hide (plplace_yes k id ix hk hid hx)
  clear hid hk
  clear ix i
  go_enter Try.func24, Try.ntmps24
  go_wp2_with (go_at_call 54; refine HC.out.mono ?_; rintro _ w1 ⟨rfl, hw1⟩; replace hw1 := hide hw1)
  go_ret2
  exact ⟨rfl, hw1.out⟩
theorem sqinsertAt_there (j id : Int) (i : SqIx Y q T M xs h n f w) (hw : wf64 id) (hid : id ∈ xs) :
    Calls Try.prog 19 #[.pointer (some ⟨q, 0, none⟩), .int .i64 j, .int .i64 id] w fun e w' => e = .returned (.int .i64 72) ∧ Up w w' := by
  obtain ⟨p, cq, ix⟩ := i.ex
  have HC := hide (plinsert_there j id ix hw hid)
  clear hid
  clear ix i
  go_enter Try.func19, Try.ntmps19
  go_wp2_with (go_at_call 51; refine HC.out.mono ?_; rintro _ w1 ⟨rfl, hw1⟩; replace hw1 := hide hw1)
  go_ret
  exact ⟨rfl, hw1.out⟩
theorem sqinsertAt_not (j id : Int) (i : SqIx Y q T M xs h n f w) (hw : wf64 id) (hid : id ∉ xs) (hj : j < 0 ∨ (xs.length : Int) < j) :
    Calls Try.prog 19 #[.pointer (some ⟨q, 0, none⟩), .int .i64 j, .int .i64 id] w fun e w' => e = .returned (.int .i64 73) ∧ Up w w' := by
  obtain ⟨p, cq, ix⟩ := i.ex
  have HC := hide (plinsert_not j id ix hw hid hj)
  clear hid hj
  clear ix i
  go_enter Try.func19, Try.ntmps19
  go_wp2_with (go_at_call 51; refine HC.out.mono ?_; rintro _ w1 ⟨rfl, hw1⟩; replace hw1 := hide hw1)
  go_ret
  exact ⟨rfl, hw1.out⟩
theorem sqinsertAt_ok (j : Nat) (id : Int) (i : SqIx Y q T M xs h n f w) (hw : wf64 id) (hid : id ∉ xs) (hj : j ≤ xs.length) (hx : xs.length ≤ 1000) (hn : n ≤ 10000000) :
    Calls Try.prog 19 #[.pointer (some ⟨q, 0, none⟩), .int .i64 j, .int .i64 id] w fun e w' => e = .returned (.int .i64 0) ∧ SqDone Y q T M (insL id xs j) n (8 * bitsN (xs.length + 1)) w w' := by
  obtain ⟨p, cq, ix⟩ := i.ex
  have HC := hide (plinsert_ok j id ix hj hw hid hx hn)
  clear hid hj
  have HD : Hid (∀ {zs : List Int} {K : Nat} {w' : World}, PlDone Y p T M zs n K w w' → SqDone Y q T M zs n K w w') := SqDone.of cq i.qT i.qM i.yq
  clear ix i
  go_enter Try.func19, Try.ntmps19
  go_wp2_with (go_at_call 51; refine HC.out.mono ?_; rintro _ w1 ⟨rfl, hw1⟩; replace hw1 := hide (HD.out hw1))
  go_ret
  exact ⟨rfl, hw1.out⟩
theorem lacks_calls (id : Int) (i : SqIx Y q T M xs h n f w) (hw : wf64 id) (b : Bool) (hb : b = decide (id ∉ xs)) : Calls Try.prog 47 #[.pointer (some ⟨q, 0, none⟩), .int .i64 id] w fun e w' => e = .returned (.bool b) ∧ w' = w := by
  obtain ⟨p, cq, ix⟩ := i.ex
  have HC := hide (plhas_calls id ix hw (!b) (by rw [hb]; simp))
  clear ix i hb
  cases b with
  | true =>
    go_enter Try.func47, Try.ntmps47
    go_wp2_with (go_at_call 62; refine HC.out.mono ?_; rintro _ w1 ⟨rfl, hw1⟩; subst hw1)
    go_ret
    exact ⟨rfl, rfl⟩
  | false =>
    go_enter Try.func47, Try.ntmps47
    go_wp2_with (go_at_call 62; refine HC.out.mono ?_; rintro _ w1 ⟨rfl, hw1⟩; subst hw1)
    go_ret
    exact ⟨rfl, rfl⟩
end Go.Proofs.Ytbnkddnjfkagkaa

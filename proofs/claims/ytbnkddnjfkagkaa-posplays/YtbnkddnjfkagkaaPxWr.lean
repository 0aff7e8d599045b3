/-
  The calls of positions, as their text runs.
-/
import Derived.Test.YtbnkddnjfkagkaaSqIx
namespace Go.Proofs.Ytbnkddnjfkagkaa
open Go.ChangeShapes Go.WideShapes Go.ChangeAt Go.RowKit
set_option linter.unusedVariables false
set_option maxRecDepth 100000
attribute [local go_sem ↓] Go.wp_at_zero Go.wp_at_succ

variable {Y : Nat → Prop} {p q T M : Nat} {xs zs : List Int} {h n h' n' : Nat} {f f' : Int → Option Nat} {w w' : World}
set_option maxHeartbeats 2000000 in
theorem pxnew_calls (w : World) : Calls Try.prog 27 #[] w fun e w' => ∃ q T M, e = .returned (.pointer (some ⟨q, 0, none⟩)) ∧ SqIx (fun _ => False) q T M [] 0 0 (fun _ => none) w' ∧ w.heap.size ≤ q ∧ w.heap.size ≤ T ∧ w.heap.size ≤ M ∧ Up w w' := by
  go_enter Try.func27, Try.ntmps27
  go_wp2_with fail
  refine (plnew_calls w).mono ?_
  rintro _ w1 ⟨p, T, M, rfl, ix, hp, hT, hM, hu⟩
  have HIX := hide ix
  have HU := hide hu
  clear ix hu
  dsimp only
  go_wp2
  go_ret
  have hTl := HIX.out.tr.tr.lt
  have hMl := HIX.out.mp.lt
  have hu2 : Up w1 (w1.alloc (.cells #[.pointer (some ⟨p, 0, none⟩)] 79)) := (Up.refl _).alloc _
  exact ⟨w1.heap.size, T, M, rfl, ⟨⟨p, by go_simp, HIX.out.up hu2⟩, by omega, by omega, fun h => h⟩, HU.out.size, hT, hM, HU.out.trans hu2⟩
theorem pxlen_calls (i : SqIx Y q T M xs h n f w) :
    Calls Try.prog 35 #[.pointer (some ⟨q, 0, none⟩)] w fun e w' => e = .returned (.int .i64 xs.length) ∧ w' = w := by
  obtain ⟨p, cq, ix⟩ := i.ex
  have HC := hide (pllen_calls ix)
  clear ix i
  go_enter Try.func35, Try.ntmps35
  go_wp2_with (go_at_call 52; refine HC.out.mono ?_; rintro _ w1 ⟨rfl, hw1⟩; subst hw1)
  go_ret
  exact ⟨rfl, rfl⟩
theorem pxwrites_calls (i : SqIx Y q T M xs h n f w) :
    Calls Try.prog 28 #[.pointer (some ⟨q, 0, none⟩)] w fun e w' => e = .returned (.int .i64 n) ∧ w' = w := by
  obtain ⟨p, cq, ix⟩ := i.ex
  have HC := hide (plwrites_calls ix)
  clear ix i
  go_enter Try.func28, Try.ntmps28
  go_wp2_with (go_at_call 40; refine HC.out.mono ?_; rintro _ w1 ⟨rfl, hw1⟩; subst hw1)
  go_ret
  exact ⟨rfl, rfl⟩
theorem pxat_ok (k : Nat) (i : SqIx Y q T M xs h n f w) (hk : k < xs.length) (hx : xs.length ≤ 100000) :
    Calls Try.prog 38 #[.pointer (some ⟨q, 0, none⟩), .int .i64 k] w fun e w' => e = .returned (.tuple #[.int .i64 (xs.getD k 0), .bool true]) ∧ Up w w' := by
  obtain ⟨p, cq, ix⟩ := i.ex
  have HC := hide (plat_ok k ix hk hx)
  generalize xs.getD k 0 = v at *
  clear ix i
  go_enter Try.func38, Try.ntmps38
  go_wp2_with (go_at_call 55; refine HC.out.mono ?_; rintro _ w1 ⟨rfl, hw1⟩; replace hw1 := hide hw1)
  go_ret2
  exact ⟨rfl, hw1.out⟩
theorem pxat_not (k : Int) (i : SqIx Y q T M xs h n f w) (hk : k < 0 ∨ (xs.length : Int) ≤ k) :
    Calls Try.prog 38 #[.pointer (some ⟨q, 0, none⟩), .int .i64 k] w fun e w' => e = .returned (.tuple #[.int .i64 0, .bool false]) ∧ Up w w' := by
  obtain ⟨p, cq, ix⟩ := i.ex
  have HC := hide (plat_not k ix hk)
  clear hk
  clear ix i
  go_enter Try.func38, Try.ntmps38
  go_wp2_with (go_at_call 55; refine HC.out.mono ?_; rintro _ w1 ⟨rfl, hw1⟩; replace hw1 := hide hw1)
  go_ret2
  exact ⟨rfl, hw1.out⟩
theorem pxall_calls (i : SqIx Y q T M xs h n f w) (hx : xs.length ≤ 100000) :
    Calls Try.prog 36 #[.pointer (some ⟨q, 0, none⟩)] w fun e w' => AppPost w xs e w' := by
  obtain ⟨p, cq, ix⟩ := i.ex
  have HC := hide (plall_calls ix hx)
  clear ix i
  go_enter Try.func36, Try.ntmps36
  go_wp2_with fail
  refine HC.out.mono ?_
  rintro _ w1 ⟨v1, rfl, ho, hu⟩
  replace ho := hide ho
  replace hu := hide hu
  obtain ⟨a6, n6, c6, rfl, -, -⟩ := ho.out.sliceN
  dsimp only
  go_wp2
  go_ret
  exact ⟨_, rfl, ho.out, hu.out⟩
theorem pxplace_no (id : Int) (i : SqIx Y q T M xs h n f w) (hw : wf64 id) (hid : id ∉ xs) :
    Calls Try.prog 37 #[.pointer (some ⟨q, 0, none⟩), .int .i64 id] w fun e w' => e = .returned (.tuple #[.int .i64 0, .bool false]) ∧ Up w w' := by
  obtain ⟨p, cq, ix⟩ := i.ex
  have HC := hide (plplace_no id ix hw hid)
  clear hid
  clear ix i
  go_enter Try.func37, Try.ntmps37
  go_wp2_with (go_at_call 54; refine HC.out.mono ?_; rintro _ w1 ⟨rfl, hw1⟩; replace hw1 := hide hw1)
  go_ret2
  exact ⟨rfl, hw1.out⟩
theorem pxplace_yes (k : Nat) (id : Int) (i : SqIx Y q T M xs h n f w) (hk : k < xs.length) (hid : xs[k] = id) (hx : xs.length ≤ 100000) :
    Calls Try.prog 37 #[.pointer (some ⟨q, 0, none⟩), .int .i64 id] w fun e w' => e = .returned (.tuple #[.int .i64 k, .bool true]) ∧ Up w w' := by
  obtain ⟨p, cq, ix⟩ := i.ex
  have HC := hide (plplace_yes k id ix hk hid hx)
  clear hid hk
  clear ix i
  go_enter Try.func37, Try.ntmps37
  go_wp2_with (go_at_call 54; refine HC.out.mono ?_; rintro _ w1 ⟨rfl, hw1⟩; replace hw1 := hide hw1)
  go_ret2
  exact ⟨rfl, hw1.out⟩
theorem pxinsertAt_there (j id : Int) (i : SqIx Y q T M xs h n f w) (hw : wf64 id) (hid : id ∈ xs) :
    Calls Try.prog 30 #[.pointer (some ⟨q, 0, none⟩), .int .i64 j, .int .i64 id] w fun e w' => e = .returned (.int .i64 72) ∧ Up w w' := by
  obtain ⟨p, cq, ix⟩ := i.ex
  have HC := hide (plinsert_there j id ix hw hid)
  clear hid
  clear ix i
  go_enter Try.func30, Try.ntmps30
  go_wp2_with (go_at_call 51; refine HC.out.mono ?_; rintro _ w1 ⟨rfl, hw1⟩; replace hw1 := hide hw1)
  go_ret
  exact ⟨rfl, hw1.out⟩
theorem pxinsertAt_not (j id : Int) (i : SqIx Y q T M xs h n f w) (hw : wf64 id) (hid : id ∉ xs) (hj : j < 0 ∨ (xs.length : Int) < j) :
    Calls Try.prog 30 #[.pointer (some ⟨q, 0, none⟩), .int .i64 j, .int .i64 id] w fun e w' => e = .returned (.int .i64 73) ∧ Up w w' := by
  obtain ⟨p, cq, ix⟩ := i.ex
  have HC := hide (plinsert_not j id ix hw hid hj)
  clear hid hj
  clear ix i
  go_enter Try.func30, Try.ntmps30
  go_wp2_with (go_at_call 51; refine HC.out.mono ?_; rintro _ w1 ⟨rfl, hw1⟩; replace hw1 := hide hw1)
  go_ret
  exact ⟨rfl, hw1.out⟩
theorem pxinsertAt_ok (j : Nat) (id : Int) (i : SqIx Y q T M xs h n f w) (hw : wf64 id) (hid : id ∉ xs) (hj : j ≤ xs.length) (hx : xs.length ≤ 1000) (hn : n ≤ 10000000) :
    Calls Try.prog 30 #[.pointer (some ⟨q, 0, none⟩), .int .i64 j, .int .i64 id] w fun e w' => e = .returned (.int .i64 0) ∧ SqDone Y q T M (insL id xs j) n (8 * bitsN (xs.length + 1)) w w' := by
  obtain ⟨p, cq, ix⟩ := i.ex
  have HC := hide (plinsert_ok j id ix hj hw hid hx hn)
  clear hid hj
  have HD : Hid (∀ {zs : List Int} {K : Nat} {w' : World}, PlDone Y p T M zs n K w w' → SqDone Y q T M zs n K w w') := SqDone.of cq i.qT i.qM i.yq
  clear ix i
  go_enter Try.func30, Try.ntmps30
  go_wp2_with (go_at_call 51; refine HC.out.mono ?_; rintro _ w1 ⟨rfl, hw1⟩; replace hw1 := hide (HD.out hw1))
  go_ret
  exact ⟨rfl, hw1.out⟩
theorem pxerase_ok (k : Nat) (i : SqIx Y q T M xs h n f w) (hk : k < xs.length) (hx : xs.length ≤ 1000) (hn : n ≤ 10000000) :
    Calls Try.prog 31 #[.pointer (some ⟨q, 0, none⟩), .int .i64 k] w fun e w' => e = .returned (.tuple #[.int .i64 (xs.getD k 0), .int .i64 0]) ∧ SqDone Y q T M (delL xs k) n (8 * bitsN (xs.length + 1)) w w' := by
  obtain ⟨p, cq, ix⟩ := i.ex
  have HC := hide (plerase_ok k ix hk hx hn)
  generalize xs.getD k 0 = v at *
  have HD : Hid (∀ {zs : List Int} {K : Nat} {w' : World}, PlDone Y p T M zs n K w w' → SqDone Y q T M zs n K w w') := SqDone.of cq i.qT i.qM i.yq
  clear ix i
  go_enter Try.func31, Try.ntmps31
  go_wp2_with (go_at_call 41; refine HC.out.mono ?_; rintro _ w1 ⟨rfl, hw1⟩; replace hw1 := hide (HD.out hw1))
  go_ret2
  exact ⟨rfl, hw1.out⟩
theorem pxerase_not (j : Int) (i : SqIx Y q T M xs h n f w) (hj : j < 0 ∨ (xs.length : Int) ≤ j) :
    Calls Try.prog 31 #[.pointer (some ⟨q, 0, none⟩), .int .i64 j] w fun e w' => e = .returned (.tuple #[.int .i64 0, .int .i64 73]) ∧ Up w w' := by
  obtain ⟨p, cq, ix⟩ := i.ex
  have HC := hide (plerase_not j ix hj)
  clear hj
  clear ix i
  go_enter Try.func31, Try.ntmps31
  go_wp2_with (go_at_call 41; refine HC.out.mono ?_; rintro _ w1 ⟨rfl, hw1⟩; replace hw1 := hide hw1)
  go_ret2
  exact ⟨rfl, hw1.out⟩
theorem pxswap_not (j k : Int) (i : SqIx Y q T M xs h n f w) (hno : ¬ (0 ≤ j ∧ j < (xs.length : Int)) ∨ ¬ (0 ≤ k ∧ k < (xs.length : Int))) :
    Calls Try.prog 34 #[.pointer (some ⟨q, 0, none⟩), .int .i64 j, .int .i64 k] w fun e w' => e = .returned (.int .i64 73) ∧ Up w w' := by
  obtain ⟨p, cq, ix⟩ := i.ex
  have HC := hide (plswap_not j k ix hno)
  clear hno
  clear ix i
  go_enter Try.func34, Try.ntmps34
  go_wp2_with (go_at_call 57; refine HC.out.mono ?_; rintro _ w1 ⟨rfl, hw1⟩; subst hw1)
  go_ret
  exact ⟨rfl, Up.refl _⟩
theorem pxswap_ok (j k : Nat) (i : SqIx Y q T M xs h n f w) (hj : j < xs.length) (hk : k < xs.length) (hx : xs.length ≤ 1000) (hn : n ≤ 9000000) :
    Calls Try.prog 34 #[.pointer (some ⟨q, 0, none⟩), .int .i64 j, .int .i64 k] w fun e w' => e = .returned (.int .i64 0) ∧ SqDone Y q T M (swL xs j k) n (16 * bitsN (xs.length + 1)) w w' := by
  obtain ⟨p, cq, ix⟩ := i.ex
  have HC := hide (plswap_all j k ix hj hk hx hn)
  have HD : Hid (∀ {zs : List Int} {K : Nat} {w' : World}, PlDone Y p T M zs n K w w' → SqDone Y q T M zs n K w w') := SqDone.of cq i.qT i.qM i.yq
  clear ix i
  go_enter Try.func34, Try.ntmps34
  go_wp2_with (go_at_call 57; refine HC.out.mono ?_; rintro _ w1 ⟨rfl, hw1⟩; replace hw1 := hide (HD.out hw1))
  go_ret
  exact ⟨rfl, hw1.out⟩
theorem pxmove_none (id t : Int) (i : SqIx Y q T M xs h n f w) (hw : wf64 id) (hid : id ∉ xs) :
    Calls Try.prog 32 #[.pointer (some ⟨q, 0, none⟩), .int .i64 id, .int .i64 t] w fun e w' => e = .returned (.tuple #[.int .i64 0, .int .i64 71]) ∧ Up w w' := by
  have HPL := hide (pxplace_no id i hw hid)
  clear i hid
  go_enter Try.func32, Try.ntmps32
  go_wp2_with (go_at_call 37; refine HPL.out.mono ?_; rintro _ w1 ⟨rfl, hw1⟩; replace hw1 := hide hw1)
  go_ret2
  exact ⟨rfl, hw1.out⟩
theorem pxmove_not (k : Nat) (id t : Int) (i : SqIx Y q T M xs h n f w) (hk : k < xs.length) (hid : xs[k] = id) (ht : ¬ (0 ≤ t ∧ t < (xs.length : Int))) (hx : xs.length ≤ 1000) :
    Calls Try.prog 32 #[.pointer (some ⟨q, 0, none⟩), .int .i64 id, .int .i64 t] w fun e w' => e = .returned (.tuple #[.int .i64 0, .int .i64 73]) ∧ Up w w' := by
  have HPL := hide (pxplace_yes k id i hk hid (by omega))
  have HI := hide i
  have HT := hide ht
  clear i hid hk ht
  go_enter Try.func32, Try.ntmps32
  go_wp2_with fail
  refine HPL.out.mono ?_
  rintro _ w1 ⟨rfl, hw1⟩
  obtain ⟨p, cq, ix⟩ := (HI.out.up hw1).ex
  have HC := hide (plmove_not (k : Int) t ix (.inr HT.out))
  replace hw1 := hide hw1
  clear ix
  dsimp only
  go_wp2_with (go_at_call 56; refine HC.out.mono ?_; rintro _ w2 ⟨rfl, hw2⟩; subst hw2)
  go_ret2
  exact ⟨rfl, hw1.out⟩
theorem pxmove_ok (k t : Nat) (id : Int) (i : SqIx Y q T M xs h n f w) (hk : k < xs.length) (hid : xs[k] = id) (ht : t < xs.length) (hx : xs.length ≤ 1000) (hn : n ≤ 9000000) :
    Calls Try.prog 32 #[.pointer (some ⟨q, 0, none⟩), .int .i64 id, .int .i64 t] w fun e w' => e = .returned (.tuple #[.int .i64 k, .int .i64 0]) ∧ SqDone Y q T M (mvL xs k t) n (16 * bitsN (xs.length + 1)) w w' := by
  have HPL := hide (pxplace_yes k id i hk hid (by omega))
  have HI := hide i
  have HK := hide hk
  have HT := hide ht
  clear i hid hk ht
  go_enter Try.func32, Try.ntmps32
  go_wp2_with fail
  refine HPL.out.mono ?_
  rintro _ w1 ⟨rfl, hw1⟩
  have i1 := HI.out.up hw1
  obtain ⟨p, cq, ix⟩ := i1.ex
  have HC := hide (plmove_ok k t ix HK.out HT.out hx hn)
  have HD : Hid (∀ {zs : List Int} {K : Nat} {w' : World}, PlDone Y p T M zs n K w1 w' → SqDone Y q T M zs n K w w') := fun d => (SqDone.of cq i1.qT i1.qM i1.yq d).after hw1
  clear ix i1 hw1
  dsimp only
  go_wp2_with (go_at_call 56; refine HC.out.mono ?_; rintro _ w2 ⟨rfl, hw2⟩; replace hw2 := hide (HD.out hw2))
  go_ret2
  exact ⟨rfl, hw2.out⟩
end Go.Proofs.Ytbnkddnjfkagkaa

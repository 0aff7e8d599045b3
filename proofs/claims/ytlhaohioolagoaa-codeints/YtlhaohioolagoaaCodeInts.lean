/-
  For every two integers the law CodeInts returns true: their bytes are nine each and stand as they do; no condition.
-/
import Derived.Test.YtlhaohioolagoaaRows
import Derived.WalkKit
import Derived.ProofKit
import Derived.OpenShut
import Derived.ShutString
import Derived.ChangeOld
import Derived.Below
import Derived.Carry
import Derived.Test.YtlhaohioolagoaaCodeKnown
import Derived.Test.YtlhaohioolagoaaCodeMath
namespace Go.Proofs.Ytlhaohioolagoaa
open Go.ChangeShapes Go.WideShapes Go.ChangeAt Go.RowKit
open Go.ChangeMaps (open_string shut_string)
set_option linter.unusedVariables false
attribute [local go_sem ↓] Go.wp_at_zero Go.wp_at_succ
attribute [local go_sem] run_store_float

theorem fits_int {n : Int} (h : (Lit.int .i64 n).wf = true) : Fits (1, n, ⟨#[]⟩, 0) := by
  have h1 : IntKind.i64.min ≤ n ∧ n ≤ IntKind.i64.max := by simpa [Lit.wf] using h
  exact ⟨(by decide : IntKind.i64.min ≤ 1), (by decide : 1 ≤ IntKind.i64.max), h1.1, h1.2, (by decide : (⟨#[]⟩ : ByteArray).size ≤ maxLen), (by decide : 0 < whole)⟩
theorem is_int (n : Int) : [((1 : Int), n, (⟨#[]⟩ : ByteArray), (0 : Nat))].all isB = true := by
  simp [isB]
theorem len_int (n : Int) : (putL [((1 : Int), n, (⟨#[]⟩ : ByteArray), (0 : Nat))]).length = 9 := by
  simp [putL, putV, bodyV, wordL]
theorem one_row {v : VT} (h : Fits v) (i : Nat) : Fits ([v].getD i zeroT) := by
  cases i with
  | zero => exact h
  | succ i => simpa using fits_zero
theorem less_int (n m : Int) (hn : Fits (1, n, ⟨#[]⟩, 0)) (hm : Fits (1, m, ⟨#[]⟩, 0)) :
    Op.bytesLess (putL [((1 : Int), n, (⟨#[]⟩ : ByteArray), (0 : Nat))]) (putL [((1 : Int), m, (⟨#[]⟩ : ByteArray), (0 : Nat))]) = decide (n < m) ∧
    (putL [((1 : Int), n, (⟨#[]⟩ : ByteArray), (0 : Nat))] == putL [((1 : Int), m, (⟨#[]⟩ : ByteArray), (0 : Nat))]) = (n == m) := by
  have ho := putL_order [((1 : Int), n, (⟨#[]⟩ : ByteArray), (0 : Nat))] [((1 : Int), m, (⟨#[]⟩ : ByteArray), (0 : Nat))] rfl (one_row hn) (one_row hm) (is_int n) (is_int m)
  have hr : rowsV [((1 : Int), n, (⟨#[]⟩ : ByteArray), (0 : Nat))] [((1 : Int), m, (⟨#[]⟩ : ByteArray), (0 : Nat))] = cmpI n m := by
    show (if cmpV _ _ = 0 then (0 : Int) else cmpV _ _) = _
    have e : cmpV ((1 : Int), n, (⟨#[]⟩ : ByteArray), (0 : Nat)) ((1 : Int), m, (⟨#[]⟩ : ByteArray), (0 : Nat)) = cmpI n m := by
      unfold cmpV
      simp only [cmpI_self, cmpS_self, cmpN_eq]
      unfold orI
      simp
      exact fun h => h.symm
    rw [e]
    split <;> omega
  rw [hr] at ho
  constructor
  · rw [cmpB_less, ho]
    exact decide_eq_decide.2 cmpI_neg
  · by_cases h : n = m
    · subst h; simp
    · rw [beq_eq_false_iff_ne.2 h]
      refine beq_eq_false_iff_ne.2 fun e => ?_
      have e2 : putL [((1 : Int), n, (⟨#[]⟩ : ByteArray), (0 : Nat))] = putL [((1 : Int), m, (⟨#[]⟩ : ByteArray), (0 : Nat))] := e
      rw [e2] at ho
      have := cmpB_self (putL [((1 : Int), m, (⟨#[]⟩ : ByteArray), (0 : Nat))])
      rw [this] at ho
      exact h (cmpI_zero.1 ho.symm)


theorem codeInts_own : ownKnob Try.prog.godebug = none := by kernel_rfl
theorem codeInts_laidOut : laidOutB Try.prog = true := by kernel_rfl

set_option maxHeartbeats 4000000 in
theorem codeInts_walk (a0 : Int) (a1 : Int) (w : World) (w0 : (Lit.int .i64 a0).wf = true) (w1 : (Lit.int .i64 a1).wf = true) :
    Calls Try.prog 5 #[.int .i64 a0, .int .i64 a1] w fun e w' => e = .returned (.bool true) ∧ Up w w' := by
  have F0 := hide (fits_int w0)
  have F1 := hide (fits_int w1)
  have hli := less_int a0 a1 F0.out F1.out
  obtain ⟨L0, hL0⟩ : ∃ L, L = putL [((1 : Int), a0, (⟨#[]⟩ : ByteArray), (0 : Nat))] := ⟨_, rfl⟩
  obtain ⟨L1, hL1⟩ : ∃ L, L = putL [((1 : Int), a1, (⟨#[]⟩ : ByteArray), (0 : Nat))] := ⟨_, rfl⟩
  have n0 := len_int a0
  have n1 := len_int a1
  rw [← hL0, ← hL1] at hli
  rw [← hL0] at n0
  rw [← hL1] at n1
  obtain ⟨hlt, heq⟩ := hli
  replace hL0 := hide hL0
  replace hL1 := hide hL1
  clear w0 w1
  go_enter Try.func5, Try.ntmps5
  go_wp2_with fail
  go_at_call 8
  refine (known_calls _).mono ?_
  rintro _ w1 ⟨rfl, hu⟩
  replace hu := hide hu
  go_wp2_with fail
  go_at_call 10
  refine (put_calls _ _ _ _ _ (by decide) (vals_new1 w1 1 a0 ⟨#[]⟩ 0 _ F0.out)).mono ?_
  intro e2 w2 h2
  obtain ⟨hu2, v2, rfl, ho2⟩ := putPost_good h2 (is_int a0)
  rw [← hL0.out] at ho2
  replace hu := hide (hu.out.trans (((Up.refl _).alloc _).trans hu2))
  replace ho2 := hide ho2
  clear h2 hu2
  go_wp2_with fail
  go_at_call 10
  refine (put_calls _ _ _ _ _ (by decide) (vals_new1 w2 1 a1 ⟨#[]⟩ 0 _ F1.out)).mono ?_
  intro e3 w3 h3
  obtain ⟨hu3, v3, rfl, ho3⟩ := putPost_good h3 (is_int a1)
  rw [← hL1.out] at ho3
  have hu23 := ((Up.refl w2).alloc _).trans hu3
  replace hu := hide (hu.out.trans hu23)
  replace ho2 := hide (ho2.out.up hu23)
  have c2 := ho2.out.conv
  have c3 := ho3.conv
  obtain ⟨b2, cap2, rfl, _⟩ := ho2.out.bts
  obtain ⟨b3, cap3, rfl, _⟩ := ho3.bts
  rw [n0] at c2
  rw [n1] at c3
  rw [n0, n1]
  clear h3 hu3 hu23 ho3 ho2
  go_wp2
  go_ret
  exact ⟨rfl, hu.out⟩

set_option maxRecDepth 100000 in
theorem codeInts_lifted (os : Os) (started : os.Started) (H : Type) (enc : TypeId × Value → H) :
    ReturnsInHanded {} Try.checked os 5 .any (Rows.codeIntsSpec.pre6 enc Try.prog Try.f5 Rows.codeIntsRow.domain false) (Rows.codeIntsSpec.post enc Try.prog Try.f5 false true false false) := by
  refine returnsInHanded_of_change (C := Try.checked) codeInts_own started (by kernel_rfl) Try.func5
    (ChangeSpec.witness6 (enc := enc) (C := Try.checked) false ⟨#[], #[.int .i64 0, .int .i64 0], []⟩ 8 (by kernel_rfl) (by kernel_rfl) (by kernel_rfl) (by kernel_rfl)) ?_
  intro W base args ds gs before hval0 hW hcnd _
  have hval : ∀ (j : Nat) t v, Try.f5.params[j]? = some t → args[j]? = some v → Value.okWide Try.prog W .any base t v := hval0
  have hW' := hW
  obtain ⟨p, q, hA0, hV, rfl, hfz, hnd⟩ := hW
  have hA : DataW.TrodAll enc Try.prog W 0 (fun _ => true) true Try.f5.params.toList args.toList ds p := hA0
  rw [Try.params5] at hA hval
  obtain ⟨v0, vs0, d0, ds0, p0, q0, hargs, rfl, rfl, h0, r0⟩ := trodAll_cons hA
  obtain ⟨v1, vs1, d1, ds1, p1, q1, rfl, rfl, rfl, h1, r1⟩ := trodAll_cons r0
  obtain ⟨rfl, rfl, rfl⟩ := trodAll_nil r1
  obtain rfl : args = #[v0, v1] := by cases args; simp_all
  obtain ⟨rfl, rfl⟩ := trodVars_none hV
  have y0 := h0
  have lt0 : ∀ x ∈ p0, x.block < W.heap.size := by obtain ⟨m, hm⟩ := y0; exact DataW.trod_lt m _ _ _ hm
  have y1 := h1
  have lt1 : ∀ x ∈ p1, x.block < W.heap.size := by obtain ⟨m, hm⟩ := y1; exact DataW.trod_lt m _ _ _ hm
  obtain ⟨a0, rfl, _, _, w0⟩ := open_int Try.underlying2 (hval 0 2 v0 rfl rfl) h0
  obtain ⟨a1, rfl, _, _, w1⟩ := open_int Try.underlying2 (hval 1 2 v1 rfl rfl) h1
  clear hA0 hval0
  refine (codeInts_walk a0 a1 W w0 w1).mono fun e W' ⟨he, bel⟩ => ?_
  subst he
  exact ⟨_, rfl, _, _, _, [], _, [], hW', trodAll_mk1 (shut_bool Try.underlying4 _), (trodAll_cons_mk (Below.trod codeInts_laidOut (by kernel_rfl) (of_decide_eq_true (by kernel_rfl)) y0 bel.below lt0) (trodAll_cons_mk (Below.trod codeInts_laidOut (by kernel_rfl) (of_decide_eq_true (by kernel_rfl)) y1 bel.below lt1) trodAll_mk0)), rfl, bel.below.frame _, fun h => by cases h⟩

theorem codeInts_over : Rows.codeIntsRow.holds Try.pinned (OpenSpec.ofChange Rows.codeIntsSpec) :=
  OpenClaim.holds_of_wide 5 Try.f5 rfl rfl rfl rfl rfl rfl rfl ⟨rfl, rfl, rfl, rfl, rfl⟩ rfl rfl rfl rfl rfl (by kernel_rfl) Try.func5 (by kernel_rfl)
    (of_decide_eq_true (by kernel_rfl)) (by unfold Func.isWrapper; first | (rw [if_pos (by decide +kernel)]; kernel_rfl) | (rw [if_neg (by decide +kernel)]; exact ⟨rfl, rfl⟩))
    (fun os started H enc _ => codeInts_lifted os started H enc)

theorem codeInts_proved : Rows.CodeIntsSaid := codeInts_over
#print axioms codeInts_proved
end Go.Proofs.Ytlhaohioolagoaa

/-
  For every three entries the law KeyOrder returns true: entries stand by key, then number, in an order; no condition.
-/
import Derived.Test.YtnnbcpopjnlnoaaDoorCards
import Derived.Test.YtnnbcpopjnlnoaaDoorTie
import Derived.Test.YtnnbcpopjnlnoaaDoorHookLaid
import Derived.WalkKit
import Derived.ProofKit
import Derived.OpenShut
import Derived.ShutString
import Derived.ChangeOld
import Derived.Below
import Derived.Carry
import Derived.Deep.DeepHandedRow
import Derived.Deep.DeepWitnessRowRef
import Derived.SevenTiedAt
import Derived.Test.YtnnbcpopjnlnoaaDoorKeyOrdW
import Derived.Test.YtnnbcpopjnlnoaaDoorOpensAll
namespace Go.Proofs.YtnnbcpopjnlnoaaDoor
open Go.ChangeShapes Go.WideShapes Go.ChangeAt Go.RowKit
open Go.ChangeMaps (open_string shut_string)
set_option linter.unusedVariables false
attribute [local go_sem ↓] Go.wp_at_zero Go.wp_at_succ
attribute [local go_sem] run_store_float


theorem keyOrder_own : ownKnob Tryd.prog.godebug = none := by kernel_rfl
theorem keyOrder_laidOut : laidOutB Tryd.prog = true := by kernel_rfl

set_option maxHeartbeats 4000000 in
theorem keyOrder_walk (a0 : Option Addr) (len0 cap0 : Nat) (l0 : List VT) (i0 : Int) (a1 : Option Addr) (len1 cap1 : Nat) (l1 : List VT) (i1 : Int) (a2 : Option Addr) (len2 cap2 : Nat) (l2 : List VT) (i2 : Int) (w : World) (w0 : (len0 ≤ maxLen ∧ len0 ≤ cap0 ∧ cap0 ≤ maxLen ∧ Vals w a0 len0 l0) ∧ (Lit.int .i64 i0).wf = true) (w1 : (len1 ≤ maxLen ∧ len1 ≤ cap1 ∧ cap1 ≤ maxLen ∧ Vals w a1 len1 l1) ∧ (Lit.int .i64 i1).wf = true) (w2 : (len2 ≤ maxLen ∧ len2 ≤ cap2 ∧ cap2 ≤ maxLen ∧ Vals w a2 len2 l2) ∧ (Lit.int .i64 i2).wf = true) (hT : TabE w) :
    Calls Tryd.prog 6 #[.agg #[.slice a0 len0 cap0, .int .i64 i0], .agg #[.slice a1 len1 cap1, .int .i64 i1], .agg #[.slice a2 len2 cap2, .int .i64 i2]] w fun e w' => e = .returned (.bool true) ∧ Up w w' := by
  exact keyOrder_all a0 len0 cap0 l0 i0 a1 len1 cap1 l1 i1 a2 len2 cap2 l2 i2 w w0.1.1 w0.1.2.2.2 w1.1.1 w1.1.2.2.2 w2.1.1 w2.1.2.2.2 hT

theorem keyOrder_reads (os : Os) (H : Type) (enc : TypeId × Value → H) : ∃ ds places, DataW.whole enc Tryd.prog ((laidPutE (World.holding Tryd.prog os ⟨#[], #[], []⟩)).forCall (fun _ _ => 0) ⟨#[], #[.agg #[.slice none 0 0, .int .i64 0], .agg #[.slice none 0 0, .int .i64 0], .agg #[.slice none 0 0, .int .i64 0]], []⟩).memory Tryd.f6.params.toList Rows.keyOrderSpec.vars false (#[.agg #[.slice none 0 0, .int .i64 0], .agg #[.slice none 0 0, .int .i64 0], .agg #[.slice none 0 0, .int .i64 0]] : Array Value).toList 8 = some (ds, [], places) :=
  ⟨[.agg [.nil, .lit (.int .i64 0)], .agg [.nil, .lit (.int .i64 0)], .agg [.nil, .lit (.int .i64 0)]], [], by kernel_rfl⟩

set_option maxRecDepth 100000 in
theorem keyOrder_lifted (os : Os) (started : os.Started) (H : Type) (enc : TypeId × Value → H) (I : Stop.Interp) :
    ReturnsInHanded {} Tryd.checked os 6 .any ((OpenSpec.ofChange Rows.keyOrderSpec).preRow enc Tryd.prog Tryd.f6 Rows.keyOrderRow.domain false Rows.keyOrderRow.laid) (((OpenSpec.ofChange Rows.keyOrderSpec).at I).post enc Tryd.prog Tryd.f6 false true false false) := by
  obtain ⟨ds, places, hx⟩ := keyOrder_reads os H enc
  refine returnsInHanded_of_row (C := Tryd.checked) (s := OpenSpec.ofChange Rows.keyOrderSpec) keyOrder_own started (by kernel_rfl) Tryd.func6
    (witness_row_atRef (enc := enc) (C := Tryd.checked) false (laidPutE (World.holding Tryd.prog os ⟨#[], #[], []⟩)) #[.agg #[.slice none 0 0, .int .i64 0], .agg #[.slice none 0 0, .int .i64 0], .agg #[.slice none 0 0, .int .i64 0]] rfl (by kernel_rfl) (by kernel_rfl) (by kernel_rfl)
      (OpenSpec.preRow_of_cond 8 hx (by kernel_rfl) (fun k hk => by cases hk) (by kernel_rfl) (laidE_met os _))) ?_
  clear hx
  intro W base args ds gs before hval0 hW _ _ _ hL hS _
  have hT : TabE W := tabe_of_laid hL
  have hval : ∀ (j : Nat) t v, Tryd.f6.params[j]? = some t → args[j]? = some v → Value.okWide Tryd.prog W .any base t v := hval0
  have hW' := hW
  obtain ⟨p, q, hA0, hV, rfl, hfz, hnd⟩ := hW
  have hA : DataW.TrodAll enc Tryd.prog W 0 (fun _ => true) true Tryd.f6.params.toList args.toList ds p := hA0
  rw [Tryd.params6] at hA hval
  obtain ⟨v0, vs0, d0, ds0, p0, q0, hargs, rfl, rfl, h0, r0⟩ := trodAll_cons hA
  obtain ⟨v1, vs1, d1, ds1, p1, q1, rfl, rfl, rfl, h1, r1⟩ := trodAll_cons r0
  obtain ⟨v2, vs2, d2, ds2, p2, q2, rfl, rfl, rfl, h2, r2⟩ := trodAll_cons r1
  obtain ⟨rfl, rfl, rfl⟩ := trodAll_nil r2
  obtain rfl : args = #[v0, v1, v2] := by cases args; simp_all
  obtain ⟨rfl, rfl⟩ := trodVars_none hV
  have y0 := h0
  have lt0 : ∀ x ∈ p0, x.block < W.heap.size := by obtain ⟨m, hm⟩ := y0; exact DataW.trod_lt m _ _ _ hm
  have y1 := h1
  have lt1 : ∀ x ∈ p1, x.block < W.heap.size := by obtain ⟨m, hm⟩ := y1; exact DataW.trod_lt m _ _ _ hm
  have y2 := h2
  have lt2 : ∀ x ∈ p2, x.block < W.heap.size := by obtain ⟨m, hm⟩ := y2; exact DataW.trod_lt m _ _ _ hm
  obtain ⟨a0, len0, cap0, l0, i0, rfl, w0⟩ := open_entry (hval 0 63 v0 rfl rfl) h0
  obtain ⟨a1, len1, cap1, l1, i1, rfl, w1⟩ := open_entry (hval 1 63 v1 rfl rfl) h1
  obtain ⟨a2, len2, cap2, l2, i2, rfl, w2⟩ := open_entry (hval 2 63 v2 rfl rfl) h2
  clear hA0 hval0
  refine (keyOrder_walk a0 len0 cap0 l0 i0 a1 len1 cap1 l1 i1 a2 len2 cap2 l2 i2 W w0 w1 w2 hT).mono fun e W' ⟨he, bel⟩ => ?_
  subst he
  exact ⟨_, rfl, _, _, _, [], _, [], hW', trodAll_mk1 (shut_bool Tryd.underlying4 _), (trodAll_cons_mk (Below.trod keyOrder_laidOut (by kernel_rfl) (of_decide_eq_true (by kernel_rfl)) y0 bel.below lt0) (trodAll_cons_mk (Below.trod keyOrder_laidOut (by kernel_rfl) (of_decide_eq_true (by kernel_rfl)) y1 bel.below lt1) (trodAll_cons_mk (Below.trod keyOrder_laidOut (by kernel_rfl) (of_decide_eq_true (by kernel_rfl)) y2 bel.below lt2) trodAll_mk0))), rfl, bel.below.frame _, fun h => by cases h⟩

theorem keyOrder_said : Rows.KeyOrderSaid :=
  OpenClaim.holds_of_cond 6 Tryd.f6 rfl rfl rfl rfl rfl rfl rfl ⟨rfl, rfl, rfl, rfl, rfl⟩ rfl rfl rfl rfl rfl (by kernel_rfl) Tryd.func6 (by kernel_rfl)
    (of_decide_eq_true (by kernel_rfl)) (by unfold Func.isWrapper; first | (rw [if_pos (by decide +kernel)]; kernel_rfl) | (rw [if_neg (by decide +kernel)]; exact ⟨rfl, rfl⟩))
    (fun os started H enc _ I => by rw [OpenClaim.pre_eq_preRow]; exact keyOrder_lifted os started H enc I)

theorem keyOrder_plain (f : FuncId) (fn : Func) (hf : Tryd.pinned.checked.prog.funcNamed "rialto/rialtolaw7.KeyOrder" = some f) (hfn : Tryd.pinned.checked.prog.funcs[f]? = some fn) :
    true = Tryd.pinned.checked.prog.looks [] ∧ ∀ (j : Nat) t, fn.params[j]? = some t → Tryd.pinned.checked.prog.wantsStandIn t = false := by
  obtain rfl : f = 6 := Option.some.inj ((show Tryd.prog.funcNamed "rialto/rialtolaw7.KeyOrder" = some 6 by kernel_rfl).symm.trans hf) |>.symm
  obtain rfl : fn = Tryd.f6 := (Option.some.inj (Tryd.func6.symm.trans hfn)).symm
  refine ⟨by kernel_rfl, fun j t ht => ?_⟩
  rw [Tryd.params6] at ht
  have hm := Array.mem_of_getElem? ht
  simp only [List.mem_toArray, List.mem_cons, List.not_mem_nil, or_false] at hm
  rcases hm with rfl | rfl | rfl
  · exact (show Tryd.prog.wantsStandIn 63 = false by kernel_rfl)
  · exact (show Tryd.prog.wantsStandIn 63 = false by kernel_rfl)
  · exact (show Tryd.prog.wantsStandIn 63 = false by kernel_rfl)

theorem keyOrder_proved : Rows.KeyOrderCardSaid :=
  Claim7.holds_tied_plain_at .later [] _ _ _ _ keyOrder_said (fun _ h => by cases h) (by kernel_rfl) (fun _ h => by cases h) keyOrder_row_tie rfl ⟨rfl, rfl⟩ (by kernel_rfl) rfl keyOrder_plain (by kernel_rfl)
#print axioms keyOrder_proved
end Go.Proofs.YtnnbcpopjnlnoaaDoor

/-
  For every row of numbers, every number and every call at which the comparator fails, the law OrdFails returns true: an index whose comparator fails is as it was; no condition.
-/
import Derived.Test.YtnokokhbcfkifaaGreatDoorCards
import Derived.Test.YtnokokhbcfkifaaGreatDoorTie
import Derived.Test.YtnokokhbcfkifaaGreatDoorHookLaid
import Derived.WalkKit
import Derived.ProofKit
import Derived.OpenShut
import Derived.ShutString
import Derived.ChangeOld
import Derived.Below
import Derived.Carry
import Derived.Deep.DeepHandedRow
import Derived.Deep.DeepWitnessRowRef
import Derived.SevenTiedAt
import Derived.Test.YtnokokhbcfkifaaGreatDoorOxFaw
import Derived.Test.YtnokokhbcfkifaaGreatDoorTrOpn
namespace Go.Proofs.YtnokokhbcfkifaaGreatDoor
open Go.ChangeShapes Go.WideShapes Go.ChangeAt Go.RowKit
open Go.ChangeMaps (open_string shut_string)
set_option linter.unusedVariables false
attribute [local go_sem ↓] Go.wp_at_zero Go.wp_at_succ
attribute [local go_sem] run_store_float


theorem ordFails_own : ownKnob Tryz.prog.godebug = none := by kernel_rfl
theorem ordFails_laidOut : laidOutB Tryz.prog = true := by kernel_rfl

set_option maxHeartbeats 4000000 in
theorem ordFails_walk (a0 : Option Addr) (len0 cap0 : Nat) (l0 : List Int) (a1 : Int) (a2 : Int) (w : World) (w0 : l0.length = len0 ∧ Rd (Value.int .i8) (fun _ => False) w (.slice a0 len0 cap0) l0 ∧ ∀ x ∈ l0, -128 ≤ x ∧ x ≤ 127) (w1 : (Lit.int .i8 a1).wf = true) (w2 : (Lit.int .u8 a2).wf = true) (hT : TabE w) :
    Calls Tryz.prog 6 #[.slice a0 len0 cap0, .int .i8 a1, .int .u8 a2] w fun e w' => e = .returned (.bool true) ∧ Up w w' := by
  have h1 : (-128 : Int) ≤ a1 ∧ a1 ≤ 127 := by simpa [Lit.wf, IntKind.min, IntKind.max, IntKind.signed, IntKind.bits] using w1
  have h2 : (0 : Int) ≤ a2 ∧ a2 ≤ 255 := by simpa [Lit.wf, IntKind.min, IntKind.max, IntKind.signed, IntKind.bits] using w2
  by_cases hn : len0 ≤ 40
  · exact ordFails_runs a0 len0 cap0 l0 a1 a2 w hT w0.1 w0.2.1 w0.2.2 h1 h2 hn
  · exact ordFails_many a0 len0 cap0 a1 a2 w hT hn

theorem ordFails_reads (os : Os) (H : Type) (enc : TypeId × Value → H) : ∃ ds places, DataW.whole enc Tryz.prog ((laidPutE (World.holding Tryz.prog os ⟨#[], #[], []⟩)).forCall (fun _ _ => 0) ⟨#[], #[.slice none 0 0, .int .i8 0, .int .u8 0], []⟩).memory Tryz.f6.params.toList Rows.ordFailsSpec.vars false (#[.slice none 0 0, .int .i8 0, .int .u8 0] : Array Value).toList 8 = some (ds, [], places) :=
  ⟨[.nil, .lit (.int .i8 0), .lit (.int .u8 0)], [], by kernel_rfl⟩

set_option maxRecDepth 100000 in
theorem ordFails_lifted (os : Os) (started : os.Started) (H : Type) (enc : TypeId × Value → H) (I : Stop.Interp) :
    ReturnsInHanded {} Tryz.checked os 6 .any ((OpenSpec.ofChange Rows.ordFailsSpec).preRow enc Tryz.prog Tryz.f6 Rows.ordFailsRow.domain false Rows.ordFailsRow.laid) (((OpenSpec.ofChange Rows.ordFailsSpec).at I).post enc Tryz.prog Tryz.f6 false true false false) := by
  obtain ⟨ds, places, hx⟩ := ordFails_reads os H enc
  refine returnsInHanded_of_row (C := Tryz.checked) (s := OpenSpec.ofChange Rows.ordFailsSpec) ordFails_own started (by kernel_rfl) Tryz.func6
    (witness_row_atRef (enc := enc) (C := Tryz.checked) false (laidPutE (World.holding Tryz.prog os ⟨#[], #[], []⟩)) #[.slice none 0 0, .int .i8 0, .int .u8 0] rfl (by kernel_rfl) (by kernel_rfl) (by kernel_rfl)
      (OpenSpec.preRow_of_cond 8 hx (by kernel_rfl) (fun k hk => by cases hk) (by kernel_rfl) (laidE_met os _))) ?_
  clear hx
  intro W base args ds gs before hval0 hW _ _ _ hL hS _
  have hT : TabE W := tabe_of_laid hL
  have hval : ∀ (j : Nat) t v, Tryz.f6.params[j]? = some t → args[j]? = some v → Value.okWide Tryz.prog W .any base t v := hval0
  have hW' := hW
  obtain ⟨p, q, hA0, hV, rfl, hfz, hnd⟩ := hW
  have hA : DataW.TrodAll enc Tryz.prog W 0 (fun _ => true) true Tryz.f6.params.toList args.toList ds p := hA0
  rw [Tryz.params6] at hA hval
  obtain ⟨v0, vs0, d0, ds0, p0, q0, hargs, rfl, rfl, h0, r0⟩ := trodAll_cons hA
  obtain ⟨v1, vs1, d1, ds1, p1, q1, rfl, rfl, rfl, h1, r1⟩ := trodAll_cons r0
  obtain ⟨v2, vs2, d2, ds2, p2, q2, rfl, rfl, rfl, h2, r2⟩ := trodAll_cons r1
  obtain ⟨rfl, rfl, rfl⟩ := trodAll_nil r2
  obtain rfl : args = #[v0, v1, v2] := by cases args; simp_all
  obtain ⟨rfl, rfl⟩ := trodVars_none hV
  have y0 := h0
  have lt0 : ∀ x ∈ p0, x.block < W.heap.size := by obtain ⟨m, hm⟩ := y0; exact DataW.trod_lt m _ _ _ hm
  have y1 := h1
  have lt1 : ∀ x ∈ p1, x.block < W.heap.size := by obtain ⟨m, hm⟩ := y1; exact DataW.trod_lt m _ _ _ hm
  have y2 := h2
  have lt2 : ∀ x ∈ p2, x.block < W.heap.size := by obtain ⟨m, hm⟩ := y2; exact DataW.trod_lt m _ _ _ hm
  obtain ⟨a0, len0, cap0, rfl⟩ := okWide_slice Tryz.underlying70 (hval 0 70 v0 rfl rfl)
  obtain ⟨l0, w0⟩ := open_i8R h0
  obtain ⟨a1, rfl, _, _, w1⟩ := open_int Tryz.underlying71 (hval 1 71 v1 rfl rfl) h1
  obtain ⟨a2, rfl, _, _, w2⟩ := open_int Tryz.underlying5 (hval 2 5 v2 rfl rfl) h2
  clear hA0 hval0
  refine (ordFails_walk a0 len0 cap0 l0 a1 a2 W w0 w1 w2 hT).mono fun e W' ⟨he, bel⟩ => ?_
  subst he
  exact ⟨_, rfl, _, _, _, [], _, [], hW', trodAll_mk1 (shut_bool Tryz.underlying4 _), (trodAll_cons_mk (Below.trod ordFails_laidOut (by kernel_rfl) (of_decide_eq_true (by kernel_rfl)) y0 bel.below lt0) (trodAll_cons_mk (Below.trod ordFails_laidOut (by kernel_rfl) (of_decide_eq_true (by kernel_rfl)) y1 bel.below lt1) (trodAll_cons_mk (Below.trod ordFails_laidOut (by kernel_rfl) (of_decide_eq_true (by kernel_rfl)) y2 bel.below lt2) trodAll_mk0))), rfl, bel.below.frame _, fun h => by cases h⟩

theorem ordFails_said : Rows.OrdFailsSaid :=
  OpenClaim.holds_of_cond 6 Tryz.f6 rfl rfl rfl rfl rfl rfl rfl ⟨rfl, rfl, rfl, rfl, rfl⟩ rfl rfl rfl rfl rfl (by kernel_rfl) Tryz.func6 (by kernel_rfl)
    (of_decide_eq_true (by kernel_rfl)) (by unfold Func.isWrapper; first | (rw [if_pos (by decide +kernel)]; kernel_rfl) | (rw [if_neg (by decide +kernel)]; exact ⟨rfl, rfl⟩))
    (fun os started H enc _ I => by rw [OpenClaim.pre_eq_preRow]; exact ordFails_lifted os started H enc I)

theorem ordFails_plain (f : FuncId) (fn : Func) (hf : Tryz.pinned.checked.prog.funcNamed "rialto/rialtolaw12.OrdFails" = some f) (hfn : Tryz.pinned.checked.prog.funcs[f]? = some fn) :
    true = Tryz.pinned.checked.prog.looks [] ∧ ∀ (j : Nat) t, fn.params[j]? = some t → Tryz.pinned.checked.prog.wantsStandIn t = false := by
  obtain rfl : f = 6 := Option.some.inj ((show Tryz.prog.funcNamed "rialto/rialtolaw12.OrdFails" = some 6 by kernel_rfl).symm.trans hf) |>.symm
  obtain rfl : fn = Tryz.f6 := (Option.some.inj (Tryz.func6.symm.trans hfn)).symm
  refine ⟨by kernel_rfl, fun j t ht => ?_⟩
  rw [Tryz.params6] at ht
  have hm := Array.mem_of_getElem? ht
  simp only [List.mem_toArray, List.mem_cons, List.not_mem_nil, or_false] at hm
  rcases hm with rfl | rfl | rfl
  · exact (show Tryz.prog.wantsStandIn 70 = false by kernel_rfl)
  · exact (show Tryz.prog.wantsStandIn 71 = false by kernel_rfl)
  · exact (show Tryz.prog.wantsStandIn 5 = false by kernel_rfl)

theorem ordFails_proved : Rows.OrdFailsCardSaid :=
  Claim7.holds_tied_plain_at .later [] _ _ _ _ ordFails_said (fun _ h => by cases h) (by kernel_rfl) (fun _ h => by cases h) ordFails_row_tie rfl ⟨rfl, rfl⟩ (by kernel_rfl) rfl ordFails_plain (by kernel_rfl)
#print axioms ordFails_proved
end Go.Proofs.YtnokokhbcfkifaaGreatDoor

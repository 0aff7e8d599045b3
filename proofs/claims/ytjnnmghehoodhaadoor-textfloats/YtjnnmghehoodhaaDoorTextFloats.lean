/-
  For every two numbers of 64 bits the law TextFloats returns true: a float's text is sixteen digits of its bits, each its own, in their order, and read as it; no condition.
-/
import Derived.Test.YtjnnmghehoodhaaDoorCards
import Derived.Test.YtjnnmghehoodhaaDoorTie
import Derived.Test.YtjnnmghehoodhaaDoorTextLaid
import Derived.WalkKit
import Derived.ProofKit
import Derived.OpenShut
import Derived.ShutString
import Derived.ChangeOld
import Derived.Below
import Derived.Carry
import Derived.Deep.DeepHandedRow
import Derived.Deep.DeepWitnessRowRef
import Derived.SevenTiedAt
import Derived.Test.YtjnnmghehoodhaaDoorTextKnow
namespace Go.Proofs.YtjnnmghehoodhaaDoor
open Go.ChangeShapes Go.WideShapes Go.ChangeAt Go.RowKit
open Go.ChangeMaps (open_string shut_string)
set_option linter.unusedVariables false
attribute [local go_sem ↓] Go.wp_at_zero Go.wp_at_succ
attribute [local go_sem] run_store_float

theorem nat_of_wf {a : Int} (h : (Lit.int .u64 a).wf = true) : ∃ n : Nat, a = (n : Int) ∧ n < whole := by
  have h1 : (0 : Int) ≤ a ∧ a ≤ 18446744073709551615 := by
    simp [Lit.wf, IntKind.min, IntKind.max, IntKind.signed, IntKind.bits] at h
    exact h
  exact ⟨a.toNat, by omega, by unfold whole; omega⟩
theorem flt_fits {n : Nat} (h : n < whole) : Fits (5, 0, ⟨#[]⟩, n) :=
  ⟨(by decide : IntKind.i64.min ≤ 5), (by decide : (5 : Int) ≤ IntKind.i64.max), (by decide : IntKind.i64.min ≤ 0), (by decide : (0 : Int) ≤ IntKind.i64.max), Nat.zero_le _, h⟩


theorem textFloats_own : ownKnob Tryd.prog.godebug = none := by kernel_rfl
theorem textFloats_laidOut : laidOutB Tryd.prog = true := by kernel_rfl

set_option maxHeartbeats 4000000 in
theorem textFloats_walk (a0 : Int) (a1 : Int) (w : World) (w0 : (Lit.int .u64 a0).wf = true) (w1 : (Lit.int .u64 a1).wf = true) (hT : Tabs w) :
    Calls Tryd.prog 5 #[.int .u64 a0, .int .u64 a1] w fun e w' => e = .returned (.bool true) ∧ Up w w' := by
  have HT := hide hT
  clear hT
  obtain ⟨A, rfl, hA⟩ := nat_of_wf w0
  obtain ⟨B, rfl, hB⟩ := nat_of_wf w1
  have hp0 := fun W (h : Tabs W) => tprint_calls 5 0 ⟨#[]⟩ A W (flt_fits hA) h
  have hp1 := fun W (h : Tabs W) => tprint_calls 5 0 ⟨#[]⟩ B W (flt_fits hB) h
  rw [prn_float] at hp0 hp1
  obtain ⟨X0, hX0⟩ : ∃ X : ByteArray, X = ⟨(fltT A).toArray⟩ := ⟨_, rfl⟩
  obtain ⟨X1, hX1⟩ : ∃ X : ByteArray, X = ⟨(fltT B).toArray⟩ := ⟨_, rfl⟩
  have hl0 : X0.toList = fltT A := by rw [hX0, Go.Lib.toList_data]
  have hl1 : X1.toList = fltT B := by rw [hX1, Go.Lib.toList_data]
  have hz0 : X0.size = 17 := by rw [hX0, str_size, fltT_length]
  have hb0 : X0[0] = 102 := by subst hX0; rfl
  obtain ⟨z, hz1, hz2⟩ : ∃ z, (X0.toList == X1.toList) = z ∧ ((A : Int) == (B : Int)) = z := ⟨_, rfl, by
    rw [hl0, hl1, fltT_same hA hB]
    by_cases h : A = B
    · subst h; simp
    · rw [decide_eq_false h, beq_eq_false_iff_ne]; omega⟩
  obtain ⟨y, hy1, hy2⟩ : ∃ y, Op.bytesLess X0.toList X1.toList = y ∧ decide ((A : Int) < (B : Int)) = y := ⟨_, rfl, by
    rw [hl0, hl1, fltT_less hA hB]
    exact decide_eq_decide.2 (by omega)⟩
  have hq := fun W (h : Tabs W) => tparse_calls X0 (by omega) W h
  have hx : X0.data.toList = prnV (5, 0, ⟨#[]⟩, A) := by rw [prn_float, hX0]; rfl
  rw [hx] at hq
  unfold ParsePost at hq
  rw [parT_prn (t_float A) (flt_fits hA)] at hq
  change ∀ W, Tabs W → Calls _ _ _ W fun e w' => e = .returned (.string ⟨(fltT A).toArray⟩) ∧ Up W w' at hp0
  change ∀ W, Tabs W → Calls _ _ _ W fun e w' => e = .returned (.string ⟨(fltT B).toArray⟩) ∧ Up W w' at hp1
  rw [← hX0] at hp0
  rw [← hX1] at hp1
  have hrf := run_from
  have hrb := run_bits
  clear hx hX0 hX1 hl0 hl1 w0 w1 hA hB
  go_enter Tryd.func5, Tryd.ntmps5
  go_wp2_with fail
  go_at_call 7
  refine (known4_calls _ HT.out).mono ?_
  rintro _ w1 ⟨rfl, hu⟩
  replace hu := hide hu
  go_wp2_with fail
  go_at_call 10
  refine (hp0 _ (HT.out.up hu.out)).mono ?_
  rintro _ w2 ⟨rfl, hu2⟩
  replace hu := hide (hu.out.trans hu2)
  clear hu2
  go_wp2_with fail
  go_at_call 10
  refine (hp1 _ (HT.out.up hu.out)).mono ?_
  rintro _ w3 ⟨rfl, hu3⟩
  replace hu := hide (hu.out.trans hu3)
  clear hu3 hp0 hp1
  go_wp2_with fail
  go_at_call 9
  refine (hq _ (HT.out.up hu.out)).mono ?_
  rintro _ w4 ⟨hu4, ⟨v, hv, rfl⟩ | ⟨hv, _⟩⟩
  case inr => cases hv
  obtain rfl := Option.some.inj hv
  replace hu := hide (hu.out.trans hu4)
  clear hu4 hq hv
  simp only
  go_wp2
  all_goals go_ret
  all_goals refine ⟨?_, hu.out.alloc _⟩
  all_goals first | rfl | (cases y <;> cases z <;> first | rfl | simp_all)

theorem textFloats_reads (os : Os) (H : Type) (enc : TypeId × Value → H) : ∃ ds places, DataW.whole enc Tryd.prog ((laidPut (World.settled Tryd.prog os).heap.size (World.holding Tryd.prog os laidTwo)).forCall (fun _ _ => 0) ⟨#[], #[.int .u64 0, .int .u64 0], []⟩).memory Tryd.f5.params.toList Rows.textFloatsSpec.vars false (#[.int .u64 0, .int .u64 0] : Array Value).toList 8 = some (ds, [], places) :=
  ⟨[.lit (.int .u64 0), .lit (.int .u64 0)], [], by kernel_rfl⟩

set_option maxRecDepth 100000 in
theorem textFloats_lifted (os : Os) (started : os.Started) (H : Type) (enc : TypeId × Value → H) (I : Stop.Interp) :
    ReturnsInHanded {} Tryd.checked os 5 .any ((OpenSpec.ofChange Rows.textFloatsSpec).preRow enc Tryd.prog Tryd.f5 Rows.textFloatsRow.domain false Rows.textFloatsRow.laid) (((OpenSpec.ofChange Rows.textFloatsSpec).at I).post enc Tryd.prog Tryd.f5 false true false false) := by
  obtain ⟨ds, places, hx⟩ := textFloats_reads os H enc
  refine returnsInHanded_of_row (C := Tryd.checked) (s := OpenSpec.ofChange Rows.textFloatsSpec) textFloats_own started (by kernel_rfl) Tryd.func5
    (witness_row_atRef (enc := enc) (C := Tryd.checked) false (laidPut (World.settled Tryd.prog os).heap.size (World.holding Tryd.prog os laidTwo)) #[.int .u64 0, .int .u64 0] rfl (by kernel_rfl) (by kernel_rfl) (by kernel_rfl)
      (OpenSpec.preRow_of_cond 8 hx (by kernel_rfl) (fun k hk => by cases hk) (by kernel_rfl) (laid_met os _))) ?_
  clear hx
  intro W base args ds gs before hval0 hW _ _ _ hL hS _
  have hT : Tabs W := tabs_of_laid hL hS
  have hval : ∀ (j : Nat) t v, Tryd.f5.params[j]? = some t → args[j]? = some v → Value.okWide Tryd.prog W .any base t v := hval0
  have hW' := hW
  obtain ⟨p, q, hA0, hV, rfl, hfz, hnd⟩ := hW
  have hA : DataW.TrodAll enc Tryd.prog W 0 (fun _ => true) true Tryd.f5.params.toList args.toList ds p := hA0
  rw [Tryd.params5] at hA hval
  obtain ⟨v0, vs0, d0, ds0, p0, q0, hargs, rfl, rfl, h0, r0⟩ := trodAll_cons hA
  obtain ⟨v1, vs1, d1, ds1, p1, q1, rfl, rfl, rfl, h1, r1⟩ := trodAll_cons r0
  obtain ⟨rfl, rfl, rfl⟩ := trodAll_nil r1
  obtain rfl : args = #[v0, v1] := by cases args; simp_all
  obtain ⟨rfl, rfl⟩ := trodVars_none hV
  have y0 := h0
  have lt0 : ∀ x ∈ p0, x.block < W.heap.size := by obtain ⟨m, hm⟩ := y0; exact DataW.trod_lt m _ _ _ hm
  have y1 := h1
  have lt1 : ∀ x ∈ p1, x.block < W.heap.size := by obtain ⟨m, hm⟩ := y1; exact DataW.trod_lt m _ _ _ hm
  obtain ⟨a0, rfl, _, _, w0⟩ := open_int Tryd.underlying42 (hval 0 42 v0 rfl rfl) h0
  obtain ⟨a1, rfl, _, _, w1⟩ := open_int Tryd.underlying42 (hval 1 42 v1 rfl rfl) h1
  clear hA0 hval0
  refine (textFloats_walk a0 a1 W w0 w1 hT).mono fun e W' ⟨he, bel⟩ => ?_
  subst he
  exact ⟨_, rfl, _, _, _, [], _, [], hW', trodAll_mk1 (shut_bool Tryd.underlying4 _), (trodAll_cons_mk (Below.trod textFloats_laidOut (by kernel_rfl) (of_decide_eq_true (by kernel_rfl)) y0 bel.below lt0) (trodAll_cons_mk (Below.trod textFloats_laidOut (by kernel_rfl) (of_decide_eq_true (by kernel_rfl)) y1 bel.below lt1) trodAll_mk0)), rfl, bel.below.frame _, fun h => by cases h⟩

theorem textFloats_said : Rows.TextFloatsSaid :=
  OpenClaim.holds_of_cond 5 Tryd.f5 rfl rfl rfl rfl rfl rfl rfl ⟨rfl, rfl, rfl, rfl, rfl⟩ rfl rfl rfl rfl rfl (by kernel_rfl) Tryd.func5 (by kernel_rfl)
    (of_decide_eq_true (by kernel_rfl)) (by unfold Func.isWrapper; first | (rw [if_pos (by decide +kernel)]; kernel_rfl) | (rw [if_neg (by decide +kernel)]; exact ⟨rfl, rfl⟩))
    (fun os started H enc _ I => by rw [OpenClaim.pre_eq_preRow]; exact textFloats_lifted os started H enc I)

theorem textFloats_plain (f : FuncId) (fn : Func) (hf : Tryd.pinned.checked.prog.funcNamed "rialto/rialtolaw4.TextFloats" = some f) (hfn : Tryd.pinned.checked.prog.funcs[f]? = some fn) :
    true = Tryd.pinned.checked.prog.looks [] ∧ ∀ (j : Nat) t, fn.params[j]? = some t → Tryd.pinned.checked.prog.wantsStandIn t = false := by
  obtain rfl : f = 5 := Option.some.inj ((show Tryd.prog.funcNamed "rialto/rialtolaw4.TextFloats" = some 5 by kernel_rfl).symm.trans hf) |>.symm
  obtain rfl : fn = Tryd.f5 := (Option.some.inj (Tryd.func5.symm.trans hfn)).symm
  refine ⟨by kernel_rfl, fun j t ht => ?_⟩
  rw [Tryd.params5] at ht
  have hm := Array.mem_of_getElem? ht
  simp only [List.mem_toArray, List.mem_cons, List.not_mem_nil, or_false] at hm
  rcases hm with rfl | rfl
  · exact (show Tryd.prog.wantsStandIn 42 = false by kernel_rfl)
  · exact (show Tryd.prog.wantsStandIn 42 = false by kernel_rfl)

theorem textFloats_proved : Rows.TextFloatsCardSaid :=
  Claim7.holds_tied_plain_at .later [] _ _ _ _ textFloats_said (fun _ h => by cases h) (by kernel_rfl) (fun _ h => by cases h) textFloats_row_tie rfl ⟨rfl, rfl⟩ (by kernel_rfl) rfl textFloats_plain (by kernel_rfl)
#print axioms textFloats_proved
end Go.Proofs.YtjnnmghehoodhaaDoor

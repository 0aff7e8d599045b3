/-
  For every two words the law ValueFloats returns true: floats as values stand as their bits do, noughts apart, each NaN like itself alone; no condition.
-/
import Derived.Test.YtoaafkcpakigiaaRows
import Derived.WalkKit
import Derived.ProofKit
import Derived.OpenShut
import Derived.ShutString
import Derived.ChangeOld
import Derived.Below
import Derived.Carry
import Derived.Test.YtoaafkcpakigiaaValHelp
import Derived.Test.YtoaafkcpakigiaaOpens
import Derived.Test.YtoaafkcpakigiaaNewVals
import Derived.Test.YtoaafkcpakigiaaValHash
import Derived.Test.YtoaafkcpakigiaaFloatCmp
import Derived.Test.YtoaafkcpakigiaaQuietUp
namespace Go.Proofs.Ytoaafkcpakigiaa
open Go.ChangeShapes Go.WideShapes Go.ChangeAt Go.RowKit
open Go.ChangeMaps (open_string shut_string)
set_option linter.unusedVariables false
attribute [local go_sem ↓] Go.wp_at_zero Go.wp_at_succ
attribute [local go_sem] run_store_float

set_option maxHeartbeats 4000000 in
theorem valueFloats_diff (a b : Nat) (ha : a < whole) (hb : b < whole) (hne : ¬ a = b) (w : World) :
    Calls Try.prog 5 #[.int .u64 (a : Int), .int .u64 (b : Int)] w fun e w' => e = .returned (.bool true) ∧ Up w w' := by
  have t1 : ((a : Int) == (b : Int)) = false := by simp; omega
  have t2 : isB (5, 0, ⟨#[]⟩, a) = true := by simp [isB]
  have t3 : (cmpV (5, 0, ⟨#[]⟩, a) (5, 0, ⟨#[]⟩, b) == 0) = false := by
    rw [beq_eq_false_iff_ne]
    intro h
    have := cmpV_zero.1 h
    exact hne (ordN_inj ha hb this.2.2.2)
  clear hne
  go_enter Try.func5, Try.ntmps5
  go_wp2_with fail
  go_at_call 9
  refine (known_calls _).mono ?_
  rintro _ w1 ⟨rfl, hu1⟩
  go_wp2_with fail
  go_at_call 23
  refine (float_calls _ _).mono ?_
  rintro _ w2 ⟨rfl, hu2⟩
  go_wp2_with fail
  go_at_call 23
  refine (float_calls _ _).mono ?_
  rintro _ w3 ⟨rfl, hu3⟩
  have hu : Hid (Up w w3) := (hu1.trans hu2).trans hu3
  clear hu1 hu2 hu3
  obtain ⟨W, hW⟩ : ∃ W, (w3.alloc (.cells #[.int .i64 5, .int .i64 0, .string ⟨#[]⟩, .float .f64 a] 24)).alloc (.cells #[.int .i64 5, .int .i64 0, .string ⟨#[]⟩, .float .f64 b] 24) = W := ⟨_, rfl⟩
  have l0 : W.cell? ⟨w3.heap.size, 0, none⟩ = some (.int .i64 5) := by subst hW; go_simp
  have l1 : W.cell? ⟨w3.heap.size, 1, none⟩ = some (.int .i64 0) := by subst hW; go_simp
  have l2 : W.cell? ⟨w3.heap.size, 2, none⟩ = some (.string ⟨#[]⟩) := by subst hW; go_simp
  have l3 : W.cell? ⟨w3.heap.size, 3, none⟩ = some (.float .f64 a) := by subst hW; go_simp
  have r0 : W.cell? ⟨w3.heap.size + 1, 0, none⟩ = some (.int .i64 5) := by subst hW; go_simp
  have r1 : W.cell? ⟨w3.heap.size + 1, 1, none⟩ = some (.int .i64 0) := by subst hW; go_simp
  have r2 : W.cell? ⟨w3.heap.size + 1, 2, none⟩ = some (.string ⟨#[]⟩) := by subst hW; go_simp
  have r3 : W.cell? ⟨w3.heap.size + 1, 3, none⟩ = some (.float .f64 b) := by subst hW; go_simp
  replace hu : Hid (Up w W) := by subst hW; exact (hu.out.alloc _).alloc _
  go_wp2_with fail
  clear hW
  refine region_up (by kernel_rfl) (by kernel_rfl) ?_
  repeat (first
    | go_big_quiet_skip
    | (go_big_quiet_want; go_big_quiet_op; go_big_quiet_on)
    | (go_big_quiet_want
       apply Exists.intro
       refine ⟨fun w' hw' => ?_, ?_⟩
       (skip
        have l0 := hw'.cell l0
        have l1 := hw'.cell l1
        have l2 := hw'.cell l2
        have l3 := hw'.cell l3
        have r0 := hw'.cell r0
        have r1 := hw'.cell r1
        have r2 := hw'.cell r2
        have r3 := hw'.cell r3
        go_simp
        first
          | done
          | with_reducible rfl
          | (go_at_call 13; exact quiet_call hw' (vis_calls _ _ _ _ _))
          | (go_at_call 17; exact quiet_call hw' (vsame_calls _ _ _ _ _ _ _ _ (by with_reducible assumption) (by with_reducible assumption) _)))
       go_big_quiet_on
       try simp only [Act.put, List.setIfInBounds_toArray, List.set_cons_zero, List.set_cons_succ]))
  refine wpQuiet_nil ?_
  intro w4 hw4
  replace hu := hide (hu.out.trans hw4)
  replace l0 := hw4.cell l0
  replace l1 := hw4.cell l1
  replace l2 := hw4.cell l2
  replace l3 := hw4.cell l3
  replace r0 := hw4.cell r0
  replace r1 := hw4.cell r1
  replace r2 := hw4.cell r2
  replace r3 := hw4.cell r3
  clear hw4
  go_wp2_with fail
  refine region_up (by kernel_rfl) (by kernel_rfl) ?_
  repeat (first
    | go_big_quiet_skip
    | (go_big_quiet_want; go_big_quiet_op; go_big_quiet_on)
    | (go_big_quiet_want
       apply Exists.intro
       refine ⟨fun w' hw' => ?_, ?_⟩
       (skip
        have l0 := hw'.cell l0
        have l1 := hw'.cell l1
        have l2 := hw'.cell l2
        have l3 := hw'.cell l3
        have r0 := hw'.cell r0
        have r1 := hw'.cell r1
        have r2 := hw'.cell r2
        have r3 := hw'.cell r3
        go_simp
        first
          | done
          | with_reducible rfl
          | (go_at_call 13; exact quiet_call hw' (vis_calls _ _ _ _ _))
          | (go_at_call 17; exact quiet_call hw' (vsame_calls _ _ _ _ _ _ _ _ (by with_reducible assumption) (by with_reducible assumption) _)))
       go_big_quiet_on
       try simp only [Act.put, List.setIfInBounds_toArray, List.set_cons_zero, List.set_cons_succ]))
  refine wpQuiet_nil ?_
  intro w5 hw5
  replace hu := hide (hu.out.trans hw5)
  replace l0 := hw5.cell l0
  replace l1 := hw5.cell l1
  replace l2 := hw5.cell l2
  replace l3 := hw5.cell l3
  replace r0 := hw5.cell r0
  replace r1 := hw5.cell r1
  replace r2 := hw5.cell r2
  replace r3 := hw5.cell r3
  clear hw5
  go_wp2_with (go_at_call 15; refine (vcompare_calls _ _ _ _ _ _ _ _ (by with_reducible assumption) (by with_reducible assumption) _).mono ?_; rintro _ w6 ⟨rfl, hu6⟩; replace hu := hide (hu.out.trans hu6))
  all_goals go_ret
  · have h : (FloatKind.f64.format.order a b == some .lt) = true := by assumption
    refine ⟨?_, hu.out⟩
    have e : cmpV (5, 0, ⟨#[]⟩, a) (5, 0, ⟨#[]⟩, b) = -1 := by rw [cmpV_float]; exact less_cmp ha hb h
    show Ending.returned (.bool (cmpV (5, 0, ⟨#[]⟩, a) (5, 0, ⟨#[]⟩, b) == -1)) = _
    rw [e]
    rfl
  · exact ⟨rfl, hu.out⟩
  · have h1 : (FloatKind.f64.format.order a b == some .lt) = false := by assumption
    have h2 : ¬ FloatKind.f64.format.order a b = some .eq := by assumption
    have h3 : FloatKind.f64.format.order a a = some .eq := by assumption
    have h4 : FloatKind.f64.format.order b b = some .eq := by assumption
    refine ⟨?_, hu.out⟩
    have e : cmpV (5, 0, ⟨#[]⟩, a) (5, 0, ⟨#[]⟩, b) = 1 := by rw [cmpV_float]; exact more_cmp ha hb h1 h2 h3 h4
    simp [e]
  · exact ⟨rfl, hu.out⟩
  · exact ⟨rfl, hu.out⟩

set_option maxHeartbeats 8000000 in
theorem valueFloats_same (a : Nat) (ha : a < whole) (hfit : Fits (5, 0, ⟨#[]⟩, a)) (w : World) :
    Calls Try.prog 5 #[.int .u64 (a : Int), .int .u64 (a : Int)] w fun e w' => e = .returned (.bool true) ∧ Up w w' := by
  have t2 : isB (5, 0, ⟨#[]⟩, a) = true := by simp [isB]
  have t3 : (cmpV (5, 0, ⟨#[]⟩, a) (5, 0, ⟨#[]⟩, a) == 0) = true := by rw [cmpV_self]; rfl
  have HF := hide hfit
  have HO := hide (self_order a ha)
  clear hfit
  go_enter Try.func5, Try.ntmps5
  go_wp2_with fail
  go_at_call 9
  refine (known_calls _).mono ?_
  rintro _ w1 ⟨rfl, hu1⟩
  go_wp2_with fail
  go_at_call 23
  refine (float_calls _ _).mono ?_
  rintro _ w2 ⟨rfl, hu2⟩
  go_wp2_with fail
  go_at_call 23
  refine (float_calls _ _).mono ?_
  rintro _ w3 ⟨rfl, hu3⟩
  have hu : Hid (Up w w3) := (hu1.trans hu2).trans hu3
  clear hu1 hu2 hu3
  obtain ⟨W, hW⟩ : ∃ W, (w3.alloc (.cells #[.int .i64 5, .int .i64 0, .string ⟨#[]⟩, .float .f64 a] 24)).alloc (.cells #[.int .i64 5, .int .i64 0, .string ⟨#[]⟩, .float .f64 a] 24) = W := ⟨_, rfl⟩
  have l0 : W.cell? ⟨w3.heap.size, 0, none⟩ = some (.int .i64 5) := by subst hW; go_simp
  have l1 : W.cell? ⟨w3.heap.size, 1, none⟩ = some (.int .i64 0) := by subst hW; go_simp
  have l2 : W.cell? ⟨w3.heap.size, 2, none⟩ = some (.string ⟨#[]⟩) := by subst hW; go_simp
  have l3 : W.cell? ⟨w3.heap.size, 3, none⟩ = some (.float .f64 a) := by subst hW; go_simp
  have r0 : W.cell? ⟨w3.heap.size + 1, 0, none⟩ = some (.int .i64 5) := by subst hW; go_simp
  have r1 : W.cell? ⟨w3.heap.size + 1, 1, none⟩ = some (.int .i64 0) := by subst hW; go_simp
  have r2 : W.cell? ⟨w3.heap.size + 1, 2, none⟩ = some (.string ⟨#[]⟩) := by subst hW; go_simp
  have r3 : W.cell? ⟨w3.heap.size + 1, 3, none⟩ = some (.float .f64 a) := by subst hW; go_simp
  replace hu : Hid (Up w W) := by subst hW; exact (hu.out.alloc _).alloc _
  go_wp2_with fail
  clear hW
  refine region_up (by kernel_rfl) (by kernel_rfl) ?_
  repeat (first
    | go_big_quiet_skip
    | (go_big_quiet_want; go_big_quiet_op; go_big_quiet_on)
    | (go_big_quiet_want
       apply Exists.intro
       refine ⟨fun w' hw' => ?_, ?_⟩
       (skip
        have l0 := hw'.cell l0
        have l1 := hw'.cell l1
        have l2 := hw'.cell l2
        have l3 := hw'.cell l3
        have r0 := hw'.cell r0
        have r1 := hw'.cell r1
        have r2 := hw'.cell r2
        have r3 := hw'.cell r3
        go_simp
        first
          | done
          | with_reducible rfl
          | (go_at_call 13; exact quiet_call hw' (vis_calls _ _ _ _ _))
          | (go_at_call 17; exact quiet_call hw' (vsame_calls _ _ _ _ _ _ _ _ (by with_reducible assumption) (by with_reducible assumption) _)))
       go_big_quiet_on
       try simp only [Act.put, List.setIfInBounds_toArray, List.set_cons_zero, List.set_cons_succ]))
  refine wpQuiet_nil ?_
  intro w4 hw4
  replace hu := hide (hu.out.trans hw4)
  replace l0 := hw4.cell l0
  replace l1 := hw4.cell l1
  replace l2 := hw4.cell l2
  replace l3 := hw4.cell l3
  replace r0 := hw4.cell r0
  replace r1 := hw4.cell r1
  replace r2 := hw4.cell r2
  replace r3 := hw4.cell r3
  clear hw4
  go_wp2_with fail
  go_region_held3 (fun w' => w'.cell? ⟨w3.heap.size, 0, none⟩ = some (.int .i64 5) ∧ w'.cell? ⟨w3.heap.size, 1, none⟩ = some (.int .i64 0) ∧ w'.cell? ⟨w3.heap.size, 2, none⟩ = some (.string ⟨#[]⟩) ∧ w'.cell? ⟨w3.heap.size, 3, none⟩ = some (.float .f64 a)
      ∧ w'.cell? ⟨w3.heap.size + 1, 0, none⟩ = some (.int .i64 5) ∧ w'.cell? ⟨w3.heap.size + 1, 1, none⟩ = some (.int .i64 0) ∧ w'.cell? ⟨w3.heap.size + 1, 2, none⟩ = some (.string ⟨#[]⟩) ∧ w'.cell? ⟨w3.heap.size + 1, 3, none⟩ = some (.float .f64 a))
    (first
      | go_keep
      | (go_split_ands; refine ⟨hu4.cell ?_, hu4.cell ?_, hu4.cell ?_, hu4.cell ?_, hu4.cell ?_, hu4.cell ?_, hu4.cell ?_, hu4.cell ?_⟩ <;> assumption)
      | (go_split_ands; refine ⟨((Up.refl _).alloc _).cell ?_, ((Up.refl _).alloc _).cell ?_, ((Up.refl _).alloc _).cell ?_, ((Up.refl _).alloc _).cell ?_, ((Up.refl _).alloc _).cell ?_, ((Up.refl _).alloc _).cell ?_, ((Up.refl _).alloc _).cell ?_, ((Up.refl _).alloc _).cell ?_⟩ <;> assumption))
    (first
      | (go_at_call 13; refine (vis_calls _ _ _ _ _).mono ?_; rintro _ w5 ⟨rfl, hu4⟩; replace hu := hide (hu.out.drew.trans hu4))
      | (go_at_call 17; refine (vsame_calls _ _ _ _ _ _ _ _ (by with_reducible assumption) (by with_reducible assumption) _).mono ?_; rintro _ w6 ⟨rfl, hu4⟩; replace hu := hide (hu.out.trans hu4))
      | (go_at_call 21; refine (vhash_calls _ _ _ [(5, 0, ⟨#[]⟩, a)] _ (by decide) (vals_of1 (by first | (go_simp; done) | exact hu4.cell (by go_simp)) (by first | (go_simp; done) | exact hu4.cell (by go_simp)) (by first | (go_simp; done) | exact hu4.cell (by go_simp)) (by first | (go_simp; done) | exact hu4.cell (by go_simp)) HF.out)).mono ?_; rintro _ w7 ⟨rfl, hu4⟩; first | (replace hu := hide (hu.out.trans hu4)) | (replace hu := hide ((hu.out.alloc _).trans hu4)) | (replace hu := hide (((hu.out.alloc _).alloc _).trans hu4))))
  all_goals
    rcases HO.out with ho | ho
    all_goals
      go_wp2
      go_ret
      exact ⟨rfl, hu.out⟩


theorem valueFloats_own : ownKnob Try.prog.godebug = none := by kernel_rfl
theorem valueFloats_laidOut : laidOutB Try.prog = true := by kernel_rfl

set_option maxHeartbeats 4000000 in
theorem valueFloats_walk (a0 : Int) (a1 : Int) (w : World) (w0 : (Lit.int .u64 a0).wf = true) (w1 : (Lit.int .u64 a1).wf = true) :
    Calls Try.prog 5 #[.int .u64 a0, .int .u64 a1] w fun e w' => e = .returned (.bool true) ∧ Up w w' := by
  have b0 := bounds_u64 w0
  have b1 := bounds_u64 w1
  obtain ⟨a, rfl⟩ : ∃ a : Nat, a0 = (a : Int) := ⟨a0.toNat, by omega⟩
  obtain ⟨b, rfl⟩ : ∃ b : Nat, a1 = (b : Int) := ⟨a1.toNat, by omega⟩
  have ha : a < whole := by unfold whole; omega
  have hb : b < whole := by unfold whole; omega
  by_cases h : a = b
  · subst h
    exact valueFloats_same a ha ⟨(by decide : IntKind.i64.min ≤ (5 : Int)), (by decide : (5 : Int) ≤ IntKind.i64.max), (by decide : IntKind.i64.min ≤ (0 : Int)), (by decide : (0 : Int) ≤ IntKind.i64.max), Nat.zero_le _, ha⟩ w
  · exact valueFloats_diff a b ha hb h w

set_option maxRecDepth 100000 in
theorem valueFloats_lifted (os : Os) (started : os.Started) (H : Type) (enc : TypeId × Value → H) :
    ReturnsInHanded {} Try.checked os 5 .any (Rows.valueFloatsSpec.pre6 enc Try.prog Try.f5 Rows.valueFloatsRow.domain false) (Rows.valueFloatsSpec.post enc Try.prog Try.f5 false true false false) := by
  refine returnsInHanded_of_change (C := Try.checked) valueFloats_own started (by kernel_rfl) Try.func5
    (ChangeSpec.witness6 (enc := enc) (C := Try.checked) false ⟨#[], #[.int .u64 0, .int .u64 0], []⟩ 8 (by kernel_rfl) (by kernel_rfl) (by kernel_rfl) (by kernel_rfl)) ?_
  intro W base args ds gs before hval0 hW hcnd _
  have hval : ∀ (j : Nat) t v, Try.f5.params[j]? = some t → args[j]? = some v → Value.okWide Try.prog W .any base t v := hval0
  have hW' := hW
  obtain ⟨p, q, hA0, hV, rfl, hfz, hnd⟩ := hW
  have hA : DataW.TrodAll enc Try.prog W 0 (fun _ => true) true Try.f5.params.toList args.toList ds p := hA0
  rw [Try.params5] at hA hval
  obtain ⟨v0, vs0, d0, ds0, p0, q0, hargs, rfl, rfl, h0, r0⟩ := trodAll_cons hA
  obtain ⟨v1, vs1, d1, ds1, p1, q1, rfl, rfl, rfl, h1, r1⟩ := trodAll_cons r0
  obtain ⟨rfl, rfl, rfl⟩ := trodAll_nil r1
  obtain rfl : args = #[v0, v1] := by cases args; simp_all
  obtain ⟨rfl, rfl⟩ := trodVars_none hV
  have y0 := h0
  have lt0 : ∀ x ∈ p0, x.block < W.heap.size := by obtain ⟨m, hm⟩ := y0; exact DataW.trod_lt m _ _ _ hm
  have y1 := h1
  have lt1 : ∀ x ∈ p1, x.block < W.heap.size := by obtain ⟨m, hm⟩ := y1; exact DataW.trod_lt m _ _ _ hm
  obtain ⟨a0, rfl, _, _, w0⟩ := open_int Try.underlying37 (hval 0 37 v0 rfl rfl) h0
  obtain ⟨a1, rfl, _, _, w1⟩ := open_int Try.underlying37 (hval 1 37 v1 rfl rfl) h1
  clear hA0 hval0
  refine (valueFloats_walk a0 a1 W w0 w1).mono fun e W' ⟨he, bel⟩ => ?_
  subst he
  exact ⟨_, rfl, _, _, _, [], _, [], hW', trodAll_mk1 (shut_bool Try.underlying4 _), (trodAll_cons_mk (Below.trod valueFloats_laidOut (by kernel_rfl) (of_decide_eq_true (by kernel_rfl)) y0 bel.below lt0) (trodAll_cons_mk (Below.trod valueFloats_laidOut (by kernel_rfl) (of_decide_eq_true (by kernel_rfl)) y1 bel.below lt1) trodAll_mk0)), rfl, bel.below.frame _, fun h => by cases h⟩

theorem valueFloats_over : Rows.valueFloatsRow.holds Try.pinned (OpenSpec.ofChange Rows.valueFloatsSpec) :=
  OpenClaim.holds_of_wide 5 Try.f5 rfl rfl rfl rfl rfl rfl rfl ⟨rfl, rfl, rfl, rfl, rfl⟩ rfl rfl rfl rfl rfl (by kernel_rfl) Try.func5 (by kernel_rfl)
    (of_decide_eq_true (by kernel_rfl)) (by unfold Func.isWrapper; first | (rw [if_pos (by decide +kernel)]; kernel_rfl) | (rw [if_neg (by decide +kernel)]; exact ⟨rfl, rfl⟩))
    (fun os started H enc _ => valueFloats_lifted os started H enc)

theorem valueFloats_proved : Rows.ValueFloatsSaid := valueFloats_over
#print axioms valueFloats_proved
end Go.Proofs.Ytoaafkcpakigiaa

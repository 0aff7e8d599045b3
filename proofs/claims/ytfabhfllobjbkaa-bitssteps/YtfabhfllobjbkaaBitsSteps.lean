/-
  For every word and every number of steps the law BitsSteps returns true: so many steps on stands the float whose order is so much greater; no condition.
-/
import Derived.Test.YtfabhfllobjbkaaRows
import Derived.WalkKit
import Derived.ProofKit
import Derived.OpenShut
import Derived.Test.YtfabhfllobjbkaaCalls
namespace Go.Proofs.Ytfabhfllobjbkaa
open Go.ChangeShapes Go.WideShapes Go.ChangeAt Go.RowKit
set_option linter.unusedVariables false      -- a bitsSteps_walk need not use every 'w<i>' (that an integer argument fits its kind)

theorem bitsSteps_own : ownKnob Try.prog.godebug = none := by kernel_rfl

theorem next_at (n : Nat) (hn : n + 1 < whole) (w : World) :
    Calls Try.prog 11 #[.float .f64 (ofN n)] w fun e w' => e = .returned (.tuple #[.float .f64 (ofN (n + 1)), .bool true]) ∧ w' = w := by
  have h := next_calls (ofN n) (ofN_lt (by omega)) (by rw [ordN_ofN (by omega)]; omega) w
  rw [ordN_ofN (by omega)] at h
  exact h
theorem next_end (n : Nat) (hn : n < whole) (hl : ¬ n + 1 < whole) (w : World) :
    Calls Try.prog 11 #[.float .f64 (ofN n)] w fun e w' => e = .returned (.tuple #[.float .f64 (ofN n), .bool false]) ∧ w' = w :=
  next_calls_last (ofN n) (ofN_lt hn) (by rw [ordN_ofN hn]; omega) w
theorem order_at (n : Nat) (hn : n < whole) (w : World) :
    Calls Try.prog 13 #[.float .f64 (ofN n)] w fun e w' => e = .returned (.int .u64 (n : Int)) ∧ w' = w := by
  have h := order_calls (ofN n) (ofN_lt hn) w
  rw [ordN_ofN hn] at h
  exact h
theorem sum_step (o k : Nat) (h : o + k + 1 < whole) : ((o : Int) + k + 1 != IntKind.u64.wrap ((o : Int) + (k + 1))) = false := by
  rw [IntKind.wrap_u64, bne_eq_false_iff_eq]
  simp only [whole] at h
  omega
theorem sum_end (o k : Nat) (h : o + k < whole) (hl : ¬ o + k + 1 < whole) : (IntKind.u64.wrap ((o : Int) + k) == 18446744073709551615) = true := by
  rw [IntKind.wrap_u64, beq_iff_eq]
  simp only [whole] at h hl
  omega
theorem bitsSteps_walk (a0 : Int) (a1 : Int) (w0 : (Lit.int .u64 a0).wf = true) (w1 : (Lit.int .u8 a1).wf = true) (w : World) :
    Calls Try.prog 7 #[.int .u64 a0, .int .u8 a1] w fun e w' => e = .returned (.bool true) ∧ Grown w w' := by
  obtain ⟨a, rfl⟩ : ∃ a : Nat, a0 = a := ⟨a0.toNat, by have := bounds_u64 w0; omega⟩
  obtain ⟨n, rfl⟩ : ∃ n : Nat, a1 = n := ⟨a1.toNat, by have := bounds_u8 w1; omega⟩
  have ha : a < whole := by have := bounds_u64 w0; simp only [whole]; omega
  have hn : n < 256 := by have := bounds_u8 w1; omega
  have hrf := run_from
  clear w0 w1
  go_enter Try.func7, Try.ntmps7
  go_wp2_with (first
    | (go_at_call 9; refine (known_calls _).mono ?_; rintro _ _ ⟨rfl, rfl⟩)
    | (go_at_call 13; refine (order_calls _ (by with_reducible assumption) _).mono ?_; rintro _ _ ⟨rfl, rfl⟩))
  go_loop [5, 7] (fun f i => ∃ k : Nat, k ≤ 40 ∧ ordN a + k < whole ∧ i = .int .i64 ((k : Int) + 1) ∧ f = .float .f64 (ofN (ordN a + k)))
                 (fun _ i => 50 - (intOf i).toNat)
  case atStart => exact ⟨0, by omega, by have := ordN_lt ha; omega, rfl, by rw [Nat.add_zero, ofN_ordN ha]⟩
  case round =>
    obtain ⟨k, hk, hm, rfl, rfl⟩ := hrel
    by_cases hl : ordN a + k + 1 < whole
    · have t1 := sum_step (ordN a) k hl
      go_wp2_with (first
        | (go_at_call 11; refine (next_at _ (by with_reducible assumption) _).mono ?_; rintro _ _ ⟨rfl, rfl⟩)
        | (go_at_call 13; refine (order_at _ (by with_reducible assumption) _).mono ?_; rintro _ _ ⟨rfl, rfl⟩))
      · refine ⟨⟨k + 1, by omega, by omega, ?_, by rw [Nat.add_assoc]⟩, by simp [intOf]; omega⟩
        simp
      · go_ret
        exact ⟨rfl, Grown.refl _⟩
    · have t1 := sum_end (ordN a) k hm hl
      go_wp2_with (first
        | (go_at_call 11; refine (next_end _ (by with_reducible assumption) (by with_reducible assumption) _).mono ?_; rintro _ _ ⟨rfl, rfl⟩)
        | (go_at_call 13; refine (order_at _ (by with_reducible assumption) _).mono ?_; rintro _ _ ⟨rfl, rfl⟩))
      all_goals go_ret
      all_goals exact ⟨rfl, Grown.refl _⟩

set_option maxRecDepth 100000 in
theorem bitsSteps_lifted (os : Os) (started : os.Started) (H : Type) (enc : TypeId × Value → H) :
    ReturnsInHanded {} Try.checked os 7 .any (Rows.bitsStepsSpec.pre6 enc Try.prog Try.f7 Rows.bitsStepsRow.domain false) (Rows.bitsStepsSpec.post enc Try.prog Try.f7 false true false false) := by
  refine returnsInHanded_of_change (C := Try.checked) bitsSteps_own started (by kernel_rfl) Try.func7
    (ChangeSpec.witness6 (enc := enc) (C := Try.checked) false ⟨#[], #[.int .u64 0, .int .u8 0], []⟩ 8 (by kernel_rfl) (by kernel_rfl) (by kernel_rfl) (by kernel_rfl)) ?_
  intro W base args ds gs before hval0 hW hcnd _
  have hval : ∀ (j : Nat) t v, Try.f7.params[j]? = some t → args[j]? = some v → Value.okWide Try.prog W .any base t v := hval0
  have hW' := hW
  obtain ⟨p, q, hA0, hV, rfl, hfz, hnd⟩ := hW
  have hA : DataW.TrodAll enc Try.prog W 0 (fun _ => true) true Try.f7.params.toList args.toList ds p := hA0
  rw [Try.params7] at hA hval
  obtain ⟨v0, vs0, d0, ds0, p0, q0, hargs, rfl, rfl, h0, r0⟩ := trodAll_cons hA
  obtain ⟨v1, vs1, d1, ds1, p1, q1, rfl, rfl, rfl, h1, r1⟩ := trodAll_cons r0
  obtain ⟨rfl, rfl, rfl⟩ := trodAll_nil r1
  obtain rfl : args = #[v0, v1] := by cases args; simp_all
  obtain ⟨rfl, rfl⟩ := trodVars_none hV
  obtain ⟨a0, rfl, rfl, rfl, w0⟩ := open_int Try.underlying22 (hval 0 22 v0 rfl rfl) h0
  obtain ⟨a1, rfl, rfl, rfl, w1⟩ := open_int Try.underlying5 (hval 1 5 v1 rfl rfl) h1
  clear hA0 hval0
  simp only [List.append_nil] at hW'
  refine (bitsSteps_walk a0 a1 w0 w1 W).mono fun e W' ⟨he, hg⟩ => ?_
  subst he
  exact ⟨_, rfl, post_of_same (pa := []) (pv := []) hW' (fun _ _ _ => (trodAll_cons_mk (shut_bool Try.underlying4 _) trodAll_mk0)) (fun sp _ => (trodAll_cons_mk (shut_int Try.underlying22 w0) (trodAll_cons_mk (shut_int Try.underlying5 w1) trodAll_mk0))) (fun _ _ => rfl) rfl
    (hg.frame _) hg.2.1 (ok_one (by kernel_rfl) rfl (okWide_bool_mk Try.underlying4 _))⟩

theorem bitsSteps_over : Rows.bitsStepsRow.holds Try.pinned (OpenSpec.ofChange Rows.bitsStepsSpec) :=
  OpenClaim.holds_of_wide 7 Try.f7 rfl rfl rfl rfl rfl rfl rfl ⟨rfl, rfl, rfl, rfl, rfl⟩ rfl rfl rfl rfl rfl (by kernel_rfl) Try.func7 (by kernel_rfl)
    (of_decide_eq_true (by kernel_rfl)) (by unfold Func.isWrapper; first | (rw [if_pos (by decide +kernel)]; kernel_rfl) | (rw [if_neg (by decide +kernel)]; exact ⟨rfl, rfl⟩))
    (fun os started H enc _ => bitsSteps_lifted os started H enc)

theorem bitsSteps_proved : Rows.BitsStepsSaid :=
  bitsSteps_over
#print axioms bitsSteps_proved
end Go.Proofs.Ytfabhfllobjbkaa

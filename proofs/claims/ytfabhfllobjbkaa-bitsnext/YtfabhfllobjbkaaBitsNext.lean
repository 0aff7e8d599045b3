/-
  For every two words the law BitsNext returns true: between a float and the next one there is none; no condition.
-/
import Derived.Test.YtfabhfllobjbkaaRows
import Derived.WalkKit
import Derived.ProofKit
import Derived.OpenShut
import Derived.Test.YtfabhfllobjbkaaCalls
namespace Go.Proofs.Ytfabhfllobjbkaa
open Go.ChangeShapes Go.WideShapes Go.ChangeAt Go.RowKit
set_option linter.unusedVariables false      -- a bitsNext_walk need not use every 'w<i>' (that an integer argument fits its kind)

theorem bitsNext_own : ownKnob Try.prog.godebug = none := by kernel_rfl

theorem last_only {a : Nat} (ha : a < whole) (hl : ordN a = whole - 1) : a = half - 1 := by
  have e := whole_half
  have p := half_pos
  unfold ordN at hl
  split at hl <;> omega

theorem cmp_next {a : Nat} (ha : a < whole) (hl : ordN a ≠ whole - 1) : cmpN a (ofN (ordN a + 1)) = -1 := by
  have h := ordN_lt ha
  unfold cmpN
  rw [ordN_ofN (by omega), if_pos (by omega)]

theorem cmp_between {a b : Nat} (ha : a < whole) (hl : ordN a ≠ whole - 1) (hn : ¬ cmpN b a ≤ 0) : 0 ≤ cmpN b (ofN (ordN a + 1)) := by
  have h := ordN_lt ha
  have h1 : ordN a < ordN b := by
    unfold cmpN at hn
    by_cases x : ordN b < ordN a
    · rw [if_pos x] at hn; omega
    · by_cases y : ordN a < ordN b
      · exact y
      · rw [if_neg x, if_neg y] at hn; omega
  unfold cmpN
  rw [ordN_ofN (by omega), if_neg (by omega)]
  split <;> omega

theorem bitsNext_walk (a0 : Int) (a1 : Int) (w0 : (Lit.int .u64 a0).wf = true) (w1 : (Lit.int .u64 a1).wf = true) (w : World) :
    Calls Try.prog 5 #[.int .u64 a0, .int .u64 a1] w fun e w' => e = .returned (.bool true) ∧ Grown w w' := by
  obtain ⟨a, rfl⟩ : ∃ a : Nat, a0 = a := ⟨a0.toNat, by have := bounds_u64 w0; omega⟩
  obtain ⟨b, rfl⟩ : ∃ b : Nat, a1 = b := ⟨a1.toNat, by have := bounds_u64 w1; omega⟩
  have ha : a < whole := by have := bounds_u64 w0; simp only [whole]; omega
  have hb : b < whole := by have := bounds_u64 w1; simp only [whole]; omega
  have hrf := run_from
  clear w0 w1
  by_cases hl : ordN a = whole - 1
  · have t1 : ((a : Int) == 9223372036854775807) = true := by
      have := last_only ha hl
      rw [this]; simp [half]
    have t2 : ((a : Int) == (a : Int)) = true := beq_self_eq_true _
    go_enter Try.func5, Try.ntmps5
    go_wp2_with (first
      | (go_at_call 9; refine (known_calls _).mono ?_; rintro _ _ ⟨rfl, rfl⟩)
      | (go_at_call 11; refine (next_calls_last _ (by with_reducible assumption) (by with_reducible assumption) _).mono ?_; rintro _ _ ⟨rfl, rfl⟩)
      | (go_at_call 15; refine (same_calls _ _ _).mono ?_; rintro _ _ ⟨rfl, rfl⟩))
    go_ret
    exact ⟨rfl, Grown.refl _⟩
  · have hl' : ordN a ≠ whole - 1 := hl
    have hn : ofN (ordN a + 1) < whole := ofN_lt (by have := ordN_lt ha; omega)
    have t1 : (cmpN a (ofN (ordN a + 1)) == -1) = true := by rw [cmp_next ha hl]; rfl
    by_cases c : cmpN b a ≤ 0
    · go_enter Try.func5, Try.ntmps5
      go_wp2_with (first
        | (go_at_call 9; refine (known_calls _).mono ?_; rintro _ _ ⟨rfl, rfl⟩)
        | (go_at_call 11; refine (next_calls _ (by with_reducible assumption) (by with_reducible assumption) _).mono ?_; rintro _ _ ⟨rfl, rfl⟩)
        | (go_at_call 18; refine (compare_calls _ _ (by with_reducible assumption) (by with_reducible assumption) _).mono ?_; rintro _ _ ⟨rfl, rfl⟩))
      go_ret
      exact ⟨rfl, Grown.refl _⟩
    · have t3 := cmp_between ha hl c
      go_enter Try.func5, Try.ntmps5
      go_wp2_with (first
        | (go_at_call 9; refine (known_calls _).mono ?_; rintro _ _ ⟨rfl, rfl⟩)
        | (go_at_call 11; refine (next_calls _ (by with_reducible assumption) (by with_reducible assumption) _).mono ?_; rintro _ _ ⟨rfl, rfl⟩)
        | (go_at_call 18; refine (compare_calls _ _ (by with_reducible assumption) (by with_reducible assumption) _).mono ?_; rintro _ _ ⟨rfl, rfl⟩))
      go_ret
      exact ⟨rfl, Grown.refl _⟩

set_option maxRecDepth 100000 in
theorem bitsNext_lifted (os : Os) (started : os.Started) (H : Type) (enc : TypeId × Value → H) :
    ReturnsInHanded {} Try.checked os 5 .any (Rows.bitsNextSpec.pre6 enc Try.prog Try.f5 Rows.bitsNextRow.domain false) (Rows.bitsNextSpec.post enc Try.prog Try.f5 false true false false) := by
  refine returnsInHanded_of_change (C := Try.checked) bitsNext_own started (by kernel_rfl) Try.func5
    (ChangeSpec.witness6 (enc := enc) (C := Try.checked) false ⟨#[], #[.int .u64 0, .int .u64 0], []⟩ 8 (by kernel_rfl) (by kernel_rfl) (by kernel_rfl) (by kernel_rfl)) ?_
  intro W base args ds gs before hval0 hW hcnd _
  have hval : ∀ (j : Nat) t v, Try.f5.params[j]? = some t → args[j]? = some v → Value.okWide Try.prog W .any base t v := hval0
  have hW' := hW
  obtain ⟨p, q, hA0, hV, rfl, hfz, hnd⟩ := hW
  have hA : DataW.TrodAll enc Try.prog W 0 (fun _ => true) true Try.f5.params.toList args.toList ds p := hA0
  rw [Try.params5] at hA hval
  obtain ⟨v0, vs0, d0, ds0, p0, q0, hargs, rfl, rfl, h0, r0⟩ := trodAll_cons hA
  obtain ⟨v1, vs1, d1, ds1, p1, q1, rfl, rfl, rfl, h1, r1⟩ := trodAll_cons r0
  obtain ⟨rfl, rfl, rfl⟩ := trodAll_nil r1
  obtain rfl : args = #[v0, v1] := by cases args; simp_all
  obtain ⟨rfl, rfl⟩ := trodVars_none hV
  obtain ⟨a0, rfl, rfl, rfl, w0⟩ := open_int Try.underlying22 (hval 0 22 v0 rfl rfl) h0
  obtain ⟨a1, rfl, rfl, rfl, w1⟩ := open_int Try.underlying22 (hval 1 22 v1 rfl rfl) h1
  clear hA0 hval0
  simp only [List.append_nil] at hW'
  refine (bitsNext_walk a0 a1 w0 w1 W).mono fun e W' ⟨he, hg⟩ => ?_
  subst he
  exact ⟨_, rfl, post_of_same (pa := []) (pv := []) hW' (fun _ _ _ => (trodAll_cons_mk (shut_bool Try.underlying4 _) trodAll_mk0)) (fun sp _ => (trodAll_cons_mk (shut_int Try.underlying22 w0) (trodAll_cons_mk (shut_int Try.underlying22 w1) trodAll_mk0))) (fun _ _ => rfl) rfl
    (hg.frame _) hg.2.1 (ok_one (by kernel_rfl) rfl (okWide_bool_mk Try.underlying4 _))⟩

theorem bitsNext_over : Rows.bitsNextRow.holds Try.pinned (OpenSpec.ofChange Rows.bitsNextSpec) :=
  OpenClaim.holds_of_wide 5 Try.f5 rfl rfl rfl rfl rfl rfl rfl ⟨rfl, rfl, rfl, rfl, rfl⟩ rfl rfl rfl rfl rfl (by kernel_rfl) Try.func5 (by kernel_rfl)
    (of_decide_eq_true (by kernel_rfl)) (by unfold Func.isWrapper; first | (rw [if_pos (by decide +kernel)]; kernel_rfl) | (rw [if_neg (by decide +kernel)]; exact ⟨rfl, rfl⟩))
    (fun os started H enc _ => bitsNext_lifted os started H enc)

theorem bitsNext_proved : Rows.BitsNextSaid :=
  bitsNext_over
#print axioms bitsNext_proved
end Go.Proofs.Ytfabhfllobjbkaa

/-
  For every two words the law BitsTells returns true: order, back, which is ahead, the same, class and next are the document's; no condition.
-/
import Derived.Test.YtfabhfllobjbkaaRows
import Derived.WalkKit
import Derived.ProofKit
import Derived.OpenShut
import Derived.Test.YtfabhfllobjbkaaRefs
namespace Go.Proofs.Ytfabhfllobjbkaa
open Go.ChangeShapes Go.WideShapes Go.ChangeAt Go.RowKit
set_option linter.unusedVariables false      -- a bitsTells_walk need not use every 'w<i>' (that an integer argument fits its kind)

theorem bitsTells_own : ownKnob Try.prog.godebug = none := by kernel_rfl

theorem bitsTells_walk (a0 : Int) (a1 : Int) (w0 : (Lit.int .u64 a0).wf = true) (w1 : (Lit.int .u64 a1).wf = true) (w : World) :
    Calls Try.prog 3 #[.int .u64 a0, .int .u64 a1] w fun e w' => e = .returned (.bool true) ∧ Grown w w' := by
  obtain ⟨a, rfl⟩ : ∃ a : Nat, a0 = a := ⟨a0.toNat, by have := bounds_u64 w0; omega⟩
  obtain ⟨b, rfl⟩ : ∃ b : Nat, a1 = b := ⟨a1.toNat, by have := bounds_u64 w1; omega⟩
  have ha : a < whole := by have := bounds_u64 w0; simp only [whole]; omega
  have hb : b < whole := by have := bounds_u64 w1; simp only [whole]; omega
  have hrf := run_from
  have s1 : ((ordN a : Int) == (ordN a : Int)) = true := beq_self_eq_true _
  have s2 : ((ofN a : Int) == (ofN a : Int)) = true := beq_self_eq_true _
  have s3 : (cmpN a b == cmpN a b) = true := beq_self_eq_true _
  have s4 : (classN a == classN a) = true := beq_self_eq_true _
  clear w0 w1
  by_cases hl : ordN a = whole - 1
  · have s5 : ((a : Int) == (a : Int)) = true := beq_self_eq_true _
    go_enter Try.func3, Try.ntmps3
    go_wp2_with (first
      | (go_at_call 9; refine (known_calls _).mono ?_; rintro _ _ ⟨rfl, rfl⟩)
      | (go_at_call 13; refine (order_calls _ (by with_reducible assumption) _).mono ?_; rintro _ _ ⟨rfl, rfl⟩)
      | (go_at_call 14; refine (rorder_calls _ (by with_reducible assumption) _).mono ?_; rintro _ _ ⟨rfl, rfl⟩)
      | (go_at_call 16; refine (of_calls _ (by with_reducible assumption) _).mono ?_; rintro _ _ ⟨rfl, rfl⟩)
      | (go_at_call 17; refine (rof_calls _ (by with_reducible assumption) _).mono ?_; rintro _ _ ⟨rfl, rfl⟩)
      | (go_at_call 18; refine (compare_calls _ _ (by with_reducible assumption) (by with_reducible assumption) _).mono ?_; rintro _ _ ⟨rfl, rfl⟩)
      | (go_at_call 19; refine (rcompare_calls _ _ (by with_reducible assumption) (by with_reducible assumption) _).mono ?_; rintro _ _ ⟨rfl, rfl⟩)
      | (go_at_call 20; refine (class_calls _ (by with_reducible assumption) _).mono ?_; rintro _ _ ⟨rfl, rfl⟩)
      | (go_at_call 21; refine (rclass_calls _ _).mono ?_; rintro _ _ ⟨rfl, rfl⟩)
      | (go_at_call 11; refine (next_calls_last _ (by with_reducible assumption) (by with_reducible assumption) _).mono ?_; rintro _ _ ⟨rfl, rfl⟩)
      | (go_at_call 12; refine (rnext_calls_last _ (by with_reducible assumption) (by with_reducible assumption) _).mono ?_; rintro _ _ ⟨rfl, rfl⟩)
      | (go_at_call 15; refine (same_calls _ _ _).mono ?_; rintro _ _ ⟨rfl, rfl⟩))
    go_ret
    exact ⟨rfl, Grown.refl _⟩
  · have hl' : ordN a ≠ whole - 1 := hl
    have s5 : ((ofN (ordN a + 1) : Int) == (ofN (ordN a + 1) : Int)) = true := beq_self_eq_true _
    go_enter Try.func3, Try.ntmps3
    go_wp2_with (first
      | (go_at_call 9; refine (known_calls _).mono ?_; rintro _ _ ⟨rfl, rfl⟩)
      | (go_at_call 13; refine (order_calls _ (by with_reducible assumption) _).mono ?_; rintro _ _ ⟨rfl, rfl⟩)
      | (go_at_call 14; refine (rorder_calls _ (by with_reducible assumption) _).mono ?_; rintro _ _ ⟨rfl, rfl⟩)
      | (go_at_call 16; refine (of_calls _ (by with_reducible assumption) _).mono ?_; rintro _ _ ⟨rfl, rfl⟩)
      | (go_at_call 17; refine (rof_calls _ (by with_reducible assumption) _).mono ?_; rintro _ _ ⟨rfl, rfl⟩)
      | (go_at_call 18; refine (compare_calls _ _ (by with_reducible assumption) (by with_reducible assumption) _).mono ?_; rintro _ _ ⟨rfl, rfl⟩)
      | (go_at_call 19; refine (rcompare_calls _ _ (by with_reducible assumption) (by with_reducible assumption) _).mono ?_; rintro _ _ ⟨rfl, rfl⟩)
      | (go_at_call 20; refine (class_calls _ (by with_reducible assumption) _).mono ?_; rintro _ _ ⟨rfl, rfl⟩)
      | (go_at_call 21; refine (rclass_calls _ _).mono ?_; rintro _ _ ⟨rfl, rfl⟩)
      | (go_at_call 11; refine (next_calls _ (by with_reducible assumption) (by with_reducible assumption) _).mono ?_; rintro _ _ ⟨rfl, rfl⟩)
      | (go_at_call 12; refine (rnext_calls _ (by with_reducible assumption) (by with_reducible assumption) _).mono ?_; rintro _ _ ⟨rfl, rfl⟩)
      | (go_at_call 15; refine (same_calls _ _ _).mono ?_; rintro _ _ ⟨rfl, rfl⟩))
    go_ret
    exact ⟨rfl, Grown.refl _⟩

set_option maxRecDepth 100000 in
theorem bitsTells_lifted (os : Os) (started : os.Started) (H : Type) (enc : TypeId × Value → H) :
    ReturnsInHanded {} Try.checked os 3 .any (Rows.bitsTellsSpec.pre6 enc Try.prog Try.f3 Rows.bitsTellsRow.domain false) (Rows.bitsTellsSpec.post enc Try.prog Try.f3 false true false false) := by
  refine returnsInHanded_of_change (C := Try.checked) bitsTells_own started (by kernel_rfl) Try.func3
    (ChangeSpec.witness6 (enc := enc) (C := Try.checked) false ⟨#[], #[.int .u64 0, .int .u64 0], []⟩ 8 (by kernel_rfl) (by kernel_rfl) (by kernel_rfl) (by kernel_rfl)) ?_
  intro W base args ds gs before hval0 hW hcnd _
  have hval : ∀ (j : Nat) t v, Try.f3.params[j]? = some t → args[j]? = some v → Value.okWide Try.prog W .any base t v := hval0
  have hW' := hW
  obtain ⟨p, q, hA0, hV, rfl, hfz, hnd⟩ := hW
  have hA : DataW.TrodAll enc Try.prog W 0 (fun _ => true) true Try.f3.params.toList args.toList ds p := hA0
  rw [Try.params3] at hA hval
  obtain ⟨v0, vs0, d0, ds0, p0, q0, hargs, rfl, rfl, h0, r0⟩ := trodAll_cons hA
  obtain ⟨v1, vs1, d1, ds1, p1, q1, rfl, rfl, rfl, h1, r1⟩ := trodAll_cons r0
  obtain ⟨rfl, rfl, rfl⟩ := trodAll_nil r1
  obtain rfl : args = #[v0, v1] := by cases args; simp_all
  obtain ⟨rfl, rfl⟩ := trodVars_none hV
  obtain ⟨a0, rfl, rfl, rfl, w0⟩ := open_int Try.underlying22 (hval 0 22 v0 rfl rfl) h0
  obtain ⟨a1, rfl, rfl, rfl, w1⟩ := open_int Try.underlying22 (hval 1 22 v1 rfl rfl) h1
  clear hA0 hval0
  simp only [List.append_nil] at hW'
  refine (bitsTells_walk a0 a1 w0 w1 W).mono fun e W' ⟨he, hg⟩ => ?_
  subst he
  exact ⟨_, rfl, post_of_same (pa := []) (pv := []) hW' (fun _ _ _ => (trodAll_cons_mk (shut_bool Try.underlying4 _) trodAll_mk0)) (fun sp _ => (trodAll_cons_mk (shut_int Try.underlying22 w0) (trodAll_cons_mk (shut_int Try.underlying22 w1) trodAll_mk0))) (fun _ _ => rfl) rfl
    (hg.frame _) hg.2.1 (ok_one (by kernel_rfl) rfl (okWide_bool_mk Try.underlying4 _))⟩

theorem bitsTells_over : Rows.bitsTellsRow.holds Try.pinned (OpenSpec.ofChange Rows.bitsTellsSpec) :=
  OpenClaim.holds_of_wide 3 Try.f3 rfl rfl rfl rfl rfl rfl rfl ⟨rfl, rfl, rfl, rfl, rfl⟩ rfl rfl rfl rfl rfl (by kernel_rfl) Try.func3 (by kernel_rfl)
    (of_decide_eq_true (by kernel_rfl)) (by unfold Func.isWrapper; first | (rw [if_pos (by decide +kernel)]; kernel_rfl) | (rw [if_neg (by decide +kernel)]; exact ⟨rfl, rfl⟩))
    (fun os started H enc _ => bitsTells_lifted os started H enc)

theorem bitsTells_proved : Rows.BitsTellsSaid :=
  bitsTells_over
#print axioms bitsTells_proved
end Go.Proofs.Ytfabhfllobjbkaa

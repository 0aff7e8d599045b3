/-
  For every two int32 numbers, whole or halved, the law BitsSums returns true: their floats stand in their order, and are the same where they are; no condition.
-/
import Derived.Test.YtfabhfllobjbkabRows
import Derived.WalkKit
import Derived.ProofKit
import Derived.OpenShut
import Derived.Test.YtfabhfllobjbkabCalls
import Derived.Test.YtfabhfllobjbkabFloatInts
namespace Go.Proofs.Ytfabhfllobjbkab
open Go.ChangeShapes Go.WideShapes Go.ChangeAt Go.RowKit
set_option linter.unusedVariables false      -- a bitsSums_walk need not use every 'w<i>' (that an integer argument fits its kind)

theorem bitsSums_own : ownKnob Try.prog.godebug = none := by kernel_rfl

/-- What Compare and Same tell of two words whose numbers are m and n times one unit. -/
theorem sums_facts {x y : Nat} (hx : x < whole) (hy : y < whole) (m n : Int) (c : Nat) (hc : 0 < c) (h1 : num x = m * (c : Int)) (h2 : num y = n * (c : Int)) :
    (m < n → (cmpN x y == -1) = true ∧ ((x : Int) == (y : Int)) = false ∧ (m == n) = false) ∧ (n < m → (cmpN x y == 1) = true ∧ ((x : Int) == (y : Int)) = false ∧ (m == n) = false) := by
  have ne : ∀ {p q : Nat}, num p ≠ num q → ((p : Int) == (q : Int)) = false := by
    intro p q h
    rw [beq_eq_false_iff_ne]
    intro e
    exact h (by rw [show p = q from by omega])
  constructor
  · intro h
    have hl : num x < num y := by rw [h1, h2]; exact Int.mul_lt_mul_of_pos_right h (by omega)
    exact ⟨beq_iff_eq.2 (if_pos (num_lt_ord x y hx hy hl)), ne (by omega), beq_eq_false_iff_ne.2 (by omega)⟩
  · intro h
    have hl : num y < num x := by rw [h1, h2]; exact Int.mul_lt_mul_of_pos_right h (by omega)
    have ho := num_lt_ord y x hy hx hl
    refine ⟨beq_iff_eq.2 ?_, ne (by omega), beq_eq_false_iff_ne.2 (by omega)⟩
    unfold cmpN; rw [if_neg (by omega), if_pos ho]

theorem run_half {x v : Nat} (h : Ieee.double.div x 4611686018427387904 = some v) (t : TypeId) (w : World) :
    (binOp .quo t (.float .f64 x) (.float .f64 4611686018427387904)).run Try.prog w = .ok (.float .f64 v) w :=
  run_float_arith w .quo t .f64 x 4611686018427387904 v h
set_option maxHeartbeats 4000000 in
theorem bitsSums_walk (a0 : Int) (a1 : Int) (a2 : Bool) (w0 : (Lit.int .i32 a0).wf = true) (w1 : (Lit.int .i32 a1).wf = true) (w : World) :
    Calls Try.prog 3 #[.int .i32 a0, .int .i32 a1, .bool a2] w fun e w' => e = .returned (.bool true) ∧ Grown w w' := by
  have b0 := bounds_i32 w0
  have b1 := bounds_i32 w1
  clear w0 w1
  obtain ⟨f1, f2, va, f3, f4, f5⟩ := int_float a0 (by omega)
  obtain ⟨g1, g2, vb, g3, g4, g5⟩ := int_float a1 (by omega)
  have ra := run_half f3
  have rb := run_half g3
  have F := sums_facts f1 g1 a0 a1 (unit 1022) (unit_pos _) f2 g2
  have G := sums_facts f4 g4 a0 a1 (unit 1021) (unit_pos _) f5 g5
  clear f2 f3 f5 g2 g3 g5
  rcases Int.lt_trichotomy a0 a1 with h | h | h
  · obtain ⟨x1, x2, x3⟩ := F.1 h
    obtain ⟨y1, y2, y3⟩ := G.1 h
    clear F G
    cases a2
    all_goals go_enter Try.func3, Try.ntmps3
    all_goals go_wp2_with (first
      | (go_at_call 4; refine (known_calls _).mono ?_; rintro _ _ ⟨rfl, rfl⟩)
      | (go_at_call 5; refine (compare_calls _ _ (by with_reducible assumption) (by with_reducible assumption) _).mono ?_; rintro _ _ ⟨rfl, rfl⟩)
      | (go_at_call 6; refine (same_calls _ _ _).mono ?_; rintro _ _ ⟨rfl, rfl⟩))
    all_goals go_ret
    all_goals exact ⟨rfl, Grown.refl _⟩
  · subst h
    clear F G g1 g4 rb vb
    have z1 : (cmpN (floatOfInt .f64 a0) (floatOfInt .f64 a0) == 0) = true := beq_iff_eq.2 ((cmpN_zero f1 f1).2 rfl)
    have z2 : (cmpN va va == 0) = true := beq_iff_eq.2 ((cmpN_zero f4 f4).2 rfl)
    have z3 : ((floatOfInt .f64 a0 : Int) == (floatOfInt .f64 a0 : Int)) = true := beq_self_eq_true _
    have z4 : ((va : Int) == (va : Int)) = true := beq_self_eq_true _
    have z5 : (a0 == a0) = true := beq_self_eq_true _
    cases a2
    all_goals go_enter Try.func3, Try.ntmps3
    all_goals go_wp2_with (first
      | (go_at_call 4; refine (known_calls _).mono ?_; rintro _ _ ⟨rfl, rfl⟩)
      | (go_at_call 5; refine (compare_calls _ _ (by with_reducible assumption) (by with_reducible assumption) _).mono ?_; rintro _ _ ⟨rfl, rfl⟩)
      | (go_at_call 6; refine (same_calls _ _ _).mono ?_; rintro _ _ ⟨rfl, rfl⟩))
    all_goals go_ret
    all_goals exact ⟨rfl, Grown.refl _⟩
  · obtain ⟨x1, x2, x3⟩ := F.2 h
    obtain ⟨y1, y2, y3⟩ := G.2 h
    clear F G
    cases a2
    all_goals go_enter Try.func3, Try.ntmps3
    all_goals go_wp2_with (first
      | (go_at_call 4; refine (known_calls _).mono ?_; rintro _ _ ⟨rfl, rfl⟩)
      | (go_at_call 5; refine (compare_calls _ _ (by with_reducible assumption) (by with_reducible assumption) _).mono ?_; rintro _ _ ⟨rfl, rfl⟩)
      | (go_at_call 6; refine (same_calls _ _ _).mono ?_; rintro _ _ ⟨rfl, rfl⟩))
    all_goals go_ret
    all_goals exact ⟨rfl, Grown.refl _⟩

set_option maxRecDepth 100000 in
theorem bitsSums_lifted (os : Os) (started : os.Started) (H : Type) (enc : TypeId × Value → H) :
    ReturnsInHanded {} Try.checked os 3 .any (Rows.bitsSumsSpec.pre6 enc Try.prog Try.f3 Rows.bitsSumsRow.domain false) (Rows.bitsSumsSpec.post enc Try.prog Try.f3 false true false false) := by
  refine returnsInHanded_of_change (C := Try.checked) bitsSums_own started (by kernel_rfl) Try.func3
    (ChangeSpec.witness6 (enc := enc) (C := Try.checked) false ⟨#[], #[.int .i32 0, .int .i32 0, .bool false], []⟩ 8 (by kernel_rfl) (by kernel_rfl) (by kernel_rfl) (by kernel_rfl)) ?_
  intro W base args ds gs before hval0 hW hcnd _
  have hval : ∀ (j : Nat) t v, Try.f3.params[j]? = some t → args[j]? = some v → Value.okWide Try.prog W .any base t v := hval0
  have hW' := hW
  obtain ⟨p, q, hA0, hV, rfl, hfz, hnd⟩ := hW
  have hA : DataW.TrodAll enc Try.prog W 0 (fun _ => true) true Try.f3.params.toList args.toList ds p := hA0
  rw [Try.params3] at hA hval
  obtain ⟨v0, vs0, d0, ds0, p0, q0, hargs, rfl, rfl, h0, r0⟩ := trodAll_cons hA
  obtain ⟨v1, vs1, d1, ds1, p1, q1, rfl, rfl, rfl, h1, r1⟩ := trodAll_cons r0
  obtain ⟨v2, vs2, d2, ds2, p2, q2, rfl, rfl, rfl, h2, r2⟩ := trodAll_cons r1
  obtain ⟨rfl, rfl, rfl⟩ := trodAll_nil r2
  obtain rfl : args = #[v0, v1, v2] := by cases args; simp_all
  obtain ⟨rfl, rfl⟩ := trodVars_none hV
  obtain ⟨a0, rfl, rfl, rfl, w0⟩ := open_int Try.underlying21 (hval 0 21 v0 rfl rfl) h0
  obtain ⟨a1, rfl, rfl, rfl, w1⟩ := open_int Try.underlying21 (hval 1 21 v1 rfl rfl) h1
  obtain ⟨a2, rfl, rfl, rfl⟩ := open_bool Try.underlying4 (hval 2 4 v2 rfl rfl) h2
  clear hA0 hval0
  simp only [List.append_nil] at hW'
  refine (bitsSums_walk a0 a1 a2 w0 w1 W).mono fun e W' ⟨he, hg⟩ => ?_
  subst he
  exact ⟨_, rfl, post_of_same (pa := []) (pv := []) hW' (fun _ _ _ => (trodAll_cons_mk (shut_bool Try.underlying4 _) trodAll_mk0)) (fun sp _ => (trodAll_cons_mk (shut_int Try.underlying21 w0) (trodAll_cons_mk (shut_int Try.underlying21 w1) (trodAll_cons_mk (shut_bool Try.underlying4 _) trodAll_mk0)))) (fun _ _ => rfl) rfl
    (hg.frame _) hg.2.1 (ok_one (by kernel_rfl) rfl (okWide_bool_mk Try.underlying4 _))⟩

theorem bitsSums_over : Rows.bitsSumsRow.holds Try.pinned (OpenSpec.ofChange Rows.bitsSumsSpec) :=
  OpenClaim.holds_of_wide 3 Try.f3 rfl rfl rfl rfl rfl rfl rfl ⟨rfl, rfl, rfl, rfl, rfl⟩ rfl rfl rfl rfl rfl (by kernel_rfl) Try.func3 (by kernel_rfl)
    (of_decide_eq_true (by kernel_rfl)) (by unfold Func.isWrapper; first | (rw [if_pos (by decide +kernel)]; kernel_rfl) | (rw [if_neg (by decide +kernel)]; exact ⟨rfl, rfl⟩))
    (fun os started H enc _ => bitsSums_lifted os started H enc)

theorem bitsSums_proved : Rows.BitsSumsSaid :=
  bitsSums_over
#print axioms bitsSums_proved
end Go.Proofs.Ytfabhfllobjbkab

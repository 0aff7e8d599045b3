/-
  For every two values, and whatever is none, the law ValueKinds returns true: what is of unlike kinds stands by its kind; no condition.
-/
import Derived.Test.YtoaafkcpakigiaaRows
import Derived.WalkKit
import Derived.ProofKit
import Derived.OpenShut
import Derived.ShutString
import Derived.ChangeOld
import Derived.Below
import Derived.Carry
import Derived.Test.YtoaafkcpakigiaaValHelp
import Derived.Test.YtoaafkcpakigiaaOpens
import Derived.Test.YtoaafkcpakigiaaNewVals
namespace Go.Proofs.Ytoaafkcpakigiaa
open Go.ChangeShapes Go.WideShapes Go.ChangeAt Go.RowKit
open Go.ChangeMaps (open_string shut_string)
set_option linter.unusedVariables false
attribute [local go_sem ↓] Go.wp_at_zero Go.wp_at_succ
attribute [local go_sem] run_store_float


theorem valueKinds_own : ownKnob Try.prog.godebug = none := by kernel_rfl
theorem valueKinds_laidOut : laidOutB Try.prog = true := by kernel_rfl

set_option maxHeartbeats 4000000 in
theorem valueKinds_walk (k0 n0 : Int) (s0 : ByteArray) (f0 : Nat) (k1 n1 : Int) (s1 : ByteArray) (f1 : Nat) (w : World) (w0 : Fits (k0, n0, s0, f0)) (w1 : Fits (k1, n1, s1, f1)) :
    Calls Try.prog 6 #[.agg #[.int .i64 k0, .int .i64 n0, .string s0, .float .f64 f0], .agg #[.int .i64 k1, .int .i64 n1, .string s1, .float .f64 f1]] w fun e w' => e = .returned (.bool true) ∧ Up w w' := by
  have hf0 := w0.2.2.2.2.2
  have hf1 := w1.2.2.2.2.2
  have W0 := hide w0
  have W1 := hide w1
  clear w0 w1
  simp only at hf0 hf1
  go_enter Try.func6, Try.ntmps6
  go_wp2_with fail
  go_at_call 9
  refine (known_calls _).mono ?_
  rintro _ w1 ⟨rfl, hu1⟩
  have l0 : w1.cell? ⟨w.heap.size, 0, none⟩ = some (.int .i64 k0) := hu1.cell (by go_simp)
  have l1 : w1.cell? ⟨w.heap.size, 1, none⟩ = some (.int .i64 n0) := hu1.cell (by go_simp)
  have l2 : w1.cell? ⟨w.heap.size, 2, none⟩ = some (.string s0) := hu1.cell (by go_simp)
  have l3 : w1.cell? ⟨w.heap.size, 3, none⟩ = some (.float .f64 f0) := hu1.cell (by go_simp)
  have r0 : w1.cell? ⟨w.heap.size + 1, 0, none⟩ = some (.int .i64 k1) := hu1.cell (by go_simp)
  have r1 : w1.cell? ⟨w.heap.size + 1, 1, none⟩ = some (.int .i64 n1) := hu1.cell (by go_simp)
  have r2 : w1.cell? ⟨w.heap.size + 1, 2, none⟩ = some (.string s1) := hu1.cell (by go_simp)
  have r3 : w1.cell? ⟨w.heap.size + 1, 3, none⟩ = some (.float .f64 f1) := hu1.cell (by go_simp)
  have hu : Hid (Up w w1) := ((Up.refl _).alloc _).alloc _ |>.trans hu1
  have hlt : w.heap.size + 1 < w1.heap.size := by have := hu1.size; simp at this; omega
  have hlt' : w.heap.size < w1.heap.size := by omega
  clear hu1
  go_wp2_with fail
  go_at_call 10
  refine (few_calls _ _ _ _ _ _ (by decide) (vals_new2 _ _ _ _ _ _ _ _ _ _ W0.out W1.out)).mono ?_
  rintro _ w2 ⟨rfl, hw2⟩
  have hv : Up w1 w2 := hw2 ▸ (Up.refl _).alloc _
  replace hu : Hid (Up w w2) := hu.out.trans hv
  replace l0 := hv.cell l0
  replace l1 := hv.cell l1
  replace l2 := hv.cell l2
  replace l3 := hv.cell l3
  replace r0 := hv.cell r0
  replace r1 := hv.cell r1
  replace r2 := hv.cell r2
  replace r3 := hv.cell r3
  clear hw2 hv hlt hlt'
  cases hfew : fewB [(k0, n0, s0, f0), (k1, n1, s1, f1)] 2
  · go_wp2
    go_ret
    exact ⟨rfl, hu.out⟩
  · by_cases hk : k0 = k1
    · have ht : (k0 == k1) = true := by simpa using hk
      clear hk
      go_wp2
      go_ret
      exact ⟨rfl, hu.out⟩
    · have ht : (k0 == k1) = false := by simpa using hk
      by_cases hlt : k0 < k1
      · have hc : cmpV (k0, n0, s0, f0) (k1, n1, s1, f1) = -1 := cmpV_neg.2 (.inl hlt)
        clear hk
        go_wp2_with fail
        go_region_held3 (fun w' => w'.cell? ⟨w.heap.size, 0, none⟩ = some (.int .i64 k0) ∧ w'.cell? ⟨w.heap.size, 1, none⟩ = some (.int .i64 n0) ∧ w'.cell? ⟨w.heap.size, 2, none⟩ = some (.string s0) ∧ w'.cell? ⟨w.heap.size, 3, none⟩ = some (.float .f64 f0)
            ∧ w'.cell? ⟨w.heap.size + 1, 0, none⟩ = some (.int .i64 k1) ∧ w'.cell? ⟨w.heap.size + 1, 1, none⟩ = some (.int .i64 n1) ∧ w'.cell? ⟨w.heap.size + 1, 2, none⟩ = some (.string s1) ∧ w'.cell? ⟨w.heap.size + 1, 3, none⟩ = some (.float .f64 f1))
          (first | go_keep | (go_split_ands; refine ⟨hu3.cell ?_, hu3.cell ?_, hu3.cell ?_, hu3.cell ?_, hu3.cell ?_, hu3.cell ?_, hu3.cell ?_, hu3.cell ?_⟩ <;> assumption))
          (first
            | (go_at_call 15; refine (vcompare_calls _ _ _ _ _ _ _ _ (by with_reducible assumption) (by with_reducible assumption) _).mono ?_; rintro _ w3 ⟨rfl, hu3⟩; replace hu := hu.out.drew.trans hu3)
            | (go_at_call 17; refine (vsame_calls _ _ _ _ _ _ _ _ (by with_reducible assumption) (by with_reducible assumption) _).mono ?_; rintro _ w4 ⟨rfl, hu3⟩; replace hu := hu.trans hu3))
        all_goals go_wp2
        all_goals go_ret
        all_goals exact ⟨rfl, hu⟩
      · have hlt' : k1 < k0 := by omega
        have hc : cmpV (k0, n0, s0, f0) (k1, n1, s1, f1) = 1 := by
          have : cmpV (k1, n1, s1, f1) (k0, n0, s0, f0) = -1 := cmpV_neg.2 (.inl hlt')
          rw [cmpV_turn, this]; rfl
        have hd : decide (k0 < k1) = false := by simpa using hlt
        clear hk
        go_wp2_with fail
        go_region_held3 (fun w' => w'.cell? ⟨w.heap.size, 0, none⟩ = some (.int .i64 k0) ∧ w'.cell? ⟨w.heap.size, 1, none⟩ = some (.int .i64 n0) ∧ w'.cell? ⟨w.heap.size, 2, none⟩ = some (.string s0) ∧ w'.cell? ⟨w.heap.size, 3, none⟩ = some (.float .f64 f0)
            ∧ w'.cell? ⟨w.heap.size + 1, 0, none⟩ = some (.int .i64 k1) ∧ w'.cell? ⟨w.heap.size + 1, 1, none⟩ = some (.int .i64 n1) ∧ w'.cell? ⟨w.heap.size + 1, 2, none⟩ = some (.string s1) ∧ w'.cell? ⟨w.heap.size + 1, 3, none⟩ = some (.float .f64 f1))
          (first | go_keep | (go_split_ands; refine ⟨hu3.cell ?_, hu3.cell ?_, hu3.cell ?_, hu3.cell ?_, hu3.cell ?_, hu3.cell ?_, hu3.cell ?_, hu3.cell ?_⟩ <;> assumption))
          (first
            | (go_at_call 15; refine (vcompare_calls _ _ _ _ _ _ _ _ (by with_reducible assumption) (by with_reducible assumption) _).mono ?_; rintro _ w3 ⟨rfl, hu3⟩; replace hu := hu.out.drew.trans hu3)
            | (go_at_call 17; refine (vsame_calls _ _ _ _ _ _ _ _ (by with_reducible assumption) (by with_reducible assumption) _).mono ?_; rintro _ w4 ⟨rfl, hu3⟩; replace hu := hu.trans hu3))
        all_goals go_wp2
        all_goals go_ret
        all_goals exact ⟨rfl, hu⟩

set_option maxRecDepth 100000 in
theorem valueKinds_lifted (os : Os) (started : os.Started) (H : Type) (enc : TypeId × Value → H) :
    ReturnsInHanded {} Try.checked os 6 .any (Rows.valueKindsSpec.pre6 enc Try.prog Try.f6 Rows.valueKindsRow.domain false) (Rows.valueKindsSpec.post enc Try.prog Try.f6 false true false false) := by
  refine returnsInHanded_of_change (C := Try.checked) valueKinds_own started (by kernel_rfl) Try.func6
    (ChangeSpec.witness6 (enc := enc) (C := Try.checked) false ⟨#[], #[.agg #[.int .i64 0, .int .i64 0, .string ⟨#[]⟩, .float .f64 0], .agg #[.int .i64 0, .int .i64 0, .string ⟨#[]⟩, .float .f64 0]], []⟩ 8 (by kernel_rfl) (by kernel_rfl) (by kernel_rfl) (by kernel_rfl)) ?_
  intro W base args ds gs before hval0 hW hcnd _
  have hval : ∀ (j : Nat) t v, Try.f6.params[j]? = some t → args[j]? = some v → Value.okWide Try.prog W .any base t v := hval0
  have hW' := hW
  obtain ⟨p, q, hA0, hV, rfl, hfz, hnd⟩ := hW
  have hA : DataW.TrodAll enc Try.prog W 0 (fun _ => true) true Try.f6.params.toList args.toList ds p := hA0
  rw [Try.params6] at hA hval
  obtain ⟨v0, vs0, d0, ds0, p0, q0, hargs, rfl, rfl, h0, r0⟩ := trodAll_cons hA
  obtain ⟨v1, vs1, d1, ds1, p1, q1, rfl, rfl, rfl, h1, r1⟩ := trodAll_cons r0
  obtain ⟨rfl, rfl, rfl⟩ := trodAll_nil r1
  obtain rfl : args = #[v0, v1] := by cases args; simp_all
  obtain ⟨rfl, rfl⟩ := trodVars_none hV
  have y0 := h0
  have lt0 : ∀ x ∈ p0, x.block < W.heap.size := by obtain ⟨m, hm⟩ := y0; exact DataW.trod_lt m _ _ _ hm
  have y1 := h1
  have lt1 : ∀ x ∈ p1, x.block < W.heap.size := by obtain ⟨m, hm⟩ := y1; exact DataW.trod_lt m _ _ _ hm
  obtain ⟨k0, n0, s0, f0, rfl, w0⟩ := open_value (hval 0 24 v0 rfl rfl) h0
  obtain ⟨k1, n1, s1, f1, rfl, w1⟩ := open_value (hval 1 24 v1 rfl rfl) h1
  clear hA0 hval0
  refine (valueKinds_walk k0 n0 s0 f0 k1 n1 s1 f1 W w0 w1).mono fun e W' ⟨he, bel⟩ => ?_
  subst he
  exact ⟨_, rfl, _, _, _, [], _, [], hW', trodAll_mk1 (shut_bool Try.underlying4 _), (trodAll_cons_mk (Below.trod valueKinds_laidOut (by kernel_rfl) (of_decide_eq_true (by kernel_rfl)) y0 bel.below lt0) (trodAll_cons_mk (Below.trod valueKinds_laidOut (by kernel_rfl) (of_decide_eq_true (by kernel_rfl)) y1 bel.below lt1) trodAll_mk0)), rfl, bel.below.frame _, fun h => by cases h⟩

theorem valueKinds_over : Rows.valueKindsRow.holds Try.pinned (OpenSpec.ofChange Rows.valueKindsSpec) :=
  OpenClaim.holds_of_wide 6 Try.f6 rfl rfl rfl rfl rfl rfl rfl ⟨rfl, rfl, rfl, rfl, rfl⟩ rfl rfl rfl rfl rfl (by kernel_rfl) Try.func6 (by kernel_rfl)
    (of_decide_eq_true (by kernel_rfl)) (by unfold Func.isWrapper; first | (rw [if_pos (by decide +kernel)]; kernel_rfl) | (rw [if_neg (by decide +kernel)]; exact ⟨rfl, rfl⟩))
    (fun os started H enc _ => valueKinds_lifted os started H enc)

theorem valueKinds_proved : Rows.ValueKindsSaid := valueKinds_over
#print axioms valueKinds_proved
end Go.Proofs.Ytoaafkcpakigiaa

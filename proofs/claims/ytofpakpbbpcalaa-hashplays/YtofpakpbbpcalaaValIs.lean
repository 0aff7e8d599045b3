/-
  What value.Is and value.Zero answer, of whatever they are handed, as their text runs.
-/
import Derived.Test.YtofpakpbbpcalaaVals
namespace Go.Proofs.Ytofpakpbbpcalaa
open Go.ChangeShapes Go.WideShapes Go.ChangeAt Go.RowKit
attribute [local go_sem ↓] Go.wp_at_zero Go.wp_at_succ
attribute [local go_sem] run_store_float

/-- Whether it is a value: of a kind, with nothing in the fields that its kind leaves out. -/
def isB (v : VT) : Bool :=
  if v.1 = 1 then v.2.2.1.toList.isEmpty && ((v.2.2.2 : Int) == 0)
  else if v.1 = 2 then (v.2.1 == 0 || v.2.1 == 1) && v.2.2.1.toList.isEmpty && ((v.2.2.2 : Int) == 0)
  else if v.1 = 3 ∨ v.1 = 4 then v.2.1 == 0 && decide ((v.2.2.1.size : Int) ≤ 60) && ((v.2.2.2 : Int) == 0)
  else if v.1 = 5 then v.2.1 == 0 && v.2.2.1.toList.isEmpty
  else false

set_option maxHeartbeats 4000000 in
theorem vis_calls (k n : Int) (s : ByteArray) (f : Nat) (w : World) :
    Calls Try.prog 47 #[.agg #[.int .i64 k, .int .i64 n, .string s, .float .f64 f]] w
      fun e w' => e = .returned (.bool (isB (k, n, s, f))) ∧ Up w w' := by
  obtain ⟨r, hr⟩ : ∃ r, r = isB (k, n, s, f) := ⟨_, rfl⟩
  rw [← hr]
  have HR := hide hr
  clear hr
  go_enter Try.func47, Try.ntmps47
  go_wp2_with fail
  go_region_held3 (fun w' => w'.cell? ⟨w.heap.size, 0, none⟩ = some (.int .i64 k) ∧ w'.cell? ⟨w.heap.size, 1, none⟩ = some (.int .i64 n) ∧ w'.cell? ⟨w.heap.size, 2, none⟩ = some (.string s) ∧ w'.cell? ⟨w.heap.size, 3, none⟩ = some (.float .f64 f)) (go_keep)
    (fail)
  all_goals go_wp2_with (go_at_call 58; refine (same_calls _ _ _).mono ?_; rintro _ _ ⟨rfl, rfl⟩)
  all_goals go_ret
  all_goals refine ⟨?_, ((Up.refl _).alloc _).drew⟩
  all_goals rw [HR.out]
  all_goals simp_all [isB]
  all_goals (intro _; omega)

/-- Whether there is such a kind. -/
def kindB (k : Int) : Bool := decide (1 ≤ k) && decide (k ≤ 5)

theorem isB_zero (k : Int) : isB (k, 0, ⟨#[]⟩, 0) = kindB k := by
  by_cases h1 : k = 1
  · subst h1; decide +kernel
  by_cases h2 : k = 2
  · subst h2; decide +kernel
  by_cases h3 : k = 3
  · subst h3; decide +kernel
  by_cases h4 : k = 4
  · subst h4; decide +kernel
  by_cases h5 : k = 5
  · subst h5; decide +kernel
  have : kindB k = false := by
    unfold kindB
    rw [Bool.and_eq_false_iff, decide_eq_false_iff_not, decide_eq_false_iff_not]
    omega
  rw [this]
  simp [isB, h1, h2, h3, h4, h5]

end Go.Proofs.Ytofpakpbbpcalaa

/-
  What value.Is and value.Zero answer, of whatever they are handed, as their text runs.
-/
import Derived.Test.YtoaafkcpakigiaaVals
namespace Go.Proofs.Ytoaafkcpakigiaa
open Go.ChangeShapes Go.WideShapes Go.ChangeAt Go.RowKit
attribute [local go_sem ↓] Go.wp_at_zero Go.wp_at_succ
attribute [local go_sem] run_store_float

/-- Whether it is a value: of a kind, with nothing in the fields that its kind leaves out. -/
def isB (v : VT) : Bool :=
  if v.1 = 1 then v.2.2.1.toList.isEmpty && ((v.2.2.2 : Int) == 0)
  else if v.1 = 2 then (v.2.1 == 0 || v.2.1 == 1) && v.2.2.1.toList.isEmpty && ((v.2.2.2 : Int) == 0)
  else if v.1 = 3 ∨ v.1 = 4 then v.2.1 == 0 && decide ((v.2.2.1.size : Int) ≤ 60) && ((v.2.2.2 : Int) == 0)
  else if v.1 = 5 then v.2.1 == 0 && v.2.2.1.toList.isEmpty
  else false

set_option maxHeartbeats 4000000 in
theorem vis_calls (k n : Int) (s : ByteArray) (f : Nat) (w : World) :
    Calls Try.prog 13 #[.agg #[.int .i64 k, .int .i64 n, .string s, .float .f64 f]] w
      fun e w' => e = .returned (.bool (isB (k, n, s, f))) ∧ Up w w' := by
  obtain ⟨r, hr⟩ : ∃ r, r = isB (k, n, s, f) := ⟨_, rfl⟩
  rw [← hr]
  have HR := hide hr
  clear hr
  go_enter Try.func13, Try.ntmps13
  go_wp2_with fail
  go_region_held3 (fun w' => w'.cell? ⟨w.heap.size, 0, none⟩ = some (.int .i64 k) ∧ w'.cell? ⟨w.heap.size, 1, none⟩ = some (.int .i64 n) ∧ w'.cell? ⟨w.heap.size, 2, none⟩ = some (.string s) ∧ w'.cell? ⟨w.heap.size, 3, none⟩ = some (.float .f64 f)) (go_keep)
    (fail)
  all_goals go_wp2_with (go_at_call 26; refine (same_calls _ _ _).mono ?_; rintro _ _ ⟨rfl, rfl⟩)
  all_goals go_ret
  all_goals refine ⟨?_, ((Up.refl _).alloc _).drew⟩
  all_goals rw [HR.out]
  all_goals simp_all [isB]
  all_goals (intro _; omega)

/-- Whether there is such a kind. -/
def kindB (k : Int) : Bool := decide (1 ≤ k) && decide (k ≤ 5)

theorem isB_zero (k : Int) : isB (k, 0, ⟨#[]⟩, 0) = kindB k := by
  by_cases h1 : k = 1
  · subst h1; decide +kernel
  by_cases h2 : k = 2
  · subst h2; decide +kernel
  by_cases h3 : k = 3
  · subst h3; decide +kernel
  by_cases h4 : k = 4
  · subst h4; decide +kernel
  by_cases h5 : k = 5
  · subst h5; decide +kernel
  have : kindB k = false := by
    unfold kindB
    rw [Bool.and_eq_false_iff, decide_eq_false_iff_not, decide_eq_false_iff_not]
    omega
  rw [this]
  simp [isB, h1, h2, h3, h4, h5]

theorem vzero_good (k : Int) (h : kindB k = true) (w : World) :
    Calls Try.prog 11 #[.int .i64 k] w
      fun e w' => e = .returned (.tuple #[.agg #[.int .i64 k, .int .i64 0, .string ⟨#[]⟩, .float .f64 0], .int .i64 0]) ∧ Up w w' := by
  have hz := isB_zero k
  rw [h] at hz
  clear h
  go_enter Try.func11, Try.ntmps11
  go_wp2_with fail
  go_at_call 13
  refine (vis_calls _ _ _ _ _).mono ?_
  rintro _ w1 ⟨rfl, hu1⟩
  have c0 : w1.cell? ⟨w.heap.size + 1, 0, none⟩ = some (.int .i64 k) := hu1.cell (by go_simp)
  have c1 : w1.cell? ⟨w.heap.size + 1, 1, none⟩ = some (.int .i64 0) := hu1.cell (by go_simp)
  have c2 : w1.cell? ⟨w.heap.size + 1, 2, none⟩ = some (.string ⟨#[]⟩) := hu1.cell (by go_simp)
  have c3 : w1.cell? ⟨w.heap.size + 1, 3, none⟩ = some (.float .f64 0) := hu1.cell (by go_simp)
  have d0 : w1.cell? ⟨w.heap.size, 0, none⟩ = some (.int .i64 0) := hu1.cell (by go_simp)
  have d1 : w1.cell? ⟨w.heap.size, 1, none⟩ = some (.int .i64 0) := hu1.cell (by go_simp)
  have d2 : w1.cell? ⟨w.heap.size, 2, none⟩ = some (.string ⟨#[]⟩) := hu1.cell (by go_simp)
  have d3 : w1.cell? ⟨w.heap.size, 3, none⟩ = some (.float .f64 0) := hu1.cell (by go_simp)
  have f0 : w1.frozen? ⟨w.heap.size, 0, none⟩ = false := (hu1.frozen (by simp; omega)).trans (by go_simp)
  have f1 : w1.frozen? ⟨w.heap.size, 1, none⟩ = false := (hu1.frozen (by simp; omega)).trans (by go_simp)
  have f2 : w1.frozen? ⟨w.heap.size, 2, none⟩ = false := (hu1.frozen (by simp; omega)).trans (by go_simp)
  have f3 : w1.frozen? ⟨w.heap.size, 3, none⟩ = false := (hu1.frozen (by simp; omega)).trans (by go_simp)
  have hu : Hid (Up w w1) := (((Up.refl _).alloc _).alloc _).trans hu1
  clear hu1
  go_wp2
  refine bodyPost_ret (v := .tuple #[.agg #[.int .i64 k, .int .i64 0, .string ⟨#[]⟩, .float .f64 0], .int .i64 0]) (by simp [results, Try.results11, go_sem, d0, d1, d2, d3]) rfl ⟨rfl, ?_⟩
  exact (((hu.out.setCell (Nat.le_refl _) _).setCell (Nat.le_refl _) _).setCell (Nat.le_refl _) _).setCell (Nat.le_refl _) _

theorem vzero_bad (k : Int) (h : kindB k = false) (w : World) :
    Calls Try.prog 11 #[.int .i64 k] w
      fun e w' => e = .returned (.tuple #[.agg #[.int .i64 0, .int .i64 0, .string ⟨#[]⟩, .float .f64 0], .int .i64 10]) ∧ Up w w' := by
  have hz := isB_zero k
  rw [h] at hz
  clear h
  go_enter Try.func11, Try.ntmps11
  go_wp2_with fail
  go_at_call 13
  refine (vis_calls _ _ _ _ _).mono ?_
  rintro _ w1 ⟨rfl, hu1⟩
  have c0 : w1.cell? ⟨w.heap.size + 1, 0, none⟩ = some (.int .i64 k) := hu1.cell (by go_simp)
  have c1 : w1.cell? ⟨w.heap.size + 1, 1, none⟩ = some (.int .i64 0) := hu1.cell (by go_simp)
  have c2 : w1.cell? ⟨w.heap.size + 1, 2, none⟩ = some (.string ⟨#[]⟩) := hu1.cell (by go_simp)
  have c3 : w1.cell? ⟨w.heap.size + 1, 3, none⟩ = some (.float .f64 0) := hu1.cell (by go_simp)
  have d0 : w1.cell? ⟨w.heap.size, 0, none⟩ = some (.int .i64 0) := hu1.cell (by go_simp)
  have d1 : w1.cell? ⟨w.heap.size, 1, none⟩ = some (.int .i64 0) := hu1.cell (by go_simp)
  have d2 : w1.cell? ⟨w.heap.size, 2, none⟩ = some (.string ⟨#[]⟩) := hu1.cell (by go_simp)
  have d3 : w1.cell? ⟨w.heap.size, 3, none⟩ = some (.float .f64 0) := hu1.cell (by go_simp)
  have f0 : w1.frozen? ⟨w.heap.size, 0, none⟩ = false := (hu1.frozen (by simp; omega)).trans (by go_simp)
  have f1 : w1.frozen? ⟨w.heap.size, 1, none⟩ = false := (hu1.frozen (by simp; omega)).trans (by go_simp)
  have f2 : w1.frozen? ⟨w.heap.size, 2, none⟩ = false := (hu1.frozen (by simp; omega)).trans (by go_simp)
  have f3 : w1.frozen? ⟨w.heap.size, 3, none⟩ = false := (hu1.frozen (by simp; omega)).trans (by go_simp)
  have hu : Hid (Up w w1) := (((Up.refl _).alloc _).alloc _).trans hu1
  clear hu1
  go_wp2
  refine bodyPost_ret (v := .tuple #[.agg #[.int .i64 0, .int .i64 0, .string ⟨#[]⟩, .float .f64 0], .int .i64 10]) (by simp [results, Try.results11, go_sem, d0, d1, d2, d3]) rfl ⟨rfl, ?_⟩
  exact (((hu.out.setCell (Nat.le_refl _) _).setCell (Nat.le_refl _) _).setCell (Nat.le_refl _) _).setCell (Nat.le_refl _) _

end Go.Proofs.Ytoaafkcpakigiaa

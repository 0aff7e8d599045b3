/-
  What value.Compare and value.Same answer, for every two values and whatever is none, as their text runs; nothing that was there is written.
-/
import Derived.Test.YtofpakpbbpcalaaCmps
import Derived.Test.YtofpakpbbpcalaaUps
namespace Go.Proofs.Ytofpakpbbpcalaa
open Go.ChangeShapes Go.WideShapes Go.ChangeAt Go.RowKit
attribute [local go_sem ↓] Go.wp_at_zero Go.wp_at_succ

/-- A value's four fields. -/
abbrev VT := Int × Int × ByteArray × Nat
/-- How two values stand. -/
def cmpV (a b : VT) : Int := orI (cmpI a.1 b.1) (cmpI a.2.1 b.2.1) (cmpS a.2.2.1 b.2.2.1) (cmpN a.2.2.2 b.2.2.2)

theorem or_new (c0 c1 c2 c3 : Int) (w : World) :
    Calls Try.prog 74 #[.slice (some ⟨w.heap.size, 0, none⟩) 4 4] (w.alloc (.cells #[.int .i64 c0, .int .i64 c1, .int .i64 c2, .int .i64 c3] 3)).drew
      fun e w' => e = .returned (.int .i64 (orI c0 c1 c2 c3)) ∧ w' = (w.alloc (.cells #[.int .i64 c0, .int .i64 c1, .int .i64 c2, .int .i64 c3] 3)).drew := by
  refine or_calls _ _ _ _ _ _ ?_ ?_ ?_ ?_ <;> go_simp

theorem vcompare_calls (k n k' n' : Int) (s s' : ByteArray) (f f' : Nat) (hf : f < whole) (hf' : f' < whole) (w : World) :
    Calls Try.prog 56 #[.agg #[.int .i64 k, .int .i64 n, .string s, .float .f64 f], .agg #[.int .i64 k', .int .i64 n', .string s', .float .f64 f']] w
      fun e w' => e = .returned (.int .i64 (cmpV (k, n, s, f) (k', n', s', f'))) ∧ Up w w' := by
  obtain ⟨W, hW⟩ : ∃ W, (w.alloc (.cells #[.int .i64 k, .int .i64 n, .string s, .float .f64 f] 52)).alloc (.cells #[.int .i64 k', .int .i64 n', .string s', .float .f64 f'] 52) = W := ⟨_, rfl⟩
  have hb : Up w W := by
    rw [← hW]
    exact ((Up.refl _).alloc _).alloc _
  have l0 : W.cell? ⟨w.heap.size, 0, none⟩ = some (.int .i64 k) := by subst hW; go_simp
  have l1 : W.cell? ⟨w.heap.size, 1, none⟩ = some (.int .i64 n) := by subst hW; go_simp
  have l2 : W.cell? ⟨w.heap.size, 2, none⟩ = some (.string s) := by subst hW; go_simp
  have l3 : W.cell? ⟨w.heap.size, 3, none⟩ = some (.float .f64 f) := by subst hW; go_simp
  have r0 : W.cell? ⟨w.heap.size + 1, 0, none⟩ = some (.int .i64 k') := by subst hW; go_simp
  have r1 : W.cell? ⟨w.heap.size + 1, 1, none⟩ = some (.int .i64 n') := by subst hW; go_simp
  have r2 : W.cell? ⟨w.heap.size + 1, 2, none⟩ = some (.string s') := by subst hW; go_simp
  have r3 : W.cell? ⟨w.heap.size + 1, 3, none⟩ = some (.float .f64 f') := by subst hW; go_simp
  have hb' : Hid (Up w W) := hb
  clear hb
  have hne0 := World.new_ne W _ l0
  have hne1 := World.new_ne W _ r0
  go_enter Try.func56, Try.ntmps56
  go_wp2
  clear hW
  go_region_held3 (fun w' => w'.cell? ⟨w.heap.size, 0, none⟩ = some (.int .i64 k) ∧ w'.cell? ⟨w.heap.size, 1, none⟩ = some (.int .i64 n) ∧ w'.cell? ⟨w.heap.size, 2, none⟩ = some (.string s) ∧ w'.cell? ⟨w.heap.size, 3, none⟩ = some (.float .f64 f)
      ∧ w'.cell? ⟨w.heap.size + 1, 0, none⟩ = some (.int .i64 k') ∧ w'.cell? ⟨w.heap.size + 1, 1, none⟩ = some (.int .i64 n') ∧ w'.cell? ⟨w.heap.size + 1, 2, none⟩ = some (.string s') ∧ w'.cell? ⟨w.heap.size + 1, 3, none⟩ = some (.float .f64 f')) (go_keep)
    (first
      | (go_at_call 57; refine (cmpInt_calls _ _ _).mono ?_; rintro _ _ ⟨rfl, rfl⟩)
      | (go_at_call 75; refine (cmpInt64_calls _ _ _).mono ?_; rintro _ _ ⟨rfl, rfl⟩)
      | (go_at_call 76; refine (cmpStr_calls _ _ _).mono ?_; rintro _ _ ⟨rfl, rfl⟩)
      | (go_at_call 77; refine (compare_calls _ _ (by with_reducible assumption) (by with_reducible assumption) _).mono ?_; rintro _ _ ⟨rfl, rfl⟩)
      | (go_at_call 74; refine (or_new _ _ _ _ _).mono ?_; rintro _ _ ⟨rfl, rfl⟩))
  all_goals go_wp2
  all_goals go_ret
  all_goals exact ⟨rfl, (hb'.out.alloc _).drew⟩

end Go.Proofs.Ytofpakpbbpcalaa

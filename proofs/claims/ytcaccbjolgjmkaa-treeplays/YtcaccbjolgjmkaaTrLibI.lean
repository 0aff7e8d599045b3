/-
  slices.Clone, Grow and Concat of rows of whole numbers, as the library's text runs.
-/
import Derived.Test.YtcaccbjolgjmkaaTrRow
import Derived.Test.YtcaccbjolgjmkaaQuietUp
import Derived.Lib.AppendZeros
import Derived.Lib.AppendZerosOnto
import Derived.Laws.Externs
import Derived.Lib.Overlaps
import Derived.Deep.RegionLaw
import Derived.Deep.RegionHeld3
import Derived.Deep.DrawnRows
namespace Go.Proofs.Ytcaccbjolgjmkaa
open Go.ChangeShapes Go.WideShapes Go.ChangeAt Go.RowKit
set_option linter.unusedVariables false
set_option maxRecDepth 100000
attribute [local go_sem ↓] Go.wp_at_zero Go.wp_at_succ

theorem elemI : ElemT (α := Int) Try.prog 26 3 (Value.int .i64) (.int .i64 0) 8 where
  ht := Try.underlying26
  hi := by kernel_rfl
  hb := by decide
  one := fun _ => rfl
  zc := rfl
  zo := rfl

theorem eqlNilI (a : Option Addr) (n c : Nat) (w : World) : (binOp .eql 26 (.slice a n c) (.slice none 0 0)).run Try.prog w = .ok (.bool a.isNone) w := Lib.run_eql_slice_nil w 26 3 a n c 0 0 Try.underlying26
theorem cloneI_none (n c : Nat) (w : World) : Calls Try.prog 58 #[.slice none n c] w fun e w' => e = .returned (.slice none 0 0) ∧ Up w w' := by
  go_enter Try.func58, Try.ntmps58
  have hq := eqlNilI none n c
  go_wp2
  go_ret
  exact ⟨rfl, Up.refl _⟩
set_option maxHeartbeats 2000000 in
theorem cloneI_some (A : Addr) (n cap : Nat) (l : List Int) (X : Nat → Prop) (w : World) (hr : Rd (Value.int .i64) X w (.slice (some A) n cap) l) (hn : l.length ≤ 1000000) :
    Calls Try.prog 58 #[.slice (some A) n cap] w fun e w' => ∃ v', e = .returned v' ∧ Own 3 (Value.int .i64) w' w.heap.size v' l ∧ Up w w' := by
  have H := hide hr
  have HN := hide hn
  clear hr hn
  have hq := eqlNilI (some A) n cap
  go_enter Try.func58, Try.ntmps58
  go_wp2_with (at_builtin; refine append_rd elemI rfl (.tmp 5) (.tmp 6) rfl w.heap.size _ _ [] l rfl rfl (Own.emptyRow w) (H.out.up ((Up.refl w).alloc _)) (by simpa using Nat.le_trans HN.out (by decide)) (by simp) ?_)
  intro v' w' ho hg _
  have hu : Hid (Up w w') := (((Up.refl w).alloc _).below.trans (Below.grown (Below.refl _ _) hg (Nat.le_of_lt (by simp)) (fun k hk => by cases hk; exact Nat.le_refl _)))
  replace ho := hide ho
  clear hg
  go_wp2
  go_ret
  exact ⟨_, rfl, by simpa using ho.out, hu.out⟩
/-- Clone tells the same in new memory. -/
theorem cloneI_calls (v : Value) (l : List Int) (X : Nat → Prop) (w : World) (h : Rd (Value.int .i64) X w v l) (hn : l.length ≤ 1000000) :
    Calls Try.prog 58 #[v] w fun e w' => ∃ v', e = .returned v' ∧ Own 3 (Value.int .i64) w' w.heap.size v' l ∧ Up w w' := by
  have h0 := h
  obtain ⟨a, cap, rfl, h1, h2, h3⟩ := h
  cases a with
  | none =>
    have : l = [] := by
      rcases h3 with h3 | ⟨g, off, h3, _⟩
      · exact h3
      · cases h3
    subst this
    refine (cloneI_none _ _ w).mono ?_
    rintro e w' ⟨rfl, hu⟩
    exact ⟨_, rfl, Own.nil _ _ _ _, hu⟩
  | some A => exact cloneI_some A _ cap l X w h0 hn

theorem growI_zero (w : World) : Calls Try.prog 80 #[.slice none 0 0, .int .i64 0] w fun e w' => e = .returned (.slice none 0 0) ∧ Up w w' := by
  go_enter Try.func80, Try.ntmps80
  go_wp2
  go_ret
  exact ⟨rfl, Up.refl _⟩
set_option maxHeartbeats 2000000 in
theorem growI_some (n : Nat) (h0 : 0 < n) (hn : n ≤ 1000000) (w : World) : Calls Try.prog 80 #[.slice none 0 0, .int .i64 n] w fun e w' => ∃ v', e = .returned v' ∧ Own (α := Int) 3 (Value.int .i64) w' w.heap.size v' [] ∧ Up w w' := by
  obtain ⟨i0, hi0, hz0, hzs, hzb⟩ := info_parts elemI.hi
  have hap : ∀ ty, (Builtin.append_ #[26, 3] ty #[.slice none 0 0, .int .i64 (n : Nat)]).run Try.prog w = _ := fun ty =>
    Lib.run_append_nil_zeros w 26 3 ty 3 i0 _ .i64 .i64 Try.underlying26 Try.underlying3 hi0 hz0 n h0 (by omega) (by omega) (by rw [hzb]; omega)
  have hge := grownCap_ge w n 0 3
  have hle := grownCap_le_maxLen w n 0 3 (by unfold maxLen; omega)
  obtain ⟨G, hG⟩ : ∃ G, G = grownCap w n 0 3 := ⟨_, rfl⟩
  rw [← hG] at hap hge hle
  obtain ⟨R, hR⟩ : ∃ R : Array Value, R = Builtin.zeroCells (.int .i64 0 : Value).cells n ++ Builtin.zeroCells (.int .i64 0 : Value).cells (G - n) := ⟨_, rfl⟩
  rw [← hR] at hap
  have hRs : R.size = G := by rw [hR]; simp [Builtin.zeroCells, Value.cells]; omega
  have HO : Hid (Own (α := Int) 3 (Value.int .i64) (w.drew.alloc (.cells R 3)) w.heap.size (.slice (some ⟨w.heap.size, 0, none⟩) 0 G) []) := Own.mk (Nat.le_refl _) (heap_alloc_new w.drew _) rfl (Nat.zero_le _) hle hRs (by simp)
  have HU : Hid (Up w (w.drew.alloc (.cells R 3))) := (Up.refl w).drew.alloc _
  generalize w.drew.alloc (.cells R 3) = W1 at hap HO HU
  have e1 : IntKind.i64.wrap (n : Int) = n := by rw [IntKind.wrap_i64]; omega
  have t1 : decide ((n : Int) > 0) = true := decide_eq_true (by omega)
  have t1' : decide (0 < n) = true := decide_eq_true (by omega)
  have t2 : decide ((n : Int) < 0) = false := decide_eq_false (by omega)
  have p1 : (0 : Int) ≤ (G : Int) := by omega
  replace hge := hide hge
  replace hle := hide hle
  clear hR hRs hG hi0 hz0 hzs hzb
  go_enter Try.func80, Try.ntmps80
  go_wp2_with (at_builtin; refine Lib.wpList_append_run _ rfl _ _ _ _ rfl _ _ rfl rfl _ _ (hap _) ?_)
  go_wp2
  go_ret
  exact ⟨_, rfl, HO.out, HU.out⟩
theorem growI_calls (n : Nat) (hn : n ≤ 1000000) (w : World) : Calls Try.prog 80 #[.slice none 0 0, .int .i64 n] w fun e w' => ∃ v', e = .returned v' ∧ Own (α := Int) 3 (Value.int .i64) w' w.heap.size v' [] ∧ Up w w' := by
  cases n with
  | zero =>
    refine (growI_zero w).mono ?_
    rintro e w' ⟨rfl, hu⟩
    exact ⟨_, rfl, Own.nil _ _ _ _, hu⟩
  | succ n => exact growI_some (n + 1) (Nat.succ_pos _) hn w
end Go.Proofs.Ytcaccbjolgjmkaa

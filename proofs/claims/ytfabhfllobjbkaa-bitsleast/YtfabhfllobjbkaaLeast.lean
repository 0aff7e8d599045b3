/-
  What Least answers of a row of floats that lie in memory, for every row of one to two hundred: the one whose place is the least, as the program's own text runs.
-/
import Derived.Test.YtfabhfllobjbkaaCalls
namespace Go.Proofs.Ytfabhfllobjbkaa
open Go.ChangeShapes Go.WideShapes Go.ChangeAt Go.RowKit

/-- The float whose place is the least among the first k + 1. -/
def leastAt (bs : List Nat) : Nat → Nat
  | 0 => bs.getD 0 0
  | k + 1 => if cmpN (bs.getD (k + 1) 0) (leastAt bs k) < 0 then bs.getD (k + 1) 0 else leastAt bs k

theorem leastAt_lt (bs : List Nat) (hw : ∀ j, bs.getD j 0 < whole) (k : Nat) : leastAt bs k < whole := by
  induction k with
  | zero => exact hw 0
  | succ k ih => unfold leastAt; split <;> first | exact hw _ | exact ih

theorem leastAt_mem (bs : List Nat) (k : Nat) : ∃ j, j ≤ k ∧ leastAt bs k = bs.getD j 0 := by
  induction k with
  | zero => exact ⟨0, Nat.le_refl _, rfl⟩
  | succ k ih =>
    unfold leastAt
    split
    · exact ⟨k + 1, Nat.le_refl _, rfl⟩
    · obtain ⟨j, hj, he⟩ := ih
      exact ⟨j, by omega, he⟩

theorem ord_of_cmp {a b : Nat} (h : cmpN a b < 0) : ordN a < ordN b := by
  unfold cmpN at h
  by_cases x : ordN a < ordN b
  · exact x
  · by_cases y : ordN b < ordN a
    · rw [if_neg x, if_pos y] at h; omega
    · rw [if_neg x, if_neg y] at h; omega
theorem ord_of_not_cmp {a b : Nat} (h : ¬ cmpN a b < 0) : ordN b ≤ ordN a := by
  unfold cmpN at h
  by_cases x : ordN a < ordN b
  · rw [if_pos x] at h; omega
  · omega
theorem not_cmp_of_ord {a b : Nat} (h : ordN b ≤ ordN a) : ¬ cmpN a b < 0 := by
  intro x; have := ord_of_cmp x; omega

theorem leastAt_le (bs : List Nat) (k j : Nat) (hj : j ≤ k) : ordN (leastAt bs k) ≤ ordN (bs.getD j 0) := by
  induction k with
  | zero =>
    have : j = 0 := by omega
    subst this; exact Nat.le_refl _
  | succ k ih =>
    unfold leastAt
    by_cases c : cmpN (bs.getD (k + 1) 0) (leastAt bs k) < 0
    · rw [if_pos c]
      by_cases e : j = k + 1
      · subst e; exact Nat.le_refl _
      · have := ih (by omega); have := ord_of_cmp c; omega
    · rw [if_neg c]
      by_cases e : j = k + 1
      · subst e; exact ord_of_not_cmp c
      · exact ih (by omega)

theorem hide {p : Prop} (h : p) : Hid p := h

/-- Of a row of one, laid in an array of one. -/
theorem least_one (g : Nat) (bs : List Nat) (w : World) (hc0 : w.cell? ⟨g, 0, none⟩ = some (.float .f64 (bs.getD 0 0))) :
    Calls Try.prog 23 #[.slice (some ⟨g, 0, none⟩) 1 1] w fun e w' =>
      e = .returned (.tuple #[.float .f64 (leastAt bs 0), .bool true]) ∧ w' = w := by
  unfold leastAt
  obtain ⟨b, hb⟩ : ∃ b, b = bs.getD 0 0 := ⟨_, rfl⟩
  rw [← hb] at hc0 ⊢
  clear hb
  go_enter Try.func23, Try.ntmps23
  go_wp2
  refine wp_loop_rounds 1 ?_
  rw [rounds_succ]
  go_wp2
  go_ret2
  exact ⟨rfl, rfl⟩

set_option maxHeartbeats 1600000 in
theorem least_many (g m cap : Nat) (bs : List Nat) (hm : m + 1 ≤ 200) (hcap : m + 1 ≤ cap) (hc1 : ¬ cap = 1) (w : World)
    (hw : ∀ j, bs.getD j 0 < whole) (hc : ∀ j, j < m + 1 → w.cell? ⟨g, j, none⟩ = some (.float .f64 (bs.getD j 0))) :
    Calls Try.prog 23 #[.slice (some ⟨g, 0, none⟩) (m + 1) cap] w fun e w' =>
      e = .returned (.tuple #[.float .f64 (leastAt bs m), .bool true]) ∧ w' = w := by
  have hz : ((m : Int) + 1 == 0) = false := beq_eq_false_iff_ne.2 (by omega)
  have hc0 : w.cell? ⟨g, 0, none⟩ = some (.float .f64 (leastAt bs 0)) := hc 0 (by omega)
  have H := hide hc
  have HW := hide hw
  clear hc hw
  go_enter Try.func23, Try.ntmps23
  go_wp2_with fail
  go_loop [4, 16] (fun l i => ∃ k : Nat, k ≤ m ∧ i = .int .i64 k ∧ l = .float .f64 (leastAt bs k)) (fun _ i => m - (intOf i).toNat)
  case atStart => exact ⟨0, Nat.zero_le _, rfl, rfl⟩
  case round =>
    obtain ⟨k, hk, rfl, rfl⟩ := hrel
    have hcx : k < m → w.cell? ⟨g, 1 + k, none⟩ = some (.float .f64 (bs.getD (k + 1) 0)) := fun h => by
      rw [Nat.add_comm]; exact H.out (k + 1) (by omega)
    have hl1 : bs.getD (k + 1) 0 < whole := HW.out (k + 1)
    have hl2 : leastAt bs k < whole := leastAt_lt bs HW.out k
    obtain ⟨x, hx⟩ : ∃ x, x = bs.getD (k + 1) 0 := ⟨_, rfl⟩
    rw [← hx] at hcx hl1
    have hstep : leastAt bs (k + 1) = if cmpN x (leastAt bs k) < 0 then x else leastAt bs k := by rw [hx]; rfl
    have HS := hide hstep
    clear hstep hx
    go_wp2_with (go_at_call 18; refine (compare_calls _ _ (by with_reducible assumption) (by with_reducible assumption) _).mono ?_; rintro _ _ ⟨rfl, rfl⟩)
    · have hlt : k < m := by assumption
      have hneg : cmpN x (leastAt bs k) < 0 := by assumption
      refine ⟨⟨k + 1, by omega, by go_num, ?_⟩, by simp [intOf]; omega⟩
      rw [HS.out, if_pos hneg]
    · have hlt : k < m := by assumption
      have hneg : 0 ≤ cmpN x (leastAt bs k) := by assumption
      refine ⟨⟨k + 1, by omega, by go_num, ?_⟩, by simp [intOf]; omega⟩
      rw [HS.out, if_neg (by omega)]
    · have hge : ¬ k < m := by assumption
      obtain rfl : k = m := by omega
      go_ret2
      exact ⟨rfl, rfl⟩

theorem least_calls (g m cap : Nat) (bs : List Nat) (hm : m + 1 ≤ 200) (hcap : m + 1 ≤ cap) (w : World)
    (hw : ∀ j, bs.getD j 0 < whole) (hc : ∀ j, j < m + 1 → w.cell? ⟨g, j, none⟩ = some (.float .f64 (bs.getD j 0))) :
    Calls Try.prog 23 #[.slice (some ⟨g, 0, none⟩) (m + 1) cap] w fun e w' =>
      e = .returned (.tuple #[.float .f64 (leastAt bs m), .bool true]) ∧ w' = w := by
  by_cases h : cap = 1
  · subst h
    obtain rfl : m = 0 := by omega
    exact least_one g bs w (hc 0 (by omega))
  · exact least_many g m cap bs hm hcap h w hw hc

/-- Of none. -/
theorem least_none (ao : Option Addr) (cap : Nat) (w : World) :
    Calls Try.prog 23 #[.slice ao 0 cap] w fun e w' => e = .returned (.tuple #[.float .f64 0, .bool false]) ∧ w' = w := by
  go_enter Try.func23, Try.ntmps23
  go_wp2
  go_ret2
  exact ⟨rfl, rfl⟩
end Go.Proofs.Ytfabhfllobjbkaa

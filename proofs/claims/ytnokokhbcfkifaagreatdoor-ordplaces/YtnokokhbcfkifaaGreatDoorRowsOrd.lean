/-
  What value.Rows answers of every two rows of values, as its text runs: how they stand.
  Rows of values stand in an order; what the landed package key's Order does, as its text runs.
-/
import Derived.Test.YtnokokhbcfkifaaGreatDoorValCmpG
import Derived.Test.YtnokokhbcfkifaaGreatDoorNewVals
import Derived.Deep.RegionHeld3
namespace Go.Proofs.YtnokokhbcfkifaaGreatDoor
open Go.ChangeShapes Go.WideShapes Go.ChangeAt Go.RowKit
attribute [local go_sem ↓] Go.wp_at_zero Go.wp_at_succ

theorem vrows_none (a0 a1 : Option Addr) (n0 n1 c0 c1 : Nat) (w : World) (h : n0 = 0 ∨ n1 = 0) :
    Calls Tryz.prog 101 #[.slice a0 n0 c0, .slice a1 n1 c1] w fun e w' => e = .returned (.int .i64 (cmpI n0 n1)) ∧ Up w w' := by
  rcases h with rfl | rfl
  all_goals
    go_enter Tryz.func101, Tryz.ntmps101
    go_wp2_with fail
    all_goals
      refine wp_loop_rounds 1 ?_
      rw [rounds_succ]
      go_wp2_with (go_at_call 109; refine (cmpInt_calls _ _ _).mono ?_; rintro _ w1 ⟨rfl, hw1⟩; obtain rfl : w = w1 := hw1.symm)
      go_ret
      exact ⟨rfl, Up.refl _⟩

theorem vrows_left (b0 o0 n0 c0 b1 o1 n1 c1 : Nat) (l m : List VT) (w : World) (hl : l.length = n0) (hm : m.length = n1) (h0 : n0 ≤ maxLen) (h1 : n1 ≤ maxLen) (hlt : ¬ n1 < n0)
    (g0 : ∀ i, Fits (l.getD i zeroT)) (g1 : ∀ i, Fits (m.getD i zeroT)) (x0 : ∀ i, i < n0 → At w b0 (o0 + i * 4) (l.getD i zeroT)) (x1 : ∀ i, i < n1 → At w b1 (o1 + i * 4) (m.getD i zeroT)) :
    Calls Tryz.prog 101 #[.slice (some ⟨b0, o0, none⟩) n0 c0, .slice (some ⟨b1, o1, none⟩) n1 c1] w fun e w' => e = .returned (.int .i64 (rowsV l m)) ∧ Up w w' := by
  have H0 := hide x0
  have H1 := hide x1
  have F0 := hide g0
  have F1 := hide g1
  have HL := hide hl
  have HM := hide hm
  clear x0 x1 g0 g1 hl hm
  unfold maxLen at h0 h1
  go_enter Tryz.func101, Tryz.ntmps101
  go_wp2_with fail
  go_loopw [12] (fun i wr => ∃ k : Nat, k ≤ n0 ∧ i = .int .i64 k ∧ Up w wr ∧ Hid (∀ j, j < k → cmpV (l.getD j zeroT) (m.getD j zeroT) = 0)) (fun i _ => n0 - (intOf i).toNat)
  case atStart => exact ⟨0, Nat.zero_le _, rfl, Up.refl _, fun j hj => absurd hj (Nat.not_lt_zero j)⟩
  case round =>
    obtain ⟨k, hk, rfl, hu, he⟩ := hrel
    by_cases hlt : k < n0
    · obtain ⟨l0, l1, l2, l3⟩ := (H0.out k (by omega)).up hu
      obtain ⟨r0, r1, r2, r3⟩ := (H1.out k (by omega)).up hu
      have hf := (F0.out k).2.2.2.2.2
      have hf' := (F1.out k).2.2.2.2.2
      have hst := rowsV_differ l m k (by rw [HL.out]; omega) (by rw [HM.out]; omega) he.out
      obtain ⟨⟨q, n, s, f⟩, hx⟩ : ∃ x, x = l.getD k zeroT := ⟨_, rfl⟩
      obtain ⟨⟨q', n', s', f'⟩, hy⟩ : ∃ x, x = m.getD k zeroT := ⟨_, rfl⟩
      rw [← hx] at l0 l1 l2 l3 hf hst
      rw [← hy] at r0 r1 r2 r3 hf' hst
      replace hx := hide hx
      replace hy := hide hy
      replace hst := hide hst
      replace hu := hide hu
      simp only at l0 l1 l2 l3 r0 r1 r2 r3 hf hf'
      have i0 : (0 : Int) ≤ (k : Int) := by omega
      have i1 : (k : Int) < (n0 : Int) := by omega
      have i2 : (k : Int) < (n1 : Int) := by omega
      go_wp2_with fail
      go_region_held3 (fun w' => w'.cell? ⟨b0, o0 + k * 4, none⟩ = some (.int .i64 q) ∧ w'.cell? ⟨b0, o0 + k * 4 + 1, none⟩ = some (.int .i64 n) ∧ w'.cell? ⟨b0, o0 + k * 4 + 2, none⟩ = some (.string s) ∧ w'.cell? ⟨b0, o0 + k * 4 + 3, none⟩ = some (.float .f64 f)
          ∧ w'.cell? ⟨b1, o1 + k * 4, none⟩ = some (.int .i64 q') ∧ w'.cell? ⟨b1, o1 + k * 4 + 1, none⟩ = some (.int .i64 n') ∧ w'.cell? ⟨b1, o1 + k * 4 + 2, none⟩ = some (.string s') ∧ w'.cell? ⟨b1, o1 + k * 4 + 3, none⟩ = some (.float .f64 f')) (first | go_keep | exact ⟨hu1.cell l0, hu1.cell l1, hu1.cell l2, hu1.cell l3, hu1.cell r0, hu1.cell r1, hu1.cell r2, hu1.cell r3⟩)
        (first | (go_at_call 108; refine (vcompare_calls _ _ _ _ _ _ _ _ (by with_reducible assumption) (by with_reducible assumption) _).mono ?_; rintro _ w1 ⟨rfl, hu1⟩))
      by_cases hz : cmpV (q, n, s, f) (q', n', s', f') = 0
      · have ht : (cmpV (q, n, s, f) (q', n', s', f') != 0) = false := by simp [hz]
        replace hz := hide hz
        clear l0 l1 l2 l3 r0 r1 r2 r3
        go_wp2
        go_roundw
        case rel =>
          refine ⟨k + 1, by omega, by go_num, hu.out.drew.trans hu1, fun j hj => ?_⟩
          rcases Nat.lt_succ_iff_lt_or_eq.1 hj with hj | rfl
          · exact he.out j hj
          · rw [← hx.out, ← hy.out]; exact hz.out
        case measure => simp [intOf]; omega
      · have ht : (cmpV (q, n, s, f) (q', n', s', f') != 0) = true := by simpa using hz
        replace hz := hide hz
        clear l0 l1 l2 l3 r0 r1 r2 r3
        go_wp2
        go_ret
        exact ⟨by rw [hst.out hz.out]; rfl, hu.out.drew.trans hu1⟩
    · obtain rfl : k = n0 := by omega
      have hres := rowsV_alike l m (fun j h1 h2 => he.out j (by rw [HL.out] at h1; rw [HM.out] at h2; omega))
      rw [HL.out, HM.out] at hres
      replace hres := hide hres
      replace hu := hide hu
      go_wp2_with (go_at_call 109; refine (cmpInt_calls _ _ _).mono ?_; rintro _ w1 ⟨rfl, hw1⟩; obtain rfl : wr = w1 := hw1.symm)
      go_ret
      exact ⟨by rw [hres.out]; rfl, hu.out⟩

theorem vrows_right (b0 o0 n0 c0 b1 o1 n1 c1 : Nat) (l m : List VT) (w : World) (hl : l.length = n0) (hm : m.length = n1) (h0 : n0 ≤ maxLen) (h1 : n1 ≤ maxLen) (hlt : n1 < n0)
    (g0 : ∀ i, Fits (l.getD i zeroT)) (g1 : ∀ i, Fits (m.getD i zeroT)) (x0 : ∀ i, i < n0 → At w b0 (o0 + i * 4) (l.getD i zeroT)) (x1 : ∀ i, i < n1 → At w b1 (o1 + i * 4) (m.getD i zeroT)) :
    Calls Tryz.prog 101 #[.slice (some ⟨b0, o0, none⟩) n0 c0, .slice (some ⟨b1, o1, none⟩) n1 c1] w fun e w' => e = .returned (.int .i64 (rowsV l m)) ∧ Up w w' := by
  have H0 := hide x0
  have H1 := hide x1
  have F0 := hide g0
  have F1 := hide g1
  have HL := hide hl
  have HM := hide hm
  clear x0 x1 g0 g1 hl hm
  unfold maxLen at h0 h1
  go_enter Tryz.func101, Tryz.ntmps101
  go_wp2_with fail
  go_loopw [12] (fun i wr => ∃ k : Nat, k ≤ n1 ∧ i = .int .i64 k ∧ Up w wr ∧ Hid (∀ j, j < k → cmpV (l.getD j zeroT) (m.getD j zeroT) = 0)) (fun i _ => n1 - (intOf i).toNat)
  case atStart => exact ⟨0, Nat.zero_le _, rfl, Up.refl _, fun j hj => absurd hj (Nat.not_lt_zero j)⟩
  case round =>
    obtain ⟨k, hk, rfl, hu, he⟩ := hrel
    by_cases hlt : k < n1
    · obtain ⟨l0, l1, l2, l3⟩ := (H0.out k (by omega)).up hu
      obtain ⟨r0, r1, r2, r3⟩ := (H1.out k (by omega)).up hu
      have hf := (F0.out k).2.2.2.2.2
      have hf' := (F1.out k).2.2.2.2.2
      have hst := rowsV_differ l m k (by rw [HL.out]; omega) (by rw [HM.out]; omega) he.out
      obtain ⟨⟨q, n, s, f⟩, hx⟩ : ∃ x, x = l.getD k zeroT := ⟨_, rfl⟩
      obtain ⟨⟨q', n', s', f'⟩, hy⟩ : ∃ x, x = m.getD k zeroT := ⟨_, rfl⟩
      rw [← hx] at l0 l1 l2 l3 hf hst
      rw [← hy] at r0 r1 r2 r3 hf' hst
      replace hx := hide hx
      replace hy := hide hy
      replace hst := hide hst
      replace hu := hide hu
      simp only at l0 l1 l2 l3 r0 r1 r2 r3 hf hf'
      have i0 : (0 : Int) ≤ (k : Int) := by omega
      have i1 : (k : Int) < (n0 : Int) := by omega
      have i2 : (k : Int) < (n1 : Int) := by omega
      go_wp2_with fail
      go_region_held3 (fun w' => w'.cell? ⟨b0, o0 + k * 4, none⟩ = some (.int .i64 q) ∧ w'.cell? ⟨b0, o0 + k * 4 + 1, none⟩ = some (.int .i64 n) ∧ w'.cell? ⟨b0, o0 + k * 4 + 2, none⟩ = some (.string s) ∧ w'.cell? ⟨b0, o0 + k * 4 + 3, none⟩ = some (.float .f64 f)
          ∧ w'.cell? ⟨b1, o1 + k * 4, none⟩ = some (.int .i64 q') ∧ w'.cell? ⟨b1, o1 + k * 4 + 1, none⟩ = some (.int .i64 n') ∧ w'.cell? ⟨b1, o1 + k * 4 + 2, none⟩ = some (.string s') ∧ w'.cell? ⟨b1, o1 + k * 4 + 3, none⟩ = some (.float .f64 f')) (first | go_keep | exact ⟨hu1.cell l0, hu1.cell l1, hu1.cell l2, hu1.cell l3, hu1.cell r0, hu1.cell r1, hu1.cell r2, hu1.cell r3⟩)
        (first | (go_at_call 108; refine (vcompare_calls _ _ _ _ _ _ _ _ (by with_reducible assumption) (by with_reducible assumption) _).mono ?_; rintro _ w1 ⟨rfl, hu1⟩))
      by_cases hz : cmpV (q, n, s, f) (q', n', s', f') = 0
      · have ht : (cmpV (q, n, s, f) (q', n', s', f') != 0) = false := by simp [hz]
        replace hz := hide hz
        clear l0 l1 l2 l3 r0 r1 r2 r3
        go_wp2
        go_roundw
        case rel =>
          refine ⟨k + 1, by omega, by go_num, hu.out.drew.trans hu1, fun j hj => ?_⟩
          rcases Nat.lt_succ_iff_lt_or_eq.1 hj with hj | rfl
          · exact he.out j hj
          · rw [← hx.out, ← hy.out]; exact hz.out
        case measure => simp [intOf]; omega
      · have ht : (cmpV (q, n, s, f) (q', n', s', f') != 0) = true := by simpa using hz
        replace hz := hide hz
        clear l0 l1 l2 l3 r0 r1 r2 r3
        go_wp2
        go_ret
        exact ⟨by rw [hst.out hz.out]; rfl, hu.out.drew.trans hu1⟩
    · obtain rfl : k = n1 := by omega
      have hres := rowsV_alike l m (fun j h1 h2 => he.out j (by rw [HL.out] at h1; rw [HM.out] at h2; omega))
      rw [HL.out, HM.out] at hres
      replace hres := hide hres
      replace hu := hide hu
      go_wp2_with (go_at_call 109; refine (cmpInt_calls _ _ _).mono ?_; rintro _ w1 ⟨rfl, hw1⟩; obtain rfl : wr = w1 := hw1.symm)
      go_ret
      exact ⟨by rw [hres.out]; rfl, hu.out⟩

theorem vrows_calls (a0 a1 : Option Addr) (n0 n1 c0 c1 : Nat) (l m : List VT) (w : World) (h0 : n0 ≤ maxLen) (h1 : n1 ≤ maxLen) (v0 : Vals w a0 n0 l) (v1 : Vals w a1 n1 m) :
    Calls Tryz.prog 101 #[.slice a0 n0 c0, .slice a1 n1 c1] w fun e w' => e = .returned (.int .i64 (rowsV l m)) ∧ Up w w' := by
  obtain ⟨hl, g0, v0⟩ := v0
  obtain ⟨hm, g1, v1⟩ := v1
  by_cases hz : n0 = 0 ∨ n1 = 0
  · have he : rowsV l m = cmpI n0 n1 := by
      rw [rowsV_alike l m (fun j h1 h2 => by omega), hl, hm]
    rw [he]
    exact vrows_none _ _ _ _ _ _ _ hz
  · rcases v0 with v0 | ⟨b0, o0, rfl, x0⟩
    · omega
    · rcases v1 with v1 | ⟨b1, o1, rfl, x1⟩
      · omega
      · by_cases hlt : n1 < n0
        · exact vrows_right _ _ _ _ _ _ _ _ l m w hl hm h0 h1 hlt g0 g1 x0 x1
        · exact vrows_left _ _ _ _ _ _ _ _ l m w hl hm h0 h1 hlt g0 g1 x0 x1

end Go.Proofs.YtnokokhbcfkifaaGreatDoor

namespace Go.Proofs.YtnokokhbcfkifaaGreatDoor
open Go.ChangeShapes Go.WideShapes Go.ChangeAt Go.RowKit
set_option linter.unusedVariables false
attribute [local go_sem ↓] Go.wp_at_zero Go.wp_at_succ

theorem rowsV_turn : ∀ l m : List VT, rowsV l m = - rowsV m l
  | [], [] => rfl
  | [], _ :: _ => rfl
  | _ :: _, [] => rfl
  | a :: l, b :: m => by
    rw [rowsV, rowsV]
    have h := rowsV_turn l m
    rcases cmpV_cases a b with ⟨h1, h2⟩ | ⟨h1, h2⟩ | ⟨h1, h2⟩
    · rw [h1, h2, if_neg (by decide), if_neg (by decide)]
    · rw [h1, h2, if_pos rfl, if_pos rfl, h]
    · rw [h1, h2, if_neg (by decide), if_neg (by decide)]; rfl
theorem rowsV_small : ∀ l m : List VT, -1 ≤ rowsV l m ∧ rowsV l m ≤ 1
  | [], [] => ⟨by decide, by decide⟩
  | [], _ :: _ => by rw [rowsV]; decide
  | _ :: _, [] => by rw [rowsV]; decide
  | a :: l, b :: m => by
    rw [rowsV]
    split
    · exact rowsV_small l m
    · exact cmpV_least a b
theorem rowsV_zero : ∀ l m : List VT, (∀ v ∈ l, Fits v) → (∀ v ∈ m, Fits v) → rowsV l m = 0 → l = m
  | [], [], _, _, _ => rfl
  | [], _ :: _, _, _, h => by rw [rowsV] at h; exact absurd h (by decide)
  | _ :: _, [], _, _, h => by rw [rowsV] at h; exact absurd h (by decide)
  | a :: l, b :: m, hl, hm, h => by
    rw [rowsV] at h
    by_cases hc : cmpV a b = 0
    · rw [if_pos hc] at h
      rw [cmpV_same (hl a (List.mem_cons_self ..)) (hm b (List.mem_cons_self ..)) hc, rowsV_zero l m (fun v hv => hl v (List.mem_cons_of_mem _ hv)) (fun v hv => hm v (List.mem_cons_of_mem _ hv)) h]
    · rw [if_neg hc] at h
      exact absurd h hc
theorem rowsV_le : ∀ l m k : List VT, (∀ v ∈ l, Fits v) → (∀ v ∈ m, Fits v) → (∀ v ∈ k, Fits v) → rowsV l m ≤ 0 → rowsV m k ≤ 0 → rowsV l k ≤ 0
  | [], _, [], _, _, _, _, _ => by decide
  | [], _, _ :: _, _, _, _, _, _ => by rw [rowsV]; decide
  | _ :: _, [], _, _, _, _, h, _ => by rw [rowsV] at h; exact absurd h (by decide)
  | _ :: _, _ :: _, [], _, _, _, _, h => by rw [rowsV] at h; exact absurd h (by decide)
  | a :: l, b :: m, c :: k, hl, hm, hk, h, h' => by
    have fa := hl a (List.mem_cons_self ..)
    have fb := hm b (List.mem_cons_self ..)
    have fc := hk c (List.mem_cons_self ..)
    rw [rowsV] at h h' ⊢
    by_cases hab : cmpV a b = 0
    · rw [if_pos hab] at h
      obtain rfl := cmpV_same fa fb hab
      by_cases hbc : cmpV a c = 0
      · rw [if_pos hbc] at h' ⊢
        exact rowsV_le l m k (fun v hv => hl v (List.mem_cons_of_mem _ hv)) (fun v hv => hm v (List.mem_cons_of_mem _ hv)) (fun v hv => hk v (List.mem_cons_of_mem _ hv)) h h'
      · rw [if_neg hbc] at h' ⊢
        exact h'
    · rw [if_neg hab] at h
      have hab1 : cmpV a b = -1 := by rcases cmpV_cases a b with ⟨h1, _⟩ | ⟨h1, _⟩ | ⟨h1, _⟩ <;> omega
      have hac : cmpV a c = -1 := by
        by_cases hbc : cmpV b c = 0
        · obtain rfl := cmpV_same fb fc hbc
          exact hab1
        · rw [if_neg hbc] at h'
          have hbc1 : cmpV b c = -1 := by rcases cmpV_cases b c with ⟨h1, _⟩ | ⟨h1, _⟩ | ⟨h1, _⟩ <;> omega
          exact cmpV_trans hab1 hbc1
      rw [hac, if_neg (by decide)]
      decide
theorem fits_mem {l : List VT} (h : ∀ i, Fits (l.getD i zeroT)) : ∀ v ∈ l, Fits v := by
  intro v hv
  obtain ⟨i, hi, rfl⟩ := List.mem_iff_getElem.1 hv
  have := h i
  rw [List.getD_eq_getElem?_getD, List.getElem?_eq_getElem hi] at this
  exact this

/-- The first of two that isn't nought. -/
def or2 (a b : Int) : Int := if a = 0 then b else a
theorem or2_calls (b : Nat) (c0 c1 : Int) (w : World) (h0 : w.cell? ⟨b, 0, none⟩ = some (.int .i64 c0)) (h1 : w.cell? ⟨b, 1, none⟩ = some (.int .i64 c1)) :
    Calls Tryz.prog 114 #[.slice (some ⟨b, 0, none⟩) 2 2] w fun e w' => e = .returned (.int .i64 (or2 c0 c1)) ∧ w' = w := by
  by_cases z0 : c0 = 0
  · subst z0
    by_cases z1 : c1 = 0
    · subst z1
      rw [show or2 0 0 = 0 from rfl]
      go_enter Tryz.func114, Tryz.ntmps114
      go_wp2
      refine wp_loop_rounds 3 ?_
      repeat (rw [rounds_succ]; go_wp2)
      go_ret
      exact ⟨rfl, rfl⟩
    · have t : (c1 != 0) = true := by simpa using z1
      rw [show or2 0 c1 = c1 from rfl]
      go_enter Tryz.func114, Tryz.ntmps114
      go_wp2
      refine wp_loop_rounds 3 ?_
      repeat (rw [rounds_succ]; go_wp2)
      go_ret
      exact ⟨rfl, rfl⟩
  · have t : (c0 != 0) = true := by simpa using z0
    rw [show or2 c0 c1 = c0 from if_neg z0]
    go_enter Tryz.func114, Tryz.ntmps114
    go_wp2
    refine wp_loop_rounds 3 ?_
    repeat (rw [rounds_succ]; go_wp2)
    go_ret
    exact ⟨rfl, rfl⟩

theorem or2_new (c0 c1 : Int) (w : World) :
    Calls Tryz.prog 114 #[.slice (some ⟨w.heap.size, 0, none⟩) 2 2] (w.alloc (.cells #[.int .i64 c0, .int .i64 c1] 3)) fun e w' => e = .returned (.int .i64 (or2 c0 c1)) ∧ w' = w.alloc (.cells #[.int .i64 c0, .int .i64 c1] 3) := by
  refine or2_calls _ _ _ _ ?_ ?_ <;> go_simp

/-- How two entries stand. -/
def ordE (l : List VT) (i : Int) (m : List VT) (j : Int) : Int := or2 (rowsV l m) (cmpI i j)
theorem ordE_small (l : List VT) (i : Int) (m : List VT) (j : Int) : -1 ≤ ordE l i m j ∧ ordE l i m j ≤ 1 := by
  unfold ordE or2
  split
  · rcases cmpI_cases i j with h | h | h <;> omega
  · exact rowsV_small l m
theorem ordE_turn (l : List VT) (i : Int) (m : List VT) (j : Int) : ordE l i m j = - ordE m j l i := by
  unfold ordE or2
  have h := rowsV_turn l m
  by_cases h0 : rowsV l m = 0
  · rw [if_pos h0, if_pos (by omega)]
    rcases cmpI_cases i j with ⟨a, a'⟩ | ⟨a, a'⟩ | ⟨a, a'⟩ <;> rcases cmpI_cases j i with ⟨b, b'⟩ | ⟨b, b'⟩ | ⟨b, b'⟩ <;> omega
  · rw [if_neg h0, if_neg (by omega)]
    exact h
theorem ordE_zero {l : List VT} {i : Int} {m : List VT} {j : Int} (hl : ∀ v ∈ l, Fits v) (hm : ∀ v ∈ m, Fits v) (h : ordE l i m j = 0) : l = m ∧ i = j := by
  unfold ordE or2 at h
  by_cases h0 : rowsV l m = 0
  · rw [if_pos h0] at h
    exact ⟨rowsV_zero l m hl hm h0, cmpI_zero.1 h⟩
  · rw [if_neg h0] at h
    exact absurd h h0
theorem ordE_self (l : List VT) (i : Int) : ordE l i l i = 0 := by
  unfold ordE or2
  have h := rowsV_turn l l
  rw [if_pos (by omega), cmpI_self]
theorem ordE_le {l m k : List VT} {i j n : Int} (hl : ∀ v ∈ l, Fits v) (hm : ∀ v ∈ m, Fits v) (hk : ∀ v ∈ k, Fits v) (h : ordE l i m j ≤ 0) (h' : ordE m j k n ≤ 0) : ordE l i k n ≤ 0 := by
  unfold ordE or2 at h h' ⊢
  by_cases h0 : rowsV l m = 0
  · rw [if_pos h0] at h
    obtain rfl := rowsV_zero l m hl hm h0
    by_cases h1 : rowsV l k = 0
    · rw [if_pos h1] at h' ⊢
      rcases cmpI_cases i j with ⟨a, a'⟩ | ⟨a, a'⟩ | ⟨a, a'⟩ <;> rcases cmpI_cases j n with ⟨b, b'⟩ | ⟨b, b'⟩ | ⟨b, b'⟩ <;> rcases cmpI_cases i n with ⟨c, c'⟩ | ⟨c, c'⟩ | ⟨c, c'⟩ <;> omega
    · rw [if_neg h1] at h' ⊢
      exact h'
  · rw [if_neg h0] at h
    have hs := rowsV_small l m
    by_cases h1 : rowsV m k = 0
    · obtain rfl := rowsV_zero m k hm hk h1
      rw [if_neg h0]
      exact h
    · rw [if_neg h1] at h'
      have hle := rowsV_le l m k hl hm hk h h'
      by_cases h2 : rowsV l k = 0
      · obtain rfl := rowsV_zero l k hl hk h2
        have := rowsV_turn l m
        omega
      · rw [if_neg h2]
        exact hle

end Go.Proofs.YtnokokhbcfkifaaGreatDoor

/-
  value.Rows and hashidx.byKey once more, with what they leave told to the sign: new blocks behind, draws made, nothing else.
  slices.SortFunc at a row of groups, ordered by their keys: by the shelf's contract of the sort at structs.
  slices.SortedFunc over the groups of an index: its keys in their order.
-/
import Derived.Test.YtofpakpbbpcalaaRowsOrd
import Derived.Test.YtofpakpbbpcalaaHaItr
import Derived.Shelf.GgSortFunc.RowK
import Derived.Sort.Grow
import Derived.Test.YtofpakpbbpcalaaSortG
import Derived.Test.YtofpakpbbpcalaaHaEmp
import Derived.Shelf.SlSortCmp.WholeK
import Derived.Test.YtofpakpbbpcalaaHaKnw
namespace Go.Proofs.Ytofpakpbbpcalaa
open Go.ChangeShapes Go.WideShapes Go.ChangeAt Go.RowKit
attribute [local go_sem ↓] Go.wp_at_zero Go.wp_at_succ

/-- Grown, and no draw taken back. -/
structure UpD (w w' : World) : Prop where
  up : Up w w'
  dr : w.drawn ≤ w'.drawn
theorem UpD.refl (w : World) : UpD w w := ⟨Up.refl _, Nat.le_refl _⟩
theorem UpD.trans {a b c : World} (h : UpD a b) (k : UpD b c) : UpD a c := ⟨h.up.trans k.up, Nat.le_trans h.dr k.dr⟩
theorem UpD.alloc {a w : World} (h : UpD a w) (o : Obj) : UpD a (w.alloc o) := ⟨h.up.alloc o, h.dr⟩
theorem UpD.drew {a w : World} (h : UpD a w) : UpD a w.drew := ⟨h.up.drew, Nat.le_succ_of_le h.dr⟩
theorem UpD.cell {w w' : World} (h : UpD w w') {p : Addr} {v : Value} (hc : w.cell? p = some v) : w'.cell? p = some v := h.up.cell hc
theorem UpD.grown {w w' : World} (h : UpD w w') : ∃ q os, w' = Go.Sort.grow (w.drewN q) os := by
  obtain ⟨⟨h1, h2, h3, h4, h5⟩, h6⟩ := h
  refine ⟨w'.drawn - w.drawn, w'.heap.extract w.heap.size w'.heap.size, ?_⟩
  cases w with | mk heap tape drawn os output =>
  cases w' with | mk heap' tape' drawn' os' output' =>
  simp only [Go.Sort.grow, World.drewN] at *
  subst h1 h2 h3
  congr 1
  · refine Array.ext (by simp; omega) fun i hi hi' => ?_
    by_cases hlt : i < heap.size
    · rw [Array.getElem_append_left hlt]
      have := h5 i hlt
      rw [Array.getElem?_eq_getElem hi, Array.getElem?_eq_getElem hlt] at this
      exact Option.some.inj this
    · rw [Array.getElem_append_right (by omega)]
      simp only [Array.getElem_extract]
      congr 1
      omega
  · omega

theorem vcompareD_calls (k n k' n' : Int) (s s' : ByteArray) (f f' : Nat) (hf : f < whole) (hf' : f' < whole) (w : World) :
    Calls Try.prog 56 #[.agg #[.int .i64 k, .int .i64 n, .string s, .float .f64 f], .agg #[.int .i64 k', .int .i64 n', .string s', .float .f64 f']] w
      fun e w' => e = .returned (.int .i64 (cmpV (k, n, s, f) (k', n', s', f'))) ∧ UpD w w' := by
  obtain ⟨W, hW⟩ : ∃ W, (w.alloc (.cells #[.int .i64 k, .int .i64 n, .string s, .float .f64 f] 52)).alloc (.cells #[.int .i64 k', .int .i64 n', .string s', .float .f64 f'] 52) = W := ⟨_, rfl⟩
  have hb : UpD w W := by
    rw [← hW]
    exact ((UpD.refl _).alloc _).alloc _
  have l0 : W.cell? ⟨w.heap.size, 0, none⟩ = some (.int .i64 k) := by subst hW; go_simp
  have l1 : W.cell? ⟨w.heap.size, 1, none⟩ = some (.int .i64 n) := by subst hW; go_simp
  have l2 : W.cell? ⟨w.heap.size, 2, none⟩ = some (.string s) := by subst hW; go_simp
  have l3 : W.cell? ⟨w.heap.size, 3, none⟩ = some (.float .f64 f) := by subst hW; go_simp
  have r0 : W.cell? ⟨w.heap.size + 1, 0, none⟩ = some (.int .i64 k') := by subst hW; go_simp
  have r1 : W.cell? ⟨w.heap.size + 1, 1, none⟩ = some (.int .i64 n') := by subst hW; go_simp
  have r2 : W.cell? ⟨w.heap.size + 1, 2, none⟩ = some (.string s') := by subst hW; go_simp
  have r3 : W.cell? ⟨w.heap.size + 1, 3, none⟩ = some (.float .f64 f') := by subst hW; go_simp
  have hb' : Hid (UpD w W) := hb
  clear hb
  have hne0 := World.new_ne W _ l0
  have hne1 := World.new_ne W _ r0
  go_enter Try.func56, Try.ntmps56
  go_wp2
  clear hW
  go_region_held3 (fun w' => w'.cell? ⟨w.heap.size, 0, none⟩ = some (.int .i64 k) ∧ w'.cell? ⟨w.heap.size, 1, none⟩ = some (.int .i64 n) ∧ w'.cell? ⟨w.heap.size, 2, none⟩ = some (.string s) ∧ w'.cell? ⟨w.heap.size, 3, none⟩ = some (.float .f64 f)
      ∧ w'.cell? ⟨w.heap.size + 1, 0, none⟩ = some (.int .i64 k') ∧ w'.cell? ⟨w.heap.size + 1, 1, none⟩ = some (.int .i64 n') ∧ w'.cell? ⟨w.heap.size + 1, 2, none⟩ = some (.string s') ∧ w'.cell? ⟨w.heap.size + 1, 3, none⟩ = some (.float .f64 f')) (go_keep)
    (first
      | (go_at_call 57; refine (cmpInt_calls _ _ _).mono ?_; rintro _ _ ⟨rfl, rfl⟩)
      | (go_at_call 75; refine (cmpInt64_calls _ _ _).mono ?_; rintro _ _ ⟨rfl, rfl⟩)
      | (go_at_call 76; refine (cmpStr_calls _ _ _).mono ?_; rintro _ _ ⟨rfl, rfl⟩)
      | (go_at_call 77; refine (compare_calls _ _ (by with_reducible assumption) (by with_reducible assumption) _).mono ?_; rintro _ _ ⟨rfl, rfl⟩)
      | (go_at_call 74; refine (or_new _ _ _ _ _).mono ?_; rintro _ _ ⟨rfl, rfl⟩))
  all_goals go_wp2
  all_goals go_ret
  all_goals exact ⟨rfl, (hb'.out.alloc _).drew⟩

theorem vrowsD_none (a0 a1 : Option Addr) (n0 n1 c0 c1 : Nat) (w : World) (h : n0 = 0 ∨ n1 = 0) :
    Calls Try.prog 46 #[.slice a0 n0 c0, .slice a1 n1 c1] w fun e w' => e = .returned (.int .i64 (cmpI n0 n1)) ∧ UpD w w' := by
  rcases h with rfl | rfl
  all_goals
    go_enter Try.func46, Try.ntmps46
    go_wp2_with fail
    all_goals
      refine wp_loop_rounds 1 ?_
      rw [rounds_succ]
      go_wp2_with (go_at_call 57; refine (cmpInt_calls _ _ _).mono ?_; rintro _ w1 ⟨rfl, hw1⟩; obtain rfl : w = w1 := hw1.symm)
      go_ret
      exact ⟨rfl, UpD.refl _⟩

theorem vrowsD_left (b0 o0 n0 c0 b1 o1 n1 c1 : Nat) (l m : List VT) (w : World) (hl : l.length = n0) (hm : m.length = n1) (h0 : n0 ≤ maxLen) (h1 : n1 ≤ maxLen) (hlt : ¬ n1 < n0)
    (g0 : ∀ i, Fits (l.getD i zeroT)) (g1 : ∀ i, Fits (m.getD i zeroT)) (x0 : ∀ i, i < n0 → At w b0 (o0 + i * 4) (l.getD i zeroT)) (x1 : ∀ i, i < n1 → At w b1 (o1 + i * 4) (m.getD i zeroT)) :
    Calls Try.prog 46 #[.slice (some ⟨b0, o0, none⟩) n0 c0, .slice (some ⟨b1, o1, none⟩) n1 c1] w fun e w' => e = .returned (.int .i64 (rowsV l m)) ∧ UpD w w' := by
  have H0 := hide x0
  have H1 := hide x1
  have F0 := hide g0
  have F1 := hide g1
  have HL := hide hl
  have HM := hide hm
  clear x0 x1 g0 g1 hl hm
  unfold maxLen at h0 h1
  go_enter Try.func46, Try.ntmps46
  go_wp2_with fail
  go_loopw [12] (fun i wr => ∃ k : Nat, k ≤ n0 ∧ i = .int .i64 k ∧ UpD w wr ∧ Hid (∀ j, j < k → cmpV (l.getD j zeroT) (m.getD j zeroT) = 0)) (fun i _ => n0 - (intOf i).toNat)
  case atStart => exact ⟨0, Nat.zero_le _, rfl, UpD.refl _, fun j hj => absurd hj (Nat.not_lt_zero j)⟩
  case round =>
    obtain ⟨k, hk, rfl, hu, he⟩ := hrel
    by_cases hlt : k < n0
    · obtain ⟨l0, l1, l2, l3⟩ := (H0.out k (by omega)).up hu.up
      obtain ⟨r0, r1, r2, r3⟩ := (H1.out k (by omega)).up hu.up
      have hf := (F0.out k).2.2.2.2.2
      have hf' := (F1.out k).2.2.2.2.2
      have hst := rowsV_differ l m k (by rw [HL.out]; omega) (by rw [HM.out]; omega) he.out
      obtain ⟨⟨q, n, s, f⟩, hx⟩ : ∃ x, x = l.getD k zeroT := ⟨_, rfl⟩
      obtain ⟨⟨q', n', s', f'⟩, hy⟩ : ∃ x, x = m.getD k zeroT := ⟨_, rfl⟩
      rw [← hx] at l0 l1 l2 l3 hf hst
      rw [← hy] at r0 r1 r2 r3 hf' hst
      replace hx := hide hx
      replace hy := hide hy
      replace hst := hide hst
      replace hu := hide hu
      simp only at l0 l1 l2 l3 r0 r1 r2 r3 hf hf'
      have i0 : (0 : Int) ≤ (k : Int) := by omega
      have i1 : (k : Int) < (n0 : Int) := by omega
      have i2 : (k : Int) < (n1 : Int) := by omega
      go_wp2_with fail
      go_region_held3 (fun w' => w'.cell? ⟨b0, o0 + k * 4, none⟩ = some (.int .i64 q) ∧ w'.cell? ⟨b0, o0 + k * 4 + 1, none⟩ = some (.int .i64 n) ∧ w'.cell? ⟨b0, o0 + k * 4 + 2, none⟩ = some (.string s) ∧ w'.cell? ⟨b0, o0 + k * 4 + 3, none⟩ = some (.float .f64 f)
          ∧ w'.cell? ⟨b1, o1 + k * 4, none⟩ = some (.int .i64 q') ∧ w'.cell? ⟨b1, o1 + k * 4 + 1, none⟩ = some (.int .i64 n') ∧ w'.cell? ⟨b1, o1 + k * 4 + 2, none⟩ = some (.string s') ∧ w'.cell? ⟨b1, o1 + k * 4 + 3, none⟩ = some (.float .f64 f')) (first | go_keep | exact ⟨hu1.cell l0, hu1.cell l1, hu1.cell l2, hu1.cell l3, hu1.cell r0, hu1.cell r1, hu1.cell r2, hu1.cell r3⟩)
        (first | (go_at_call 56; refine (vcompareD_calls _ _ _ _ _ _ _ _ (by with_reducible assumption) (by with_reducible assumption) _).mono ?_; rintro _ w1 ⟨rfl, hu1⟩))
      by_cases hz : cmpV (q, n, s, f) (q', n', s', f') = 0
      · have ht : (cmpV (q, n, s, f) (q', n', s', f') != 0) = false := by simp [hz]
        replace hz := hide hz
        clear l0 l1 l2 l3 r0 r1 r2 r3
        go_wp2
        go_roundw
        case rel =>
          refine ⟨k + 1, by omega, by go_num, hu.out.drew.trans hu1, fun j hj => ?_⟩
          rcases Nat.lt_succ_iff_lt_or_eq.1 hj with hj | rfl
          · exact he.out j hj
          · rw [← hx.out, ← hy.out]; exact hz.out
        case measure => simp [intOf]; omega
      · have ht : (cmpV (q, n, s, f) (q', n', s', f') != 0) = true := by simpa using hz
        replace hz := hide hz
        clear l0 l1 l2 l3 r0 r1 r2 r3
        go_wp2
        go_ret
        exact ⟨by rw [hst.out hz.out]; rfl, hu.out.drew.trans hu1⟩
    · obtain rfl : k = n0 := by omega
      have hres := rowsV_alike l m (fun j h1 h2 => he.out j (by rw [HL.out] at h1; rw [HM.out] at h2; omega))
      rw [HL.out, HM.out] at hres
      replace hres := hide hres
      replace hu := hide hu
      go_wp2_with (go_at_call 57; refine (cmpInt_calls _ _ _).mono ?_; rintro _ w1 ⟨rfl, hw1⟩; obtain rfl : wr = w1 := hw1.symm)
      go_ret
      exact ⟨by rw [hres.out]; rfl, hu.out⟩

theorem vrowsD_right (b0 o0 n0 c0 b1 o1 n1 c1 : Nat) (l m : List VT) (w : World) (hl : l.length = n0) (hm : m.length = n1) (h0 : n0 ≤ maxLen) (h1 : n1 ≤ maxLen) (hlt : n1 < n0)
    (g0 : ∀ i, Fits (l.getD i zeroT)) (g1 : ∀ i, Fits (m.getD i zeroT)) (x0 : ∀ i, i < n0 → At w b0 (o0 + i * 4) (l.getD i zeroT)) (x1 : ∀ i, i < n1 → At w b1 (o1 + i * 4) (m.getD i zeroT)) :
    Calls Try.prog 46 #[.slice (some ⟨b0, o0, none⟩) n0 c0, .slice (some ⟨b1, o1, none⟩) n1 c1] w fun e w' => e = .returned (.int .i64 (rowsV l m)) ∧ UpD w w' := by
  have H0 := hide x0
  have H1 := hide x1
  have F0 := hide g0
  have F1 := hide g1
  have HL := hide hl
  have HM := hide hm
  clear x0 x1 g0 g1 hl hm
  unfold maxLen at h0 h1
  go_enter Try.func46, Try.ntmps46
  go_wp2_with fail
  go_loopw [12] (fun i wr => ∃ k : Nat, k ≤ n1 ∧ i = .int .i64 k ∧ UpD w wr ∧ Hid (∀ j, j < k → cmpV (l.getD j zeroT) (m.getD j zeroT) = 0)) (fun i _ => n1 - (intOf i).toNat)
  case atStart => exact ⟨0, Nat.zero_le _, rfl, UpD.refl _, fun j hj => absurd hj (Nat.not_lt_zero j)⟩
  case round =>
    obtain ⟨k, hk, rfl, hu, he⟩ := hrel
    by_cases hlt : k < n1
    · obtain ⟨l0, l1, l2, l3⟩ := (H0.out k (by omega)).up hu.up
      obtain ⟨r0, r1, r2, r3⟩ := (H1.out k (by omega)).up hu.up
      have hf := (F0.out k).2.2.2.2.2
      have hf' := (F1.out k).2.2.2.2.2
      have hst := rowsV_differ l m k (by rw [HL.out]; omega) (by rw [HM.out]; omega) he.out
      obtain ⟨⟨q, n, s, f⟩, hx⟩ : ∃ x, x = l.getD k zeroT := ⟨_, rfl⟩
      obtain ⟨⟨q', n', s', f'⟩, hy⟩ : ∃ x, x = m.getD k zeroT := ⟨_, rfl⟩
      rw [← hx] at l0 l1 l2 l3 hf hst
      rw [← hy] at r0 r1 r2 r3 hf' hst
      replace hx := hide hx
      replace hy := hide hy
      replace hst := hide hst
      replace hu := hide hu
      simp only at l0 l1 l2 l3 r0 r1 r2 r3 hf hf'
      have i0 : (0 : Int) ≤ (k : Int) := by omega
      have i1 : (k : Int) < (n0 : Int) := by omega
      have i2 : (k : Int) < (n1 : Int) := by omega
      go_wp2_with fail
      go_region_held3 (fun w' => w'.cell? ⟨b0, o0 + k * 4, none⟩ = some (.int .i64 q) ∧ w'.cell? ⟨b0, o0 + k * 4 + 1, none⟩ = some (.int .i64 n) ∧ w'.cell? ⟨b0, o0 + k * 4 + 2, none⟩ = some (.string s) ∧ w'.cell? ⟨b0, o0 + k * 4 + 3, none⟩ = some (.float .f64 f)
          ∧ w'.cell? ⟨b1, o1 + k * 4, none⟩ = some (.int .i64 q') ∧ w'.cell? ⟨b1, o1 + k * 4 + 1, none⟩ = some (.int .i64 n') ∧ w'.cell? ⟨b1, o1 + k * 4 + 2, none⟩ = some (.string s') ∧ w'.cell? ⟨b1, o1 + k * 4 + 3, none⟩ = some (.float .f64 f')) (first | go_keep | exact ⟨hu1.cell l0, hu1.cell l1, hu1.cell l2, hu1.cell l3, hu1.cell r0, hu1.cell r1, hu1.cell r2, hu1.cell r3⟩)
        (first | (go_at_call 56; refine (vcompareD_calls _ _ _ _ _ _ _ _ (by with_reducible assumption) (by with_reducible assumption) _).mono ?_; rintro _ w1 ⟨rfl, hu1⟩))
      by_cases hz : cmpV (q, n, s, f) (q', n', s', f') = 0
      · have ht : (cmpV (q, n, s, f) (q', n', s', f') != 0) = false := by simp [hz]
        replace hz := hide hz
        clear l0 l1 l2 l3 r0 r1 r2 r3
        go_wp2
        go_roundw
        case rel =>
          refine ⟨k + 1, by omega, by go_num, hu.out.drew.trans hu1, fun j hj => ?_⟩
          rcases Nat.lt_succ_iff_lt_or_eq.1 hj with hj | rfl
          · exact he.out j hj
          · rw [← hx.out, ← hy.out]; exact hz.out
        case measure => simp [intOf]; omega
      · have ht : (cmpV (q, n, s, f) (q', n', s', f') != 0) = true := by simpa using hz
        replace hz := hide hz
        clear l0 l1 l2 l3 r0 r1 r2 r3
        go_wp2
        go_ret
        exact ⟨by rw [hst.out hz.out]; rfl, hu.out.drew.trans hu1⟩
    · obtain rfl : k = n1 := by omega
      have hres := rowsV_alike l m (fun j h1 h2 => he.out j (by rw [HL.out] at h1; rw [HM.out] at h2; omega))
      rw [HL.out, HM.out] at hres
      replace hres := hide hres
      replace hu := hide hu
      go_wp2_with (go_at_call 57; refine (cmpInt_calls _ _ _).mono ?_; rintro _ w1 ⟨rfl, hw1⟩; obtain rfl : wr = w1 := hw1.symm)
      go_ret
      exact ⟨by rw [hres.out]; rfl, hu.out⟩

theorem vrowsD_calls (a0 a1 : Option Addr) (n0 n1 c0 c1 : Nat) (l m : List VT) (w : World) (h0 : n0 ≤ maxLen) (h1 : n1 ≤ maxLen) (v0 : Vals w a0 n0 l) (v1 : Vals w a1 n1 m) :
    Calls Try.prog 46 #[.slice a0 n0 c0, .slice a1 n1 c1] w fun e w' => e = .returned (.int .i64 (rowsV l m)) ∧ UpD w w' := by
  obtain ⟨hl, g0, v0⟩ := v0
  obtain ⟨hm, g1, v1⟩ := v1
  by_cases hz : n0 = 0 ∨ n1 = 0
  · have he : rowsV l m = cmpI n0 n1 := by
      rw [rowsV_alike l m (fun j h1 h2 => by omega), hl, hm]
    rw [he]
    exact vrowsD_none _ _ _ _ _ _ _ hz
  · rcases v0 with v0 | ⟨b0, o0, rfl, x0⟩
    · omega
    · rcases v1 with v1 | ⟨b1, o1, rfl, x1⟩
      · omega
      · by_cases hlt : n1 < n0
        · exact vrowsD_right _ _ _ _ _ _ _ _ l m w hl hm h0 h1 hlt g0 g1 x0 x1
        · exact vrowsD_left _ _ _ _ _ _ _ _ l m w hl hm h0 h1 hlt g0 g1 x0 x1


set_option maxRecDepth 100000 in
set_option maxHeartbeats 4000000 in
theorem byKeyD_calls (x y : GT) (l m : List VT) (w : World) (h0 : x.n ≤ maxLen) (h1 : y.n ≤ maxLen) (v0 : Vals w x.a x.n l) (v1 : Vals w y.a y.n m) :
    Calls Try.prog 34 #[.agg #[.slice x.a x.n x.c, .slice x.b x.m x.d], .agg #[.slice y.a y.n y.c, .slice y.b y.m y.d]] w fun e w' => e = .returned (.int .i64 (rowsV l m)) ∧ UpD w w' := by
  obtain ⟨xa, xn, xc, xb, xm, xd⟩ := x
  obtain ⟨ya, yn, yc, yb, ym, yd⟩ := y
  simp only at *
  have V0 := hide v0
  have V1 := hide v1
  clear v0 v1
  go_enter Try.func34, Try.ntmps34
  go_wp2_with fail
  go_at_call 46
  refine (vrowsD_calls _ _ _ _ _ _ l m _ h0 h1 (V0.out.up (((Up.refl w).alloc _).alloc _)) (V1.out.up (((Up.refl w).alloc _).alloc _))).mono ?_
  rintro _ w1 ⟨rfl, hu1⟩
  have HU := hide ((((UpD.refl w).alloc _).alloc _).trans hu1)
  clear hu1
  go_wp2
  go_ret
  exact ⟨rfl, HU.out⟩

end Go.Proofs.Ytofpakpbbpcalaa

namespace Go.Proofs.Ytofpakpbbpcalaa
open Go.ChangeShapes Go.WideShapes Go.ChangeAt Go.RowKit
open Go.Sort (HoldsK flatK get_flatK size_flatK)
set_option linter.unusedVariables false

/-- Two cells that hold a group. -/
def GAt (w : World) (g o : Nat) (x : GT) : Prop := w.cell? ⟨g, o, none⟩ = some (.slice x.a x.n x.c) ∧ w.cell? ⟨g, o + 1, none⟩ = some (.slice x.b x.m x.d)
abbrev GI (gs : List GT) := {x : GT // x ∈ gs}
def cfG (gs : List GT) (kf : GT → List VT) (x y : GI gs) : Int := rowsV (kf x.1) (kf y.1)
def encGI (gs : List GT) (x : GI gs) : List Value := gCells x.1

theorem cfG_t {gs : List GT} {kf : GT → List VT} {x y : GI gs} : ltOf (cfG gs kf) x y = true ↔ rowsV (kf x.1) (kf y.1) < 0 := decide_eq_true_iff
theorem cfG_f {gs : List GT} {kf : GT → List VT} {x y : GI gs} : ltOf (cfG gs kf) x y = false ↔ ¬ rowsV (kf x.1) (kf y.1) < 0 := decide_eq_false_iff_not
theorem cfG_swo {gs : List GT} {kf : GT → List VT} (hf : ∀ x ∈ gs, ∀ v ∈ kf x, Fits v) : Go.Sort.SWO (ltOf (cfG gs kf)) := by
  refine ⟨fun x => ?_, fun x y z h1 h2 => ?_, fun x y z h1 h2 => ?_⟩
  · have := rowsV_turn (kf x.1) (kf x.1)
    rw [cfG_f]; omega
  · rw [cfG_t] at *
    have l1 := rowsV_le (kf x.1) (kf y.1) (kf z.1) (hf _ x.2) (hf _ y.2) (hf _ z.2) (by omega) (by omega)
    rcases Int.lt_or_eq_of_le l1 with h | h
    · exact h
    · exfalso
      have e := rowsV_zero _ _ (hf _ x.2) (hf _ z.2) h
      rw [e] at h1
      have := rowsV_turn (kf z.1) (kf y.1)
      omega
  · rw [cfG_f] at *
    have t1 := rowsV_turn (kf x.1) (kf y.1)
    have t2 := rowsV_turn (kf y.1) (kf z.1)
    have t3 := rowsV_turn (kf x.1) (kf z.1)
    have := rowsV_le (kf z.1) (kf y.1) (kf x.1) (hf _ z.2) (hf _ y.2) (hf _ x.2) (by omega) (by omega)
    omega

theorem up_grow (w : World) (os : Array Obj) : Up w (Go.Sort.grow w os) := by
  refine ⟨rfl, rfl, rfl, by simp [Go.Sort.grow], fun k hk => ?_⟩
  simp only [Go.Sort.grow]
  rw [Array.getElem?_append_left hk]
theorem chg_sortW {α : Type} [Inhabited α] (enc : α → List Value) (k : Nat) (w : World) (blk off m : Nat) (dk : Array α) (os : Array Obj) : Chg (fun x => x = blk) w (sortWorldK enc k w blk off m dk os) := by
  unfold sortWorldK
  refine Chg.andUp (b := Go.Sort.putRowK enc k (Go.Sort.ahead w m) blk off dk) ⟨⟨rfl, rfl, rfl, ?_, fun k hk => absurd hk (Nat.not_lt_zero k)⟩, fun b hb hn => ?_⟩ (up_grow _ _)
  · simp [Go.Sort.putRowK, Go.Sort.putRow, Go.Sort.mapBlock, Go.Sort.ahead]
  · simp [Go.Sort.putRowK, Go.Sort.putRow, Go.Sort.mapBlock, Go.Sort.ahead, Array.getElem?_modify, Ne.symm hn]

theorem get_attach (gs : List GT) [Inhabited (GI gs)] (i : Nat) (x : GT) (h : gs[i]? = some x) : (gs.attach.toArray[i]!).1 = x := by
  obtain ⟨hi, hx⟩ := List.getElem?_eq_some_iff.1 h
  rw [getElem!_pos _ _ (by simpa using hi)]
  simp [hx]

theorem holds_of_cells (g : Nat) (gs : List GT) [Inhabited (GI gs)] (w : World) (hcell : ∀ i x, gs[i]? = some x → GAt w g (i * 2) x) (hfz : ∀ o, o < gs.length * 2 → w.frozen? ⟨g, o, none⟩ = false) : HoldsK (encGI gs) 2 w g 0 gs.attach.toArray := by
  intro j hj
  rw [size_flatK] at hj
  rw [get_flatK _ _ _ _ hj]
  have hj' : j < gs.length * 2 := by simpa using hj
  rw [Nat.zero_add]
  refine ⟨?_, hfz j hj'⟩
  have hi : j / 2 < gs.length := by omega
  have hx := List.getElem?_eq_getElem hi
  have h2 := hcell _ _ hx
  have h3 := get_attach gs (j / 2) _ hx
  simp only [id, encGI, h3]
  rcases Nat.mod_two_eq_zero_or_one j with h | h
  · rw [h]
    have := h2.1
    rw [show j / 2 * 2 = j by omega] at this
    simpa [gCells] using this
  · rw [h]
    have := h2.2
    rw [show j / 2 * 2 + 1 = j by omega] at this
    simpa [gCells] using this

theorem sortG_calls (g cap : Nat) (gs : List GT) (kf : GT → List VT) (O : Nat → Prop) (w : World) (hne : gs ≠ []) (hcell : ∀ i x, gs[i]? = some x → GAt w g (i * 2) x) (hfz : ∀ o, o < gs.length * 2 → w.frozen? ⟨g, o, none⟩ = false) (hg : g < w.heap.size)
    (hv : ∀ x ∈ gs, ValsO O w x.a x.n (kf x) ∧ x.n ≤ maxLen ∧ ∀ v ∈ kf x, Fits v) (hO : ∀ b, O b → ¬ b = g) (hn : gs.length ≤ 100000) :
    Calls Try.prog 44 #[.slice (some ⟨g, 0, none⟩) gs.length cap, .func (.func 34) #[] #[]] w fun e w' => e = .returned (.tuple #[]) ∧ ∃ gs' : List GT, gs'.Perm gs ∧ gs'.Pairwise (fun x y => ¬ rowsV (kf y) (kf x) < 0) ∧ (∀ i x, gs'[i]? = some x → GAt w' g (i * 2) x) ∧ Chg (fun x => x = g) w w' := by
  obtain ⟨x0, hx0⟩ := List.exists_mem_of_ne_nil gs hne
  letI : Inhabited (GI gs) := ⟨⟨x0, hx0⟩⟩
  have hds : gs.attach.toArray.size = gs.length := by simp
  have hcf : CmpLays Try.prog 34 #[] (encGI gs) 2 (cfG gs kf) g 0 gs.attach.toArray.size w := by
    intro m os dk hdk x y
    have hch := chg_sortW (encGI gs) 2 w g 0 m dk os
    refine (byKeyD_calls x.1 y.1 (kf x.1) (kf y.1) _ (hv x.1 x.2).2.1 (hv y.1 y.2).2.1 ((hv x.1 x.2).1.chg hch hO).1 ((hv y.1 y.2).1.chg hch hO).1).mono ?_
    rintro _ w' ⟨rfl, hu⟩
    exact ⟨rfl, hu.grown⟩
  have hH := holds_of_cells g gs w hcell hfz
  have hcon := AnyQ.slices_SortFunc Try.sortG 2 Try.isAgg64 Try.sizeOf64 (encGI gs) (fun _ => rfl) (fun x => gCells_one x.1) (cfG gs kf) (cfG_swo fun x hx => (hv x hx).2.2) 34 #[] g 0 cap gs.attach.toArray w (enters_of Try.func34 (by kernel_rfl) rfl) hcf hH hg (by omega)
  rw [hds] at hcon
  refine Calls.mono (show Calls Try.prog 44 _ _ _ from hcon) ?_
  rintro e w' ⟨rfl, d', n, os, hp, hs, rfl⟩
  have hd' : d'.size = gs.length := hp.1.trans hds
  refine ⟨rfl, d'.toList.map Subtype.val, ?_, ?_, ?_, chg_sortW _ _ _ _ _ _ _ _⟩
  · have h := hp.2.2
    rw [← hd', Array.extract_size, show d'.size = gs.attach.toArray.size by omega, Array.extract_size] at h
    have h2 := h.map Subtype.val
    simpa using h2
  · rw [List.pairwise_map, List.pairwise_iff_getElem]
    intro i j hi hj hij
    have hi' : i < d'.size := by simpa using hi
    have hj' : j < d'.size := by simpa using hj
    have := hs i j (Nat.zero_le _) hij (by omega)
    rw [getElem!_pos d' j hj', getElem!_pos d' i hi'] at this
    rw [cfG_f] at this
    simpa using this
  · intro i x hx
    rw [List.getElem?_map, Option.map_eq_some_iff] at hx
    obtain ⟨y, hy, rfl⟩ := hx
    obtain ⟨hi, hy⟩ := List.getElem?_eq_some_iff.1 hy
    have hi' : i < d'.size := by simpa using hi
    have hK := holdsK_sortWorldK_c (encGI gs) 2 w g 0 gs.attach.toArray d' n os hH hg (by omega)
    have e : d'[i]! = y := by rw [getElem!_pos d' i hi']; simpa using hy
    have h0 := (hK.cell (i := i) (c := 0) hi' (by omega)).1
    have h1 := (hK.cell (i := i) (c := 1) hi' (by omega)).1
    rw [e] at h0 h1
    rw [Nat.zero_add] at h0 h1
    exact ⟨by simpa [encGI, gCells] using h0, by simpa [encGI, gCells] using h1⟩

end Go.Proofs.Ytofpakpbbpcalaa

namespace Go.Proofs.Ytofpakpbbpcalaa
open Go.ChangeShapes Go.WideShapes Go.ChangeAt Go.RowKit
set_option linter.unusedVariables false

/-- A group that was taken out of an index: its key, its numbers, in blocks below B. -/
structure GrpR (B : Nat) (T : Tab) (w : World) (x : GT) (m : List VT) : Prop where
  ne : T m ≠ []
  good : GoodK m
  key : ValsO (fun b => b < B) w x.a x.n m
  own : OwnJ w 0 (.slice x.b x.m x.d) (T m)
  blk : ∀ g, (Value.slice x.b x.m x.d).ownBlock = some g → g < B
  rise : Rise (T m)
  few : (T m).length ≤ 1000
theorem GrpR.chg {B : Nat} {T : Tab} {C : Nat → Prop} {w w' : World} {x : GT} {m : List VT} (h : GrpR B T w x m) (hc : Chg C w w') (hC : ∀ b, b < B → ¬ C b) : GrpR B T w' x m :=
  ⟨h.ne, h.good, h.key.chg hc hC, OwnG.chg h.own hc (fun g hg => hC g (h.blk g hg)), h.blk, h.rise, h.few⟩
/-- Groups and their keys, in order. -/
structure ToldG (B : Nat) (T : Tab) (w : World) (gs : List GT) (ms : List (List VT)) : Prop where
  len : ms.length = gs.length
  few : gs.length ≤ 1000
  grp : ∀ (i : Nat) (x : GT) (m : List VT), gs[i]? = some x → ms[i]? = some m → GrpR B T w x m
  ord : ms.Pairwise (fun a b => rowsV a b < 0)
  mem : ∀ m, m ∈ ms ↔ T m ≠ []
theorem ToldG.chg {B : Nat} {T : Tab} {C : Nat → Prop} {w w' : World} {gs : List GT} {ms : List (List VT)} (h : ToldG B T w gs ms) (hc : Chg C w w') (hC : ∀ b, b < B → ¬ C b) : ToldG B T w' gs ms :=
  ⟨h.len, h.few, fun i x m h1 h2 => (h.grp i x m h1 h2).chg hc hC, h.ord, h.mem⟩

theorem good_fits {m : List VT} (h : GoodK m) : ∀ v ∈ m, Fits v := fun v hv => by
  obtain ⟨i, hi, rfl⟩ := List.getElem_of_mem hv
  have := h.2.2 i
  rwa [List.getD_eq_getElem?_getD, List.getElem?_eq_getElem hi] at this

theorem told_of {B : Nat} {T : Tab} {w : World} {f : List UInt8 → Option Value} {ks : List (List UInt8)} (hk : KeysS f ks) (hinj : ∀ k1 k2 v, f k1 = some v → f k2 = some v → k1 = k2)
    (hall : ∀ key v, f key = some v → ∃ m, key = kb m ∧ v = gVal (gOf v) ∧ GrpR B T w (gOf v) m) (hhere : ∀ m, T m ≠ [] → GoodK m ∧ ∃ v, f (kb m) = some v) (kf : GT → List VT)
    (hkf : ∀ x, (∃ m, GrpR B T w x m ∧ f (kb m) = some (gVal x)) → GrpR B T w x (kf x) ∧ f (kb (kf x)) = some (gVal x)) :
    (∀ x ∈ grpsOf f ks, GrpR B T w x (kf x)) ∧ ∀ gs' : List GT, gs'.Perm (grpsOf f ks) → gs'.Pairwise (fun x y => ¬ rowsV (kf y) (kf x) < 0) → ToldG B T w gs' (gs'.map kf) := by
  have hx : ∀ key ∈ ks, GrpR B T w (gOf ((f key).getD zeroG)) (kf (gOf ((f key).getD zeroG))) ∧ kb (kf (gOf ((f key).getD zeroG))) = key := fun key hkey => by
    obtain ⟨v, hv⟩ := Option.isSome_iff_exists.1 ((hk.2.1 key).1 hkey)
    obtain ⟨m, h1, h2, h3⟩ := hall key v hv
    rw [hv, Option.getD_some]
    have h4 := hkf (gOf v) ⟨m, h3, by rw [← h1, ← h2]; exact hv⟩
    exact ⟨h4.1, hinj _ _ _ h4.2 (by rw [← h2]; exact hv)⟩
  have hg : ∀ x ∈ grpsOf f ks, GrpR B T w x (kf x) := fun x hx' => by
    obtain ⟨key, h1, rfl⟩ := List.mem_map.1 hx'
    exact (hx key h1).1
  refine ⟨hg, fun gs' hp hs => ?_⟩
  have hnd : (gs'.map kf).Nodup := by
    refine (List.Perm.nodup_iff (hp.map kf)).2 ?_
    have h1 : ((grpsOf f ks).map kf).map kb = ks := by
      unfold grpsOf
      rw [List.map_map, List.map_map]
      conv => rhs; rw [← List.map_id ks]
      exact List.map_congr_left fun key hkey => (hx key hkey).2
    have h2 : (((grpsOf f ks).map kf).map kb).Nodup := by rw [h1]; exact hk.1
    exact List.Pairwise.imp (fun {a b} (h : kb a ≠ kb b) => fun e => h (by rw [e])) (List.pairwise_map.1 h2)
  have hl : gs'.length = ks.length := by rw [hp.length_eq]; simp [grpsOf]
  refine ⟨by simp, by rw [hl]; exact hk.2.2, fun i x m h1 h2 => ?_, ?_, fun m => ⟨fun hm => ?_, fun hm => ?_⟩⟩
  · rw [List.getElem?_map, h1] at h2
    cases h2
    exact hg x (hp.mem_iff.1 (List.mem_of_getElem? h1))
  · rw [List.pairwise_map]
    have h3 := List.pairwise_map.1 hnd
    refine List.Pairwise.imp_of_mem (fun {x y} hx' hy' h => ?_) (hs.and h3)
    have t := rowsV_turn (kf x) (kf y)
    have h4 := h.1
    rcases Int.lt_or_eq_of_le (show rowsV (kf x) (kf y) ≤ 0 by omega) with h5 | h5
    · exact h5
    · exact absurd (rowsV_zero _ _ (good_fits (hg x (hp.mem_iff.1 hx')).good) (good_fits (hg y (hp.mem_iff.1 hy')).good) h5) h.2
  · obtain ⟨x, h1, rfl⟩ := List.mem_map.1 hm
    exact (hg x (hp.mem_iff.1 h1)).ne
  · obtain ⟨hgd, v, hv⟩ := hhere m hm
    have hkey : kb m ∈ ks := (hk.2.1 _).2 (by rw [hv]; rfl)
    have h1 := hx _ hkey
    have h2 : kf (gOf ((f (kb m)).getD zeroG)) = m := kb_inj h1.1.good hgd h1.2
    rw [← h2]
    exact List.mem_map.2 ⟨_, hp.mem_iff.2 (List.mem_map.2 ⟨_, hkey, rfl⟩), rfl⟩

theorem own_cells {w : World} {g n cap : Nat} {cur : Array Value} {t : TypeId} {gs : List GT} (hg : w.heap[g]? = some (.cells cur t (0, 0))) (ht : cur.toList.take (gs.length * 2) = gs.flatMap gCells) :
    (∀ (i : Nat) (x : GT), gs[i]? = some x → GAt w g (i * 2) x) ∧ ∀ o, w.frozen? ⟨g, o, none⟩ = false := by
  refine ⟨fun i x hx => ?_, fun o => by simp [World.frozen?, hg]⟩
  obtain ⟨hi, hxi⟩ := List.getElem?_eq_some_iff.1 hx
  have hc : ∀ j, j < 2 → w.cell? ⟨g, i * 2 + j, none⟩ = (gCells x)[j]? := fun j hj => by
    have e := flatG_get (k := 2) (cs := gCells) (fun _ => rfl) zeroGT gs i j hi hj
    rw [← ht, List.getElem?_take_of_lt (by omega)] at e
    rw [List.getD_eq_getElem?_getD, hx, Option.getD_some] at e
    simp [World.cell?, hg]
    rw [← e]
    simp
  exact ⟨hc 0 (by omega), hc 1 (by omega)⟩

set_option maxHeartbeats 4000000 in
theorem sortedG_calls (B Bm M c : Nat) (f : List UInt8 → Option Value) (T : Tab) (w : World) (hB : B ≤ w.heap.size) (hBm : Bm < w.heap.size) (hm : w.cell? ⟨Bm, 0, none⟩ = some (.map (some M))) (hmap : MapS w M f c) (hc : c ≤ 1000) (hinj : ∀ k1 k2 v, f k1 = some v → f k2 = some v → k1 = k2)
    (hall : ∀ key v, f key = some v → ∃ m, key = kb m ∧ v = gVal (gOf v) ∧ GrpR B T w (gOf v) m) (hhere : ∀ m, T m ≠ [] → GoodK m ∧ ∃ v, f (kb m) = some v) :
    Calls Try.prog 32 #[.func (.func 45) #[] #[.pointer (some ⟨Bm, 0, none⟩)], .func (.func 34) #[] #[]] w fun e w' => ∃ (a : Option Addr) (cap : Nat) (gs : List GT) (ms : List (List VT)), e = .returned (.slice a gs.length cap) ∧ (gs = [] ∨ ∃ g, a = some ⟨g, 0, none⟩ ∧ w.heap.size ≤ g ∧ ∀ (i : Nat) (x : GT), gs[i]? = some x → GAt w' g (i * 2) x) ∧ ToldG B T w' gs ms ∧ Up w w' := by
  have hcol := hide (collect_calls Bm M c f w hBm hm hmap hc)
  have HA := hide hall
  have HH := hide hhere
  have HI := hide hinj
  clear hm hmap hall hhere hinj
  go_enter Try.func32, Try.ntmps32
  go_wp2_with fail
  go_at_call 43
  refine hcol.out.mono ?_
  rintro _ w1 ⟨v, ks, rfl, hk, ho, hu⟩
  clear hcol
  have hup : ∀ b, b < B → ¬ (fun _ => False) b := fun _ _ h => h
  have HA1 : ∀ key v, f key = some v → ∃ m, key = kb m ∧ v = gVal (gOf v) ∧ GrpR B T w1 (gOf v) m := fun key v h => by
    obtain ⟨m, h1, h2, h3⟩ := HA.out key v h
    exact ⟨m, h1, h2, h3.chg (Chg.of_up (C := fun _ => False) hu) (fun _ _ h => h)⟩
  obtain ⟨kf, hkf⟩ : ∃ kf : GT → List VT, ∀ x, (∃ m, GrpR B T w1 x m ∧ f (kb m) = some (gVal x)) → GrpR B T w1 x (kf x) ∧ f (kb (kf x)) = some (gVal x) := ⟨fun x => Classical.epsilon (fun m => GrpR B T w1 x m ∧ f (kb m) = some (gVal x)), fun x h => Classical.epsilon_spec h⟩
  obtain ⟨hgr, htold⟩ := told_of hk HI.out HA1 HH.out kf hkf
  have hlen : (grpsOf f ks).length = ks.length := by simp [grpsOf]
  have HU := hide hu
  have HG := hide hgr
  have HT := hide htold
  have HKF := hide hkf
  have HKS := hide hk
  clear hu hgr htold hkf HA1 HA HH HI hk hup
  rcases ho.2 with ⟨rfl, hn⟩ | ⟨g, cap, cur, rfl, hb, hg, hc1, hm1, hs1, ht1⟩
  · have hks : ks = [] := List.length_eq_zero_iff.1 hn
    subst hks
    clear ho
    go_wp2_with fail
    go_at_call 44
    refine (sort_zero none 0 _ w1).mono ?_
    rintro _ w9 ⟨rfl, hw9⟩
    obtain rfl : w1 = w9 := hw9.symm
    go_wp2
    go_ret
    exact ⟨none, 0, [], [], rfl, .inl rfl, HT.out [] (by simp [grpsOf]) List.Pairwise.nil, HU.out⟩
  · by_cases hks : ks = []
    · subst hks
      clear ho
      go_wp2_with fail
      go_at_call 44
      refine (sort_zero _ cap _ w1).mono ?_
      rintro _ w9 ⟨rfl, hw9⟩
      obtain rfl : w1 = w9 := hw9.symm
      go_wp2
      go_ret
      exact ⟨_, cap, [], [], rfl, .inl rfl, HT.out [] (by simp [grpsOf]) List.Pairwise.nil, HU.out⟩
    · have hlt : g < w1.heap.size := by
        rcases Nat.lt_or_ge g w1.heap.size with h' | h'
        · exact h'
        · rw [Array.getElem?_eq_none h'] at hg; cases hg
      have hoc := own_cells (n := 0) (cap := 0) (gs := grpsOf f ks) hg (by rw [hlen]; exact ht1)
      have hso := hide (sortG_calls g cap (grpsOf f ks) kf (fun b => b < B) w1 (by intro h; rw [← List.length_eq_zero_iff, hlen] at h; exact hks (List.length_eq_zero_iff.1 h)) hoc.1 (fun o _ => hoc.2 o) hlt (fun x hx => ⟨(HG.out x hx).key, by have := (HG.out x hx).key.1.1; have := (HG.out x hx).good.1; unfold maxLen; omega, good_fits (HG.out x hx).good⟩) (fun b hb' e => by omega) (by rw [hlen]; have := HKS.out.2.2; omega))
      rw [hlen] at hso
      have HGB := hide hb
      clear ho hg hc1 hm1 hs1 ht1 hoc hb
      go_wp2_with fail
      go_at_call 44
      refine hso.out.mono ?_
      rintro _ w9 ⟨rfl, gs', hp, hs, hcell, hch⟩
      have hl : gs'.length = ks.length := by rw [hp.length_eq, hlen]
      have HP := hide hp
      have HS := hide hs
      have HC := hide hcell
      have HCH := hide hch
      have HL := hide hl
      clear hp hs hcell hch hso hl
      go_wp2
      go_ret
      exact ⟨_, cap, gs', gs'.map kf, by rw [HL.out]; rfl, .inr ⟨g, rfl, HGB.out, HC.out⟩, (HT.out gs' HP.out HS.out).chg HCH.out (fun b hb' e => by have := HGB.out; omega), HU.out.thenChg HCH.out (fun x hx e => by have := HGB.out; omega)⟩

end Go.Proofs.Ytofpakpbbpcalaa

/-
  What putValue and Put of package code answer, as their text runs.
-/
import Derived.Test.YtofpakpbbpcalaaCodePut
namespace Go.Proofs.Ytofpakpbbpcalaa
open Go.ChangeShapes Go.WideShapes Go.ChangeAt Go.RowKit
attribute [local go_sem ↓] Go.wp_at_zero Go.wp_at_succ
attribute [local go_sem] run_store_float

theorem cell_of_block {w : World} {g i : Nat} {cs : Array Value} {t : TypeId} {fz : Nat × Nat} (h : w.heap[g]? = some (.cells cs t fz)) : w.cell? ⟨g, i, none⟩ = cs[i]? := by
  simp [World.cell?, h]

theorem wrap_up (n : Int) (h : IntKind.i64.min ≤ n ∧ n ≤ IntKind.i64.max) : IntKind.u64.wrap (IntKind.u64.wrap n + 9223372036854775808) = ((upI n : Nat) : Int) := by
  have h1 : IntKind.i64.min = -9223372036854775808 := by decide
  have h2 : IntKind.i64.max = 9223372036854775807 := by decide
  rw [h1, h2] at h
  rw [IntKind.wrap_u64, IntKind.wrap_u64]
  unfold upI
  omega
theorem bool_byte (n : Int) (h : n = 0 ∨ n = 1) : n % 256 = ((UInt8.ofNat n.toNat).toNat : Int) := by
  rcases h with rfl | rfl <;> rfl

set_option maxHeartbeats 4000000 in
theorem putValue_int (base : Nat) (v : Value) (l : List UInt8) (n : Int) (s : ByteArray) (f : Nat) (w : World) (hown : Own w base v l) (hb : base ≤ w.heap.size) (hlen : l.length ≤ 500000) (hn : IntKind.i64.min ≤ n ∧ n ≤ IntKind.i64.max) :
    Calls Try.prog 48 #[v, .agg #[.int .i64 1, .int .i64 n, .string s, .float .f64 f]] w fun e w' => ∃ v', e = .returned v' ∧ Own w' base v' (l ++ putV (1, n, s, f)) ∧ Below base w w' := by
  have hup := wrap_up n hn
  obtain ⟨W, hW⟩ : ∃ W, w.alloc (.cells #[.int .i64 1, .int .i64 n, .string s, .float .f64 f] 52) = W := ⟨_, rfl⟩
  have hoA : Own W base v l := by subst hW; exact hown.alloc _
  have hbA : Below base w W := by subst hW; exact (Below.refl _ _).alloc hb _
  have hcA : W.heap[w.heap.size]? = some (.cells #[.int .i64 1, .int .i64 n, .string s, .float .f64 f] 52) := by subst hW; exact heap_alloc_new _ _
  have hsA : base ≤ W.heap.size := Nat.le_trans hb hbA.size
  have c0 : W.cell? ⟨w.heap.size, 0, none⟩ = some (.int .i64 1) := cell_of_block hcA
  have HC := hide hcA
  clear hcA
  go_enter Try.func48, Try.ntmps48
  go_wp2_with (at_builtin; refine append_bytes rfl (.tmp 5) (.tmp 9) rfl base _ _ rfl (hoA.alloc _) _ 1 1 [1] rfl rfl (byte_new rfl) (by omega) (Nat.le_trans hsA (by simp)) ?_)
  intro u1 w1 ho1 hg1
  have hb1 := below_append hbA hsA hoA hg1
  have hk1 := kept_append hoA hg1 HC.out (by decide)
  have hs1 : base ≤ w1.heap.size := Nat.le_trans hb hb1.size
  have d0 : w1.cell? ⟨w.heap.size, 0, none⟩ = some (.int .i64 1) := cell_of_block hk1
  have d1 : w1.cell? ⟨w.heap.size, 1, none⟩ = some (.int .i64 n) := cell_of_block hk1
  replace hb1 := hide hb1
  have hl1 : (l ++ [1]).length + 1 ≤ 1000000 := by rw [List.length_append]; simp only [List.length_singleton]; omega
  clear hk1 hg1 hW hoA hbA hsA c0 HC hown
  go_wp2_with fail
  go_at_call 59
  refine (putWord_calls base _ _ (upI n) _ ho1 hs1 (by omega)).mono ?_
  rintro _ w2 ⟨u2, rfl, ho2, hb2⟩
  have hbw := hide (hb1.out.trans hb2)
  replace ho2 := hide ho2
  clear hb1 hb2 ho1 d0 d1
  go_wp2
  go_ret
  exact ⟨_, rfl, by simpa [putV, bodyV] using ho2.out, hbw.out⟩

set_option maxHeartbeats 4000000 in
theorem putValue_bool (base : Nat) (v : Value) (l : List UInt8) (n : Int) (s : ByteArray) (f : Nat) (w : World) (hown : Own w base v l) (hb : base ≤ w.heap.size) (hlen : l.length ≤ 500000) (hn : n = 0 ∨ n = 1) :
    Calls Try.prog 48 #[v, .agg #[.int .i64 2, .int .i64 n, .string s, .float .f64 f]] w fun e w' => ∃ v', e = .returned v' ∧ Own w' base v' (l ++ putV (2, n, s, f)) ∧ Below base w w' := by
  have hby := hide (bool_byte n hn)
  clear hn
  obtain ⟨W, hW⟩ : ∃ W, w.alloc (.cells #[.int .i64 2, .int .i64 n, .string s, .float .f64 f] 52) = W := ⟨_, rfl⟩
  have hoA : Own W base v l := by subst hW; exact hown.alloc _
  have hbA : Below base w W := by subst hW; exact (Below.refl _ _).alloc hb _
  have hcA : W.heap[w.heap.size]? = some (.cells #[.int .i64 2, .int .i64 n, .string s, .float .f64 f] 52) := by subst hW; exact heap_alloc_new _ _
  have hsA : base ≤ W.heap.size := Nat.le_trans hb hbA.size
  have c0 : W.cell? ⟨w.heap.size, 0, none⟩ = some (.int .i64 2) := cell_of_block hcA
  have HC := hide hcA
  clear hcA
  go_enter Try.func48, Try.ntmps48
  go_wp2_with (at_builtin; refine append_bytes rfl (.tmp 5) (.tmp 9) rfl base _ _ rfl (hoA.alloc _) _ 1 1 [2] rfl rfl (byte_new rfl) (by omega) (Nat.le_trans hsA (by simp)) ?_)
  intro u1 w1 ho1 hg1
  have hb1 := below_append hbA hsA hoA hg1
  have hk1 := kept_append hoA hg1 HC.out (by decide)
  have hs1 : base ≤ w1.heap.size := Nat.le_trans hb hb1.size
  have d0 : w1.cell? ⟨w.heap.size, 0, none⟩ = some (.int .i64 2) := cell_of_block hk1
  have d1 : w1.cell? ⟨w.heap.size, 1, none⟩ = some (.int .i64 n) := cell_of_block hk1
  replace hb1 := hide hb1
  have hl1 : (l ++ [2]).length + 1 ≤ 1000000 := by rw [List.length_append]; simp only [List.length_singleton]; omega
  clear hk1 hg1 hW hoA hbA hsA c0 HC hown
  go_wp2_with (at_builtin; refine append_bytes rfl (.tmp 23) (.tmp 27) rfl base _ _ rfl (ho1.alloc _) _ 1 1 [UInt8.ofNat n.toNat] rfl rfl (byte_new hby.out) (Nat.le_trans hl1 (by omega)) (Nat.le_trans hs1 (by simp)) ?_)
  intro u2 w2 ho2 hg2
  have hbw := hide (below_append hb1.out hs1 ho1 hg2)
  replace ho2 := hide ho2
  clear hb1 hg2 ho1 d0 d1
  go_wp2
  go_ret
  exact ⟨_, rfl, by simpa [putV, bodyV] using ho2.out, hbw.out⟩

set_option maxHeartbeats 4000000 in
theorem putValue_float (base : Nat) (v : Value) (l : List UInt8) (n : Int) (s : ByteArray) (f : Nat) (w : World) (hown : Own w base v l) (hb : base ≤ w.heap.size) (hlen : l.length ≤ 500000) (hf : f < whole) :
    Calls Try.prog 48 #[v, .agg #[.int .i64 5, .int .i64 n, .string s, .float .f64 f]] w fun e w' => ∃ v', e = .returned v' ∧ Own w' base v' (l ++ putV (5, n, s, f)) ∧ Below base w w' := by
  obtain ⟨W, hW⟩ : ∃ W, w.alloc (.cells #[.int .i64 5, .int .i64 n, .string s, .float .f64 f] 52) = W := ⟨_, rfl⟩
  have hoA : Own W base v l := by subst hW; exact hown.alloc _
  have hbA : Below base w W := by subst hW; exact (Below.refl _ _).alloc hb _
  have hcA : W.heap[w.heap.size]? = some (.cells #[.int .i64 5, .int .i64 n, .string s, .float .f64 f] 52) := by subst hW; exact heap_alloc_new _ _
  have hsA : base ≤ W.heap.size := Nat.le_trans hb hbA.size
  have c0 : W.cell? ⟨w.heap.size, 0, none⟩ = some (.int .i64 5) := cell_of_block hcA
  have HC := hide hcA
  clear hcA
  go_enter Try.func48, Try.ntmps48
  go_wp2_with (at_builtin; refine append_bytes rfl (.tmp 5) (.tmp 9) rfl base _ _ rfl (hoA.alloc _) _ 1 1 [5] rfl rfl (byte_new rfl) (by omega) (Nat.le_trans hsA (by simp)) ?_)
  intro u1 w1 ho1 hg1
  have hb1 := below_append hbA hsA hoA hg1
  have hk1 := kept_append hoA hg1 HC.out (by decide)
  have hs1 : base ≤ w1.heap.size := Nat.le_trans hb hb1.size
  have d0 : w1.cell? ⟨w.heap.size, 0, none⟩ = some (.int .i64 5) := cell_of_block hk1
  have d3 : w1.cell? ⟨w.heap.size, 3, none⟩ = some (.float .f64 f) := cell_of_block hk1
  replace hb1 := hide hb1
  have hl1 : (l ++ [5]).length + 1 ≤ 1000000 := by rw [List.length_append]; simp only [List.length_singleton]; omega
  clear hk1 hg1 hW hoA hbA hsA c0 HC hown
  go_wp2_with fail
  go_at_call 60
  refine (order_calls f hf _).mono ?_
  rintro _ w2 ⟨rfl, rfl⟩
  go_wp2_with fail
  go_at_call 59
  refine (putWord_calls base _ _ (ordN f) _ ho1 hs1 (by omega)).mono ?_
  rintro _ w2 ⟨u2, rfl, ho2, hb2⟩
  have hbw := hide (hb1.out.trans hb2)
  replace ho2 := hide ho2
  clear hb1 hb2 ho1 d0 d3
  go_wp2
  go_ret
  exact ⟨_, rfl, by simpa [putV, bodyV] using ho2.out, hbw.out⟩

set_option maxHeartbeats 4000000 in
theorem putValue_str3 (base : Nat) (v : Value) (l : List UInt8) (n : Int) (s : ByteArray) (f : Nat) (w : World) (hown : Own w base v l) (hb : base ≤ w.heap.size) (hlen : l.length ≤ 500000) (hs : s.size ≤ 60) :
    Calls Try.prog 48 #[v, .agg #[.int .i64 3, .int .i64 n, .string s, .float .f64 f]] w fun e w' => ∃ v', e = .returned v' ∧ Own w' base v' (l ++ putV (3, n, s, f)) ∧ Below base w w' := by
  obtain ⟨W, hW⟩ : ∃ W, w.alloc (.cells #[.int .i64 3, .int .i64 n, .string s, .float .f64 f] 52) = W := ⟨_, rfl⟩
  have hoA : Own W base v l := by subst hW; exact hown.alloc _
  have hbA : Below base w W := by subst hW; exact (Below.refl _ _).alloc hb _
  have hcA : W.heap[w.heap.size]? = some (.cells #[.int .i64 3, .int .i64 n, .string s, .float .f64 f] 52) := by subst hW; exact heap_alloc_new _ _
  have hsA : base ≤ W.heap.size := Nat.le_trans hb hbA.size
  have c0 : W.cell? ⟨w.heap.size, 0, none⟩ = some (.int .i64 3) := cell_of_block hcA
  have HC := hide hcA
  clear hcA
  go_enter Try.func48, Try.ntmps48
  go_wp2_with (at_builtin; refine append_bytes rfl (.tmp 5) (.tmp 9) rfl base _ _ rfl (hoA.alloc _) _ 1 1 [3] rfl rfl (byte_new rfl) (by omega) (Nat.le_trans hsA (by simp)) ?_)
  intro u1 w1 ho1 hg1
  have hb1 := below_append hbA hsA hoA hg1
  have hk1 := kept_append hoA hg1 HC.out (by decide)
  have hs1 : base ≤ w1.heap.size := Nat.le_trans hb hb1.size
  have d0 : w1.cell? ⟨w.heap.size, 0, none⟩ = some (.int .i64 3) := cell_of_block hk1
  have d2 : w1.cell? ⟨w.heap.size, 2, none⟩ = some (.string s) := cell_of_block hk1
  replace hb1 := hide hb1
  have hl1 : (l ++ [3]).length + 1 ≤ 1000000 := by rw [List.length_append]; simp only [List.length_singleton]; omega
  clear hk1 hg1 hW hoA hbA hsA c0 HC hown
  go_wp2_with fail
  go_at_call 61
  refine (putString_calls base _ _ s (by omega) _ ho1 hs1 (by omega)).mono ?_
  rintro _ w2 ⟨u2, rfl, ho2, hb2⟩
  have hbw := hide (hb1.out.trans hb2)
  replace ho2 := hide ho2
  clear hb1 hb2 ho1 d0 d2
  go_wp2
  go_ret
  exact ⟨_, rfl, by simpa [putV, bodyV] using ho2.out, hbw.out⟩

set_option maxHeartbeats 4000000 in
theorem putValue_str4 (base : Nat) (v : Value) (l : List UInt8) (n : Int) (s : ByteArray) (f : Nat) (w : World) (hown : Own w base v l) (hb : base ≤ w.heap.size) (hlen : l.length ≤ 500000) (hs : s.size ≤ 60) :
    Calls Try.prog 48 #[v, .agg #[.int .i64 4, .int .i64 n, .string s, .float .f64 f]] w fun e w' => ∃ v', e = .returned v' ∧ Own w' base v' (l ++ putV (4, n, s, f)) ∧ Below base w w' := by
  obtain ⟨W, hW⟩ : ∃ W, w.alloc (.cells #[.int .i64 4, .int .i64 n, .string s, .float .f64 f] 52) = W := ⟨_, rfl⟩
  have hoA : Own W base v l := by subst hW; exact hown.alloc _
  have hbA : Below base w W := by subst hW; exact (Below.refl _ _).alloc hb _
  have hcA : W.heap[w.heap.size]? = some (.cells #[.int .i64 4, .int .i64 n, .string s, .float .f64 f] 52) := by subst hW; exact heap_alloc_new _ _
  have hsA : base ≤ W.heap.size := Nat.le_trans hb hbA.size
  have c0 : W.cell? ⟨w.heap.size, 0, none⟩ = some (.int .i64 4) := cell_of_block hcA
  have HC := hide hcA
  clear hcA
  go_enter Try.func48, Try.ntmps48
  go_wp2_with (at_builtin; refine append_bytes rfl (.tmp 5) (.tmp 9) rfl base _ _ rfl (hoA.alloc _) _ 1 1 [4] rfl rfl (byte_new rfl) (by omega) (Nat.le_trans hsA (by simp)) ?_)
  intro u1 w1 ho1 hg1
  have hb1 := below_append hbA hsA hoA hg1
  have hk1 := kept_append hoA hg1 HC.out (by decide)
  have hs1 : base ≤ w1.heap.size := Nat.le_trans hb hb1.size
  have d0 : w1.cell? ⟨w.heap.size, 0, none⟩ = some (.int .i64 4) := cell_of_block hk1
  have d2 : w1.cell? ⟨w.heap.size, 2, none⟩ = some (.string s) := cell_of_block hk1
  replace hb1 := hide hb1
  have hl1 : (l ++ [4]).length + 1 ≤ 1000000 := by rw [List.length_append]; simp only [List.length_singleton]; omega
  clear hk1 hg1 hW hoA hbA hsA c0 HC hown
  go_wp2_with fail
  go_at_call 61
  refine (putString_calls base _ _ s (by omega) _ ho1 hs1 (by omega)).mono ?_
  rintro _ w2 ⟨u2, rfl, ho2, hb2⟩
  have hbw := hide (hb1.out.trans hb2)
  replace ho2 := hide ho2
  clear hb1 hb2 ho1 d0 d2
  go_wp2
  go_ret
  exact ⟨_, rfl, by simpa [putV, bodyV] using ho2.out, hbw.out⟩

/-- What a value's fields keep. -/
theorem isB_cases {k n : Int} {s : ByteArray} {f : Nat} (h : isB (k, n, s, f) = true) :
    (k = 1 ∧ s.toList.isEmpty = true ∧ f = 0) ∨ (k = 2 ∧ (n = 0 ∨ n = 1) ∧ s.toList.isEmpty = true ∧ f = 0) ∨ ((k = 3 ∨ k = 4) ∧ n = 0 ∧ s.size ≤ 60 ∧ f = 0) ∨ (k = 5 ∧ n = 0 ∧ s.toList.isEmpty = true) := by
  unfold isB at h
  simp only at h
  by_cases h1 : k = 1
  · rw [if_pos h1] at h
    simp at h
    exact .inl ⟨h1, by simpa using h.1, h.2⟩
  · rw [if_neg h1] at h
    by_cases h2 : k = 2
    · rw [if_pos h2] at h
      simp at h
      exact .inr (.inl ⟨h2, h.1.1, by simpa using h.1.2, h.2⟩)
    · rw [if_neg h2] at h
      by_cases h3 : k = 3 ∨ k = 4
      · rw [if_pos h3] at h
        simp at h
        exact .inr (.inr (.inl ⟨h3, h.1.1, by omega, h.2⟩))
      · rw [if_neg h3] at h
        by_cases h5 : k = 5
        · rw [if_pos h5] at h
          simp at h
          exact .inr (.inr (.inr ⟨h5, h.1, by simpa using h.2⟩))
        · rw [if_neg h5] at h
          cases h

theorem putValue_calls (base : Nat) (v : Value) (l : List UInt8) (k n : Int) (s : ByteArray) (f : Nat) (w : World) (hown : Own w base v l) (hb : base ≤ w.heap.size) (hlen : l.length ≤ 500000) (hv : isB (k, n, s, f) = true) (hf : Fits (k, n, s, f)) :
    Calls Try.prog 48 #[v, .agg #[.int .i64 k, .int .i64 n, .string s, .float .f64 f]] w fun e w' => ∃ v', e = .returned v' ∧ Own w' base v' (l ++ putV (k, n, s, f)) ∧ Below base w w' := by
  rcases isB_cases hv with ⟨rfl, _⟩ | ⟨rfl, hn, _⟩ | ⟨rfl | rfl, _, hs, _⟩ | ⟨rfl, _⟩
  · exact putValue_int base v l n s f w hown hb hlen ⟨hf.2.2.1, hf.2.2.2.1⟩
  · exact putValue_bool base v l n s f w hown hb hlen hn
  · exact putValue_str3 base v l n s f w hown hb hlen hs
  · exact putValue_str4 base v l n s f w hown hb hlen hs
  · exact putValue_float base v l n s f w hown hb hlen hf.2.2.2.2.2

end Go.Proofs.Ytofpakpbbpcalaa

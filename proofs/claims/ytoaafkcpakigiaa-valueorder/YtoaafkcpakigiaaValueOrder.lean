/-
  For every three values, and whatever is none, the law ValueOrder returns true: comparing is an order, and what is the same has one hash; no condition.
-/
import Derived.Test.YtoaafkcpakigiaaRows
import Derived.WalkKit
import Derived.ProofKit
import Derived.OpenShut
import Derived.ShutString
import Derived.ChangeOld
import Derived.Below
import Derived.Carry
import Derived.Test.YtoaafkcpakigiaaValHelp
import Derived.Test.YtoaafkcpakigiaaOpens
import Derived.Test.YtoaafkcpakigiaaNewVals
import Derived.Test.YtoaafkcpakigiaaValRows
import Derived.Test.YtoaafkcpakigiaaValHash
namespace Go.Proofs.Ytoaafkcpakigiaa
open Go.ChangeShapes Go.WideShapes Go.ChangeAt Go.RowKit
open Go.ChangeMaps (open_string shut_string)
set_option linter.unusedVariables false
attribute [local go_sem ↓] Go.wp_at_zero Go.wp_at_succ
attribute [local go_sem] run_store_float

theorem up_new {w : World} {o : Obj} {p : Addr} {v : Value} (h : w.cell? p = some v) : (w.alloc o).cell? p = some v := ((Up.refl w).alloc o).cell h
theorem rows_text (a b : VT) : rowsV [a] [a, b] = -1 := by
  rw [rowsV, if_pos (cmpV_self a)]
  rfl
theorem rows_pair (a b c : VT) (x : Int) (h : cmpV a b = x) : rowsV [a, c] [b, c] = x := by
  rw [rowsV]
  by_cases h0 : cmpV a b = 0
  · rw [if_pos h0, rowsV, if_pos (cmpV_self c), ← h, h0]
    rfl
  · rw [if_neg h0, h]

set_option maxHeartbeats 16000000 in
theorem valueOrder_neg (k0 n0 : Int) (s0 : ByteArray) (f0 : Nat) (k1 n1 : Int) (s1 : ByteArray) (f1 : Nat) (k2 n2 : Int) (s2 : ByteArray) (f2 : Nat) (w : World) (g0 : Fits (k0, n0, s0, f0)) (g1 : Fits (k1, n1, s1, f1)) (g2 : Fits (k2, n2, s2, f2)) (hab : cmpV (k0, n0, s0, f0) (k1, n1, s1, f1) = -1) :
    Calls Try.prog 4 #[.agg #[.int .i64 k0, .int .i64 n0, .string s0, .float .f64 f0], .agg #[.int .i64 k1, .int .i64 n1, .string s1, .float .f64 f1], .agg #[.int .i64 k2, .int .i64 n2, .string s2, .float .f64 f2]] w fun e w' => e = .returned (.bool true) ∧ Up w w' := by
  have hf0 := g0.2.2.2.2.2
  have hf1 := g1.2.2.2.2.2
  have hf2 := g2.2.2.2.2.2
  simp only at hf0 hf1 hf2
  have hba : cmpV (k1, n1, s1, f1) (k0, n0, s0, f0) = 1 := by rw [cmpV_turn, hab] <;> rfl
  have haa : cmpV (k0, n0, s0, f0) (k0, n0, s0, f0) = 0 := cmpV_self _
  have hle : cmpV (k1, n1, s1, f1) (k2, n2, s2, f2) ≤ 0 → cmpV (k0, n0, s0, f0) (k2, n2, s2, f2) ≤ 0 := fun h => cmpV_le g0 g1 g2 (by rw [hab]; decide) h
  have hr1 : rowsV [(k0, n0, s0, f0), (k2, n2, s2, f2)] [(k1, n1, s1, f1), (k2, n2, s2, f2)] = -1 := rows_pair _ _ _ _ hab
  have hr2 : rowsV [(k0, n0, s0, f0)] [(k0, n0, s0, f0), (k2, n2, s2, f2)] = -1 := rows_text _ _
  have G0 := hide g0
  have G1 := hide g1
  have G2 := hide g2
  clear g0 g1 g2
  go_enter Try.func4, Try.ntmps4
  go_wp2_with fail
  go_at_call 9
  refine (known_calls _).mono ?_
  rintro _ w1 ⟨rfl, hu1⟩
  have l0 : w1.cell? ⟨w.heap.size, 0, none⟩ = some (.int .i64 k0) := hu1.cell (by go_simp)
  have l1 : w1.cell? ⟨w.heap.size, 1, none⟩ = some (.int .i64 n0) := hu1.cell (by go_simp)
  have l2 : w1.cell? ⟨w.heap.size, 2, none⟩ = some (.string s0) := hu1.cell (by go_simp)
  have l3 : w1.cell? ⟨w.heap.size, 3, none⟩ = some (.float .f64 f0) := hu1.cell (by go_simp)
  have r0 : w1.cell? ⟨w.heap.size + 1, 0, none⟩ = some (.int .i64 k1) := hu1.cell (by go_simp)
  have r1 : w1.cell? ⟨w.heap.size + 1, 1, none⟩ = some (.int .i64 n1) := hu1.cell (by go_simp)
  have r2 : w1.cell? ⟨w.heap.size + 1, 2, none⟩ = some (.string s1) := hu1.cell (by go_simp)
  have r3 : w1.cell? ⟨w.heap.size + 1, 3, none⟩ = some (.float .f64 f1) := hu1.cell (by go_simp)
  have t0 : w1.cell? ⟨w.heap.size + 2, 0, none⟩ = some (.int .i64 k2) := hu1.cell (by go_simp)
  have t1 : w1.cell? ⟨w.heap.size + 2, 1, none⟩ = some (.int .i64 n2) := hu1.cell (by go_simp)
  have t2 : w1.cell? ⟨w.heap.size + 2, 2, none⟩ = some (.string s2) := hu1.cell (by go_simp)
  have t3 : w1.cell? ⟨w.heap.size + 2, 3, none⟩ = some (.float .f64 f2) := hu1.cell (by go_simp)
  have hu : Hid (Up w w1) := ((((Up.refl _).alloc _).alloc _).alloc _).trans hu1
  have q2 : w.heap.size + 2 < w1.heap.size := by have := hu1.size; simp at this; omega
  have q1 : w.heap.size + 1 < w1.heap.size := by omega
  have q0 : w.heap.size < w1.heap.size := by omega
  clear hu1
  go_wp2_with fail
  go_at_call 10
  refine (few_calls _ _ _ _ _ _ (by decide) (vals_new3 _ _ _ _ _ _ _ _ _ _ _ _ _ _ G0.out G1.out G2.out)).mono ?_
  rintro _ w2 ⟨rfl, hw2⟩
  have hv : Up w1 w2 := hw2 ▸ (Up.refl _).alloc _
  replace hu : Hid (Up w w2) := hu.out.trans hv
  replace l0 := hv.cell l0
  replace l1 := hv.cell l1
  replace l2 := hv.cell l2
  replace l3 := hv.cell l3
  replace r0 := hv.cell r0
  replace r1 := hv.cell r1
  replace r2 := hv.cell r2
  replace r3 := hv.cell r3
  replace t0 := hv.cell t0
  replace t1 := hv.cell t1
  replace t2 := hv.cell t2
  replace t3 := hv.cell t3
  replace q2 : w.heap.size + 2 < w2.heap.size := Nat.lt_of_lt_of_le q2 hv.size
  clear hw2 hv q1 q0
  cases hfew : fewB [(k0, n0, s0, f0), (k1, n1, s1, f1), (k2, n2, s2, f2)] 3
  · go_wp2
    go_ret
    exact ⟨rfl, hu.out⟩
  · go_wp2_with fail
    go_at_call 15
    refine (vcompare_calls _ _ _ _ _ _ _ _ (by with_reducible assumption) (by with_reducible assumption) _).mono ?_
    rintro _ w3 ⟨rfl, hu3⟩
    replace hu : Hid (Up w w3) := hu.out.trans hu3
    replace l0 := hu3.cell l0
    replace l1 := hu3.cell l1
    replace l2 := hu3.cell l2
    replace l3 := hu3.cell l3
    replace r0 := hu3.cell r0
    replace r1 := hu3.cell r1
    replace r2 := hu3.cell r2
    replace r3 := hu3.cell r3
    replace t0 := hu3.cell t0
    replace t1 := hu3.cell t1
    replace t2 := hu3.cell t2
    replace t3 := hu3.cell t3
    replace q2 : w.heap.size + 2 < w3.heap.size := Nat.lt_of_lt_of_le q2 hu3.size
    clear hu3
    obtain ⟨Y, hY⟩ : ∃ Y, cmpV (k1, n1, s1, f1) (k2, n2, s2, f2) = Y := ⟨_, rfl⟩
    obtain ⟨Z, hZ⟩ : ∃ Z, cmpV (k0, n0, s0, f0) (k2, n2, s2, f2) = Z := ⟨_, rfl⟩
    rw [hY, hZ] at hle
    by_cases hy : Y ≤ 0
    · have hz : ¬ 0 < Z := by have := hle hy; omega
      clear hle
      go_wp2_with (go_at_call 15; refine (vcompare_calls _ _ _ _ _ _ _ _ (by with_reducible assumption) (by with_reducible assumption) _).mono ?_; rintro _ w4 ⟨rfl, hu4⟩; replace hu := hide (hu.out.trans hu4); replace l0 := hu4.cell l0 ; replace l1 := hu4.cell l1 ; replace l2 := hu4.cell l2 ; replace l3 := hu4.cell l3 ; replace r0 := hu4.cell r0 ; replace r1 := hu4.cell r1 ; replace r2 := hu4.cell r2 ; replace r3 := hu4.cell r3 ; replace t0 := hu4.cell t0 ; replace t1 := hu4.cell t1 ; replace t2 := hu4.cell t2 ; replace t3 := hu4.cell t3; replace q2 := Nat.lt_of_lt_of_le q2 hu4.size; clear hu4)
      go_region_held3 (fun w' => w'.cell? ⟨w.heap.size, 0, none⟩ = some (.int .i64 k0) ∧ w'.cell? ⟨w.heap.size, 1, none⟩ = some (.int .i64 n0) ∧ w'.cell? ⟨w.heap.size, 2, none⟩ = some (.string s0) ∧ w'.cell? ⟨w.heap.size, 3, none⟩ = some (.float .f64 f0) ∧ w'.cell? ⟨w.heap.size + 1, 0, none⟩ = some (.int .i64 k1) ∧ w'.cell? ⟨w.heap.size + 1, 1, none⟩ = some (.int .i64 n1) ∧ w'.cell? ⟨w.heap.size + 1, 2, none⟩ = some (.string s1) ∧ w'.cell? ⟨w.heap.size + 1, 3, none⟩ = some (.float .f64 f1) ∧ w'.cell? ⟨w.heap.size + 2, 0, none⟩ = some (.int .i64 k2) ∧ w'.cell? ⟨w.heap.size + 2, 1, none⟩ = some (.int .i64 n2) ∧ w'.cell? ⟨w.heap.size + 2, 2, none⟩ = some (.string s2) ∧ w'.cell? ⟨w.heap.size + 2, 3, none⟩ = some (.float .f64 f2))
        (first
          | go_keep
          | (go_split_ands; refine ⟨up_new ?_, up_new ?_, up_new ?_, up_new ?_, up_new ?_, up_new ?_, up_new ?_, up_new ?_, up_new ?_, up_new ?_, up_new ?_, up_new ?_⟩ <;> assumption)) (fail)
      · obtain ⟨V1, V2, hv⟩ := two_new w4 k0 n0 k2 n2 s0 s2 f0 f2 G0.out G2.out k1 n1 k2 n2 s1 s2 f1 f2 G1.out G2.out 24
        generalize ((w4.alloc (.cells #[.int .i64 k0, .int .i64 n0, .string s0, .float .f64 f0, .int .i64 k2, .int .i64 n2, .string s2, .float .f64 f2] 24)).alloc (.cells #[.int .i64 k1, .int .i64 n1, .string s1, .float .f64 f1, .int .i64 k2, .int .i64 n2, .string s2, .float .f64 f2] 24)).drew = W5 at V1 V2 hv ⊢
        replace hu := hide (hu.out.trans hv)
        replace l0 := hv.cell l0
        replace l1 := hv.cell l1
        replace l2 := hv.cell l2
        replace l3 := hv.cell l3
        replace r0 := hv.cell r0
        replace r1 := hv.cell r1
        replace r2 := hv.cell r2
        replace r3 := hv.cell r3
        replace t0 := hv.cell t0
        replace t1 := hv.cell t1
        replace t2 := hv.cell t2
        replace t3 := hv.cell t3
        have V3 : Hid (Vals W5 (some ⟨w4.heap.size, 0, none⟩) 1 [(k0, n0, s0, f0)]) := V1.take 1 (by decide)
        replace V1 := hide V1
        replace V2 := hide V2
        clear hv q2
        go_wp2_with fail
        go_at_call 17
        refine (vsame_calls _ _ _ _ _ _ _ _ (by with_reducible assumption) (by with_reducible assumption) _).mono ?_
        rintro _ w5 ⟨rfl, hu5⟩
        replace hu := hide (hu.out.trans hu5)
        replace V1 := hide (V1.out.up hu5)
        replace V2 := hide (V2.out.up hu5)
        replace V3 := hide (V3.out.up hu5)
        clear hu5
        clear l0 l1 l2 l3 r0 r1 r2 r3 t0 t1 t2 t3
        go_wp2_with fail
        go_at_call 19
        refine (vrows_calls _ _ _ _ _ _ _ _ _ (by decide) (by decide) V1.out V2.out).mono ?_
        rintro _ w6 ⟨rfl, hu6⟩
        replace hu := hide (hu.out.trans hu6)
        replace V1 := hide (V1.out.up hu6)
        replace V2 := hide (V2.out.up hu6)
        replace V3 := hide (V3.out.up hu6)
        clear hu6
        go_wp2_with fail
        go_at_call 19
        refine (vrows_calls _ _ _ _ _ _ _ _ _ (by decide) (by decide) V3.out V1.out).mono ?_
        rintro _ w9 ⟨rfl, hu9⟩
        replace hu := hide (hu.out.trans hu9)
        clear hu9 V1 V2 V3
        go_wp2
        go_ret
        exact ⟨rfl, hu.out⟩
      · obtain ⟨V1, V2, hv⟩ := two_new w4 k1 n1 k2 n2 s1 s2 f1 f2 G1.out G2.out k0 n0 k2 n2 s0 s2 f0 f2 G0.out G2.out 24
        generalize ((w4.alloc (.cells #[.int .i64 k1, .int .i64 n1, .string s1, .float .f64 f1, .int .i64 k2, .int .i64 n2, .string s2, .float .f64 f2] 24)).alloc (.cells #[.int .i64 k0, .int .i64 n0, .string s0, .float .f64 f0, .int .i64 k2, .int .i64 n2, .string s2, .float .f64 f2] 24)).drew = W5 at V1 V2 hv ⊢
        replace hu := hide (hu.out.trans hv)
        replace l0 := hv.cell l0
        replace l1 := hv.cell l1
        replace l2 := hv.cell l2
        replace l3 := hv.cell l3
        replace r0 := hv.cell r0
        replace r1 := hv.cell r1
        replace r2 := hv.cell r2
        replace r3 := hv.cell r3
        replace t0 := hv.cell t0
        replace t1 := hv.cell t1
        replace t2 := hv.cell t2
        replace t3 := hv.cell t3
        have V3 : Hid (Vals W5 (some ⟨w4.heap.size + 1, 0, none⟩) 1 [(k0, n0, s0, f0)]) := V2.take 1 (by decide)
        replace V1 := hide V1
        replace V2 := hide V2
        clear hv q2
        go_wp2_with fail
        go_at_call 17
        refine (vsame_calls _ _ _ _ _ _ _ _ (by with_reducible assumption) (by with_reducible assumption) _).mono ?_
        rintro _ w5 ⟨rfl, hu5⟩
        replace hu := hide (hu.out.trans hu5)
        replace V1 := hide (V1.out.up hu5)
        replace V2 := hide (V2.out.up hu5)
        replace V3 := hide (V3.out.up hu5)
        clear hu5
        clear l0 l1 l2 l3 r0 r1 r2 r3 t0 t1 t2 t3
        go_wp2_with fail
        go_at_call 19
        refine (vrows_calls _ _ _ _ _ _ _ _ _ (by decide) (by decide) V2.out V1.out).mono ?_
        rintro _ w6 ⟨rfl, hu6⟩
        replace hu := hide (hu.out.trans hu6)
        replace V1 := hide (V1.out.up hu6)
        replace V2 := hide (V2.out.up hu6)
        replace V3 := hide (V3.out.up hu6)
        clear hu6
        go_wp2_with fail
        go_at_call 19
        refine (vrows_calls _ _ _ _ _ _ _ _ _ (by decide) (by decide) V3.out V2.out).mono ?_
        rintro _ w9 ⟨rfl, hu9⟩
        replace hu := hide (hu.out.trans hu9)
        clear hu9 V1 V2 V3
        go_wp2
        go_ret
        exact ⟨rfl, hu.out⟩
    · clear hle
      go_wp2_with (go_at_call 15; refine (vcompare_calls _ _ _ _ _ _ _ _ (by with_reducible assumption) (by with_reducible assumption) _).mono ?_; rintro _ w4 ⟨rfl, hu4⟩; replace hu := hide (hu.out.trans hu4); replace l0 := hu4.cell l0 ; replace l1 := hu4.cell l1 ; replace l2 := hu4.cell l2 ; replace l3 := hu4.cell l3 ; replace r0 := hu4.cell r0 ; replace r1 := hu4.cell r1 ; replace r2 := hu4.cell r2 ; replace r3 := hu4.cell r3 ; replace t0 := hu4.cell t0 ; replace t1 := hu4.cell t1 ; replace t2 := hu4.cell t2 ; replace t3 := hu4.cell t3; replace q2 := Nat.lt_of_lt_of_le q2 hu4.size; clear hu4)
      go_region_held3 (fun w' => w'.cell? ⟨w.heap.size, 0, none⟩ = some (.int .i64 k0) ∧ w'.cell? ⟨w.heap.size, 1, none⟩ = some (.int .i64 n0) ∧ w'.cell? ⟨w.heap.size, 2, none⟩ = some (.string s0) ∧ w'.cell? ⟨w.heap.size, 3, none⟩ = some (.float .f64 f0) ∧ w'.cell? ⟨w.heap.size + 1, 0, none⟩ = some (.int .i64 k1) ∧ w'.cell? ⟨w.heap.size + 1, 1, none⟩ = some (.int .i64 n1) ∧ w'.cell? ⟨w.heap.size + 1, 2, none⟩ = some (.string s1) ∧ w'.cell? ⟨w.heap.size + 1, 3, none⟩ = some (.float .f64 f1) ∧ w'.cell? ⟨w.heap.size + 2, 0, none⟩ = some (.int .i64 k2) ∧ w'.cell? ⟨w.heap.size + 2, 1, none⟩ = some (.int .i64 n2) ∧ w'.cell? ⟨w.heap.size + 2, 2, none⟩ = some (.string s2) ∧ w'.cell? ⟨w.heap.size + 2, 3, none⟩ = some (.float .f64 f2))
        (first
          | go_keep
          | (go_split_ands; refine ⟨up_new ?_, up_new ?_, up_new ?_, up_new ?_, up_new ?_, up_new ?_, up_new ?_, up_new ?_, up_new ?_, up_new ?_, up_new ?_, up_new ?_⟩ <;> assumption)) (fail)
      · obtain ⟨V1, V2, hv⟩ := two_new w4 k0 n0 k2 n2 s0 s2 f0 f2 G0.out G2.out k1 n1 k2 n2 s1 s2 f1 f2 G1.out G2.out 24
        generalize ((w4.alloc (.cells #[.int .i64 k0, .int .i64 n0, .string s0, .float .f64 f0, .int .i64 k2, .int .i64 n2, .string s2, .float .f64 f2] 24)).alloc (.cells #[.int .i64 k1, .int .i64 n1, .string s1, .float .f64 f1, .int .i64 k2, .int .i64 n2, .string s2, .float .f64 f2] 24)).drew = W5 at V1 V2 hv ⊢
        replace hu := hide (hu.out.trans hv)
        replace l0 := hv.cell l0
        replace l1 := hv.cell l1
        replace l2 := hv.cell l2
        replace l3 := hv.cell l3
        replace r0 := hv.cell r0
        replace r1 := hv.cell r1
        replace r2 := hv.cell r2
        replace r3 := hv.cell r3
        replace t0 := hv.cell t0
        replace t1 := hv.cell t1
        replace t2 := hv.cell t2
        replace t3 := hv.cell t3
        have V3 : Hid (Vals W5 (some ⟨w4.heap.size, 0, none⟩) 1 [(k0, n0, s0, f0)]) := V1.take 1 (by decide)
        replace V1 := hide V1
        replace V2 := hide V2
        clear hv q2
        go_wp2_with fail
        go_at_call 17
        refine (vsame_calls _ _ _ _ _ _ _ _ (by with_reducible assumption) (by with_reducible assumption) _).mono ?_
        rintro _ w5 ⟨rfl, hu5⟩
        replace hu := hide (hu.out.trans hu5)
        replace V1 := hide (V1.out.up hu5)
        replace V2 := hide (V2.out.up hu5)
        replace V3 := hide (V3.out.up hu5)
        clear hu5
        clear l0 l1 l2 l3 r0 r1 r2 r3 t0 t1 t2 t3
        go_wp2_with fail
        go_at_call 19
        refine (vrows_calls _ _ _ _ _ _ _ _ _ (by decide) (by decide) V1.out V2.out).mono ?_
        rintro _ w6 ⟨rfl, hu6⟩
        replace hu := hide (hu.out.trans hu6)
        replace V1 := hide (V1.out.up hu6)
        replace V2 := hide (V2.out.up hu6)
        replace V3 := hide (V3.out.up hu6)
        clear hu6
        go_wp2_with fail
        go_at_call 19
        refine (vrows_calls _ _ _ _ _ _ _ _ _ (by decide) (by decide) V3.out V1.out).mono ?_
        rintro _ w9 ⟨rfl, hu9⟩
        replace hu := hide (hu.out.trans hu9)
        clear hu9 V1 V2 V3
        go_wp2
        go_ret
        exact ⟨rfl, hu.out⟩
      · obtain ⟨V1, V2, hv⟩ := two_new w4 k1 n1 k2 n2 s1 s2 f1 f2 G1.out G2.out k0 n0 k2 n2 s0 s2 f0 f2 G0.out G2.out 24
        generalize ((w4.alloc (.cells #[.int .i64 k1, .int .i64 n1, .string s1, .float .f64 f1, .int .i64 k2, .int .i64 n2, .string s2, .float .f64 f2] 24)).alloc (.cells #[.int .i64 k0, .int .i64 n0, .string s0, .float .f64 f0, .int .i64 k2, .int .i64 n2, .string s2, .float .f64 f2] 24)).drew = W5 at V1 V2 hv ⊢
        replace hu := hide (hu.out.trans hv)
        replace l0 := hv.cell l0
        replace l1 := hv.cell l1
        replace l2 := hv.cell l2
        replace l3 := hv.cell l3
        replace r0 := hv.cell r0
        replace r1 := hv.cell r1
        replace r2 := hv.cell r2
        replace r3 := hv.cell r3
        replace t0 := hv.cell t0
        replace t1 := hv.cell t1
        replace t2 := hv.cell t2
        replace t3 := hv.cell t3
        have V3 : Hid (Vals W5 (some ⟨w4.heap.size + 1, 0, none⟩) 1 [(k0, n0, s0, f0)]) := V2.take 1 (by decide)
        replace V1 := hide V1
        replace V2 := hide V2
        clear hv q2
        go_wp2_with fail
        go_at_call 17
        refine (vsame_calls _ _ _ _ _ _ _ _ (by with_reducible assumption) (by with_reducible assumption) _).mono ?_
        rintro _ w5 ⟨rfl, hu5⟩
        replace hu := hide (hu.out.trans hu5)
        replace V1 := hide (V1.out.up hu5)
        replace V2 := hide (V2.out.up hu5)
        replace V3 := hide (V3.out.up hu5)
        clear hu5
        clear l0 l1 l2 l3 r0 r1 r2 r3 t0 t1 t2 t3
        go_wp2_with fail
        go_at_call 19
        refine (vrows_calls _ _ _ _ _ _ _ _ _ (by decide) (by decide) V2.out V1.out).mono ?_
        rintro _ w6 ⟨rfl, hu6⟩
        replace hu := hide (hu.out.trans hu6)
        replace V1 := hide (V1.out.up hu6)
        replace V2 := hide (V2.out.up hu6)
        replace V3 := hide (V3.out.up hu6)
        clear hu6
        go_wp2_with fail
        go_at_call 19
        refine (vrows_calls _ _ _ _ _ _ _ _ _ (by decide) (by decide) V3.out V2.out).mono ?_
        rintro _ w9 ⟨rfl, hu9⟩
        replace hu := hide (hu.out.trans hu9)
        clear hu9 V1 V2 V3
        go_wp2
        go_ret
        exact ⟨rfl, hu.out⟩

set_option maxHeartbeats 16000000 in
theorem valueOrder_zero (k0 n0 : Int) (s0 : ByteArray) (f0 : Nat) (k2 n2 : Int) (s2 : ByteArray) (f2 : Nat) (w : World) (g0 : Fits (k0, n0, s0, f0)) (g2 : Fits (k2, n2, s2, f2)) :
    Calls Try.prog 4 #[.agg #[.int .i64 k0, .int .i64 n0, .string s0, .float .f64 f0], .agg #[.int .i64 k0, .int .i64 n0, .string s0, .float .f64 f0], .agg #[.int .i64 k2, .int .i64 n2, .string s2, .float .f64 f2]] w fun e w' => e = .returned (.bool true) ∧ Up w w' := by
  have hf0 := g0.2.2.2.2.2
  have hf2 := g2.2.2.2.2.2
  simp only at hf0 hf2
  have hab : cmpV (k0, n0, s0, f0) (k0, n0, s0, f0) = 0 := cmpV_self _
  have hle : cmpV (k0, n0, s0, f0) (k2, n2, s2, f2) ≤ 0 → cmpV (k0, n0, s0, f0) (k2, n2, s2, f2) ≤ 0 := fun h => cmpV_le g0 g0 g2 (by rw [hab]; decide) h
  have hr1 : rowsV [(k0, n0, s0, f0), (k2, n2, s2, f2)] [(k0, n0, s0, f0), (k2, n2, s2, f2)] = 0 := rows_pair _ _ _ _ hab
  have hr2 : rowsV [(k0, n0, s0, f0)] [(k0, n0, s0, f0), (k2, n2, s2, f2)] = -1 := rows_text _ _
  have G0 := hide g0
  have G2 := hide g2
  clear g0 g2
  go_enter Try.func4, Try.ntmps4
  go_wp2_with fail
  go_at_call 9
  refine (known_calls _).mono ?_
  rintro _ w1 ⟨rfl, hu1⟩
  have l0 : w1.cell? ⟨w.heap.size, 0, none⟩ = some (.int .i64 k0) := hu1.cell (by go_simp)
  have l1 : w1.cell? ⟨w.heap.size, 1, none⟩ = some (.int .i64 n0) := hu1.cell (by go_simp)
  have l2 : w1.cell? ⟨w.heap.size, 2, none⟩ = some (.string s0) := hu1.cell (by go_simp)
  have l3 : w1.cell? ⟨w.heap.size, 3, none⟩ = some (.float .f64 f0) := hu1.cell (by go_simp)
  have r0 : w1.cell? ⟨w.heap.size + 1, 0, none⟩ = some (.int .i64 k0) := hu1.cell (by go_simp)
  have r1 : w1.cell? ⟨w.heap.size + 1, 1, none⟩ = some (.int .i64 n0) := hu1.cell (by go_simp)
  have r2 : w1.cell? ⟨w.heap.size + 1, 2, none⟩ = some (.string s0) := hu1.cell (by go_simp)
  have r3 : w1.cell? ⟨w.heap.size + 1, 3, none⟩ = some (.float .f64 f0) := hu1.cell (by go_simp)
  have t0 : w1.cell? ⟨w.heap.size + 2, 0, none⟩ = some (.int .i64 k2) := hu1.cell (by go_simp)
  have t1 : w1.cell? ⟨w.heap.size + 2, 1, none⟩ = some (.int .i64 n2) := hu1.cell (by go_simp)
  have t2 : w1.cell? ⟨w.heap.size + 2, 2, none⟩ = some (.string s2) := hu1.cell (by go_simp)
  have t3 : w1.cell? ⟨w.heap.size + 2, 3, none⟩ = some (.float .f64 f2) := hu1.cell (by go_simp)
  have hu : Hid (Up w w1) := ((((Up.refl _).alloc _).alloc _).alloc _).trans hu1
  have q2 : w.heap.size + 2 < w1.heap.size := by have := hu1.size; simp at this; omega
  have q1 : w.heap.size + 1 < w1.heap.size := by omega
  have q0 : w.heap.size < w1.heap.size := by omega
  clear hu1
  go_wp2_with fail
  go_at_call 10
  refine (few_calls _ _ _ _ _ _ (by decide) (vals_new3 _ _ _ _ _ _ _ _ _ _ _ _ _ _ G0.out G0.out G2.out)).mono ?_
  rintro _ w2 ⟨rfl, hw2⟩
  have hv : Up w1 w2 := hw2 ▸ (Up.refl _).alloc _
  replace hu : Hid (Up w w2) := hu.out.trans hv
  replace l0 := hv.cell l0
  replace l1 := hv.cell l1
  replace l2 := hv.cell l2
  replace l3 := hv.cell l3
  replace r0 := hv.cell r0
  replace r1 := hv.cell r1
  replace r2 := hv.cell r2
  replace r3 := hv.cell r3
  replace t0 := hv.cell t0
  replace t1 := hv.cell t1
  replace t2 := hv.cell t2
  replace t3 := hv.cell t3
  replace q2 : w.heap.size + 2 < w2.heap.size := Nat.lt_of_lt_of_le q2 hv.size
  clear hw2 hv q1 q0
  cases hfew : fewB [(k0, n0, s0, f0), (k0, n0, s0, f0), (k2, n2, s2, f2)] 3
  · go_wp2
    go_ret
    exact ⟨rfl, hu.out⟩
  · go_wp2_with fail
    go_at_call 15
    refine (vcompare_calls _ _ _ _ _ _ _ _ (by with_reducible assumption) (by with_reducible assumption) _).mono ?_
    rintro _ w3 ⟨rfl, hu3⟩
    replace hu : Hid (Up w w3) := hu.out.trans hu3
    replace l0 := hu3.cell l0
    replace l1 := hu3.cell l1
    replace l2 := hu3.cell l2
    replace l3 := hu3.cell l3
    replace r0 := hu3.cell r0
    replace r1 := hu3.cell r1
    replace r2 := hu3.cell r2
    replace r3 := hu3.cell r3
    replace t0 := hu3.cell t0
    replace t1 := hu3.cell t1
    replace t2 := hu3.cell t2
    replace t3 := hu3.cell t3
    replace q2 : w.heap.size + 2 < w3.heap.size := Nat.lt_of_lt_of_le q2 hu3.size
    clear hu3
    obtain ⟨Y, hY⟩ : ∃ Y, cmpV (k0, n0, s0, f0) (k2, n2, s2, f2) = Y := ⟨_, rfl⟩
    rw [hY] at hle
    by_cases hy : Y ≤ 0
    · have hz : ¬ 0 < Y := by have := hle hy; omega
      clear hle
      go_wp2_with (go_at_call 15; refine (vcompare_calls _ _ _ _ _ _ _ _ (by with_reducible assumption) (by with_reducible assumption) _).mono ?_; rintro _ w4 ⟨rfl, hu4⟩; replace hu := hide (hu.out.trans hu4); replace l0 := hu4.cell l0 ; replace l1 := hu4.cell l1 ; replace l2 := hu4.cell l2 ; replace l3 := hu4.cell l3 ; replace r0 := hu4.cell r0 ; replace r1 := hu4.cell r1 ; replace r2 := hu4.cell r2 ; replace r3 := hu4.cell r3 ; replace t0 := hu4.cell t0 ; replace t1 := hu4.cell t1 ; replace t2 := hu4.cell t2 ; replace t3 := hu4.cell t3; replace q2 := Nat.lt_of_lt_of_le q2 hu4.size; clear hu4)
      go_region_held3 (fun w' => w'.cell? ⟨w.heap.size, 0, none⟩ = some (.int .i64 k0) ∧ w'.cell? ⟨w.heap.size, 1, none⟩ = some (.int .i64 n0) ∧ w'.cell? ⟨w.heap.size, 2, none⟩ = some (.string s0) ∧ w'.cell? ⟨w.heap.size, 3, none⟩ = some (.float .f64 f0) ∧ w'.cell? ⟨w.heap.size + 1, 0, none⟩ = some (.int .i64 k0) ∧ w'.cell? ⟨w.heap.size + 1, 1, none⟩ = some (.int .i64 n0) ∧ w'.cell? ⟨w.heap.size + 1, 2, none⟩ = some (.string s0) ∧ w'.cell? ⟨w.heap.size + 1, 3, none⟩ = some (.float .f64 f0) ∧ w'.cell? ⟨w.heap.size + 2, 0, none⟩ = some (.int .i64 k2) ∧ w'.cell? ⟨w.heap.size + 2, 1, none⟩ = some (.int .i64 n2) ∧ w'.cell? ⟨w.heap.size + 2, 2, none⟩ = some (.string s2) ∧ w'.cell? ⟨w.heap.size + 2, 3, none⟩ = some (.float .f64 f2))
        (first
          | go_keep
          | (go_split_ands; refine ⟨up_new ?_, up_new ?_, up_new ?_, up_new ?_, up_new ?_, up_new ?_, up_new ?_, up_new ?_, up_new ?_, up_new ?_, up_new ?_, up_new ?_⟩ <;> assumption)) (fail)
      · obtain ⟨V1, V2, hv⟩ := two_new w4 k0 n0 k2 n2 s0 s2 f0 f2 G0.out G2.out k0 n0 k2 n2 s0 s2 f0 f2 G0.out G2.out 24
        generalize ((w4.alloc (.cells #[.int .i64 k0, .int .i64 n0, .string s0, .float .f64 f0, .int .i64 k2, .int .i64 n2, .string s2, .float .f64 f2] 24)).alloc (.cells #[.int .i64 k0, .int .i64 n0, .string s0, .float .f64 f0, .int .i64 k2, .int .i64 n2, .string s2, .float .f64 f2] 24)).drew = W5 at V1 V2 hv ⊢
        replace hu := hide (hu.out.trans hv)
        replace l0 := hv.cell l0
        replace l1 := hv.cell l1
        replace l2 := hv.cell l2
        replace l3 := hv.cell l3
        replace r0 := hv.cell r0
        replace r1 := hv.cell r1
        replace r2 := hv.cell r2
        replace r3 := hv.cell r3
        replace t0 := hv.cell t0
        replace t1 := hv.cell t1
        replace t2 := hv.cell t2
        replace t3 := hv.cell t3
        have V3 : Hid (Vals W5 (some ⟨w4.heap.size, 0, none⟩) 1 [(k0, n0, s0, f0)]) := V1.take 1 (by decide)
        replace V1 := hide V1
        replace V2 := hide V2
        clear hv q2
        go_wp2_with fail
        go_at_call 17
        refine (vsame_calls _ _ _ _ _ _ _ _ (by with_reducible assumption) (by with_reducible assumption) _).mono ?_
        rintro _ w5 ⟨rfl, hu5⟩
        replace hu := hide (hu.out.trans hu5)
        replace V1 := hide (V1.out.up hu5)
        replace V2 := hide (V2.out.up hu5)
        replace V3 := hide (V3.out.up hu5)
        clear hu5
        clear l0 l1 l2 l3 r0 r1 r2 r3 t0 t1 t2 t3
        go_wp2_with fail
        go_at_call 19
        refine (vrows_calls _ _ _ _ _ _ _ _ _ (by decide) (by decide) V1.out V2.out).mono ?_
        rintro _ w6 ⟨rfl, hu6⟩
        replace hu := hide (hu.out.trans hu6)
        replace V1 := hide (V1.out.up hu6)
        replace V2 := hide (V2.out.up hu6)
        replace V3 := hide (V3.out.up hu6)
        clear hu6
        go_wp2_with fail
        go_at_call 21
        refine (vhash_calls _ _ _ _ _ (by decide) V1.out).mono ?_
        rintro _ w7 ⟨rfl, hu7⟩
        replace hu := hide (hu.out.trans hu7)
        replace V1 := hide (V1.out.up hu7)
        replace V2 := hide (V2.out.up hu7)
        replace V3 := hide (V3.out.up hu7)
        clear hu7
        go_wp2_with fail
        go_at_call 21
        refine (vhash_calls _ _ _ _ _ (by decide) V2.out).mono ?_
        rintro _ w8 ⟨rfl, hu8⟩
        replace hu := hide (hu.out.trans hu8)
        replace V1 := hide (V1.out.up hu8)
        replace V2 := hide (V2.out.up hu8)
        replace V3 := hide (V3.out.up hu8)
        clear hu8
        go_wp2_with fail
        go_at_call 19
        refine (vrows_calls _ _ _ _ _ _ _ _ _ (by decide) (by decide) V3.out V1.out).mono ?_
        rintro _ w9 ⟨rfl, hu9⟩
        replace hu := hide (hu.out.trans hu9)
        clear hu9 V1 V2 V3
        go_wp2
        go_ret
        exact ⟨rfl, hu.out⟩
      · obtain ⟨V1, V2, hv⟩ := two_new w4 k0 n0 k2 n2 s0 s2 f0 f2 G0.out G2.out k0 n0 k2 n2 s0 s2 f0 f2 G0.out G2.out 24
        generalize ((w4.alloc (.cells #[.int .i64 k0, .int .i64 n0, .string s0, .float .f64 f0, .int .i64 k2, .int .i64 n2, .string s2, .float .f64 f2] 24)).alloc (.cells #[.int .i64 k0, .int .i64 n0, .string s0, .float .f64 f0, .int .i64 k2, .int .i64 n2, .string s2, .float .f64 f2] 24)).drew = W5 at V1 V2 hv ⊢
        replace hu := hide (hu.out.trans hv)
        replace l0 := hv.cell l0
        replace l1 := hv.cell l1
        replace l2 := hv.cell l2
        replace l3 := hv.cell l3
        replace r0 := hv.cell r0
        replace r1 := hv.cell r1
        replace r2 := hv.cell r2
        replace r3 := hv.cell r3
        replace t0 := hv.cell t0
        replace t1 := hv.cell t1
        replace t2 := hv.cell t2
        replace t3 := hv.cell t3
        have V3 : Hid (Vals W5 (some ⟨w4.heap.size + 1, 0, none⟩) 1 [(k0, n0, s0, f0)]) := V2.take 1 (by decide)
        replace V1 := hide V1
        replace V2 := hide V2
        clear hv q2
        go_wp2_with fail
        go_at_call 17
        refine (vsame_calls _ _ _ _ _ _ _ _ (by with_reducible assumption) (by with_reducible assumption) _).mono ?_
        rintro _ w5 ⟨rfl, hu5⟩
        replace hu := hide (hu.out.trans hu5)
        replace V1 := hide (V1.out.up hu5)
        replace V2 := hide (V2.out.up hu5)
        replace V3 := hide (V3.out.up hu5)
        clear hu5
        clear l0 l1 l2 l3 r0 r1 r2 r3 t0 t1 t2 t3
        go_wp2_with fail
        go_at_call 19
        refine (vrows_calls _ _ _ _ _ _ _ _ _ (by decide) (by decide) V2.out V1.out).mono ?_
        rintro _ w6 ⟨rfl, hu6⟩
        replace hu := hide (hu.out.trans hu6)
        replace V1 := hide (V1.out.up hu6)
        replace V2 := hide (V2.out.up hu6)
        replace V3 := hide (V3.out.up hu6)
        clear hu6
        go_wp2_with fail
        go_at_call 21
        refine (vhash_calls _ _ _ _ _ (by decide) V2.out).mono ?_
        rintro _ w7 ⟨rfl, hu7⟩
        replace hu := hide (hu.out.trans hu7)
        replace V1 := hide (V1.out.up hu7)
        replace V2 := hide (V2.out.up hu7)
        replace V3 := hide (V3.out.up hu7)
        clear hu7
        go_wp2_with fail
        go_at_call 21
        refine (vhash_calls _ _ _ _ _ (by decide) V1.out).mono ?_
        rintro _ w8 ⟨rfl, hu8⟩
        replace hu := hide (hu.out.trans hu8)
        replace V1 := hide (V1.out.up hu8)
        replace V2 := hide (V2.out.up hu8)
        replace V3 := hide (V3.out.up hu8)
        clear hu8
        go_wp2_with fail
        go_at_call 19
        refine (vrows_calls _ _ _ _ _ _ _ _ _ (by decide) (by decide) V3.out V2.out).mono ?_
        rintro _ w9 ⟨rfl, hu9⟩
        replace hu := hide (hu.out.trans hu9)
        clear hu9 V1 V2 V3
        go_wp2
        go_ret
        exact ⟨rfl, hu.out⟩
    · clear hle
      go_wp2_with (go_at_call 15; refine (vcompare_calls _ _ _ _ _ _ _ _ (by with_reducible assumption) (by with_reducible assumption) _).mono ?_; rintro _ w4 ⟨rfl, hu4⟩; replace hu := hide (hu.out.trans hu4); replace l0 := hu4.cell l0 ; replace l1 := hu4.cell l1 ; replace l2 := hu4.cell l2 ; replace l3 := hu4.cell l3 ; replace r0 := hu4.cell r0 ; replace r1 := hu4.cell r1 ; replace r2 := hu4.cell r2 ; replace r3 := hu4.cell r3 ; replace t0 := hu4.cell t0 ; replace t1 := hu4.cell t1 ; replace t2 := hu4.cell t2 ; replace t3 := hu4.cell t3; replace q2 := Nat.lt_of_lt_of_le q2 hu4.size; clear hu4)
      go_region_held3 (fun w' => w'.cell? ⟨w.heap.size, 0, none⟩ = some (.int .i64 k0) ∧ w'.cell? ⟨w.heap.size, 1, none⟩ = some (.int .i64 n0) ∧ w'.cell? ⟨w.heap.size, 2, none⟩ = some (.string s0) ∧ w'.cell? ⟨w.heap.size, 3, none⟩ = some (.float .f64 f0) ∧ w'.cell? ⟨w.heap.size + 1, 0, none⟩ = some (.int .i64 k0) ∧ w'.cell? ⟨w.heap.size + 1, 1, none⟩ = some (.int .i64 n0) ∧ w'.cell? ⟨w.heap.size + 1, 2, none⟩ = some (.string s0) ∧ w'.cell? ⟨w.heap.size + 1, 3, none⟩ = some (.float .f64 f0) ∧ w'.cell? ⟨w.heap.size + 2, 0, none⟩ = some (.int .i64 k2) ∧ w'.cell? ⟨w.heap.size + 2, 1, none⟩ = some (.int .i64 n2) ∧ w'.cell? ⟨w.heap.size + 2, 2, none⟩ = some (.string s2) ∧ w'.cell? ⟨w.heap.size + 2, 3, none⟩ = some (.float .f64 f2))
        (first
          | go_keep
          | (go_split_ands; refine ⟨up_new ?_, up_new ?_, up_new ?_, up_new ?_, up_new ?_, up_new ?_, up_new ?_, up_new ?_, up_new ?_, up_new ?_, up_new ?_, up_new ?_⟩ <;> assumption)) (fail)
      · obtain ⟨V1, V2, hv⟩ := two_new w4 k0 n0 k2 n2 s0 s2 f0 f2 G0.out G2.out k0 n0 k2 n2 s0 s2 f0 f2 G0.out G2.out 24
        generalize ((w4.alloc (.cells #[.int .i64 k0, .int .i64 n0, .string s0, .float .f64 f0, .int .i64 k2, .int .i64 n2, .string s2, .float .f64 f2] 24)).alloc (.cells #[.int .i64 k0, .int .i64 n0, .string s0, .float .f64 f0, .int .i64 k2, .int .i64 n2, .string s2, .float .f64 f2] 24)).drew = W5 at V1 V2 hv ⊢
        replace hu := hide (hu.out.trans hv)
        replace l0 := hv.cell l0
        replace l1 := hv.cell l1
        replace l2 := hv.cell l2
        replace l3 := hv.cell l3
        replace r0 := hv.cell r0
        replace r1 := hv.cell r1
        replace r2 := hv.cell r2
        replace r3 := hv.cell r3
        replace t0 := hv.cell t0
        replace t1 := hv.cell t1
        replace t2 := hv.cell t2
        replace t3 := hv.cell t3
        have V3 : Hid (Vals W5 (some ⟨w4.heap.size, 0, none⟩) 1 [(k0, n0, s0, f0)]) := V1.take 1 (by decide)
        replace V1 := hide V1
        replace V2 := hide V2
        clear hv q2
        go_wp2_with fail
        go_at_call 17
        refine (vsame_calls _ _ _ _ _ _ _ _ (by with_reducible assumption) (by with_reducible assumption) _).mono ?_
        rintro _ w5 ⟨rfl, hu5⟩
        replace hu := hide (hu.out.trans hu5)
        replace V1 := hide (V1.out.up hu5)
        replace V2 := hide (V2.out.up hu5)
        replace V3 := hide (V3.out.up hu5)
        clear hu5
        clear l0 l1 l2 l3 r0 r1 r2 r3 t0 t1 t2 t3
        go_wp2_with fail
        go_at_call 19
        refine (vrows_calls _ _ _ _ _ _ _ _ _ (by decide) (by decide) V1.out V2.out).mono ?_
        rintro _ w6 ⟨rfl, hu6⟩
        replace hu := hide (hu.out.trans hu6)
        replace V1 := hide (V1.out.up hu6)
        replace V2 := hide (V2.out.up hu6)
        replace V3 := hide (V3.out.up hu6)
        clear hu6
        go_wp2_with fail
        go_at_call 21
        refine (vhash_calls _ _ _ _ _ (by decide) V1.out).mono ?_
        rintro _ w7 ⟨rfl, hu7⟩
        replace hu := hide (hu.out.trans hu7)
        replace V1 := hide (V1.out.up hu7)
        replace V2 := hide (V2.out.up hu7)
        replace V3 := hide (V3.out.up hu7)
        clear hu7
        go_wp2_with fail
        go_at_call 21
        refine (vhash_calls _ _ _ _ _ (by decide) V2.out).mono ?_
        rintro _ w8 ⟨rfl, hu8⟩
        replace hu := hide (hu.out.trans hu8)
        replace V1 := hide (V1.out.up hu8)
        replace V2 := hide (V2.out.up hu8)
        replace V3 := hide (V3.out.up hu8)
        clear hu8
        go_wp2_with fail
        go_at_call 19
        refine (vrows_calls _ _ _ _ _ _ _ _ _ (by decide) (by decide) V3.out V1.out).mono ?_
        rintro _ w9 ⟨rfl, hu9⟩
        replace hu := hide (hu.out.trans hu9)
        clear hu9 V1 V2 V3
        go_wp2
        go_ret
        exact ⟨rfl, hu.out⟩
      · obtain ⟨V1, V2, hv⟩ := two_new w4 k0 n0 k2 n2 s0 s2 f0 f2 G0.out G2.out k0 n0 k2 n2 s0 s2 f0 f2 G0.out G2.out 24
        generalize ((w4.alloc (.cells #[.int .i64 k0, .int .i64 n0, .string s0, .float .f64 f0, .int .i64 k2, .int .i64 n2, .string s2, .float .f64 f2] 24)).alloc (.cells #[.int .i64 k0, .int .i64 n0, .string s0, .float .f64 f0, .int .i64 k2, .int .i64 n2, .string s2, .float .f64 f2] 24)).drew = W5 at V1 V2 hv ⊢
        replace hu := hide (hu.out.trans hv)
        replace l0 := hv.cell l0
        replace l1 := hv.cell l1
        replace l2 := hv.cell l2
        replace l3 := hv.cell l3
        replace r0 := hv.cell r0
        replace r1 := hv.cell r1
        replace r2 := hv.cell r2
        replace r3 := hv.cell r3
        replace t0 := hv.cell t0
        replace t1 := hv.cell t1
        replace t2 := hv.cell t2
        replace t3 := hv.cell t3
        have V3 : Hid (Vals W5 (some ⟨w4.heap.size + 1, 0, none⟩) 1 [(k0, n0, s0, f0)]) := V2.take 1 (by decide)
        replace V1 := hide V1
        replace V2 := hide V2
        clear hv q2
        go_wp2_with fail
        go_at_call 17
        refine (vsame_calls _ _ _ _ _ _ _ _ (by with_reducible assumption) (by with_reducible assumption) _).mono ?_
        rintro _ w5 ⟨rfl, hu5⟩
        replace hu := hide (hu.out.trans hu5)
        replace V1 := hide (V1.out.up hu5)
        replace V2 := hide (V2.out.up hu5)
        replace V3 := hide (V3.out.up hu5)
        clear hu5
        clear l0 l1 l2 l3 r0 r1 r2 r3 t0 t1 t2 t3
        go_wp2_with fail
        go_at_call 19
        refine (vrows_calls _ _ _ _ _ _ _ _ _ (by decide) (by decide) V2.out V1.out).mono ?_
        rintro _ w6 ⟨rfl, hu6⟩
        replace hu := hide (hu.out.trans hu6)
        replace V1 := hide (V1.out.up hu6)
        replace V2 := hide (V2.out.up hu6)
        replace V3 := hide (V3.out.up hu6)
        clear hu6
        go_wp2_with fail
        go_at_call 21
        refine (vhash_calls _ _ _ _ _ (by decide) V2.out).mono ?_
        rintro _ w7 ⟨rfl, hu7⟩
        replace hu := hide (hu.out.trans hu7)
        replace V1 := hide (V1.out.up hu7)
        replace V2 := hide (V2.out.up hu7)
        replace V3 := hide (V3.out.up hu7)
        clear hu7
        go_wp2_with fail
        go_at_call 21
        refine (vhash_calls _ _ _ _ _ (by decide) V1.out).mono ?_
        rintro _ w8 ⟨rfl, hu8⟩
        replace hu := hide (hu.out.trans hu8)
        replace V1 := hide (V1.out.up hu8)
        replace V2 := hide (V2.out.up hu8)
        replace V3 := hide (V3.out.up hu8)
        clear hu8
        go_wp2_with fail
        go_at_call 19
        refine (vrows_calls _ _ _ _ _ _ _ _ _ (by decide) (by decide) V3.out V2.out).mono ?_
        rintro _ w9 ⟨rfl, hu9⟩
        replace hu := hide (hu.out.trans hu9)
        clear hu9 V1 V2 V3
        go_wp2
        go_ret
        exact ⟨rfl, hu.out⟩

set_option maxHeartbeats 16000000 in
theorem valueOrder_pos (k0 n0 : Int) (s0 : ByteArray) (f0 : Nat) (k1 n1 : Int) (s1 : ByteArray) (f1 : Nat) (k2 n2 : Int) (s2 : ByteArray) (f2 : Nat) (w : World) (g0 : Fits (k0, n0, s0, f0)) (g1 : Fits (k1, n1, s1, f1)) (g2 : Fits (k2, n2, s2, f2)) (hab : cmpV (k0, n0, s0, f0) (k1, n1, s1, f1) = 1) :
    Calls Try.prog 4 #[.agg #[.int .i64 k0, .int .i64 n0, .string s0, .float .f64 f0], .agg #[.int .i64 k1, .int .i64 n1, .string s1, .float .f64 f1], .agg #[.int .i64 k2, .int .i64 n2, .string s2, .float .f64 f2]] w fun e w' => e = .returned (.bool true) ∧ Up w w' := by
  have hf0 := g0.2.2.2.2.2
  have hf1 := g1.2.2.2.2.2
  have hf2 := g2.2.2.2.2.2
  simp only at hf0 hf1 hf2
  have hba : cmpV (k1, n1, s1, f1) (k0, n0, s0, f0) = -1 := by rw [cmpV_turn, hab] <;> rfl
  have haa : cmpV (k0, n0, s0, f0) (k0, n0, s0, f0) = 0 := cmpV_self _
  have hle : cmpV (k1, n1, s1, f1) (k2, n2, s2, f2) ≤ 0 → True := fun _ => trivial
  have hr1 : rowsV [(k0, n0, s0, f0), (k2, n2, s2, f2)] [(k1, n1, s1, f1), (k2, n2, s2, f2)] = 1 := rows_pair _ _ _ _ hab
  have hr2 : rowsV [(k0, n0, s0, f0)] [(k0, n0, s0, f0), (k2, n2, s2, f2)] = -1 := rows_text _ _
  have G0 := hide g0
  have G1 := hide g1
  have G2 := hide g2
  clear g0 g1 g2
  go_enter Try.func4, Try.ntmps4
  go_wp2_with fail
  go_at_call 9
  refine (known_calls _).mono ?_
  rintro _ w1 ⟨rfl, hu1⟩
  have l0 : w1.cell? ⟨w.heap.size, 0, none⟩ = some (.int .i64 k0) := hu1.cell (by go_simp)
  have l1 : w1.cell? ⟨w.heap.size, 1, none⟩ = some (.int .i64 n0) := hu1.cell (by go_simp)
  have l2 : w1.cell? ⟨w.heap.size, 2, none⟩ = some (.string s0) := hu1.cell (by go_simp)
  have l3 : w1.cell? ⟨w.heap.size, 3, none⟩ = some (.float .f64 f0) := hu1.cell (by go_simp)
  have r0 : w1.cell? ⟨w.heap.size + 1, 0, none⟩ = some (.int .i64 k1) := hu1.cell (by go_simp)
  have r1 : w1.cell? ⟨w.heap.size + 1, 1, none⟩ = some (.int .i64 n1) := hu1.cell (by go_simp)
  have r2 : w1.cell? ⟨w.heap.size + 1, 2, none⟩ = some (.string s1) := hu1.cell (by go_simp)
  have r3 : w1.cell? ⟨w.heap.size + 1, 3, none⟩ = some (.float .f64 f1) := hu1.cell (by go_simp)
  have t0 : w1.cell? ⟨w.heap.size + 2, 0, none⟩ = some (.int .i64 k2) := hu1.cell (by go_simp)
  have t1 : w1.cell? ⟨w.heap.size + 2, 1, none⟩ = some (.int .i64 n2) := hu1.cell (by go_simp)
  have t2 : w1.cell? ⟨w.heap.size + 2, 2, none⟩ = some (.string s2) := hu1.cell (by go_simp)
  have t3 : w1.cell? ⟨w.heap.size + 2, 3, none⟩ = some (.float .f64 f2) := hu1.cell (by go_simp)
  have hu : Hid (Up w w1) := ((((Up.refl _).alloc _).alloc _).alloc _).trans hu1
  have q2 : w.heap.size + 2 < w1.heap.size := by have := hu1.size; simp at this; omega
  have q1 : w.heap.size + 1 < w1.heap.size := by omega
  have q0 : w.heap.size < w1.heap.size := by omega
  clear hu1
  go_wp2_with fail
  go_at_call 10
  refine (few_calls _ _ _ _ _ _ (by decide) (vals_new3 _ _ _ _ _ _ _ _ _ _ _ _ _ _ G0.out G1.out G2.out)).mono ?_
  rintro _ w2 ⟨rfl, hw2⟩
  have hv : Up w1 w2 := hw2 ▸ (Up.refl _).alloc _
  replace hu : Hid (Up w w2) := hu.out.trans hv
  replace l0 := hv.cell l0
  replace l1 := hv.cell l1
  replace l2 := hv.cell l2
  replace l3 := hv.cell l3
  replace r0 := hv.cell r0
  replace r1 := hv.cell r1
  replace r2 := hv.cell r2
  replace r3 := hv.cell r3
  replace t0 := hv.cell t0
  replace t1 := hv.cell t1
  replace t2 := hv.cell t2
  replace t3 := hv.cell t3
  replace q2 : w.heap.size + 2 < w2.heap.size := Nat.lt_of_lt_of_le q2 hv.size
  clear hw2 hv q1 q0
  cases hfew : fewB [(k0, n0, s0, f0), (k1, n1, s1, f1), (k2, n2, s2, f2)] 3
  · go_wp2
    go_ret
    exact ⟨rfl, hu.out⟩
  · go_wp2_with fail
    go_at_call 15
    refine (vcompare_calls _ _ _ _ _ _ _ _ (by with_reducible assumption) (by with_reducible assumption) _).mono ?_
    rintro _ w3 ⟨rfl, hu3⟩
    replace hu : Hid (Up w w3) := hu.out.trans hu3
    replace l0 := hu3.cell l0
    replace l1 := hu3.cell l1
    replace l2 := hu3.cell l2
    replace l3 := hu3.cell l3
    replace r0 := hu3.cell r0
    replace r1 := hu3.cell r1
    replace r2 := hu3.cell r2
    replace r3 := hu3.cell r3
    replace t0 := hu3.cell t0
    replace t1 := hu3.cell t1
    replace t2 := hu3.cell t2
    replace t3 := hu3.cell t3
    replace q2 : w.heap.size + 2 < w3.heap.size := Nat.lt_of_lt_of_le q2 hu3.size
    clear hu3
    clear hle
    go_wp2_with (go_at_call 15; refine (vcompare_calls _ _ _ _ _ _ _ _ (by with_reducible assumption) (by with_reducible assumption) _).mono ?_; rintro _ w4 ⟨rfl, hu4⟩; replace hu := hide (hu.out.trans hu4); replace l0 := hu4.cell l0 ; replace l1 := hu4.cell l1 ; replace l2 := hu4.cell l2 ; replace l3 := hu4.cell l3 ; replace r0 := hu4.cell r0 ; replace r1 := hu4.cell r1 ; replace r2 := hu4.cell r2 ; replace r3 := hu4.cell r3 ; replace t0 := hu4.cell t0 ; replace t1 := hu4.cell t1 ; replace t2 := hu4.cell t2 ; replace t3 := hu4.cell t3; replace q2 := Nat.lt_of_lt_of_le q2 hu4.size; clear hu4)
    go_region_held3 (fun w' => w'.cell? ⟨w.heap.size, 0, none⟩ = some (.int .i64 k0) ∧ w'.cell? ⟨w.heap.size, 1, none⟩ = some (.int .i64 n0) ∧ w'.cell? ⟨w.heap.size, 2, none⟩ = some (.string s0) ∧ w'.cell? ⟨w.heap.size, 3, none⟩ = some (.float .f64 f0) ∧ w'.cell? ⟨w.heap.size + 1, 0, none⟩ = some (.int .i64 k1) ∧ w'.cell? ⟨w.heap.size + 1, 1, none⟩ = some (.int .i64 n1) ∧ w'.cell? ⟨w.heap.size + 1, 2, none⟩ = some (.string s1) ∧ w'.cell? ⟨w.heap.size + 1, 3, none⟩ = some (.float .f64 f1) ∧ w'.cell? ⟨w.heap.size + 2, 0, none⟩ = some (.int .i64 k2) ∧ w'.cell? ⟨w.heap.size + 2, 1, none⟩ = some (.int .i64 n2) ∧ w'.cell? ⟨w.heap.size + 2, 2, none⟩ = some (.string s2) ∧ w'.cell? ⟨w.heap.size + 2, 3, none⟩ = some (.float .f64 f2))
      (first
        | go_keep
        | (go_split_ands; refine ⟨up_new ?_, up_new ?_, up_new ?_, up_new ?_, up_new ?_, up_new ?_, up_new ?_, up_new ?_, up_new ?_, up_new ?_, up_new ?_, up_new ?_⟩ <;> assumption)) (fail)
    · obtain ⟨V1, V2, hv⟩ := two_new w4 k0 n0 k2 n2 s0 s2 f0 f2 G0.out G2.out k1 n1 k2 n2 s1 s2 f1 f2 G1.out G2.out 24
      generalize ((w4.alloc (.cells #[.int .i64 k0, .int .i64 n0, .string s0, .float .f64 f0, .int .i64 k2, .int .i64 n2, .string s2, .float .f64 f2] 24)).alloc (.cells #[.int .i64 k1, .int .i64 n1, .string s1, .float .f64 f1, .int .i64 k2, .int .i64 n2, .string s2, .float .f64 f2] 24)).drew = W5 at V1 V2 hv ⊢
      replace hu := hide (hu.out.trans hv)
      replace l0 := hv.cell l0
      replace l1 := hv.cell l1
      replace l2 := hv.cell l2
      replace l3 := hv.cell l3
      replace r0 := hv.cell r0
      replace r1 := hv.cell r1
      replace r2 := hv.cell r2
      replace r3 := hv.cell r3
      replace t0 := hv.cell t0
      replace t1 := hv.cell t1
      replace t2 := hv.cell t2
      replace t3 := hv.cell t3
      have V3 : Hid (Vals W5 (some ⟨w4.heap.size, 0, none⟩) 1 [(k0, n0, s0, f0)]) := V1.take 1 (by decide)
      replace V1 := hide V1
      replace V2 := hide V2
      clear hv q2
      go_wp2_with fail
      go_at_call 17
      refine (vsame_calls _ _ _ _ _ _ _ _ (by with_reducible assumption) (by with_reducible assumption) _).mono ?_
      rintro _ w5 ⟨rfl, hu5⟩
      replace hu := hide (hu.out.trans hu5)
      replace V1 := hide (V1.out.up hu5)
      replace V2 := hide (V2.out.up hu5)
      replace V3 := hide (V3.out.up hu5)
      clear hu5
      clear l0 l1 l2 l3 r0 r1 r2 r3 t0 t1 t2 t3
      go_wp2_with fail
      go_at_call 19
      refine (vrows_calls _ _ _ _ _ _ _ _ _ (by decide) (by decide) V1.out V2.out).mono ?_
      rintro _ w6 ⟨rfl, hu6⟩
      replace hu := hide (hu.out.trans hu6)
      replace V1 := hide (V1.out.up hu6)
      replace V2 := hide (V2.out.up hu6)
      replace V3 := hide (V3.out.up hu6)
      clear hu6
      go_wp2_with fail
      go_at_call 19
      refine (vrows_calls _ _ _ _ _ _ _ _ _ (by decide) (by decide) V3.out V1.out).mono ?_
      rintro _ w9 ⟨rfl, hu9⟩
      replace hu := hide (hu.out.trans hu9)
      clear hu9 V1 V2 V3
      go_wp2
      go_ret
      exact ⟨rfl, hu.out⟩
    · obtain ⟨V1, V2, hv⟩ := two_new w4 k1 n1 k2 n2 s1 s2 f1 f2 G1.out G2.out k0 n0 k2 n2 s0 s2 f0 f2 G0.out G2.out 24
      generalize ((w4.alloc (.cells #[.int .i64 k1, .int .i64 n1, .string s1, .float .f64 f1, .int .i64 k2, .int .i64 n2, .string s2, .float .f64 f2] 24)).alloc (.cells #[.int .i64 k0, .int .i64 n0, .string s0, .float .f64 f0, .int .i64 k2, .int .i64 n2, .string s2, .float .f64 f2] 24)).drew = W5 at V1 V2 hv ⊢
      replace hu := hide (hu.out.trans hv)
      replace l0 := hv.cell l0
      replace l1 := hv.cell l1
      replace l2 := hv.cell l2
      replace l3 := hv.cell l3
      replace r0 := hv.cell r0
      replace r1 := hv.cell r1
      replace r2 := hv.cell r2
      replace r3 := hv.cell r3
      replace t0 := hv.cell t0
      replace t1 := hv.cell t1
      replace t2 := hv.cell t2
      replace t3 := hv.cell t3
      have V3 : Hid (Vals W5 (some ⟨w4.heap.size + 1, 0, none⟩) 1 [(k0, n0, s0, f0)]) := V2.take 1 (by decide)
      replace V1 := hide V1
      replace V2 := hide V2
      clear hv q2
      go_wp2_with fail
      go_at_call 17
      refine (vsame_calls _ _ _ _ _ _ _ _ (by with_reducible assumption) (by with_reducible assumption) _).mono ?_
      rintro _ w5 ⟨rfl, hu5⟩
      replace hu := hide (hu.out.trans hu5)
      replace V1 := hide (V1.out.up hu5)
      replace V2 := hide (V2.out.up hu5)
      replace V3 := hide (V3.out.up hu5)
      clear hu5
      clear l0 l1 l2 l3 r0 r1 r2 r3 t0 t1 t2 t3
      go_wp2_with fail
      go_at_call 19
      refine (vrows_calls _ _ _ _ _ _ _ _ _ (by decide) (by decide) V2.out V1.out).mono ?_
      rintro _ w6 ⟨rfl, hu6⟩
      replace hu := hide (hu.out.trans hu6)
      replace V1 := hide (V1.out.up hu6)
      replace V2 := hide (V2.out.up hu6)
      replace V3 := hide (V3.out.up hu6)
      clear hu6
      go_wp2_with fail
      go_at_call 19
      refine (vrows_calls _ _ _ _ _ _ _ _ _ (by decide) (by decide) V3.out V2.out).mono ?_
      rintro _ w9 ⟨rfl, hu9⟩
      replace hu := hide (hu.out.trans hu9)
      clear hu9 V1 V2 V3
      go_wp2
      go_ret
      exact ⟨rfl, hu.out⟩


theorem valueOrder_own : ownKnob Try.prog.godebug = none := by kernel_rfl
theorem valueOrder_laidOut : laidOutB Try.prog = true := by kernel_rfl

set_option maxHeartbeats 4000000 in
theorem valueOrder_walk (k0 n0 : Int) (s0 : ByteArray) (f0 : Nat) (k1 n1 : Int) (s1 : ByteArray) (f1 : Nat) (k2 n2 : Int) (s2 : ByteArray) (f2 : Nat) (w : World) (w0 : Fits (k0, n0, s0, f0)) (w1 : Fits (k1, n1, s1, f1)) (w2 : Fits (k2, n2, s2, f2)) :
    Calls Try.prog 4 #[.agg #[.int .i64 k0, .int .i64 n0, .string s0, .float .f64 f0], .agg #[.int .i64 k1, .int .i64 n1, .string s1, .float .f64 f1], .agg #[.int .i64 k2, .int .i64 n2, .string s2, .float .f64 f2]] w fun e w' => e = .returned (.bool true) ∧ Up w w' := by
  rcases cmpV_cases (k0, n0, s0, f0) (k1, n1, s1, f1) with ⟨h, _⟩ | ⟨h, _⟩ | ⟨h, _⟩
  · exact valueOrder_neg k0 n0 s0 f0 k1 n1 s1 f1 k2 n2 s2 f2 w w0 w1 w2 h
  · have e := cmpV_same w0 w1 h
    simp only [Prod.mk.injEq] at e
    obtain ⟨rfl, rfl, rfl, rfl⟩ := e
    exact valueOrder_zero k0 n0 s0 f0 k2 n2 s2 f2 w w0 w2
  · exact valueOrder_pos k0 n0 s0 f0 k1 n1 s1 f1 k2 n2 s2 f2 w w0 w1 w2 h

set_option maxRecDepth 100000 in
theorem valueOrder_lifted (os : Os) (started : os.Started) (H : Type) (enc : TypeId × Value → H) :
    ReturnsInHanded {} Try.checked os 4 .any (Rows.valueOrderSpec.pre6 enc Try.prog Try.f4 Rows.valueOrderRow.domain false) (Rows.valueOrderSpec.post enc Try.prog Try.f4 false true false false) := by
  refine returnsInHanded_of_change (C := Try.checked) valueOrder_own started (by kernel_rfl) Try.func4
    (ChangeSpec.witness6 (enc := enc) (C := Try.checked) false ⟨#[], #[.agg #[.int .i64 0, .int .i64 0, .string ⟨#[]⟩, .float .f64 0], .agg #[.int .i64 0, .int .i64 0, .string ⟨#[]⟩, .float .f64 0], .agg #[.int .i64 0, .int .i64 0, .string ⟨#[]⟩, .float .f64 0]], []⟩ 8 (by kernel_rfl) (by kernel_rfl) (by kernel_rfl) (by kernel_rfl)) ?_
  intro W base args ds gs before hval0 hW hcnd _
  have hval : ∀ (j : Nat) t v, Try.f4.params[j]? = some t → args[j]? = some v → Value.okWide Try.prog W .any base t v := hval0
  have hW' := hW
  obtain ⟨p, q, hA0, hV, rfl, hfz, hnd⟩ := hW
  have hA : DataW.TrodAll enc Try.prog W 0 (fun _ => true) true Try.f4.params.toList args.toList ds p := hA0
  rw [Try.params4] at hA hval
  obtain ⟨v0, vs0, d0, ds0, p0, q0, hargs, rfl, rfl, h0, r0⟩ := trodAll_cons hA
  obtain ⟨v1, vs1, d1, ds1, p1, q1, rfl, rfl, rfl, h1, r1⟩ := trodAll_cons r0
  obtain ⟨v2, vs2, d2, ds2, p2, q2, rfl, rfl, rfl, h2, r2⟩ := trodAll_cons r1
  obtain ⟨rfl, rfl, rfl⟩ := trodAll_nil r2
  obtain rfl : args = #[v0, v1, v2] := by cases args; simp_all
  obtain ⟨rfl, rfl⟩ := trodVars_none hV
  have y0 := h0
  have lt0 : ∀ x ∈ p0, x.block < W.heap.size := by obtain ⟨m, hm⟩ := y0; exact DataW.trod_lt m _ _ _ hm
  have y1 := h1
  have lt1 : ∀ x ∈ p1, x.block < W.heap.size := by obtain ⟨m, hm⟩ := y1; exact DataW.trod_lt m _ _ _ hm
  have y2 := h2
  have lt2 : ∀ x ∈ p2, x.block < W.heap.size := by obtain ⟨m, hm⟩ := y2; exact DataW.trod_lt m _ _ _ hm
  obtain ⟨k0, n0, s0, f0, rfl, w0⟩ := open_value (hval 0 24 v0 rfl rfl) h0
  obtain ⟨k1, n1, s1, f1, rfl, w1⟩ := open_value (hval 1 24 v1 rfl rfl) h1
  obtain ⟨k2, n2, s2, f2, rfl, w2⟩ := open_value (hval 2 24 v2 rfl rfl) h2
  clear hA0 hval0
  refine (valueOrder_walk k0 n0 s0 f0 k1 n1 s1 f1 k2 n2 s2 f2 W w0 w1 w2).mono fun e W' ⟨he, bel⟩ => ?_
  subst he
  exact ⟨_, rfl, _, _, _, [], _, [], hW', trodAll_mk1 (shut_bool Try.underlying4 _), (trodAll_cons_mk (Below.trod valueOrder_laidOut (by kernel_rfl) (of_decide_eq_true (by kernel_rfl)) y0 bel.below lt0) (trodAll_cons_mk (Below.trod valueOrder_laidOut (by kernel_rfl) (of_decide_eq_true (by kernel_rfl)) y1 bel.below lt1) (trodAll_cons_mk (Below.trod valueOrder_laidOut (by kernel_rfl) (of_decide_eq_true (by kernel_rfl)) y2 bel.below lt2) trodAll_mk0))), rfl, bel.below.frame _, fun h => by cases h⟩

theorem valueOrder_over : Rows.valueOrderRow.holds Try.pinned (OpenSpec.ofChange Rows.valueOrderSpec) :=
  OpenClaim.holds_of_wide 4 Try.f4 rfl rfl rfl rfl rfl rfl rfl ⟨rfl, rfl, rfl, rfl, rfl⟩ rfl rfl rfl rfl rfl (by kernel_rfl) Try.func4 (by kernel_rfl)
    (of_decide_eq_true (by kernel_rfl)) (by unfold Func.isWrapper; first | (rw [if_pos (by decide +kernel)]; kernel_rfl) | (rw [if_neg (by decide +kernel)]; exact ⟨rfl, rfl⟩))
    (fun os started H enc _ => valueOrder_lifted os started H enc)

theorem valueOrder_proved : Rows.ValueOrderSaid := valueOrder_over
#print axioms valueOrder_proved
end Go.Proofs.Ytoaafkcpakigiaa

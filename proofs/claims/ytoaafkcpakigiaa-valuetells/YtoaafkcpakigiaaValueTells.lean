/-
  For every two values, whatever is none, every two rows of values and every kind the law ValueTells returns true: whether they are values, which is ahead, their hash and the zeros are the document's; no condition.
-/
import Derived.Test.YtoaafkcpakigiaaRows
import Derived.WalkKit
import Derived.ProofKit
import Derived.OpenShut
import Derived.ShutString
import Derived.ChangeOld
import Derived.Below
import Derived.Carry
import Derived.Test.YtoaafkcpakigiaaValHelp
import Derived.Test.YtoaafkcpakigiaaOpens
import Derived.Test.YtoaafkcpakigiaaNewVals
import Derived.Test.YtoaafkcpakigiaaValRows
import Derived.Test.YtoaafkcpakigiaaValHash
import Derived.Test.YtoaafkcpakigiaaRefRow
import Derived.Test.YtoaafkcpakigiaaQuietUp
namespace Go.Proofs.Ytoaafkcpakigiaa
open Go.ChangeShapes Go.WideShapes Go.ChangeAt Go.RowKit
open Go.ChangeMaps (open_string shut_string)
set_option linter.unusedVariables false
attribute [local go_sem ↓] Go.wp_at_zero Go.wp_at_succ
attribute [local go_sem] run_store_float

set_option maxHeartbeats 40000000 in
theorem valueTells_core (k0 n0 : Int) (s0 : ByteArray) (f0 : Nat) (k1 n1 : Int) (s1 : ByteArray) (f1 : Nat) (a2 : Option Addr) (len2 cap2 : Nat) (l2 : List VT) (a3 : Option Addr) (len3 cap3 : Nat) (l3 : List VT) (a4 zk ze : Int) (w : World)
    (w0 : Fits (k0, n0, s0, f0)) (w1 : Fits (k1, n1, s1, f1)) (m2 : len2 ≤ maxLen) (v2 : Vals w a2 len2 l2) (m3 : len3 ≤ maxLen) (v3 : Vals w a3 len3 l3)
    (hz : ∀ w, Calls Try.prog 11 #[.int .i64 a4] w fun e w' => e = .returned (.tuple #[.agg #[.int .i64 zk, .int .i64 0, .string ⟨#[]⟩, .float .f64 0], .int .i64 ze]) ∧ Up w w')
    (hy : ∀ w, Calls Try.prog 12 #[.int .i64 a4] w fun e w' => e = .returned (.tuple #[.agg #[.int .i64 zk, .int .i64 0, .string ⟨#[]⟩, .float .f64 0], .int .i64 ze]) ∧ Up w w') :
    Calls Try.prog 3 #[.agg #[.int .i64 k0, .int .i64 n0, .string s0, .float .f64 f0], .agg #[.int .i64 k1, .int .i64 n1, .string s1, .float .f64 f1], .slice a2 len2 cap2, .slice a3 len3 cap3, .int .i64 a4] w fun e w' => e = .returned (.bool true) ∧ Up w w' := by
  have hf0 := w0.2.2.2.2.2
  have hf1 := w1.2.2.2.2.2
  simp only at hf0 hf1
  have hfz : 0 < whole := by decide +kernel
  have hself : cmpV (zk, 0, ⟨#[]⟩, 0) (zk, 0, ⟨#[]⟩, 0) = 0 := cmpV_self _
  have W0 := hide w0
  have W1 := hide w1
  have M2 := hide m2
  have M3 := hide m3
  have V2 := hide v2
  have V3 := hide v3
  have HZ := hide hz
  have HY := hide hy
  clear w0 w1 m2 m3 v2 v3 hz hy
  go_enter Try.func3, Try.ntmps3
  go_wp2_with fail
  go_at_call 9
  refine (known_calls _).mono ?_
  rintro _ w1 ⟨rfl, hu1⟩
  have ca0 : w1.cell? ⟨w.heap.size, 0, none⟩ = some (.int .i64 k0) := hu1.cell (by go_simp)
  have ca1 : w1.cell? ⟨w.heap.size, 1, none⟩ = some (.int .i64 n0) := hu1.cell (by go_simp)
  have ca2 : w1.cell? ⟨w.heap.size, 2, none⟩ = some (.string s0) := hu1.cell (by go_simp)
  have ca3 : w1.cell? ⟨w.heap.size, 3, none⟩ = some (.float .f64 f0) := hu1.cell (by go_simp)
  have cb0 : w1.cell? ⟨w.heap.size + 1, 0, none⟩ = some (.int .i64 k1) := hu1.cell (by go_simp)
  have cb1 : w1.cell? ⟨w.heap.size + 1, 1, none⟩ = some (.int .i64 n1) := hu1.cell (by go_simp)
  have cb2 : w1.cell? ⟨w.heap.size + 1, 2, none⟩ = some (.string s1) := hu1.cell (by go_simp)
  have cb3 : w1.cell? ⟨w.heap.size + 1, 3, none⟩ = some (.float .f64 f1) := hu1.cell (by go_simp)
  have hu : Hid (Up w w1) := (((Up.refl _).alloc _).alloc _).trans hu1
  have q1 : w.heap.size + 1 < w1.heap.size := by have := hu1.size; simp at this; omega
  have q0 : w.heap.size < w1.heap.size := by omega
  replace V2 := hide (V2.out.up hu.out)
  replace V3 := hide (V3.out.up hu.out)
  clear hu1
  go_wp2_with fail
  go_at_call 10
  refine (few_calls _ _ _ _ _ _ (by decide) (vals_new2 _ _ _ _ _ _ _ _ _ _ W0.out W1.out)).mono ?_
  rintro _ w2 ⟨rfl, hw2⟩
  have hv : Up w1 w2 := hw2 ▸ (Up.refl _).alloc _
  replace hu : Hid (Up w w2) := hu.out.trans hv
  replace V2 := hide (V2.out.up hv)
  replace V3 := hide (V3.out.up hv)
  replace ca0 := hv.cell ca0
  replace ca1 := hv.cell ca1
  replace ca2 := hv.cell ca2
  replace ca3 := hv.cell ca3
  replace cb0 := hv.cell cb0
  replace cb1 := hv.cell cb1
  replace cb2 := hv.cell cb2
  replace cb3 := hv.cell cb3
  clear hw2 hv q1 q0
  cases hfew : fewB [(k0, n0, s0, f0), (k1, n1, s1, f1)] 2
  · go_wp2
    go_ret
    exact ⟨rfl, hu.out⟩
  · cases hfew2 : fewB l2 20
    · go_wp2_with (go_at_call 10; refine (few_calls _ _ _ l2 _ _ M2.out V2.out).mono ?_; rintro _ w3 ⟨rfl, hw3⟩; obtain rfl : w2 = w3 := hw3.symm)
      go_ret
      exact ⟨rfl, hu.out⟩
    · go_wp2_with fail
      go_at_call 10
      refine (few_calls _ _ _ l2 _ _ M2.out V2.out).mono ?_
      rintro _ w3 ⟨rfl, hw3⟩
      obtain rfl : w2 = w3 := hw3.symm
      cases hfew3 : fewB l3 20
      · go_wp2_with (go_at_call 10; refine (few_calls _ _ _ l3 _ _ M3.out V3.out).mono ?_; rintro _ w3 ⟨rfl, hw3⟩; obtain rfl : w2 = w3 := hw3.symm)
        go_ret
        exact ⟨rfl, hu.out⟩
      · go_wp2_with (go_at_call 10; refine (few_calls _ _ _ l3 _ _ M3.out V3.out).mono ?_; rintro _ w3 ⟨rfl, hw3⟩; obtain rfl : w2 = w3 := hw3.symm)
        go_at_call 11
        refine (HZ.out _).mono ?_
        rintro _ w4 ⟨rfl, hu4⟩
        replace hu := hide (hu.out.trans hu4)
        replace V2 := hide (V2.out.up hu4)
        replace V3 := hide (V3.out.up hu4)
        replace ca0 := hu4.cell ca0
        replace ca1 := hu4.cell ca1
        replace ca2 := hu4.cell ca2
        replace ca3 := hu4.cell ca3
        replace cb0 := hu4.cell cb0
        replace cb1 := hu4.cell cb1
        replace cb2 := hu4.cell cb2
        replace cb3 := hu4.cell cb3
        clear hu4
        go_wp2_with fail
        go_at_call 12
        refine (HY.out _).mono ?_
        rintro _ w5 ⟨rfl, hu5⟩
        have cz0 : w5.cell? ⟨w4.heap.size, 0, none⟩ = some (.int .i64 zk) := hu5.cell (by go_simp)
        have cz1 : w5.cell? ⟨w4.heap.size, 1, none⟩ = some (.int .i64 0) := hu5.cell (by go_simp)
        have cz2 : w5.cell? ⟨w4.heap.size, 2, none⟩ = some (.string ⟨#[]⟩) := hu5.cell (by go_simp)
        have cz3 : w5.cell? ⟨w4.heap.size, 3, none⟩ = some (.float .f64 0) := hu5.cell (by go_simp)
        have hu45 : Up w4 w5 := ((Up.refl _).alloc _).trans hu5
        replace hu := hide (hu.out.trans hu45)
        replace V2 := hide (V2.out.up hu45)
        replace V3 := hide (V3.out.up hu45)
        replace ca0 := hu45.cell ca0
        replace ca1 := hu45.cell ca1
        replace ca2 := hu45.cell ca2
        replace ca3 := hu45.cell ca3
        replace cb0 := hu45.cell cb0
        replace cb1 := hu45.cell cb1
        replace cb2 := hu45.cell cb2
        replace cb3 := hu45.cell cb3
        clear hu45 hu5
        go_wp2_with fail
        have cy0 : (w5.alloc (.cells #[.int .i64 zk, .int .i64 0, .string ⟨#[]⟩, .float .f64 0] 24)).cell? ⟨w5.heap.size, 0, none⟩ = some (.int .i64 zk) := by simp
        have cy1 : (w5.alloc (.cells #[.int .i64 zk, .int .i64 0, .string ⟨#[]⟩, .float .f64 0] 24)).cell? ⟨w5.heap.size, 1, none⟩ = some (.int .i64 0) := by simp
        have cy2 : (w5.alloc (.cells #[.int .i64 zk, .int .i64 0, .string ⟨#[]⟩, .float .f64 0] 24)).cell? ⟨w5.heap.size, 2, none⟩ = some (.string ⟨#[]⟩) := by simp
        have cy3 : (w5.alloc (.cells #[.int .i64 zk, .int .i64 0, .string ⟨#[]⟩, .float .f64 0] 24)).cell? ⟨w5.heap.size, 3, none⟩ = some (.float .f64 0) := by simp
        have hv : Up w5 (w5.alloc (.cells #[.int .i64 zk, .int .i64 0, .string ⟨#[]⟩, .float .f64 0] 24)) := (Up.refl _).alloc _
        generalize w5.alloc (.cells #[.int .i64 zk, .int .i64 0, .string ⟨#[]⟩, .float .f64 0] 24) = W at cy0 cy1 cy2 cy3 hv ⊢
        replace hu := hide (hu.out.trans hv)
        replace V2 := hide (V2.out.up hv)
        replace V3 := hide (V3.out.up hv)
        replace ca0 := hv.cell ca0
        replace ca1 := hv.cell ca1
        replace ca2 := hv.cell ca2
        replace ca3 := hv.cell ca3
        replace cb0 := hv.cell cb0
        replace cb1 := hv.cell cb1
        replace cb2 := hv.cell cb2
        replace cb3 := hv.cell cb3
        replace cz0 := hv.cell cz0
        replace cz1 := hv.cell cz1
        replace cz2 := hv.cell cz2
        replace cz3 := hv.cell cz3
        clear hv
        refine region_up (by kernel_rfl) (by kernel_rfl) ?_
        repeat (first
          | go_big_quiet_skip
          | (go_big_quiet_want; go_big_quiet_op; go_big_quiet_on)
          | (go_big_quiet_want
             apply Exists.intro
             refine ⟨fun w' hw' => ?_, ?_⟩
             (skip
              have ca0 := hw'.cell ca0
              have ca1 := hw'.cell ca1
              have ca2 := hw'.cell ca2
              have ca3 := hw'.cell ca3
              have cb0 := hw'.cell cb0
              have cb1 := hw'.cell cb1
              have cb2 := hw'.cell cb2
              have cb3 := hw'.cell cb3
              have cz0 := hw'.cell cz0
              have cz1 := hw'.cell cz1
              have cz2 := hw'.cell cz2
              have cz3 := hw'.cell cz3
              have cy0 := hw'.cell cy0
              have cy1 := hw'.cell cy1
              have cy2 := hw'.cell cy2
              have cy3 := hw'.cell cy3
              go_simp
              first
              | done
              | with_reducible rfl
              | (go_at_call 13; exact quiet_call hw' (vis_calls _ _ _ _ _))
              | (go_at_call 14; exact quiet_call hw' (ris_calls _ _ _ _ _))
              | (go_at_call 15; exact quiet_call hw' (vcompare_calls _ _ _ _ _ _ _ _ (by with_reducible assumption) (by with_reducible assumption) _))
              | (go_at_call 16; exact quiet_call hw' (rvcompare_calls _ _ _ _ _ _ _ _ (by with_reducible assumption) (by with_reducible assumption) _))
              | (go_at_call 17; exact quiet_call hw' (vsame_calls _ _ _ _ _ _ _ _ (by with_reducible assumption) (by with_reducible assumption) _))
              | (go_at_call 18; exact quiet_call hw' (rvsame_calls _ _ _ _ _ _ _ _ (by with_reducible assumption) (by with_reducible assumption) _))
              | (go_at_call 19; exact quiet_call hw' (vrows_calls _ _ _ _ _ _ l2 l3 _ M2.out M3.out (V2.out.up hw') (V3.out.up hw')))
              | (go_at_call 20; exact quiet_call hw' (rvrows_calls _ _ _ _ _ _ l2 l3 _ M2.out M3.out (V2.out.up hw') (V3.out.up hw')))
              | (go_at_call 21; exact quiet_call hw' (vhash_calls _ _ _ l2 _ M2.out (V2.out.up hw')))
              | (go_at_call 22; exact quiet_call hw' (rvhash_calls _ _ _ l2 _ M2.out (V2.out.up hw')))
             )
             go_big_quiet_on
             try simp only [Act.put, List.setIfInBounds_toArray, List.set_cons_zero, List.set_cons_succ]))
        refine wpQuiet_nil ?_
        intro w6 hw6
        replace hu := hide (hu.out.trans hw6)
        clear hw6
        go_wp2
        go_ret
        exact ⟨rfl, hu.out⟩


theorem valueTells_own : ownKnob Try.prog.godebug = none := by kernel_rfl
theorem valueTells_laidOut : laidOutB Try.prog = true := by kernel_rfl

set_option maxHeartbeats 4000000 in
theorem valueTells_walk (k0 n0 : Int) (s0 : ByteArray) (f0 : Nat) (k1 n1 : Int) (s1 : ByteArray) (f1 : Nat) (a2 : Option Addr) (len2 cap2 : Nat) (l2 : List VT) (a3 : Option Addr) (len3 cap3 : Nat) (l3 : List VT) (a4 : Int) (w : World) (w0 : Fits (k0, n0, s0, f0)) (w1 : Fits (k1, n1, s1, f1)) (w2 : len2 ≤ maxLen ∧ len2 ≤ cap2 ∧ cap2 ≤ maxLen ∧ Vals w a2 len2 l2) (w3 : len3 ≤ maxLen ∧ len3 ≤ cap3 ∧ cap3 ≤ maxLen ∧ Vals w a3 len3 l3) (w4 : (Lit.int .i64 a4).wf = true) :
    Calls Try.prog 3 #[.agg #[.int .i64 k0, .int .i64 n0, .string s0, .float .f64 f0], .agg #[.int .i64 k1, .int .i64 n1, .string s1, .float .f64 f1], .slice a2 len2 cap2, .slice a3 len3 cap3, .int .i64 a4] w fun e w' => e = .returned (.bool true) ∧ Up w w' := by
  obtain ⟨m2, _, _, v2⟩ := w2
  obtain ⟨m3, _, _, v3⟩ := w3
  cases hk : kindB a4
  · have h : a4 < 1 ∨ 5 < a4 := by
      unfold kindB at hk
      rw [Bool.and_eq_false_iff, decide_eq_false_iff_not, decide_eq_false_iff_not] at hk
      omega
    exact valueTells_core k0 n0 s0 f0 k1 n1 s1 f1 a2 len2 cap2 l2 a3 len3 cap3 l3 a4 0 10 w w0 w1 m2 v2 m3 v3 (fun w => vzero_bad a4 hk w) (fun w => rvzero_bad a4 h w)
  · have h : 1 ≤ a4 ∧ a4 ≤ 5 := by
      unfold kindB at hk
      rwa [Bool.and_eq_true, decide_eq_true_eq, decide_eq_true_eq] at hk
    exact valueTells_core k0 n0 s0 f0 k1 n1 s1 f1 a2 len2 cap2 l2 a3 len3 cap3 l3 a4 a4 0 w w0 w1 m2 v2 m3 v3 (fun w => vzero_good a4 hk w) (fun w => rvzero_good a4 (by omega) (by omega) w)

set_option maxRecDepth 100000 in
theorem valueTells_lifted (os : Os) (started : os.Started) (H : Type) (enc : TypeId × Value → H) :
    ReturnsInHanded {} Try.checked os 3 .any (Rows.valueTellsSpec.pre6 enc Try.prog Try.f3 Rows.valueTellsRow.domain false) (Rows.valueTellsSpec.post enc Try.prog Try.f3 false true false false) := by
  refine returnsInHanded_of_change (C := Try.checked) valueTells_own started (by kernel_rfl) Try.func3
    (ChangeSpec.witness6 (enc := enc) (C := Try.checked) false ⟨#[], #[.agg #[.int .i64 0, .int .i64 0, .string ⟨#[]⟩, .float .f64 0], .agg #[.int .i64 0, .int .i64 0, .string ⟨#[]⟩, .float .f64 0], .slice none 0 0, .slice none 0 0, .int .i64 0], []⟩ 8 (by kernel_rfl) (by kernel_rfl) (by kernel_rfl) (by kernel_rfl)) ?_
  intro W base args ds gs before hval0 hW hcnd _
  have hval : ∀ (j : Nat) t v, Try.f3.params[j]? = some t → args[j]? = some v → Value.okWide Try.prog W .any base t v := hval0
  have hW' := hW
  obtain ⟨p, q, hA0, hV, rfl, hfz, hnd⟩ := hW
  have hA : DataW.TrodAll enc Try.prog W 0 (fun _ => true) true Try.f3.params.toList args.toList ds p := hA0
  rw [Try.params3] at hA hval
  obtain ⟨v0, vs0, d0, ds0, p0, q0, hargs, rfl, rfl, h0, r0⟩ := trodAll_cons hA
  obtain ⟨v1, vs1, d1, ds1, p1, q1, rfl, rfl, rfl, h1, r1⟩ := trodAll_cons r0
  obtain ⟨v2, vs2, d2, ds2, p2, q2, rfl, rfl, rfl, h2, r2⟩ := trodAll_cons r1
  obtain ⟨v3, vs3, d3, ds3, p3, q3, rfl, rfl, rfl, h3, r3⟩ := trodAll_cons r2
  obtain ⟨v4, vs4, d4, ds4, p4, q4, rfl, rfl, rfl, h4, r4⟩ := trodAll_cons r3
  obtain ⟨rfl, rfl, rfl⟩ := trodAll_nil r4
  obtain rfl : args = #[v0, v1, v2, v3, v4] := by cases args; simp_all
  obtain ⟨rfl, rfl⟩ := trodVars_none hV
  have y0 := h0
  have lt0 : ∀ x ∈ p0, x.block < W.heap.size := by obtain ⟨m, hm⟩ := y0; exact DataW.trod_lt m _ _ _ hm
  have y1 := h1
  have lt1 : ∀ x ∈ p1, x.block < W.heap.size := by obtain ⟨m, hm⟩ := y1; exact DataW.trod_lt m _ _ _ hm
  have y2 := h2
  have lt2 : ∀ x ∈ p2, x.block < W.heap.size := by obtain ⟨m, hm⟩ := y2; exact DataW.trod_lt m _ _ _ hm
  have y3 := h3
  have lt3 : ∀ x ∈ p3, x.block < W.heap.size := by obtain ⟨m, hm⟩ := y3; exact DataW.trod_lt m _ _ _ hm
  have y4 := h4
  have lt4 : ∀ x ∈ p4, x.block < W.heap.size := by obtain ⟨m, hm⟩ := y4; exact DataW.trod_lt m _ _ _ hm
  obtain ⟨k0, n0, s0, f0, rfl, w0⟩ := open_value (hval 0 24 v0 rfl rfl) h0
  obtain ⟨k1, n1, s1, f1, rfl, w1⟩ := open_value (hval 1 24 v1 rfl rfl) h1
  obtain ⟨a2, len2, cap2, rfl⟩ := okWide_slice Try.underlying25 (hval 2 25 v2 rfl rfl)
  obtain ⟨l2, w2⟩ := open_values h2
  obtain ⟨a3, len3, cap3, rfl⟩ := okWide_slice Try.underlying25 (hval 3 25 v3 rfl rfl)
  obtain ⟨l3, w3⟩ := open_values h3
  obtain ⟨a4, rfl, _, _, w4⟩ := open_int Try.underlying3 (hval 4 3 v4 rfl rfl) h4
  clear hA0 hval0
  refine (valueTells_walk k0 n0 s0 f0 k1 n1 s1 f1 a2 len2 cap2 l2 a3 len3 cap3 l3 a4 W w0 w1 w2 w3 w4).mono fun e W' ⟨he, bel⟩ => ?_
  subst he
  exact ⟨_, rfl, _, _, _, [], _, [], hW', trodAll_mk1 (shut_bool Try.underlying4 _), (trodAll_cons_mk (Below.trod valueTells_laidOut (by kernel_rfl) (of_decide_eq_true (by kernel_rfl)) y0 bel.below lt0) (trodAll_cons_mk (Below.trod valueTells_laidOut (by kernel_rfl) (of_decide_eq_true (by kernel_rfl)) y1 bel.below lt1) (trodAll_cons_mk (Below.trod valueTells_laidOut (by kernel_rfl) (of_decide_eq_true (by kernel_rfl)) y2 bel.below lt2) (trodAll_cons_mk (Below.trod valueTells_laidOut (by kernel_rfl) (of_decide_eq_true (by kernel_rfl)) y3 bel.below lt3) (trodAll_cons_mk (Below.trod valueTells_laidOut (by kernel_rfl) (of_decide_eq_true (by kernel_rfl)) y4 bel.below lt4) trodAll_mk0))))), rfl, bel.below.frame _, fun h => by cases h⟩

theorem valueTells_over : Rows.valueTellsRow.holds Try.pinned (OpenSpec.ofChange Rows.valueTellsSpec) :=
  OpenClaim.holds_of_wide 3 Try.f3 rfl rfl rfl rfl rfl rfl rfl ⟨rfl, rfl, rfl, rfl, rfl⟩ rfl rfl rfl rfl rfl (by kernel_rfl) Try.func3 (by kernel_rfl)
    (of_decide_eq_true (by kernel_rfl)) (by unfold Func.isWrapper; first | (rw [if_pos (by decide +kernel)]; kernel_rfl) | (rw [if_neg (by decide +kernel)]; exact ⟨rfl, rfl⟩))
    (fun os started H enc _ => valueTells_lifted os started H enc)

theorem valueTells_proved : Rows.ValueTellsSaid := valueTells_over
#print axioms valueTells_proved
end Go.Proofs.Ytoaafkcpakigiaa

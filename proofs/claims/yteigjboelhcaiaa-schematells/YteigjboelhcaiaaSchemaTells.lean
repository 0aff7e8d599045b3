/-
  For every shape, record, name, definition and choice of hooks the law SchemaTells returns true: whether they may be, with the document's errors, fields by name, and copies are the document's; no condition.
-/
import Derived.Test.YteigjboelhcaiaaRows
import Derived.WalkKit
import Derived.ProofKit
import Derived.OpenShut
import Derived.ShutString
import Derived.ChangeOld
import Derived.Below
import Derived.Carry
import Derived.Test.YteigjboelhcaiaaSchKnown
import Derived.Test.YteigjboelhcaiaaSchHook2
import Derived.Test.YteigjboelhcaiaaSchCopy
import Derived.Test.YteigjboelhcaiaaRefSchE
import Derived.Test.YteigjboelhcaiaaCodeApp
import Derived.Test.YteigjboelhcaiaaValHelp
import Derived.Test.YteigjboelhcaiaaOpensF
namespace Go.Proofs.Yteigjboelhcaiaa
open Go.ChangeShapes Go.WideShapes Go.ChangeAt Go.RowKit
open Go.ChangeMaps (open_string shut_string)
set_option linter.unusedVariables false
attribute [local go_sem ↓] Go.wp_at_zero Go.wp_at_succ
attribute [local go_sem] run_store_float

set_option maxRecDepth 20000 in
set_option maxHeartbeats 40000000 in
theorem schemaTells_core (a0 : Option Addr) (len0 cap0 : Nat) (l0 : List FT) (a1 : Option Addr) (len1 cap1 : Nat) (l1 : List VT) (s2 s3 : ByteArray) (k3 : Int) (a3 : Option Addr) (len3 cap3 : Nat) (l3 : List PT) (c3 : Int) (a4 : Option Addr) (len4 cap4 : Nat) (l4 : List Bool) (a5 : Option Addr) (len5 cap5 : Nat) (l5 : List Bool) (w : World)
    (m0 : len0 ≤ maxLen) (i0 : len0 ≤ cap0) (j0 : cap0 ≤ maxLen) (v0 : Flds w a0 len0 l0) (m1 : len1 ≤ maxLen) (v1 : Vals w a1 len1 l1) (m3 : len3 ≤ maxLen) (z3 : s3.size ≤ maxLen) (v3 : Prts w a3 len3 l3) (v4 : Blns w a4 len4 l4) (v5 : Blns w a5 len5 l5) :
    Calls Try.prog 3 #[.slice a0 len0 cap0, .slice a1 len1 cap1, .string s2, .agg #[.string s3, .int .i64 k3, .slice a3 len3 cap3, .int .i64 c3], .slice a4 len4 cap4, .slice a5 len5 cap5] w fun e w' => e = .returned (.bool true) ∧ Up w w' := by
  go_enter Try.func3, Try.ntmps3
  go_wp2_with fail
  go_at_call 6
  refine (known_calls _).mono ?_
  rintro _ w1 ⟨rfl, hu1⟩
  have d0 : w1.cell? ⟨w.heap.size, 0, none⟩ = some (.string s3) := hu1.cell (by go_simp)
  have d1 : w1.cell? ⟨w.heap.size, 1, none⟩ = some (.int .i64 k3) := hu1.cell (by go_simp)
  have d2 : w1.cell? ⟨w.heap.size, 2, none⟩ = some (.slice a3 len3 cap3) := hu1.cell (by go_simp)
  have d3 : w1.cell? ⟨w.heap.size, 3, none⟩ = some (.int .i64 c3) := hu1.cell (by go_simp)
  have hu : Hid (Up w w1) := ((Up.refl _).alloc _).trans hu1
  have HL := hide (v0.up hu.out)
  have HV := hide (v1.up hu.out)
  have HP := hide (v3.up hu.out)
  have HE := hide (v4.up hu.out)
  have HC := hide (v5.up hu.out)
  clear v0 v1 v3 v4 v5 hu1
  cases g1 : lfewB l0 with
  | false =>
    go_wp2_with (first | (go_at_call 7; refine (lfew_calls _ _ _ l0 _ (by with_reducible assumption) HL.out).mono ?_; rintro _ w2 ⟨rfl, hw2⟩; obtain rfl : w1 = w2 := hw2.symm) | (go_at_call 8; refine (few_calls _ _ _ l1 _ _ (by with_reducible assumption) HV.out).mono ?_; rintro _ w2 ⟨rfl, hw2⟩; obtain rfl : w1 = w2 := hw2.symm))
    go_ret
    exact ⟨rfl, hu.out⟩
  | true =>
  cases g2 : fewB l1 12 with
  | false =>
    go_wp2_with (first | (go_at_call 7; refine (lfew_calls _ _ _ l0 _ (by with_reducible assumption) HL.out).mono ?_; rintro _ w2 ⟨rfl, hw2⟩; obtain rfl : w1 = w2 := hw2.symm) | (go_at_call 8; refine (few_calls _ _ _ l1 _ _ (by with_reducible assumption) HV.out).mono ?_; rintro _ w2 ⟨rfl, hw2⟩; obtain rfl : w1 = w2 := hw2.symm))
    go_ret
    exact ⟨rfl, hu.out⟩
  | true =>
  have hfew : Hid (len1 ≤ 12 ∧ ∀ i, (l1.getD i zeroT).2.2.1.size ≤ 200) := by
    unfold fewB at g2
    rw [Bool.and_eq_true] at g2
    refine ⟨?_, shortB_get g2.1⟩
    have := of_decide_eq_true g2.2
    rw [HV.out.1] at this
    omega
  by_cases h2 : (60 : Int) < s2.size
  · have t2 : decide ((60 : Int) < s2.size) = true := decide_eq_true h2
    clear h2
    go_wp2_with (first | (go_at_call 7; refine (lfew_calls _ _ _ l0 _ (by with_reducible assumption) HL.out).mono ?_; rintro _ w2 ⟨rfl, hw2⟩; obtain rfl : w1 = w2 := hw2.symm) | (go_at_call 8; refine (few_calls _ _ _ l1 _ _ (by with_reducible assumption) HV.out).mono ?_; rintro _ w2 ⟨rfl, hw2⟩; obtain rfl : w1 = w2 := hw2.symm))
    go_ret
    exact ⟨rfl, hu.out⟩
  have t2 : decide ((60 : Int) < s2.size) = false := decide_eq_false h2
  replace h2 := hide h2
  go_wp2_with (first | (go_at_call 7; refine (lfew_calls _ _ _ l0 _ (by with_reducible assumption) HL.out).mono ?_; rintro _ w2 ⟨rfl, hw2⟩; obtain rfl : w1 = w2 := hw2.symm) | (go_at_call 8; refine (few_calls _ _ _ l1 _ _ (by with_reducible assumption) HV.out).mono ?_; rintro _ w2 ⟨rfl, hw2⟩; obtain rfl : w1 = w2 := hw2.symm))
  go_at_call 9
  refine (hdef_calls _ _ _ _ _ _ _).mono ?_
  rintro _ w2 ⟨rfl, hu2⟩
  replace d0 := hu2.cell d0
  replace d1 := hu2.cell d1
  replace d2 := hu2.cell d2
  replace d3 := hu2.cell d3
  replace HL := hide (HL.out.up hu2)
  replace HV := hide (HV.out.up hu2)
  replace HP := hide (HP.out.up hu2)
  replace HE := hide (HE.out.up hu2)
  replace HC := hide (HC.out.up hu2)
  replace hu := hide (hu.out.trans hu2)
  clear hu2 g1 g2 t2
  cases g4 : helpDefB s3 len3 with
  | false =>
    go_wp2
    go_ret
    exact ⟨rfl, hu.out⟩
  | true =>
  by_cases h4 : (8 : Int) < len4
  · have t4 : decide ((8 : Int) < len4) = true := decide_eq_true h4
    clear h4
    go_wp2
    go_ret
    exact ⟨rfl, hu.out⟩
  have t4 : decide ((8 : Int) < len4) = false := decide_eq_false h4
  by_cases h5 : (8 : Int) < len5
  · have t5 : decide ((8 : Int) < len5) = true := decide_eq_true h5
    clear h5 h4
    go_wp2
    go_ret
    exact ⟨rfl, hu.out⟩
  have t5 : decide ((8 : Int) < len5) = false := decide_eq_false h5
  have h48 : len4 ≤ 8 := by omega
  have h58 : len5 ≤ 8 := by omega
  clear h4 h5
  go_wp2_with fail
  clear t4 t5 g4
  go_at_call 10
  refine (field_calls _ _ _ l0 _ _ m0 HL.out).mono ?_
  rintro _ w3 ⟨rfl, hu3⟩
  replace d0 := hu3.cell d0
  replace d1 := hu3.cell d1
  replace d2 := hu3.cell d2
  replace d3 := hu3.cell d3
  replace HL := hide (HL.out.up hu3)
  replace HV := hide (HV.out.up hu3)
  replace HP := hide (HP.out.up hu3)
  replace HE := hide (HE.out.up hu3)
  replace HC := hide (HC.out.up hu3)
  replace hu := hide (hu.out.trans hu3)
  clear hu3
  go_wp2_with (go_at_call 11; refine (rfield_calls _ _ _ l0 _ _ m0 HL.out).mono ?_; rintro _ w4 ⟨rfl, hw4⟩; obtain rfl : w3 = w4 := hw4.symm)
  go_at_call 12
  refine (scopy_calls _ _ _ l1 _ hfew.out.1 HV.out hfew.out.2).mono ?_
  rintro _ w5 ⟨ac, rfl, hcv, hu5⟩
  replace d0 := hu5.cell d0
  replace d1 := hu5.cell d1
  replace d2 := hu5.cell d2
  replace d3 := hu5.cell d3
  replace HL := hide (HL.out.up hu5)
  replace HV := hide (HV.out.up hu5)
  replace HP := hide (HP.out.up hu5)
  replace HE := hide (HE.out.up hu5)
  replace HC := hide (HC.out.up hu5)
  have HCV := hide hcv
  replace hu := hide (hu.out.trans hu5)
  clear hu5 hcv
  go_wp2_with fail
  have HK : Hid (∀ w', Up w5 w' → Up w5 w' ∧ w'.cell? ⟨w.heap.size, 0, none⟩ = some (.string s3) ∧ w'.cell? ⟨w.heap.size, 1, none⟩ = some (.int .i64 k3) ∧ w'.cell? ⟨w.heap.size, 2, none⟩ = some (.slice a3 len3 cap3) ∧ w'.cell? ⟨w.heap.size, 3, none⟩ = some (.int .i64 c3)) :=
    fun w' h => ⟨h, h.cell d0, h.cell d1, h.cell d2, h.cell d3⟩
  have hk0 : Up w5 w5.drew := (Up.refl _).drew
  clear d0 d1 d2 d3
  go_region_held3 (fun w' => Up w5 w' ∧ w'.cell? ⟨w.heap.size, 0, none⟩ = some (.string s3) ∧ w'.cell? ⟨w.heap.size, 1, none⟩ = some (.int .i64 k3) ∧ w'.cell? ⟨w.heap.size, 2, none⟩ = some (.slice a3 len3 cap3) ∧ w'.cell? ⟨w.heap.size, 3, none⟩ = some (.int .i64 c3)) (exact HK.out _ (by assumption))
    (first
      | (go_at_call 13; refine (sis_calls _ _ _ l0 _ i0 j0 ?_).mono ?_; exact HL.out.up (by assumption); rintro _ w6 ⟨rfl, hu6⟩; have hk6 : Up w5 w6 := Up.trans (by assumption) hu6; clear hu6)
      | (go_at_call 14; refine (rsis_calls _ _ _ l0 _ m0 ?_).mono ?_; exact HL.out.up (by assumption); rintro _ w6 ⟨rfl, hu6⟩; have hk6 : Up w5 w6 := Up.trans (by assumption) hu6; clear hu6)
      | (go_at_call 15; refine (check_calls _ _ _ l0 _ _ _ l1 _ i0 j0 ?_ ?_).mono ?_; exact HL.out.up (by assumption); exact HV.out.up (by assumption); rintro _ w6 ⟨rfl, hu6⟩; have hk6 : Up w5 w6 := Up.trans (by assumption) hu6; clear hu6)
      | (go_at_call 16; refine (rcheck_calls _ _ _ l0 _ _ _ l1 _ m0 ?_ ?_).mono ?_; exact HL.out.up (by assumption); exact HV.out.up (by assumption); rintro _ w6 ⟨rfl, hu6⟩; have hk6 : Up w5 w6 := Up.trans (by assumption) hu6; clear hu6)
      | (go_at_call 18; refine (hooks_calls _ _ _ l4 _ _ _ l5 _ h48 h58 ?_ ?_).mono ?_; exact HE.out.up (by assumption); exact HC.out.up (by assumption); rintro _ w6 ⟨ea, ec, EL, ca, cc, CL, rfl, hfe, hfc, hme, hmc, hu6⟩; have hk6 : Up w5 w6 := Up.trans (by assumption) hu6; clear hu6)
      | (go_at_call 17; refine (def_calls _ _ _ l0 _ _ _ _ _ l3 _ _ _ _ EL _ _ _ CL _ i0 j0 z3 m3 ?_ ?_ ?_ ?_).mono ?_; exact HL.out.up (by assumption); exact HP.out.up (by assumption); (first | exact hfe | exact hfe.up (by assumption)); (first | exact hfc | exact hfc.up (by assumption)); rintro _ w7 ⟨rfl, hu7⟩; have hk7 : Up w5 w7 := Up.trans (by assumption) hu7; clear hu7)
      | (go_at_call 19; refine (rdef_calls _ _ _ l0 _ _ _ _ _ l3 _ _ _ _ l4 _ _ _ l5 _ m0 z3 ?_ ?_ ?_ ?_).mono ?_; exact HL.out.up (by assumption); exact HP.out.up (by assumption); exact HE.out.up (by assumption); exact HC.out.up (by assumption); rintro _ w8 ⟨rfl, hu8⟩; have hk8 : Up w5 w8 := Up.trans (by assumption) hu8)
      | (go_at_call 20; refine (same_calls' _ _ _ _ _ l1 _ m1 ?_ ?_).mono ?_; exact HCV.out.up (by assumption); exact HV.out.up (by assumption); rintro _ w9 ⟨rfl, hu9⟩; have hk9 : Up w5 w9 := Up.trans (by assumption) hu9; clear hu9))
  all_goals (have hk := hide (hu.out.trans hk9); go_wp2; go_ret; exact ⟨rfl, hk.out⟩)

theorem schemaTells_own : ownKnob Try.prog.godebug = none := by kernel_rfl
theorem schemaTells_laidOut : laidOutB Try.prog = true := by kernel_rfl

set_option maxHeartbeats 4000000 in
theorem schemaTells_walk (a0 : Option Addr) (len0 cap0 : Nat) (l0 : List FT) (a1 : Option Addr) (len1 cap1 : Nat) (l1 : List VT) (s2 : ByteArray) (s3 : ByteArray) (k3 : Int) (a3 : Option Addr) (len3 cap3 : Nat) (l3 : List PT) (c3 : Int) (a4 : Option Addr) (len4 cap4 : Nat) (l4 : List Bool) (a5 : Option Addr) (len5 cap5 : Nat) (l5 : List Bool) (w : World) (w0 : len0 ≤ maxLen ∧ len0 ≤ cap0 ∧ cap0 ≤ maxLen ∧ Flds w a0 len0 l0) (w1 : len1 ≤ maxLen ∧ len1 ≤ cap1 ∧ cap1 ≤ maxLen ∧ Vals w a1 len1 l1) (w2 : s2.size ≤ maxLen) (w3 : FitsF (s3, k3) ∧ (IntKind.i64.min ≤ c3 ∧ c3 ≤ IntKind.i64.max) ∧ len3 ≤ maxLen ∧ len3 ≤ cap3 ∧ cap3 ≤ maxLen ∧ Prts w a3 len3 l3) (w4 : len4 ≤ maxLen ∧ len4 ≤ cap4 ∧ cap4 ≤ maxLen ∧ Blns w a4 len4 l4) (w5 : len5 ≤ maxLen ∧ len5 ≤ cap5 ∧ cap5 ≤ maxLen ∧ Blns w a5 len5 l5) :
    Calls Try.prog 3 #[.slice a0 len0 cap0, .slice a1 len1 cap1, .string s2, .agg #[.string s3, .int .i64 k3, .slice a3 len3 cap3, .int .i64 c3], .slice a4 len4 cap4, .slice a5 len5 cap5] w fun e w' => e = .returned (.bool true) ∧ Up w w' := by
  exact schemaTells_core a0 len0 cap0 l0 a1 len1 cap1 l1 s2 s3 k3 a3 len3 cap3 l3 c3 a4 len4 cap4 l4 a5 len5 cap5 l5 w w0.1 w0.2.1 w0.2.2.1 w0.2.2.2 w1.1 w1.2.2.2 w3.2.2.1 w3.1.1 w3.2.2.2.2.2 w4.2.2.2 w5.2.2.2

set_option maxRecDepth 100000 in
theorem schemaTells_lifted (os : Os) (started : os.Started) (H : Type) (enc : TypeId × Value → H) :
    ReturnsInHanded {} Try.checked os 3 .any (Rows.schemaTellsSpec.pre6 enc Try.prog Try.f3 Rows.schemaTellsRow.domain false) (Rows.schemaTellsSpec.post enc Try.prog Try.f3 false true false false) := by
  refine returnsInHanded_of_change (C := Try.checked) schemaTells_own started (by kernel_rfl) Try.func3
    (ChangeSpec.witness6 (enc := enc) (C := Try.checked) false ⟨#[], #[.slice none 0 0, .slice none 0 0, .string ⟨#[]⟩, .agg #[.string ⟨#[]⟩, .int .i64 0, .slice none 0 0, .int .i64 0], .slice none 0 0, .slice none 0 0], []⟩ 8 (by kernel_rfl) (by kernel_rfl) (by kernel_rfl) (by kernel_rfl)) ?_
  intro W base args ds gs before hval0 hW hcnd _
  have hval : ∀ (j : Nat) t v, Try.f3.params[j]? = some t → args[j]? = some v → Value.okWide Try.prog W .any base t v := hval0
  have hW' := hW
  obtain ⟨p, q, hA0, hV, rfl, hfz, hnd⟩ := hW
  have hA : DataW.TrodAll enc Try.prog W 0 (fun _ => true) true Try.f3.params.toList args.toList ds p := hA0
  rw [Try.params3] at hA hval
  obtain ⟨v0, vs0, d0, ds0, p0, q0, hargs, rfl, rfl, h0, r0⟩ := trodAll_cons hA
  obtain ⟨v1, vs1, d1, ds1, p1, q1, rfl, rfl, rfl, h1, r1⟩ := trodAll_cons r0
  obtain ⟨v2, vs2, d2, ds2, p2, q2, rfl, rfl, rfl, h2, r2⟩ := trodAll_cons r1
  obtain ⟨v3, vs3, d3, ds3, p3, q3, rfl, rfl, rfl, h3, r3⟩ := trodAll_cons r2
  obtain ⟨v4, vs4, d4, ds4, p4, q4, rfl, rfl, rfl, h4, r4⟩ := trodAll_cons r3
  obtain ⟨v5, vs5, d5, ds5, p5, q5, rfl, rfl, rfl, h5, r5⟩ := trodAll_cons r4
  obtain ⟨rfl, rfl, rfl⟩ := trodAll_nil r5
  obtain rfl : args = #[v0, v1, v2, v3, v4, v5] := by cases args; simp_all
  obtain ⟨rfl, rfl⟩ := trodVars_none hV
  have y0 := h0
  have lt0 : ∀ x ∈ p0, x.block < W.heap.size := by obtain ⟨m, hm⟩ := y0; exact DataW.trod_lt m _ _ _ hm
  have y1 := h1
  have lt1 : ∀ x ∈ p1, x.block < W.heap.size := by obtain ⟨m, hm⟩ := y1; exact DataW.trod_lt m _ _ _ hm
  have y2 := h2
  have lt2 : ∀ x ∈ p2, x.block < W.heap.size := by obtain ⟨m, hm⟩ := y2; exact DataW.trod_lt m _ _ _ hm
  have y3 := h3
  have lt3 : ∀ x ∈ p3, x.block < W.heap.size := by obtain ⟨m, hm⟩ := y3; exact DataW.trod_lt m _ _ _ hm
  have y4 := h4
  have lt4 : ∀ x ∈ p4, x.block < W.heap.size := by obtain ⟨m, hm⟩ := y4; exact DataW.trod_lt m _ _ _ hm
  have y5 := h5
  have lt5 : ∀ x ∈ p5, x.block < W.heap.size := by obtain ⟨m, hm⟩ := y5; exact DataW.trod_lt m _ _ _ hm
  obtain ⟨a0, len0, cap0, rfl⟩ := okWide_slice Try.underlying22 (hval 0 22 v0 rfl rfl)
  obtain ⟨l0, w0⟩ := open_fields h0
  obtain ⟨a1, len1, cap1, rfl⟩ := okWide_slice Try.underlying23 (hval 1 23 v1 rfl rfl)
  obtain ⟨l1, w1⟩ := open_values h1
  obtain ⟨s2, rfl, _, _, w2⟩ := open_string Try.underlying9 (hval 2 9 v2 rfl rfl) h2
  obtain ⟨s3, k3, a3, len3, cap3, l3, c3, rfl, w3⟩ := open_def (hval 3 26 v3 rfl rfl) h3
  obtain ⟨a4, len4, cap4, rfl⟩ := okWide_slice Try.underlying27 (hval 4 27 v4 rfl rfl)
  obtain ⟨l4, w4⟩ := open_truths h4
  obtain ⟨a5, len5, cap5, rfl⟩ := okWide_slice Try.underlying27 (hval 5 27 v5 rfl rfl)
  obtain ⟨l5, w5⟩ := open_truths h5
  clear hA0 hval0
  refine (schemaTells_walk a0 len0 cap0 l0 a1 len1 cap1 l1 s2 s3 k3 a3 len3 cap3 l3 c3 a4 len4 cap4 l4 a5 len5 cap5 l5 W w0 w1 w2 w3 w4 w5).mono fun e W' ⟨he, bel⟩ => ?_
  subst he
  exact ⟨_, rfl, _, _, _, [], _, [], hW', trodAll_mk1 (shut_bool Try.underlying4 _), (trodAll_cons_mk (Below.trod schemaTells_laidOut (by kernel_rfl) (of_decide_eq_true (by kernel_rfl)) y0 bel.below lt0) (trodAll_cons_mk (Below.trod schemaTells_laidOut (by kernel_rfl) (of_decide_eq_true (by kernel_rfl)) y1 bel.below lt1) (trodAll_cons_mk (Below.trod schemaTells_laidOut (by kernel_rfl) (of_decide_eq_true (by kernel_rfl)) y2 bel.below lt2) (trodAll_cons_mk (Below.trod schemaTells_laidOut (by kernel_rfl) (of_decide_eq_true (by kernel_rfl)) y3 bel.below lt3) (trodAll_cons_mk (Below.trod schemaTells_laidOut (by kernel_rfl) (of_decide_eq_true (by kernel_rfl)) y4 bel.below lt4) (trodAll_cons_mk (Below.trod schemaTells_laidOut (by kernel_rfl) (of_decide_eq_true (by kernel_rfl)) y5 bel.below lt5) trodAll_mk0)))))), rfl, bel.below.frame _, fun h => by cases h⟩

theorem schemaTells_over : Rows.schemaTellsRow.holds Try.pinned (OpenSpec.ofChange Rows.schemaTellsSpec) :=
  OpenClaim.holds_of_wide 3 Try.f3 rfl rfl rfl rfl rfl rfl rfl ⟨rfl, rfl, rfl, rfl, rfl⟩ rfl rfl rfl rfl rfl (by kernel_rfl) Try.func3 (by kernel_rfl)
    (of_decide_eq_true (by kernel_rfl)) (by unfold Func.isWrapper; first | (rw [if_pos (by decide +kernel)]; kernel_rfl) | (rw [if_neg (by decide +kernel)]; exact ⟨rfl, rfl⟩))
    (fun os started H enc _ => schemaTells_lifted os started H enc)

theorem schemaTells_proved : Rows.SchemaTellsSaid := schemaTells_over
#print axioms schemaTells_proved
end Go.Proofs.Yteigjboelhcaiaa

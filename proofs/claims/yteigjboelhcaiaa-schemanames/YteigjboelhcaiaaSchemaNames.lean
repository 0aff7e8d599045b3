/-
  For every two strings the law SchemaNames returns true: names are one to twenty small letters, digits and lines, and two fields do not have one name; no condition.
-/
import Derived.Test.YteigjboelhcaiaaRows
import Derived.WalkKit
import Derived.ProofKit
import Derived.OpenShut
import Derived.ShutString
import Derived.ChangeOld
import Derived.Below
import Derived.Carry
import Derived.Test.YteigjboelhcaiaaSchKnown
import Derived.Test.YteigjboelhcaiaaOpensF
namespace Go.Proofs.Yteigjboelhcaiaa
open Go.ChangeShapes Go.WideShapes Go.ChangeAt Go.RowKit
open Go.ChangeMaps (open_string shut_string)
set_option linter.unusedVariables false
attribute [local go_sem ↓] Go.wp_at_zero Go.wp_at_succ
attribute [local go_sem] run_store_float

theorem isF_two (a b : ByteArray) : isF [(a, 1), (b, 3)] = (nameB a && nameB b && !decide (a = b)) := by
  unfold isF goodF
  simp only [List.length_cons, List.length_nil, List.range_succ, List.range_zero, List.nil_append, List.all_cons, List.all_nil, List.getD_cons_zero, List.getD_cons_succ, List.cons_append]
  cases nameB a <;> cases nameB b <;> simp
theorem isF_one (a : ByteArray) : isF [(a, 1)] = nameB a := by
  unfold isF goodF
  simp only [List.length_cons, List.length_nil, List.range_succ, List.range_zero, List.nil_append, List.all_cons, List.all_nil, List.getD_cons_zero]
  cases nameB a <;> simp
theorem fieldI_two (a b : ByteArray) : fieldI [(a, 1), (b, 3)] b = if a = b then some 0 else some 1 := by
  simp [fieldI]

set_option maxHeartbeats 8000000 in
theorem schemaNames_core (s0 s1 : ByteArray) (B0 B1 Q : Bool) (L : List FT) (w : World) (m0 : s0.size ≤ maxLen) (m1 : s1.size ≤ maxLen) (g0 : nameB s0 = B0) (g1 : nameB s1 = B1) (hq : (s0.toList == s1.toList) = Q)
    (hL : L = [(s0, 1), (s1, 3)]) (r1 : isF L = (B0 && B1 && !Q)) (r2 : fieldN L s1 = if Q = true then 0 else 1) (r3 : fieldB L s1 = true) (r4 : isF (L.take 1) = B0) (r5 : isF [] = false) :
    Calls Try.prog 4 #[.string s0, .string s1] w fun e w' => e = .returned (.bool true) ∧ Up w w' := by
  have HL : ∀ W : World, Hid (Flds (W.alloc (.cells #[.string s0, .int .i64 1, .string s1, .int .i64 3] 49)) (some ⟨W.heap.size, 0, none⟩) 2 L) := fun W => by
    rw [hL]
    exact flds_new2 W s0 s1 1 3 _ ⟨m0, (by decide : IntKind.i64.min ≤ 1), (by decide : (1 : Int) ≤ IntKind.i64.max)⟩ ⟨m1, (by decide : IntKind.i64.min ≤ 3), (by decide : (3 : Int) ≤ IntKind.i64.max)⟩
  clear hL
  have m0' := m0
  have m1' := m1
  unfold maxLen at m0' m1'
  by_cases h0 : (60 : Int) < s0.size
  · have t0 : decide ((60 : Int) < s0.size) = true := decide_eq_true h0
    clear h0
    go_enter Try.func4, Try.ntmps4
    go_wp2_with fail
    go_at_call 6
    refine (known_calls _).mono ?_
    rintro _ w1 ⟨rfl, hu1⟩
    replace hu1 := hide hu1
    go_wp2
    go_ret
    exact ⟨rfl, hu1.out⟩
  have t0 : decide ((60 : Int) < s0.size) = false := decide_eq_false h0
  by_cases h1 : (60 : Int) < s1.size
  · have t1 : decide ((60 : Int) < s1.size) = true := decide_eq_true h1
    clear h0 h1
    go_enter Try.func4, Try.ntmps4
    go_wp2_with fail
    go_at_call 6
    refine (known_calls _).mono ?_
    rintro _ w1 ⟨rfl, hu1⟩
    replace hu1 := hide hu1
    go_wp2
    go_ret
    exact ⟨rfl, hu1.out⟩
  have t1 : decide ((60 : Int) < s1.size) = false := decide_eq_false h1
  clear h0 h1
  cases B0 <;> cases B1 <;> cases Q <;> (
    simp at r1 r2
    go_enter Try.func4, Try.ntmps4
    go_wp2_with fail
    go_at_call 6
    refine (known_calls _).mono ?_
    rintro _ w1 ⟨rfl, hu1⟩
    replace hu1 := hide hu1
    go_wp2_with (go_at_call 21; refine (named_calls _ (by with_reducible assumption) _).mono ?_; rintro _ w2 ⟨rfl, hw2⟩; obtain rfl : w1 = w2 := hw2.symm)
    replace HL := HL w1
    go_at_call 10
    refine (field_calls _ _ _ L _ _ (by decide) HL.out).mono ?_
    rintro _ w2 ⟨rfl, hu2⟩
    replace HL := hide (HL.out.up hu2)
    replace hu1 := hide ((hu1.out.alloc _).trans hu2)
    clear hu2
    go_wp2_with fail
    go_at_call 13
    refine (sis_calls _ _ _ L _ (by decide) (by decide) HL.out).mono ?_
    rintro _ w3 ⟨rfl, hu3⟩
    replace HL := hide (HL.out.up hu3)
    replace hu1 := hide (hu1.out.trans hu3)
    clear hu3
    go_wp2_with fail
    go_at_call 13
    refine (sis_calls _ _ _ (L.take 1) _ (by decide) (by decide) (HL.out.take fits_zeroF (by decide))).mono ?_
    rintro _ w4 ⟨rfl, hu4⟩
    replace hu1 := hide (hu1.out.trans hu4)
    clear hu4 HL
    go_wp2_with (go_at_call 21; refine (named_calls _ (by with_reducible assumption) _).mono ?_; rintro _ w2 ⟨rfl, hw2⟩; obtain rfl : w4 = w2 := hw2.symm)
    go_at_call 13
    refine (sis_calls _ _ _ [] _ (by decide) (by decide) (slc_nil fits_zeroF _ _)).mono ?_
    rintro _ w5 ⟨rfl, hu5⟩
    replace hu1 := hide (hu1.out.trans hu5)
    clear hu5
    go_wp2
    go_ret
    exact ⟨rfl, hu1.out⟩)

theorem schemaNames_own : ownKnob Try.prog.godebug = none := by kernel_rfl
theorem schemaNames_laidOut : laidOutB Try.prog = true := by kernel_rfl

set_option maxHeartbeats 4000000 in
theorem schemaNames_walk (s0 : ByteArray) (s1 : ByteArray) (w : World) (w0 : s0.size ≤ maxLen) (w1 : s1.size ≤ maxLen) :
    Calls Try.prog 4 #[.string s0, .string s1] w fun e w' => e = .returned (.bool true) ∧ Up w w' := by
  refine schemaNames_core s0 s1 _ _ _ _ w w0 w1 rfl rfl rfl rfl ?_ ?_ ?_ ?_ rfl
  · rw [isF_two]
    by_cases h : s0 = s1
    · rw [str_yes h, decide_eq_true h]
    · rw [str_no h, decide_eq_false h]
  · unfold fieldN
    rw [fieldI_two]
    by_cases h : s0 = s1
    · rw [str_yes h, if_pos h]; rfl
    · rw [str_no h, if_neg h]; rfl
  · unfold fieldB
    rw [fieldI_two]
    split <;> rfl
  · exact isF_one s0

set_option maxRecDepth 100000 in
theorem schemaNames_lifted (os : Os) (started : os.Started) (H : Type) (enc : TypeId × Value → H) :
    ReturnsInHanded {} Try.checked os 4 .any (Rows.schemaNamesSpec.pre6 enc Try.prog Try.f4 Rows.schemaNamesRow.domain false) (Rows.schemaNamesSpec.post enc Try.prog Try.f4 false true false false) := by
  refine returnsInHanded_of_change (C := Try.checked) schemaNames_own started (by kernel_rfl) Try.func4
    (ChangeSpec.witness6 (enc := enc) (C := Try.checked) false ⟨#[], #[.string ⟨#[]⟩, .string ⟨#[]⟩], []⟩ 8 (by kernel_rfl) (by kernel_rfl) (by kernel_rfl) (by kernel_rfl)) ?_
  intro W base args ds gs before hval0 hW hcnd _
  have hval : ∀ (j : Nat) t v, Try.f4.params[j]? = some t → args[j]? = some v → Value.okWide Try.prog W .any base t v := hval0
  have hW' := hW
  obtain ⟨p, q, hA0, hV, rfl, hfz, hnd⟩ := hW
  have hA : DataW.TrodAll enc Try.prog W 0 (fun _ => true) true Try.f4.params.toList args.toList ds p := hA0
  rw [Try.params4] at hA hval
  obtain ⟨v0, vs0, d0, ds0, p0, q0, hargs, rfl, rfl, h0, r0⟩ := trodAll_cons hA
  obtain ⟨v1, vs1, d1, ds1, p1, q1, rfl, rfl, rfl, h1, r1⟩ := trodAll_cons r0
  obtain ⟨rfl, rfl, rfl⟩ := trodAll_nil r1
  obtain rfl : args = #[v0, v1] := by cases args; simp_all
  obtain ⟨rfl, rfl⟩ := trodVars_none hV
  have y0 := h0
  have lt0 : ∀ x ∈ p0, x.block < W.heap.size := by obtain ⟨m, hm⟩ := y0; exact DataW.trod_lt m _ _ _ hm
  have y1 := h1
  have lt1 : ∀ x ∈ p1, x.block < W.heap.size := by obtain ⟨m, hm⟩ := y1; exact DataW.trod_lt m _ _ _ hm
  obtain ⟨s0, rfl, _, _, w0⟩ := open_string Try.underlying9 (hval 0 9 v0 rfl rfl) h0
  obtain ⟨s1, rfl, _, _, w1⟩ := open_string Try.underlying9 (hval 1 9 v1 rfl rfl) h1
  clear hA0 hval0
  refine (schemaNames_walk s0 s1 W w0 w1).mono fun e W' ⟨he, bel⟩ => ?_
  subst he
  exact ⟨_, rfl, _, _, _, [], _, [], hW', trodAll_mk1 (shut_bool Try.underlying4 _), (trodAll_cons_mk (Below.trod schemaNames_laidOut (by kernel_rfl) (of_decide_eq_true (by kernel_rfl)) y0 bel.below lt0) (trodAll_cons_mk (Below.trod schemaNames_laidOut (by kernel_rfl) (of_decide_eq_true (by kernel_rfl)) y1 bel.below lt1) trodAll_mk0)), rfl, bel.below.frame _, fun h => by cases h⟩

theorem schemaNames_over : Rows.schemaNamesRow.holds Try.pinned (OpenSpec.ofChange Rows.schemaNamesSpec) :=
  OpenClaim.holds_of_wide 4 Try.f4 rfl rfl rfl rfl rfl rfl rfl ⟨rfl, rfl, rfl, rfl, rfl⟩ rfl rfl rfl rfl rfl (by kernel_rfl) Try.func4 (by kernel_rfl)
    (of_decide_eq_true (by kernel_rfl)) (by unfold Func.isWrapper; first | (rw [if_pos (by decide +kernel)]; kernel_rfl) | (rw [if_neg (by decide +kernel)]; exact ⟨rfl, rfl⟩))
    (fun os started H enc _ => schemaNames_lifted os started H enc)

theorem schemaNames_proved : Rows.SchemaNamesSaid := schemaNames_over
#print axioms schemaNames_proved
end Go.Proofs.Yteigjboelhcaiaa

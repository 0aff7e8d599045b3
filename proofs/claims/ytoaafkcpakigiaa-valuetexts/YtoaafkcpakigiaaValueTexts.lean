/-
  For every two strings the law ValueTexts returns true: texts stand byte by byte, a beginning ahead of the whole; sixty bytes are a value, one more isn't; no condition.
-/
import Derived.Test.YtoaafkcpakigiaaRows
import Derived.WalkKit
import Derived.ProofKit
import Derived.OpenShut
import Derived.ShutString
import Derived.ChangeOld
import Derived.Below
import Derived.Carry
import Derived.Test.YtoaafkcpakigiaaValHelp
import Derived.Test.YtoaafkcpakigiaaOpens
import Derived.Test.YtoaafkcpakigiaaNewVals
import Derived.Test.YtoaafkcpakigiaaValRows
namespace Go.Proofs.Ytoaafkcpakigiaa
open Go.ChangeShapes Go.WideShapes Go.ChangeAt Go.RowKit
open Go.ChangeMaps (open_string shut_string)
set_option linter.unusedVariables false
attribute [local go_sem ↓] Go.wp_at_zero Go.wp_at_succ
attribute [local go_sem] run_store_float

theorem toList_data_eq (s : ByteArray) : s.toList = s.data.toList := Lib.toList_data s

theorem textFacts (q : Int) (s t : ByteArray) :
    cmpV (q, 0, s, 0) (q, 0, t, 0) = cmpS s t := by
  unfold cmpV
  simp only [cmpI_self]
  rcases cmpS_cases s t with ⟨h, _⟩ | ⟨h, _⟩ | ⟨h, _⟩ <;> rw [h] <;> rfl

theorem less_text (s t : ByteArray) : Op.bytesLess s.toList t.toList = decide (cmpS s t < 0) := by
  rw [toList_data_eq, toList_data_eq, cmpB_less]
  show decide (cmpS s t = -1) = _
  rcases cmpS_cases s t with ⟨h, _⟩ | ⟨h, _⟩ | ⟨h, _⟩ <;> rw [h] <;> rfl

theorem same_text (s t : ByteArray) : (s.toList == t.toList) = (cmpS s t == 0) := by
  rw [toList_data_eq, toList_data_eq]
  rcases cmpS_cases s t with ⟨h, _⟩ | ⟨h, e⟩ | ⟨h, _⟩
  · have n : ¬ s.data = t.data := fun e => by
      have : s = t := by cases s; cases t; simp_all
      have := cmpS_zero.2 this; omega
    rw [h]
    simp [n]
  · subst e; rw [h]; simp
  · have n : ¬ s.data = t.data := fun e => by
      have : s = t := by cases s; cases t; simp_all
      have := cmpS_zero.2 this; omega
    rw [h]
    simp [n]

theorem is_text (q : Int) (hq : q = 3 ∨ q = 4) (s : ByteArray) : isB (q, 0, s, 0) = decide ((s.size : Int) ≤ 60) := by
  rcases hq with rfl | rfl <;> simp [isB]

theorem rows_text (a b : VT) : rowsV [a] [a, b] = -1 := by
  rw [rowsV, if_pos (cmpV_self a)]
  rfl

set_option maxHeartbeats 4000000 in
theorem valueTexts_core3 (s0 s1 : ByteArray) (w : World) (h0 : ¬ (100 : Int) < s0.size) (h1 : ¬ (100 : Int) < s1.size) (g0 : Fits (3, 0, s0, 0)) (g1 : Fits (3, 0, s1, 0)) :
    Calls Try.prog 7 #[.string s0, .string s1, .bool false] w fun e w' => e = .returned (.bool true) ∧ Up w w' := by
  have z : 0 < whole := by decide +kernel
  have ec := textFacts 3 s0 s1
  have el := less_text s0 s1
  have es := same_text s0 s1
  have ei := is_text 3 (by decide) s0
  have er := rows_text (3, 0, s0, 0) (3, 0, s1, 0)
  have G0 := hide g0
  have G1 := hide g1
  clear g0 g1
  go_enter Try.func7, Try.ntmps7
  go_wp2_with fail
  go_at_call 9
  refine (known_calls _).mono ?_
  rintro _ w1 ⟨rfl, hu1⟩
  go_wp2_with fail
  go_at_call 15
  refine (vcompare_calls _ _ _ _ _ _ _ _ z z _).mono ?_
  rintro _ w2 ⟨rfl, hu2⟩
  have l0 : w2.cell? ⟨w1.heap.size, 0, none⟩ = some (.int .i64 3) := hu2.cell (by go_simp)
  have l1 : w2.cell? ⟨w1.heap.size, 1, none⟩ = some (.int .i64 0) := hu2.cell (by go_simp)
  have l2 : w2.cell? ⟨w1.heap.size, 2, none⟩ = some (.string s0) := hu2.cell (by go_simp)
  have l3 : w2.cell? ⟨w1.heap.size, 3, none⟩ = some (.float .f64 0) := hu2.cell (by go_simp)
  have r0 : w2.cell? ⟨w1.heap.size + 1, 0, none⟩ = some (.int .i64 3) := hu2.cell (by go_simp)
  have r1 : w2.cell? ⟨w1.heap.size + 1, 1, none⟩ = some (.int .i64 0) := hu2.cell (by go_simp)
  have r2 : w2.cell? ⟨w1.heap.size + 1, 2, none⟩ = some (.string s1) := hu2.cell (by go_simp)
  have r3 : w2.cell? ⟨w1.heap.size + 1, 3, none⟩ = some (.float .f64 0) := hu2.cell (by go_simp)
  have hu : Hid (Up w w2) := hu1.trans ((((Up.refl _).alloc _).alloc _).trans hu2)
  have hlt : w1.heap.size + 1 < w2.heap.size := by have := hu2.size; simp at this; omega
  clear hu1 hu2
  go_wp2_with fail
  go_at_call 13
  refine (vis_calls _ _ _ _ _).mono ?_
  rintro _ w3 ⟨rfl, hu3⟩
  replace hu : Hid (Up w w3) := hu.out.trans hu3
  replace l0 := hu3.cell l0
  replace l1 := hu3.cell l1
  replace l2 := hu3.cell l2
  replace l3 := hu3.cell l3
  replace r0 := hu3.cell r0
  replace r1 := hu3.cell r1
  replace r2 := hu3.cell r2
  replace r3 := hu3.cell r3
  replace hlt : w1.heap.size + 1 < w3.heap.size := Nat.lt_of_lt_of_le hlt hu3.size
  have hlt' : w1.heap.size < w3.heap.size := by omega
  clear hu3
  go_wp2_with (go_at_call 19; refine (vrows_calls _ _ _ _ _ _ _ _ _ (by decide) (by decide) ((vals_new1 _ _ _ _ _ _ G0.out).up ((Up.refl _).alloc _)) (by simpa using vals_new2 (w3.alloc _) _ _ _ _ _ _ _ _ _ G0.out G1.out)).mono ?_; rintro _ w4 ⟨rfl, hu4⟩; replace hu := hu.out.trans ((((Up.refl _).alloc _).alloc _).trans hu4); clear hu4)
  go_ret
  exact ⟨rfl, hu⟩

set_option maxHeartbeats 4000000 in
theorem valueTexts_core4 (s0 s1 : ByteArray) (w : World) (h0 : ¬ (100 : Int) < s0.size) (h1 : ¬ (100 : Int) < s1.size) (g0 : Fits (4, 0, s0, 0)) (g1 : Fits (4, 0, s1, 0)) :
    Calls Try.prog 7 #[.string s0, .string s1, .bool true] w fun e w' => e = .returned (.bool true) ∧ Up w w' := by
  have z : 0 < whole := by decide +kernel
  have ec := textFacts 4 s0 s1
  have el := less_text s0 s1
  have es := same_text s0 s1
  have ei := is_text 4 (by decide) s0
  have er := rows_text (4, 0, s0, 0) (4, 0, s1, 0)
  have G0 := hide g0
  have G1 := hide g1
  clear g0 g1
  go_enter Try.func7, Try.ntmps7
  go_wp2_with fail
  go_at_call 9
  refine (known_calls _).mono ?_
  rintro _ w1 ⟨rfl, hu1⟩
  go_wp2_with fail
  go_at_call 15
  refine (vcompare_calls _ _ _ _ _ _ _ _ z z _).mono ?_
  rintro _ w2 ⟨rfl, hu2⟩
  have l0 : w2.cell? ⟨w1.heap.size, 0, none⟩ = some (.int .i64 4) := hu2.cell (by go_simp)
  have l1 : w2.cell? ⟨w1.heap.size, 1, none⟩ = some (.int .i64 0) := hu2.cell (by go_simp)
  have l2 : w2.cell? ⟨w1.heap.size, 2, none⟩ = some (.string s0) := hu2.cell (by go_simp)
  have l3 : w2.cell? ⟨w1.heap.size, 3, none⟩ = some (.float .f64 0) := hu2.cell (by go_simp)
  have r0 : w2.cell? ⟨w1.heap.size + 1, 0, none⟩ = some (.int .i64 4) := hu2.cell (by go_simp)
  have r1 : w2.cell? ⟨w1.heap.size + 1, 1, none⟩ = some (.int .i64 0) := hu2.cell (by go_simp)
  have r2 : w2.cell? ⟨w1.heap.size + 1, 2, none⟩ = some (.string s1) := hu2.cell (by go_simp)
  have r3 : w2.cell? ⟨w1.heap.size + 1, 3, none⟩ = some (.float .f64 0) := hu2.cell (by go_simp)
  have hu : Hid (Up w w2) := hu1.trans ((((Up.refl _).alloc _).alloc _).trans hu2)
  have hlt : w1.heap.size + 1 < w2.heap.size := by have := hu2.size; simp at this; omega
  clear hu1 hu2
  go_wp2_with fail
  go_at_call 13
  refine (vis_calls _ _ _ _ _).mono ?_
  rintro _ w3 ⟨rfl, hu3⟩
  replace hu : Hid (Up w w3) := hu.out.trans hu3
  replace l0 := hu3.cell l0
  replace l1 := hu3.cell l1
  replace l2 := hu3.cell l2
  replace l3 := hu3.cell l3
  replace r0 := hu3.cell r0
  replace r1 := hu3.cell r1
  replace r2 := hu3.cell r2
  replace r3 := hu3.cell r3
  replace hlt : w1.heap.size + 1 < w3.heap.size := Nat.lt_of_lt_of_le hlt hu3.size
  have hlt' : w1.heap.size < w3.heap.size := by omega
  clear hu3
  go_wp2_with (go_at_call 19; refine (vrows_calls _ _ _ _ _ _ _ _ _ (by decide) (by decide) ((vals_new1 _ _ _ _ _ _ G0.out).up ((Up.refl _).alloc _)) (by simpa using vals_new2 (w3.alloc _) _ _ _ _ _ _ _ _ _ G0.out G1.out)).mono ?_; rintro _ w4 ⟨rfl, hu4⟩; replace hu := hu.out.trans ((((Up.refl _).alloc _).alloc _).trans hu4); clear hu4)
  go_ret
  exact ⟨rfl, hu⟩

theorem valueTexts_long (s0 s1 : ByteArray) (a2 : Bool) (w : World) (h : (100 : Int) < s0.size ∨ (100 : Int) < s1.size) :
    Calls Try.prog 7 #[.string s0, .string s1, .bool a2] w fun e w' => e = .returned (.bool true) ∧ Up w w' := by
  by_cases h0 : (100 : Int) < s0.size
  · clear h
    go_enter Try.func7, Try.ntmps7
    go_wp2_with (go_at_call 9; refine (known_calls _).mono ?_; rintro _ w1 ⟨rfl, hu1⟩)
    go_ret
    exact ⟨rfl, hu1⟩
  · have h1 : (100 : Int) < s1.size := h.resolve_left h0
    clear h
    go_enter Try.func7, Try.ntmps7
    go_wp2_with (go_at_call 9; refine (known_calls _).mono ?_; rintro _ w1 ⟨rfl, hu1⟩)
    go_ret
    exact ⟨rfl, hu1⟩

theorem valueTexts_own : ownKnob Try.prog.godebug = none := by kernel_rfl
theorem valueTexts_laidOut : laidOutB Try.prog = true := by kernel_rfl

set_option maxHeartbeats 4000000 in
theorem valueTexts_walk (s0 : ByteArray) (s1 : ByteArray) (a2 : Bool) (w : World) (w0 : s0.size ≤ maxLen) (w1 : s1.size ≤ maxLen) :
    Calls Try.prog 7 #[.string s0, .string s1, .bool a2] w fun e w' => e = .returned (.bool true) ∧ Up w w' := by
  by_cases h0 : (100 : Int) < s0.size
  · exact valueTexts_long _ _ _ _ (.inl h0)
  · by_cases h1 : (100 : Int) < s1.size
    · exact valueTexts_long _ _ _ _ (.inr h1)
    · have g : ∀ q : Int, (q = 3 ∨ q = 4) → ∀ s : ByteArray, s.size ≤ maxLen → Fits (q, 0, s, 0) := by
        intro q hq s hs
        refine ⟨?_, ?_, (by decide : IntKind.i64.min ≤ (0 : Int)), (by decide : (0 : Int) ≤ IntKind.i64.max), hs, (by decide +kernel : 0 < whole)⟩
        · show IntKind.i64.min ≤ q
          rcases hq with rfl | rfl <;> decide
        · show q ≤ IntKind.i64.max
          rcases hq with rfl | rfl <;> decide
      cases a2
      · exact valueTexts_core3 _ _ _ h0 h1 (g 3 (.inl rfl) _ w0) (g 3 (.inl rfl) _ w1)
      · exact valueTexts_core4 _ _ _ h0 h1 (g 4 (.inr rfl) _ w0) (g 4 (.inr rfl) _ w1)

set_option maxRecDepth 100000 in
theorem valueTexts_lifted (os : Os) (started : os.Started) (H : Type) (enc : TypeId × Value → H) :
    ReturnsInHanded {} Try.checked os 7 .any (Rows.valueTextsSpec.pre6 enc Try.prog Try.f7 Rows.valueTextsRow.domain false) (Rows.valueTextsSpec.post enc Try.prog Try.f7 false true false false) := by
  refine returnsInHanded_of_change (C := Try.checked) valueTexts_own started (by kernel_rfl) Try.func7
    (ChangeSpec.witness6 (enc := enc) (C := Try.checked) false ⟨#[], #[.string ⟨#[]⟩, .string ⟨#[]⟩, .bool false], []⟩ 8 (by kernel_rfl) (by kernel_rfl) (by kernel_rfl) (by kernel_rfl)) ?_
  intro W base args ds gs before hval0 hW hcnd _
  have hval : ∀ (j : Nat) t v, Try.f7.params[j]? = some t → args[j]? = some v → Value.okWide Try.prog W .any base t v := hval0
  have hW' := hW
  obtain ⟨p, q, hA0, hV, rfl, hfz, hnd⟩ := hW
  have hA : DataW.TrodAll enc Try.prog W 0 (fun _ => true) true Try.f7.params.toList args.toList ds p := hA0
  rw [Try.params7] at hA hval
  obtain ⟨v0, vs0, d0, ds0, p0, q0, hargs, rfl, rfl, h0, r0⟩ := trodAll_cons hA
  obtain ⟨v1, vs1, d1, ds1, p1, q1, rfl, rfl, rfl, h1, r1⟩ := trodAll_cons r0
  obtain ⟨v2, vs2, d2, ds2, p2, q2, rfl, rfl, rfl, h2, r2⟩ := trodAll_cons r1
  obtain ⟨rfl, rfl, rfl⟩ := trodAll_nil r2
  obtain rfl : args = #[v0, v1, v2] := by cases args; simp_all
  obtain ⟨rfl, rfl⟩ := trodVars_none hV
  have y0 := h0
  have lt0 : ∀ x ∈ p0, x.block < W.heap.size := by obtain ⟨m, hm⟩ := y0; exact DataW.trod_lt m _ _ _ hm
  have y1 := h1
  have lt1 : ∀ x ∈ p1, x.block < W.heap.size := by obtain ⟨m, hm⟩ := y1; exact DataW.trod_lt m _ _ _ hm
  have y2 := h2
  have lt2 : ∀ x ∈ p2, x.block < W.heap.size := by obtain ⟨m, hm⟩ := y2; exact DataW.trod_lt m _ _ _ hm
  obtain ⟨s0, rfl, _, _, w0⟩ := open_string Try.underlying9 (hval 0 9 v0 rfl rfl) h0
  obtain ⟨s1, rfl, _, _, w1⟩ := open_string Try.underlying9 (hval 1 9 v1 rfl rfl) h1
  obtain ⟨a2, rfl, _, _⟩ := open_bool Try.underlying4 (hval 2 4 v2 rfl rfl) h2
  clear hA0 hval0
  refine (valueTexts_walk s0 s1 a2 W w0 w1).mono fun e W' ⟨he, bel⟩ => ?_
  subst he
  exact ⟨_, rfl, _, _, _, [], _, [], hW', trodAll_mk1 (shut_bool Try.underlying4 _), (trodAll_cons_mk (Below.trod valueTexts_laidOut (by kernel_rfl) (of_decide_eq_true (by kernel_rfl)) y0 bel.below lt0) (trodAll_cons_mk (Below.trod valueTexts_laidOut (by kernel_rfl) (of_decide_eq_true (by kernel_rfl)) y1 bel.below lt1) (trodAll_cons_mk (Below.trod valueTexts_laidOut (by kernel_rfl) (of_decide_eq_true (by kernel_rfl)) y2 bel.below lt2) trodAll_mk0))), rfl, bel.below.frame _, fun h => by cases h⟩

theorem valueTexts_over : Rows.valueTextsRow.holds Try.pinned (OpenSpec.ofChange Rows.valueTextsSpec) :=
  OpenClaim.holds_of_wide 7 Try.f7 rfl rfl rfl rfl rfl rfl rfl ⟨rfl, rfl, rfl, rfl, rfl⟩ rfl rfl rfl rfl rfl (by kernel_rfl) Try.func7 (by kernel_rfl)
    (of_decide_eq_true (by kernel_rfl)) (by unfold Func.isWrapper; first | (rw [if_pos (by decide +kernel)]; kernel_rfl) | (rw [if_neg (by decide +kernel)]; exact ⟨rfl, rfl⟩))
    (fun os started H enc _ => valueTexts_lifted os started H enc)

theorem valueTexts_proved : Rows.ValueTextsSaid := valueTexts_over
#print axioms valueTexts_proved
end Go.Proofs.Ytoaafkcpakigiaa

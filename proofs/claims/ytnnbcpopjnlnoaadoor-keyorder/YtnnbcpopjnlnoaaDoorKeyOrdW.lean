/-
  KeyOrder, walked.
-/
import Derived.Test.YtnnbcpopjnlnoaaDoorRowsOrd
import Derived.Test.YtnnbcpopjnlnoaaDoorKeyKnown
import Derived.Test.YtnnbcpopjnlnoaaDoorValHelp
namespace Go.Proofs.YtnnbcpopjnlnoaaDoor
open Go.ChangeShapes Go.WideShapes Go.ChangeAt Go.RowKit
set_option linter.unusedVariables false
attribute [local go_sem ↓] Go.wp_at_zero Go.wp_at_succ

set_option maxRecDepth 20000 in
set_option maxHeartbeats 16000000 in
theorem keyOrder_all (a0 : Option Addr) (len0 cap0 : Nat) (l0 : List VT) (i0 : Int) (a1 : Option Addr) (len1 cap1 : Nat) (l1 : List VT) (i1 : Int) (a2 : Option Addr) (len2 cap2 : Nat) (l2 : List VT) (i2 : Int) (w : World)
    (m0 : len0 ≤ maxLen) (v0 : Vals w a0 len0 l0) (m1 : len1 ≤ maxLen) (v1 : Vals w a1 len1 l1) (m2 : len2 ≤ maxLen) (v2 : Vals w a2 len2 l2) (hT : TabE w) :
    Calls Tryd.prog 6 #[.agg #[.slice a0 len0 cap0, .int .i64 i0], .agg #[.slice a1 len1 cap1, .int .i64 i1], .agg #[.slice a2 len2 cap2, .int .i64 i2]] w fun e w' => e = .returned (.bool true) ∧ Up w w' := by
  have HT := hide hT
  have H0 := hide v0
  have H1 := hide v1
  have H2 := hide v2
  clear hT v0 v1 v2
  obtain ⟨W, hW⟩ : ∃ W, W = ((w.alloc (.cells #[.slice a0 len0 cap0, .int .i64 i0] 63)).alloc (.cells #[.slice a1 len1 cap1, .int .i64 i1] 63)).alloc (.cells #[.slice a2 len2 cap2, .int .i64 i2] 63) := ⟨_, rfl⟩
  have uW : Hid (Up w W) := by rw [hW]; exact (((Up.refl _).alloc _).alloc _).alloc _
  have c0 : W.cell? ⟨w.heap.size, 0, none⟩ = some (.slice a0 len0 cap0) := by rw [hW]; go_simp
  have c1 : W.cell? ⟨w.heap.size, 1, none⟩ = some (.int .i64 i0) := by rw [hW]; go_simp
  have d0 : W.cell? ⟨w.heap.size + 1, 0, none⟩ = some (.slice a1 len1 cap1) := by rw [hW]; go_simp
  have d1 : W.cell? ⟨w.heap.size + 1, 1, none⟩ = some (.int .i64 i1) := by rw [hW]; go_simp
  have e0 : W.cell? ⟨w.heap.size + 2, 0, none⟩ = some (.slice a2 len2 cap2) := by rw [hW]; go_simp
  have e1 : W.cell? ⟨w.heap.size + 2, 1, none⟩ = some (.int .i64 i2) := by rw [hW]; go_simp
  have hW' := hW.symm
  clear hW
  go_enter Tryd.func6, Tryd.ntmps6
  go_wp2_with fail
  clear hW'
  go_at_call 7
  refine (known7_calls W (HT.out.up uW.out)).mono ?_
  rintro _ x ⟨rfl, hu⟩
  replace c0 := hu.cell c0
  replace c1 := hu.cell c1
  replace d0 := hu.cell d0
  replace d1 := hu.cell d1
  replace e0 := hu.cell e0
  replace e1 := hu.cell e1
  have U : Hid (Up w x) := uW.out.trans hu
  clear hu uW
  go_wp2_with fail
  go_at_call 9
  refine (few_calls a0 len0 cap0 l0 6 x m0 (H0.out.up U.out)).mono ?_
  rintro _ y ⟨rfl, hy⟩
  obtain rfl : x = y := hy.symm
  clear hy
  obtain ⟨q, hq0⟩ : ∃ q, fewB l0 6 = q := ⟨_, rfl⟩
  rw [hq0]
  clear hq0
  cases q with
  | false =>
    go_wp2
    go_ret
    exact ⟨rfl, U.out⟩
  | true =>
  go_wp2_with fail
  go_at_call 9
  refine (few_calls a1 len1 cap1 l1 6 x m1 (H1.out.up U.out)).mono ?_
  rintro _ y ⟨rfl, hy⟩
  obtain rfl : x = y := hy.symm
  clear hy
  obtain ⟨q, hq1⟩ : ∃ q, fewB l1 6 = q := ⟨_, rfl⟩
  rw [hq1]
  clear hq1
  cases q with
  | false =>
    go_wp2
    go_ret
    exact ⟨rfl, U.out⟩
  | true =>
  go_wp2_with fail
  go_at_call 9
  refine (few_calls a2 len2 cap2 l2 6 x m2 (H2.out.up U.out)).mono ?_
  rintro _ y ⟨rfl, hy⟩
  obtain rfl : x = y := hy.symm
  clear hy
  obtain ⟨q, hq2⟩ : ∃ q, fewB l2 6 = q := ⟨_, rfl⟩
  rw [hq2]
  clear hq2
  cases q with
  | false =>
    go_wp2
    go_ret
    exact ⟨rfl, U.out⟩
  | true =>
  go_wp2_with fail
  have HK : Hid (∀ w', Up x w' → Up x w' ∧ w'.cell? ⟨w.heap.size, 0, none⟩ = some (.slice a0 len0 cap0) ∧ w'.cell? ⟨w.heap.size, 1, none⟩ = some (.int .i64 i0) ∧ w'.cell? ⟨w.heap.size + 1, 0, none⟩ = some (.slice a1 len1 cap1) ∧ w'.cell? ⟨w.heap.size + 1, 1, none⟩ = some (.int .i64 i1) ∧ w'.cell? ⟨w.heap.size + 2, 0, none⟩ = some (.slice a2 len2 cap2) ∧ w'.cell? ⟨w.heap.size + 2, 1, none⟩ = some (.int .i64 i2)) :=
    fun w' h => ⟨h, h.cell c0, h.cell c1, h.cell d0, h.cell d1, h.cell e0, h.cell e1⟩
  have hk0 : Up x x.drew := (Up.refl _).drew
  clear c0 c1 d0 d1 e0 e1
  have O01 : Hid (∀ y, Up x y → Calls Tryd.prog 26 #[.agg #[.slice a0 len0 cap0, .int .i64 i0], .agg #[.slice a1 len1 cap1, .int .i64 i1]] y fun e w' => e = .returned (.int .i64 (ordE l0 i0 l1 i1)) ∧ Up y w') := fun y hy => korder_calls a0 a1 len0 cap0 len1 cap1 l0 l1 i0 i1 y m0 m1 (H0.out.up (U.out.trans hy)) (H1.out.up (U.out.trans hy))
  have O12 : Hid (∀ y, Up x y → Calls Tryd.prog 26 #[.agg #[.slice a1 len1 cap1, .int .i64 i1], .agg #[.slice a2 len2 cap2, .int .i64 i2]] y fun e w' => e = .returned (.int .i64 (ordE l1 i1 l2 i2)) ∧ Up y w') := fun y hy => korder_calls a1 a2 len1 cap1 len2 cap2 l1 l2 i1 i2 y m1 m2 (H1.out.up (U.out.trans hy)) (H2.out.up (U.out.trans hy))
  have O02 : Hid (∀ y, Up x y → Calls Tryd.prog 26 #[.agg #[.slice a0 len0 cap0, .int .i64 i0], .agg #[.slice a2 len2 cap2, .int .i64 i2]] y fun e w' => e = .returned (.int .i64 (ordE l0 i0 l2 i2)) ∧ Up y w') := fun y hy => korder_calls a0 a2 len0 cap0 len2 cap2 l0 l2 i0 i2 y m0 m2 (H0.out.up (U.out.trans hy)) (H2.out.up (U.out.trans hy))
  have O10 : Hid (∀ y, Up x y → Calls Tryd.prog 26 #[.agg #[.slice a1 len1 cap1, .int .i64 i1], .agg #[.slice a0 len0 cap0, .int .i64 i0]] y fun e w' => e = .returned (.int .i64 (ordE l1 i1 l0 i0)) ∧ Up y w') := fun y hy => korder_calls a1 a0 len1 cap1 len0 cap0 l1 l0 i1 i0 y m1 m0 (H1.out.up (U.out.trans hy)) (H0.out.up (U.out.trans hy))
  have O00 : Hid (∀ y, Up x y → Calls Tryd.prog 26 #[.agg #[.slice a0 len0 cap0, .int .i64 i0], .agg #[.slice a0 len0 cap0, .int .i64 i0]] y fun e w' => e = .returned (.int .i64 (ordE l0 i0 l0 i0)) ∧ Up y w') := fun y hy => korder_calls a0 a0 len0 cap0 len0 cap0 l0 l0 i0 i0 y m0 m0 (H0.out.up (U.out.trans hy)) (H0.out.up (U.out.trans hy))
  have HV : Hid (l0 = l1 → ∀ y, Up x y → Calls Tryd.prog 14 #[.slice a0 len0 cap0, .slice a1 len1 cap1] y fun e w' => e = .returned (.bool true) ∧ Up y w') := by
    intro he y hy
    have hl : len0 = len1 := by rw [← H0.out.1, ← H1.out.1, he]
    subst hl
    subst he
    exact same_calls' a0 a1 len0 cap0 cap1 l0 y m0 (H0.out.up (U.out.trans hy)) (H1.out.up (U.out.trans hy))
  have F0 := hide (fits_mem H0.out.2.1)
  have F1 := hide (fits_mem H1.out.2.1)
  have F2 := hide (fits_mem H2.out.2.1)
  clear H0 H1 H2 m0 m1 m2
  have tok1 : True := trivial
  have tok2 : True := trivial
  have tok3 : True := trivial
  go_region_held3 (fun w' => Up x w' ∧ w'.cell? ⟨w.heap.size, 0, none⟩ = some (.slice a0 len0 cap0) ∧ w'.cell? ⟨w.heap.size, 1, none⟩ = some (.int .i64 i0) ∧ w'.cell? ⟨w.heap.size + 1, 0, none⟩ = some (.slice a1 len1 cap1) ∧ w'.cell? ⟨w.heap.size + 1, 1, none⟩ = some (.int .i64 i1) ∧ w'.cell? ⟨w.heap.size + 2, 0, none⟩ = some (.slice a2 len2 cap2) ∧ w'.cell? ⟨w.heap.size + 2, 1, none⟩ = some (.int .i64 i2)) (exact HK.out _ (by assumption))
    (first
      | (clear tok1; go_at_call 26; refine (O01.out _ ?_).mono ?_; assumption; rintro _ y ⟨rfl, hy⟩; have hk5 : Up x y := Up.trans (by assumption) hy; clear hy)
      | (clear tok2; go_at_call 26; refine (O12.out _ ?_).mono ?_; assumption; rintro _ y ⟨rfl, hy⟩; have hk5 : Up x y := Up.trans (by assumption) hy; clear hy)
      | (clear tok3; go_at_call 26; refine (O02.out _ ?_).mono ?_; assumption; rintro _ y ⟨rfl, hy⟩; have hk5 : Up x y := Up.trans (by assumption) hy; clear hy))
  obtain ⟨_, c0, c1, d0, d1, e0, e1⟩ := HK.out _ hk5
  have V := hide hk5
  clear hk5 hk0 HK O01 O12 O02 e0 e1
  have h10 := ordE_turn l1 i1 l0 i0
  have h00 := ordE_self l0 i0
  have hxs := ordE_small l0 i0 l1 i1
  have hys := ordE_small l1 i1 l2 i2
  have hle : ordE l0 i0 l1 i1 ≤ 0 → ordE l1 i1 l2 i2 ≤ 0 → ordE l0 i0 l2 i2 ≤ 0 := fun h h' => ordE_le F0.out F1.out F2.out h h'
  have hz : ordE l0 i0 l1 i1 = 0 → l0 = l1 ∧ i0 = i1 := fun h => ordE_zero F0.out F1.out h
  clear F0 F1 F2
  generalize ordE l0 i0 l1 i1 = X at *
  generalize ordE l1 i1 l2 i2 = Y at *
  generalize ordE l0 i0 l2 i2 = Z at *
  generalize ordE l1 i1 l0 i0 = X' at *
  generalize ordE l0 i0 l0 i0 = S at *
  subst h00
  have tok4 : True := trivial
  have tok5 : True := trivial
  have HLE := hide hle
  have HZ := hide hz
  clear hle hz
  have hX3 : X = 1 ∨ X = 0 ∨ X = -1 := by omega
  rcases hX3 with rfl | rfl | rfl
  · obtain rfl : X' = -1 := by omega
    clear hxs hys h10
    go_wp2_with (first | (clear tok4; go_at_call 26; refine (O10.out _ V.out).mono ?_; rintro _ y2 ⟨rfl, hy2⟩; replace c0 := hy2.cell c0; replace c1 := hy2.cell c1; replace d0 := hy2.cell d0; replace d1 := hy2.cell d1; replace V := hide (V.out.trans hy2); clear hy2) | (clear tok5; go_at_call 26; refine (O00.out _ V.out).mono ?_; rintro _ y2 ⟨rfl, hy2⟩; replace c0 := hy2.cell c0; replace c1 := hy2.cell c1; replace d0 := hy2.cell d0; replace d1 := hy2.cell d1; replace V := hide (V.out.trans hy2); clear hy2))
    go_ret
    exact ⟨rfl, U.out.trans V.out⟩
  · obtain rfl : X' = 0 := by omega
    have HE := hide (HZ.out rfl)
    have t9 : (i0 == i1) = true := by rw [beq_iff_eq]; exact HE.out.2
    by_cases hY : 0 < Y
    · have t1 : decide (0 < Y) = true := decide_eq_true hY
      clear hxs hys h10 hY
      go_wp2_with (first | (clear tok4; go_at_call 26; refine (O10.out _ V.out).mono ?_; rintro _ y2 ⟨rfl, hy2⟩; replace c0 := hy2.cell c0; replace c1 := hy2.cell c1; replace d0 := hy2.cell d0; replace d1 := hy2.cell d1; replace V := hide (V.out.trans hy2); clear hy2) | (clear tok5; go_at_call 26; refine (O00.out _ V.out).mono ?_; rintro _ y2 ⟨rfl, hy2⟩; replace c0 := hy2.cell c0; replace c1 := hy2.cell c1; replace d0 := hy2.cell d0; replace d1 := hy2.cell d1; replace V := hide (V.out.trans hy2); clear hy2) | (go_at_call 14; refine (HV.out HE.out.1 _ V.out).mono ?_; rintro _ y2 ⟨rfl, hy2⟩; replace V := hide (V.out.trans hy2); clear hy2))
      go_ret
      exact ⟨rfl, U.out.trans V.out⟩
    · have t1 : decide (0 < Y) = false := decide_eq_false hY
      have t2 : decide (Z ≤ 0) = true := decide_eq_true (HLE.out (by decide) (by omega))
      clear hxs hys h10 hY
      go_wp2_with (first | (clear tok4; go_at_call 26; refine (O10.out _ V.out).mono ?_; rintro _ y2 ⟨rfl, hy2⟩; replace c0 := hy2.cell c0; replace c1 := hy2.cell c1; replace d0 := hy2.cell d0; replace d1 := hy2.cell d1; replace V := hide (V.out.trans hy2); clear hy2) | (clear tok5; go_at_call 26; refine (O00.out _ V.out).mono ?_; rintro _ y2 ⟨rfl, hy2⟩; replace c0 := hy2.cell c0; replace c1 := hy2.cell c1; replace d0 := hy2.cell d0; replace d1 := hy2.cell d1; replace V := hide (V.out.trans hy2); clear hy2) | (go_at_call 14; refine (HV.out HE.out.1 _ V.out).mono ?_; rintro _ y2 ⟨rfl, hy2⟩; replace V := hide (V.out.trans hy2); clear hy2))
      go_ret
      exact ⟨rfl, U.out.trans V.out⟩
  · obtain rfl : X' = 1 := by omega
    by_cases hY : 0 < Y
    · have t1 : decide (0 < Y) = true := decide_eq_true hY
      clear hxs hys h10 hY
      go_wp2_with (first | (clear tok4; go_at_call 26; refine (O10.out _ V.out).mono ?_; rintro _ y2 ⟨rfl, hy2⟩; replace c0 := hy2.cell c0; replace c1 := hy2.cell c1; replace d0 := hy2.cell d0; replace d1 := hy2.cell d1; replace V := hide (V.out.trans hy2); clear hy2) | (clear tok5; go_at_call 26; refine (O00.out _ V.out).mono ?_; rintro _ y2 ⟨rfl, hy2⟩; replace c0 := hy2.cell c0; replace c1 := hy2.cell c1; replace d0 := hy2.cell d0; replace d1 := hy2.cell d1; replace V := hide (V.out.trans hy2); clear hy2))
      go_ret
      exact ⟨rfl, U.out.trans V.out⟩
    · have t1 : decide (0 < Y) = false := decide_eq_false hY
      have t2 : decide (Z ≤ 0) = true := decide_eq_true (HLE.out (by decide) (by omega))
      clear hxs hys h10 hY
      go_wp2_with (first | (clear tok4; go_at_call 26; refine (O10.out _ V.out).mono ?_; rintro _ y2 ⟨rfl, hy2⟩; replace c0 := hy2.cell c0; replace c1 := hy2.cell c1; replace d0 := hy2.cell d0; replace d1 := hy2.cell d1; replace V := hide (V.out.trans hy2); clear hy2) | (clear tok5; go_at_call 26; refine (O00.out _ V.out).mono ?_; rintro _ y2 ⟨rfl, hy2⟩; replace c0 := hy2.cell c0; replace c1 := hy2.cell c1; replace d0 := hy2.cell d0; replace d1 := hy2.cell d1; replace V := hide (V.out.trans hy2); clear hy2))
      go_ret
      exact ⟨rfl, U.out.trans V.out⟩

end Go.Proofs.YtnnbcpopjnlnoaaDoor

/-
  For every two words the law BitsBack returns true: order and back go to and fro, and the order is that of numbers, with noughts, infinities and NaNs where they must stand; no condition.
-/
import Derived.Test.YtfabhfllobjbkaaRows
import Derived.WalkKit
import Derived.ProofKit
import Derived.OpenShut
import Derived.Test.YtfabhfllobjbkaaCalls
import Derived.Test.YtfabhfllobjbkaaFloatOrd
namespace Go.Proofs.Ytfabhfllobjbkaa
open Go.ChangeShapes Go.WideShapes Go.ChangeAt Go.RowKit
set_option linter.unusedVariables false      -- a bitsBack_walk need not use every 'w<i>' (that an integer argument fits its kind)

theorem bitsBack_own : ownKnob Try.prog.godebug = none := by kernel_rfl

theorem cmp_of_less {a b : Nat} (ha : a < whole) (hb : b < whole) (h : (FloatKind.f64.format.order a b == some .lt) = true) : cmpN a b = -1 := by
  by_cases n1 : top < low a
  · rw [order_none a b ha n1] at h; exact absurd h (by decide)
  · by_cases n2 : top < low b
    · rw [order_none' a b hb n2] at h; exact absurd h (by decide)
    · rw [order_num a b ha hb (by omega) (by omega)] at h
      have hl : num a < num b := by
        by_cases x : num a < num b
        · exact x
        · by_cases y : num a = num b
          · rw [y, cmp_of_eq] at h; exact absurd h (by decide)
          · rw [cmp_of_gt (by omega)] at h; exact absurd h (by decide)
      exact if_pos (num_lt_ord a b ha hb hl)

theorem cmp_of_more {a b : Nat} (ha : a < whole) (hb : b < whole) (h : (FloatKind.f64.format.order a b == some .gt) = true) : cmpN a b = 1 := by
  by_cases n1 : top < low a
  · rw [order_none a b ha n1] at h; exact absurd h (by decide)
  · by_cases n2 : top < low b
    · rw [order_none' a b hb n2] at h; exact absurd h (by decide)
    · rw [order_num a b ha hb (by omega) (by omega)] at h
      have hl : num b < num a := by
        by_cases x : num b < num a
        · exact x
        · by_cases y : num a = num b
          · rw [y, cmp_of_eq] at h; exact absurd h (by decide)
          · rw [cmp_of_lt (by omega)] at h; exact absurd h (by decide)
      have := num_lt_ord b a hb ha hl
      unfold cmpN
      rw [if_neg (by omega), if_pos this]

/-- How two words stand as numbers, and what Compare then answers. -/
theorem back_pair (a b : Nat) (ha : a < whole) (hb : b < whole) :
    ((FloatKind.f64.format.order a b == some .lt) = true ∧ (cmpN a b != -1) = false ∧ (FloatKind.f64.format.order a b == some .gt) = false) ∨
    ((FloatKind.f64.format.order a b == some .lt) = false ∧ (cmpN a b != 1) = false ∧ (FloatKind.f64.format.order a b == some .gt) = true) ∨
    ((FloatKind.f64.format.order a b == some .lt) = false ∧ (FloatKind.f64.format.order a b == some .gt) = false) := by
  by_cases h1 : (FloatKind.f64.format.order a b == some .lt) = true
  · refine Or.inl ⟨h1, by rw [cmp_of_less ha hb h1]; rfl, ?_⟩
    rw [beq_iff_eq] at h1
    rw [h1]; rfl
  · by_cases h2 : (FloatKind.f64.format.order a b == some .gt) = true
    · exact Or.inr (Or.inl ⟨by simpa using h1, by rw [cmp_of_more ha hb h2]; rfl, h2⟩)
    · exact Or.inr (Or.inr ⟨by simpa using h1, by simpa using h2⟩)

theorem top_lt_half : top < half := by simp [top, half]
theorem low_of_low {a : Nat} (h : a < half) : low a = a := Nat.mod_eq_of_lt h
theorem low_of_high {a : Nat} (ha : a < whole) (h : ¬ a < half) : low a = a - half := by
  have e := whole_half
  unfold low; rw [Nat.mod_eq_sub_mod (by omega), Nat.mod_eq_of_lt (by omega)]

theorem num_zero : num 0 = 0 := by unfold num; rw [if_pos half_pos, mag_zero]; rfl
theorem num_top : num 9218868437227405312 = mag top := by unfold num; rw [if_pos (by simp [half])]; rfl
theorem num_ntop : num 18442240474082181120 = - (mag top : Int) := by
  unfold num; rw [if_neg (by simp [half]), show (18442240474082181120 : Nat) - half = top from by simp [half, top]]
theorem mag_top_pos : 0 < mag top := by have := mag_lt (show 0 < top by simp [top]); omega

theorem order_eq_iff (a b : Nat) (ha : a < whole) (hb : b < whole) (h1 : low a ≤ top) (h2 : low b ≤ top) :
    (FloatKind.f64.format.order a b == some .eq) = decide (num a = num b) := by
  rw [order_num a b ha hb h1 h2]
  by_cases x : num a < num b
  · rw [cmp_of_lt x, decide_eq_false (by omega)]; rfl
  · by_cases y : num a = num b
    · rw [y, cmp_of_eq, decide_eq_true rfl]; rfl
    · rw [cmp_of_gt (by omega), decide_eq_false y]; rfl

theorem cmp_le_iff (a b : Nat) : cmpN a b ≤ 0 ↔ ordN a ≤ ordN b := by
  unfold cmpN
  by_cases x : ordN a < ordN b
  · rw [if_pos x]; omega
  · by_cases y : ordN b < ordN a
    · rw [if_neg x, if_pos y]; omega
    · rw [if_neg x, if_neg y]; omega
theorem cmp_ge_iff (a b : Nat) : 0 ≤ cmpN a b ↔ ordN b ≤ ordN a := by
  rw [cmpN_swap b a, ← cmp_le_iff b a]; omega
theorem cmp_neg_iff (a b : Nat) : cmpN a b = -1 ↔ ordN a < ordN b := by
  unfold cmpN
  by_cases x : ordN a < ordN b
  · rw [if_pos x]; omega
  · by_cases y : ordN b < ordN a
    · rw [if_neg x, if_pos y]; omega
    · rw [if_neg x, if_neg y]; omega
theorem cmp_one_iff (a b : Nat) : cmpN a b = 1 ↔ ordN b < ordN a := by
  unfold cmpN
  by_cases x : ordN a < ordN b
  · rw [if_pos x]; omega
  · by_cases y : ordN b < ordN a
    · rw [if_neg x, if_pos y]; omega
    · rw [if_neg x, if_neg y]; omega

theorem lowPI : low 9218868437227405312 = top := by decide +kernel
theorem lowNI : low 18442240474082181120 = top := by decide +kernel
theorem lPI : 9218868437227405312 < whole := by decide +kernel
theorem lNI : 18442240474082181120 < whole := by decide +kernel
theorem ordPI : ordN 9218868437227405312 = top + half := by decide +kernel
theorem ordNI : ordN 18442240474082181120 = half - 1 - top := by decide +kernel

/-- What is asked of one word, decided: a NaN of either sign, an infinity of either sign, a nought, any other. -/
theorem back_one (a : Nat) (ha : a < whole) :
    ((FloatKind.f64.format.order a a != some .eq) = true ∧ (classN a == 1) = true ∧ ((a : Int) / 9223372036854775808 == 1) = true ∧ (cmpN a 18442240474082181120 == -1) = true ∧ (cmpN a 9218868437227405312 == 1) = false) ∨
    ((FloatKind.f64.format.order a a != some .eq) = true ∧ (classN a == 1) = true ∧ ((a : Int) / 9223372036854775808 == 1) = false ∧ (cmpN a 18442240474082181120 == -1) = false ∧ (cmpN a 9218868437227405312 == 1) = true) ∨
    ((FloatKind.f64.format.order a a != some .eq) = false ∧ cmpN a 9218868437227405312 ≤ 0 ∧ 0 ≤ cmpN a 18442240474082181120 ∧
      ((FloatKind.f64.format.order a 9218868437227405312 == some .eq) = true ∧ (classN a == 2) = true ∧ (classN a == 3) = false ∧ (FloatKind.f64.format.order a 0 == some .eq) = false ∨
       (FloatKind.f64.format.order a 9218868437227405312 == some .eq) = false ∧ (FloatKind.f64.format.order a 18442240474082181120 == some .eq) = true ∧ (classN a == 2) = true ∧ (classN a == 3) = false ∧ (FloatKind.f64.format.order a 0 == some .eq) = false ∨
       (FloatKind.f64.format.order a 9218868437227405312 == some .eq) = false ∧ (FloatKind.f64.format.order a 18442240474082181120 == some .eq) = false ∧ (classN a == 2) = false ∧ (classN a == 3) = true ∧ (FloatKind.f64.format.order a 0 == some .eq) = true ∨
       (FloatKind.f64.format.order a 9218868437227405312 == some .eq) = false ∧ (FloatKind.f64.format.order a 18442240474082181120 == some .eq) = false ∧ (classN a == 2) = false ∧ (classN a == 3) = false ∧ (FloatKind.f64.format.order a 0 == some .eq) = false)) := by
  have e := whole_half
  have th := top_lt_half
  have mp := mag_top_pos
  by_cases nan : top < low a
  · have c1 : classN a = 1 := if_pos nan
    have o1 : (FloatKind.f64.format.order a a != some .eq) = true := by rw [order_none a a ha nan]; rfl
    by_cases h : a < half
    · rw [low_of_low h] at nan
      refine Or.inr (Or.inl ⟨o1, by rw [c1]; rfl, ?_, ?_, ?_⟩)
      · rw [beq_eq_false_iff_ne]; simp only [half] at h; omega
      · rw [beq_eq_false_iff_ne, ne_eq, cmp_neg_iff, ordNI, show ordN a = a + half from if_pos h]; omega
      · rw [beq_iff_eq, cmp_one_iff, ordPI, show ordN a = a + half from if_pos h]; omega
    · rw [low_of_high ha h] at nan
      refine Or.inl ⟨o1, by rw [c1]; rfl, ?_, ?_, ?_⟩
      · rw [beq_iff_eq]; simp only [half, whole] at h ha; omega
      · rw [beq_iff_eq, cmp_neg_iff, ordNI, show ordN a = whole - 1 - a from if_neg h]; omega
      · rw [beq_eq_false_iff_ne, ne_eq, cmp_one_iff, ordPI, show ordN a = whole - 1 - a from if_neg h]; omega
  · have hle : low a ≤ top := by omega
    have z0 : low 0 ≤ top := by rw [low_of_low half_pos]; omega
    have w0 : 0 < whole := by omega
    rw [order_eq_iff a 9218868437227405312 ha lPI hle (by rw [lowPI]; omega), order_eq_iff a 18442240474082181120 ha lNI hle (by rw [lowNI]; omega), order_eq_iff a 0 ha w0 hle z0, num_zero, num_top, num_ntop]
    have o1 : (FloatKind.f64.format.order a a != some .eq) = false := by rw [bne, order_eq_iff a a ha ha hle hle]; simp
    have p1 : cmpN a 9218868437227405312 ≤ 0 := by
      rw [cmp_le_iff, ordPI]
      by_cases h : a < half
      · rw [low_of_low h] at hle; rw [show ordN a = a + half from if_pos h]; omega
      · rw [show ordN a = whole - 1 - a from if_neg h]; omega
    have p2 : 0 ≤ cmpN a 18442240474082181120 := by
      rw [cmp_ge_iff, ordNI]
      by_cases h : a < half
      · rw [show ordN a = a + half from if_pos h]; omega
      · rw [low_of_high ha h] at hle; rw [show ordN a = whole - 1 - a from if_neg h]; omega
    refine Or.inr (Or.inr ⟨o1, p1, p2, ?_⟩)
    rw [num_sgn a ha]
    have tz : (0 : Nat) < top := by simp [top]
    by_cases t : low a = top
    · have c2 : classN a = 2 := by unfold classN; rw [show (9218868437227405312 : Nat) = top from rfl, if_neg (by omega), if_pos t]
      rw [t, c2]
      cases negB a
      · refine Or.inl ⟨decide_eq_true rfl, rfl, rfl, decide_eq_false ?_⟩
        show ¬ (mag top : Int) = 0
        omega
      · refine Or.inr (Or.inl ⟨decide_eq_false ?_, decide_eq_true rfl, rfl, rfl, decide_eq_false ?_⟩)
        · show ¬ - (mag top : Int) = mag top
          omega
        · show ¬ - (mag top : Int) = 0
          omega
    · have hlt := mag_lt (show low a < top by omega)
      by_cases z : low a = 0
      · have c3 : classN a = 3 := by unfold classN; rw [show (9218868437227405312 : Nat) = top from rfl, if_neg (by omega), if_neg t, if_pos z]
        rw [z, mag_zero, c3]
        cases negB a
        · refine Or.inr (Or.inr (Or.inl ⟨decide_eq_false ?_, decide_eq_false ?_, rfl, rfl, decide_eq_true rfl⟩))
          · show ¬ ((0 : Nat) : Int) = mag top
            omega
          · show ¬ ((0 : Nat) : Int) = - (mag top : Int)
            omega
        · refine Or.inr (Or.inr (Or.inl ⟨decide_eq_false ?_, decide_eq_false ?_, rfl, rfl, decide_eq_true rfl⟩))
          · show ¬ - ((0 : Nat) : Int) = mag top
            omega
          · show ¬ - ((0 : Nat) : Int) = - (mag top : Int)
            omega
      · have hpos : 0 < mag (low a) := by have := mag_lt (show 0 < low a by omega); omega
        have c45 : classN a = 4 ∨ classN a = 5 := by
          unfold classN
          rw [show (9218868437227405312 : Nat) = top from rfl, if_neg (by omega), if_neg t, if_neg z]
          split
          · exact Or.inl rfl
          · exact Or.inr rfl
        have d2 : (classN a == 2) = false := by rcases c45 with c | c <;> rw [c] <;> rfl
        have d3 : (classN a == 3) = false := by rcases c45 with c | c <;> rw [c] <;> rfl
        refine Or.inr (Or.inr (Or.inr ⟨decide_eq_false ?_, decide_eq_false ?_, d2, d3, decide_eq_false ?_⟩))
        · cases negB a
          · show ¬ (mag (low a) : Int) = mag top
            omega
          · show ¬ - (mag (low a) : Int) = mag top
            omega
        · cases negB a
          · show ¬ (mag (low a) : Int) = - (mag top : Int)
            omega
          · show ¬ - (mag (low a) : Int) = - (mag top : Int)
            omega
        · cases negB a
          · show ¬ (mag (low a) : Int) = 0
            omega
          · show ¬ - (mag (low a) : Int) = 0
            omega

theorem neg_inf : Op.negFloat FloatKind.f64 9218868437227405312 = 18442240474082181120 := by decide +kernel
theorem unary_neg_inf : Op.unary .neg (.float .f64 9218868437227405312) = pure (.float .f64 18442240474082181120) :=
  congrArg (fun n => (pure (Value.float .f64 n) : Sem Value)) neg_inf
set_option maxHeartbeats 4000000 in
theorem bitsBack_walk (a0 : Int) (a1 : Int) (w0 : (Lit.int .u64 a0).wf = true) (w1 : (Lit.int .u64 a1).wf = true) (w : World) :
    Calls Try.prog 4 #[.int .u64 a0, .int .u64 a1] w fun e w' => e = .returned (.bool true) ∧ Grown w w' := by
  obtain ⟨a, rfl⟩ : ∃ a : Nat, a0 = a := ⟨a0.toNat, by have := bounds_u64 w0; omega⟩
  obtain ⟨b, rfl⟩ : ∃ b : Nat, a1 = b := ⟨a1.toNat, by have := bounds_u64 w1; omega⟩
  have ha : a < whole := by have := bounds_u64 w0; simp only [whole]; omega
  have hb : b < whole := by have := bounds_u64 w1; simp only [whole]; omega
  have hoa : ordN a < whole := ordN_lt ha
  have hfa : ofN a < whole := ofN_lt ha
  have hrf := run_from
  have hpi := lPI
  have hni := lNI
  have hneg := unary_neg_inf
  have t1 : ((ordN (ofN a) : Int) != (a : Int)) = false := by rw [ordN_ofN ha]; exact bne_self_eq_false _
  have t2 : ((ofN (ordN a) : Int) == (a : Int)) = true := by rw [ofN_ordN ha]; exact beq_self_eq_true _
  have t3 : (cmpN a b != - cmpN b a) = false := by rw [cmpN_swap b a]; exact bne_self_eq_false _
  obtain ⟨z, z1, z2⟩ : ∃ z : Bool, (cmpN a b == 0) = z ∧ ((a : Int) == (b : Int)) = z := by
    by_cases h : a = b
    · exact ⟨true, beq_iff_eq.2 ((cmpN_zero ha hb).2 h), beq_iff_eq.2 (by omega)⟩
    · exact ⟨false, beq_eq_false_iff_ne.2 fun x => h ((cmpN_zero ha hb).1 x), beq_eq_false_iff_ne.2 (by omega)⟩
  have c1 : -1 ≤ cmpN b a := by rcases cmpN_cases b a with h | h | h <;> omega
  have c2 : cmpN b a ≤ 1 := by rcases cmpN_cases b a with h | h | h <;> omega
  clear w0 w1
  have P := back_pair a b ha hb
  have O := back_one a ha
  rcases O with ⟨q1, q2, q3, q4, q5⟩ | ⟨q1, q2, q3, q4, q5⟩ | ⟨q1, q2, q3, ⟨q4, q5, q6, q7⟩ | ⟨q4, q5, q6, q7, q8⟩ | ⟨q4, q5, q6, q7, q8⟩ | ⟨q4, q5, q6, q7, q8⟩⟩
  all_goals rcases P with ⟨p1, p2, p3⟩ | ⟨p1, p2, p3⟩ | ⟨p1, p3⟩
  all_goals
    go_enter Try.func4, Try.ntmps4
    go_wp2_with (first
        | (go_at_call 9; refine (known_calls _).mono ?_; rintro _ _ ⟨rfl, rfl⟩)
        | (go_at_call 13; refine (order_calls _ (by with_reducible assumption) _).mono ?_; rintro _ _ ⟨rfl, rfl⟩)
        | (go_at_call 16; refine (of_calls _ (by with_reducible assumption) _).mono ?_; rintro _ _ ⟨rfl, rfl⟩)
        | (go_at_call 18; refine (compare_calls _ _ (by with_reducible assumption) (by with_reducible assumption) _).mono ?_; rintro _ _ ⟨rfl, rfl⟩)
        | (go_at_call 20; refine (class_calls _ (by with_reducible assumption) _).mono ?_; rintro _ _ ⟨rfl, rfl⟩)
        | (go_at_call 15; refine (same_calls _ _ _).mono ?_; rintro _ _ ⟨rfl, rfl⟩)
        | (go_at_call 22; refine (inf_calls _).mono ?_; rintro _ _ ⟨rfl, rfl⟩))
    go_ret
    exact ⟨rfl, Grown.refl _⟩

set_option maxRecDepth 100000 in
theorem bitsBack_lifted (os : Os) (started : os.Started) (H : Type) (enc : TypeId × Value → H) :
    ReturnsInHanded {} Try.checked os 4 .any (Rows.bitsBackSpec.pre6 enc Try.prog Try.f4 Rows.bitsBackRow.domain false) (Rows.bitsBackSpec.post enc Try.prog Try.f4 false true false false) := by
  refine returnsInHanded_of_change (C := Try.checked) bitsBack_own started (by kernel_rfl) Try.func4
    (ChangeSpec.witness6 (enc := enc) (C := Try.checked) false ⟨#[], #[.int .u64 0, .int .u64 0], []⟩ 8 (by kernel_rfl) (by kernel_rfl) (by kernel_rfl) (by kernel_rfl)) ?_
  intro W base args ds gs before hval0 hW hcnd _
  have hval : ∀ (j : Nat) t v, Try.f4.params[j]? = some t → args[j]? = some v → Value.okWide Try.prog W .any base t v := hval0
  have hW' := hW
  obtain ⟨p, q, hA0, hV, rfl, hfz, hnd⟩ := hW
  have hA : DataW.TrodAll enc Try.prog W 0 (fun _ => true) true Try.f4.params.toList args.toList ds p := hA0
  rw [Try.params4] at hA hval
  obtain ⟨v0, vs0, d0, ds0, p0, q0, hargs, rfl, rfl, h0, r0⟩ := trodAll_cons hA
  obtain ⟨v1, vs1, d1, ds1, p1, q1, rfl, rfl, rfl, h1, r1⟩ := trodAll_cons r0
  obtain ⟨rfl, rfl, rfl⟩ := trodAll_nil r1
  obtain rfl : args = #[v0, v1] := by cases args; simp_all
  obtain ⟨rfl, rfl⟩ := trodVars_none hV
  obtain ⟨a0, rfl, rfl, rfl, w0⟩ := open_int Try.underlying22 (hval 0 22 v0 rfl rfl) h0
  obtain ⟨a1, rfl, rfl, rfl, w1⟩ := open_int Try.underlying22 (hval 1 22 v1 rfl rfl) h1
  clear hA0 hval0
  simp only [List.append_nil] at hW'
  refine (bitsBack_walk a0 a1 w0 w1 W).mono fun e W' ⟨he, hg⟩ => ?_
  subst he
  exact ⟨_, rfl, post_of_same (pa := []) (pv := []) hW' (fun _ _ _ => (trodAll_cons_mk (shut_bool Try.underlying4 _) trodAll_mk0)) (fun sp _ => (trodAll_cons_mk (shut_int Try.underlying22 w0) (trodAll_cons_mk (shut_int Try.underlying22 w1) trodAll_mk0))) (fun _ _ => rfl) rfl
    (hg.frame _) hg.2.1 (ok_one (by kernel_rfl) rfl (okWide_bool_mk Try.underlying4 _))⟩

theorem bitsBack_over : Rows.bitsBackRow.holds Try.pinned (OpenSpec.ofChange Rows.bitsBackSpec) :=
  OpenClaim.holds_of_wide 4 Try.f4 rfl rfl rfl rfl rfl rfl rfl ⟨rfl, rfl, rfl, rfl, rfl⟩ rfl rfl rfl rfl rfl (by kernel_rfl) Try.func4 (by kernel_rfl)
    (of_decide_eq_true (by kernel_rfl)) (by unfold Func.isWrapper; first | (rw [if_pos (by decide +kernel)]; kernel_rfl) | (rw [if_neg (by decide +kernel)]; exact ⟨rfl, rfl⟩))
    (fun os started H enc _ => bitsBack_lifted os started H enc)

theorem bitsBack_proved : Rows.BitsBackSaid :=
  bitsBack_over
#print axioms bitsBack_proved
end Go.Proofs.Ytfabhfllobjbkaa

/-
  HeapHalves, walked.
-/
import Derived.Test.YtcemdiloiachlaaHeapSow
import Derived.Test.YtcemdiloiachlaaHeapMrg
namespace Go.Proofs.Ytcemdiloiachlaa
open Go.ChangeShapes Go.WideShapes Go.ChangeAt Go.RowKit
set_option linter.unusedVariables false

set_option maxRecDepth 20000 in
set_option maxHeartbeats 16000000 in
theorem heapHalves_all (a : Option Addr) (len c : Nat) (l : List Int) (n : Int) (w : World) (h : In8 w a len c l) (hr : ∀ i, -128 ≤ l.getD i 0 ∧ l.getD i 0 ≤ 127) :
    Calls Try.prog 7 #[.slice a len c, .int .i64 n] w fun e w' => e = .returned (.bool true) ∧ Up w w' := by
  have H := hide h
  have HR := hide hr
  have hl := h.1
  clear h hr
  go_enter Try.func7, Try.ntmps7
  go_wp2_with fail
  go_at_call 8
  refine (known_calls w).mono ?_
  rintro _ w1 ⟨rfl, hu1⟩
  have U := hide hu1
  clear hu1
  by_cases hbig : 120 < len
  · have t1 : decide ((len : Int) > 120) = true := decide_eq_true (by omega)
    go_wp2
    go_ret
    exact ⟨rfl, U.out⟩
  have t1 : decide ((len : Int) > 120) = false := decide_eq_false (by omega)
  go_wp2_with fail
  go_at_call 9
  refine (items_calls a len c l w1 (by omega) (H.out.up U.out) HR.out).mono ?_
  rintro _ w2 ⟨v5, rfl, ho5, hu2⟩
  obtain ⟨X, hX⟩ : ∃ X, X = itemsL l := ⟨_, rfl⟩
  have hXl : X.length = len := by rw [hX, itemsL_length, hl]
  rw [← hX] at ho5
  replace U : Hid (Up w w2) := U.out.trans hu2
  clear hu2 hX H HR
  have hform : (v5 = .slice none 0 0 ∧ len = 0) ∨ ∃ g c5, v5 = .slice (some ⟨g, 0, none⟩) len c5 ∧ len ≤ c5 ∧ c5 ≤ maxLen ∧ ∀ i, i < len → ∀ j v, (eCellsI (X.getD i eZeroI))[j]? = some v → w2.cell? ⟨g, 0 + i * 2 + j, none⟩ = some v := by
    rcases ho5.2 with ⟨e, hn⟩ | ⟨g, c5, cur, e, hb, hg, h1, h2, h3, h4⟩
    · exact .inl ⟨e, by omega⟩
    · refine .inr ⟨g, c5, by rw [e, hXl], by omega, h2, ?_⟩
      obtain ⟨a', c', ev, ⟨_, _, _, blk, off, h5, h6⟩, _⟩ := OwnG.inG (z := eZeroI) ho5 (fun _ => rfl)
      rw [e] at ev
      intro i hi j v hv
      have h7 := h5 (by omega)
      have h8 : (⟨g, 0, none⟩ : Addr) = ⟨blk, off, none⟩ := by injection ev with e1; rw [h7] at e1; injection e1
      have e2 : g = blk := congrArg Addr.block h8
      have e3 : 0 = off := congrArg Addr.off h8
      rw [e2, e3]
      exact h6 i (by omega) j v hv
  clear ho5
  rcases hform with ⟨rfl, hl0⟩ | ⟨g, c5, rfl, hc5, hm5, hx5⟩
  · subst hl0
    have HIX : Hid (InEI w2 none 0 0 X) := ⟨hXl, Nat.le_refl _, Nat.zero_le _, 0, 0, fun h => by omega, fun i hi => by omega⟩
    have HIA : Hid (InEI w2 none 0 0 (X.take 0)) := InG.take HIX.out (Nat.le_refl _)
    have HIB : Hid (InEI w2 none 0 0 (X.drop 0)) := HIX.out
    go_wp2_with fail
    have HSA : Hid (∀ y, Up w2 y → Calls Try.prog 12 #[.slice none 0 0, .func (.func 13) #[] #[]] y fun e w' => ∃ aA cA, e = .returned (.slice aA (isort rkI (X.take 0)).length cA) ∧ InEI w' aA (isort rkI (X.take 0)).length cA (isort rkI (X.take 0)) ∧ Up y w') := by
      intro y hy
      refine (sortI_calls _ rkI before_less none 0 0 (X.take 0) y (by omega) (HIA.out.up hy)).mono ?_
      rintro _ w' ⟨v, rfl, ho, hu⟩
      obtain ⟨aA, cA, rfl, iA⟩ := OwnG.inI ho
      exact ⟨aA, cA, rfl, iA, hu⟩
    have HSB : Hid (∀ y, Up w2 y → Calls Try.prog 12 #[.slice none 0 0, .func (.func 13) #[] #[]] y fun e w' => ∃ aB cB, e = .returned (.slice aB (isort rkI (X.drop 0)).length cB) ∧ InEI w' aB (isort rkI (X.drop 0)).length cB (isort rkI (X.drop 0)) ∧ Up y w') := by
      intro y hy
      refine (sortI_calls _ rkI before_less none 0 0 (X.drop 0) y (by omega) (HIB.out.up hy)).mono ?_
      rintro _ w' ⟨v, rfl, ho, hu⟩
      obtain ⟨aB, cB, rfl, iB⟩ := OwnG.inI ho
      exact ⟨aB, cB, rfl, iB, hu⟩
    have HMG : Hid (∀ y t aA cA aB cB, Up w2 y → InEI y aA (isort rkI (X.take 0)).length cA (isort rkI (X.take 0)) → InEI y aB (isort rkI (X.drop 0)).length cB (isort rkI (X.drop 0)) → Calls Try.prog 15 #[.slice (some ⟨y.heap.size, 0, none⟩) 2 2, .func (.func 13) #[] #[]] (y.alloc (.cells #[.slice aA (isort rkI (X.take 0)).length cA, .slice aB (isort rkI (X.drop 0)).length cB] t)) fun e w' => ∃ aM cM, e = .returned (.slice aM 0 cM) ∧ InEI w' aM 0 cM (isort rkI X) ∧ Up y w') := by
      intro y t aA cA aB cB hy hA hB
      have hu := (Up.refl y).alloc (.cells #[.slice aA (isort rkI (X.take 0)).length cA, .slice aB (isort rkI (X.drop 0)).length cB] t)
      have hfl : ([(⟨aA, cA, isort rkI (X.take 0)⟩ : SlV), ⟨aB, cB, isort rkI (X.drop 0)⟩].map (·.rest)).flatten = isort rkI (X.take 0) ++ isort rkI (X.drop 0) := by simp
      have hms := merge_sorts rkI [(⟨aA, cA, isort rkI (X.take 0)⟩ : SlV), ⟨aB, cB, isort rkI (X.drop 0)⟩] (fun r hr => by
        simp only [List.mem_cons, List.not_mem_nil, or_false] at hr
        rcases hr with rfl | rfl
        · exact isort_srt rkI _
        · exact isort_srt rkI _)
      rw [hfl, isort_halves, List.take_append_drop] at hms
      refine (merge_calls _ rkI before_less (some ⟨y.heap.size, 0, none⟩) 2 2 [⟨aA, cA, isort rkI (X.take 0)⟩, ⟨aB, cB, isort rkI (X.drop 0)⟩] _ (by decide) ⟨rfl, Nat.le_refl _, by decide, y.heap.size, 0, fun _ => rfl, fun i hi j v hv => ?_⟩ (fun i hi => ?_) ?_).mono ?_
      · match i, hi with
        | 0, _ => match j with
          | 0 => simp [slCells] at hv; subst hv; simp
          | j + 1 => simp [slCells] at hv
        | 1, _ => match j with
          | 0 => simp [slCells] at hv; subst hv; simp
          | j + 1 => simp [slCells] at hv
        | i + 2, hi => omega
      · match i, hi with
        | 0, _ => exact hA.up hu
        | 1, _ => exact hB.up hu
        | i + 2, hi => omega
      · rw [hfl, List.length_append, isort_length, isort_length, ← List.length_append, List.take_append_drop]
        omega
      · rintro _ w' ⟨v, rfl, ho, hu'⟩
        rw [hfl, hms] at ho
        obtain ⟨aM, cM, rfl, iM⟩ := OwnG.inI ho
        rw [isort_length, hXl] at iM
        exact ⟨aM, cM, by rw [isort_length, hXl], iM, hu.trans hu'⟩
    clear HIA HIB
    generalize isort rkI (X.take 0) = LA at HSA HMG
    generalize isort rkI (X.drop 0) = LB at HSB HMG
    have hk0 : Up w2 w2.drew := (Up.refl _).drew
    have tok1 : True := trivial
    have tok2 : True := trivial
    go_region_law
      (first
        | (go_simp; clear tok1; go_at_call 12; refine (HSA.out _ ?_).mono ?_; assumption; rintro _ y ⟨aA, cA, rfl, iA, hy⟩; have hk5 : Up w2 y := Up.trans (by assumption) hy; replace iA := hide iA; clear hy; dsimp only)
        | (go_simp; clear tok2; go_at_call 12; refine (HSB.out _ ?_).mono ?_; assumption; rintro _ y2 ⟨aB, cB, rfl, iB, hy2⟩; have hk6 : Up w2 y2 := Up.trans (by assumption) hy2; replace iA := hide (iA.out.up hy2); replace iB := hide iB; clear hy2; dsimp only)
        | (go_simp; go_at_call 15; refine (HMG.out y2 _ aA cA aB cB hk6 iA.out iB.out).mono ?_; rintro _ y3 ⟨aM, cM, rfl, iM, hy3⟩; have hk7 : Up w2 y3 := Up.trans hk6 hy3; replace iM := hide iM; clear hy3; dsimp only))
    all_goals
      have V := hide hk7
      clear hk7 hk6 hk5 hk0 HSA HSB HMG iA iB
      go_wp2_with fail
      go_at_call 12
      refine (sortI_calls _ rkI before_less none 0 0 X y3 (by omega) (HIX.out.up V.out)).mono ?_
      rintro _ w8 ⟨v8, rfl, ho8, hu8⟩
      obtain ⟨a8, c8, rfl, i8⟩ := OwnG.inI ho8
      have I8 := hide i8
      replace iM := hide (iM.out.up hu8)
      replace V := hide (V.out.trans hu8)
      clear ho8 i8 hu8
      go_wp2_with fail
      go_at_call 11
      refine (same_calls aM a8 0 cM _ c8 (isort rkI X) (isort rkI X) w8 (by omega) iM.out I8.out).mono ?_
      rintro _ w9 ⟨rfl, hu9⟩
      rw [decide_eq_true rfl]
      replace V := hide (V.out.trans hu9)
      clear hu9
      go_wp2
      go_ret
      exact ⟨rfl, U.out.trans V.out⟩
  · have HIX : Hid (InEI w2 (some ⟨g, 0, none⟩) len c5 X) := ⟨hXl, hc5, hm5, g, 0, fun _ => rfl, hx5⟩
    by_cases hl0 : len = 0
    · subst hl0
      have HIA : Hid (InEI w2 (some ⟨g, 0, none⟩) 0 c5 (X.take 0)) := InG.take HIX.out (Nat.le_refl _)
      have HIB : Hid (InEI w2 (some ⟨g, 0, none⟩) 0 c5 (X.drop 0)) := HIX.out
      clear hx5
      go_wp2_with fail
      by_cases hcz : c5 = 0
      · subst hcz
        have HSA : Hid (∀ y, Up w2 y → Calls Try.prog 12 #[.slice (some ⟨g, 0, none⟩) 0 0, .func (.func 13) #[] #[]] y fun e w' => ∃ aA cA, e = .returned (.slice aA (isort rkI (X.take 0)).length cA) ∧ InEI w' aA (isort rkI (X.take 0)).length cA (isort rkI (X.take 0)) ∧ Up y w') := by
          intro y hy
          refine (sortI_calls _ rkI before_less (some ⟨g, 0, none⟩) 0 0 (X.take 0) y (by omega) (HIA.out.up hy)).mono ?_
          rintro _ w' ⟨v, rfl, ho, hu⟩
          obtain ⟨aA, cA, rfl, iA⟩ := OwnG.inI ho
          exact ⟨aA, cA, rfl, iA, hu⟩
        have HSB : Hid (∀ y, Up w2 y → Calls Try.prog 12 #[.slice (some ⟨g, 0, none⟩) 0 0, .func (.func 13) #[] #[]] y fun e w' => ∃ aB cB, e = .returned (.slice aB (isort rkI (X.drop 0)).length cB) ∧ InEI w' aB (isort rkI (X.drop 0)).length cB (isort rkI (X.drop 0)) ∧ Up y w') := by
          intro y hy
          refine (sortI_calls _ rkI before_less (some ⟨g, 0, none⟩) 0 0 (X.drop 0) y (by omega) (HIB.out.up hy)).mono ?_
          rintro _ w' ⟨v, rfl, ho, hu⟩
          obtain ⟨aB, cB, rfl, iB⟩ := OwnG.inI ho
          exact ⟨aB, cB, rfl, iB, hu⟩
        have HMG : Hid (∀ y t aA cA aB cB, Up w2 y → InEI y aA (isort rkI (X.take 0)).length cA (isort rkI (X.take 0)) → InEI y aB (isort rkI (X.drop 0)).length cB (isort rkI (X.drop 0)) → Calls Try.prog 15 #[.slice (some ⟨y.heap.size, 0, none⟩) 2 2, .func (.func 13) #[] #[]] (y.alloc (.cells #[.slice aA (isort rkI (X.take 0)).length cA, .slice aB (isort rkI (X.drop 0)).length cB] t)) fun e w' => ∃ aM cM, e = .returned (.slice aM 0 cM) ∧ InEI w' aM 0 cM (isort rkI X) ∧ Up y w') := by
          intro y t aA cA aB cB hy hA hB
          have hu := (Up.refl y).alloc (.cells #[.slice aA (isort rkI (X.take 0)).length cA, .slice aB (isort rkI (X.drop 0)).length cB] t)
          have hfl : ([(⟨aA, cA, isort rkI (X.take 0)⟩ : SlV), ⟨aB, cB, isort rkI (X.drop 0)⟩].map (·.rest)).flatten = isort rkI (X.take 0) ++ isort rkI (X.drop 0) := by simp
          have hms := merge_sorts rkI [(⟨aA, cA, isort rkI (X.take 0)⟩ : SlV), ⟨aB, cB, isort rkI (X.drop 0)⟩] (fun r hr => by
            simp only [List.mem_cons, List.not_mem_nil, or_false] at hr
            rcases hr with rfl | rfl
            · exact isort_srt rkI _
            · exact isort_srt rkI _)
          rw [hfl, isort_halves, List.take_append_drop] at hms
          refine (merge_calls _ rkI before_less (some ⟨y.heap.size, 0, none⟩) 2 2 [⟨aA, cA, isort rkI (X.take 0)⟩, ⟨aB, cB, isort rkI (X.drop 0)⟩] _ (by decide) ⟨rfl, Nat.le_refl _, by decide, y.heap.size, 0, fun _ => rfl, fun i hi j v hv => ?_⟩ (fun i hi => ?_) ?_).mono ?_
          · match i, hi with
            | 0, _ => match j with
              | 0 => simp [slCells] at hv; subst hv; simp
              | j + 1 => simp [slCells] at hv
            | 1, _ => match j with
              | 0 => simp [slCells] at hv; subst hv; simp
              | j + 1 => simp [slCells] at hv
            | i + 2, hi => omega
          · match i, hi with
            | 0, _ => exact hA.up hu
            | 1, _ => exact hB.up hu
            | i + 2, hi => omega
          · rw [hfl, List.length_append, isort_length, isort_length, ← List.length_append, List.take_append_drop]
            omega
          · rintro _ w' ⟨v, rfl, ho, hu'⟩
            rw [hfl, hms] at ho
            obtain ⟨aM, cM, rfl, iM⟩ := OwnG.inI ho
            rw [isort_length, hXl] at iM
            exact ⟨aM, cM, by rw [isort_length, hXl], iM, hu.trans hu'⟩
        clear HIA HIB
        generalize isort rkI (X.take 0) = LA at HSA HMG
        generalize isort rkI (X.drop 0) = LB at HSB HMG
        have hk0 : Up w2 w2.drew := (Up.refl _).drew
        have tok1 : True := trivial
        have tok2 : True := trivial
        go_region_law
          (first
            | (go_simp; clear tok1; go_at_call 12; refine (HSA.out _ ?_).mono ?_; assumption; rintro _ y ⟨aA, cA, rfl, iA, hy⟩; have hk5 : Up w2 y := Up.trans (by assumption) hy; replace iA := hide iA; clear hy; dsimp only)
            | (go_simp; clear tok2; go_at_call 12; refine (HSB.out _ ?_).mono ?_; assumption; rintro _ y2 ⟨aB, cB, rfl, iB, hy2⟩; have hk6 : Up w2 y2 := Up.trans (by assumption) hy2; replace iA := hide (iA.out.up hy2); replace iB := hide iB; clear hy2; dsimp only)
            | (go_simp; go_at_call 15; refine (HMG.out y2 _ aA cA aB cB hk6 iA.out iB.out).mono ?_; rintro _ y3 ⟨aM, cM, rfl, iM, hy3⟩; have hk7 : Up w2 y3 := Up.trans hk6 hy3; replace iM := hide iM; clear hy3; dsimp only))
        all_goals
          have V := hide hk7
          clear hk7 hk6 hk5 hk0 HSA HSB HMG iA iB
          go_wp2_with fail
          go_at_call 12
          refine (sortI_calls _ rkI before_less (some ⟨g, 0, none⟩) 0 0 X y3 (by omega) (HIX.out.up V.out)).mono ?_
          rintro _ w8 ⟨v8, rfl, ho8, hu8⟩
          obtain ⟨a8, c8, rfl, i8⟩ := OwnG.inI ho8
          have I8 := hide i8
          replace iM := hide (iM.out.up hu8)
          replace V := hide (V.out.trans hu8)
          clear ho8 i8 hu8
          go_wp2_with fail
          go_at_call 11
          refine (same_calls aM a8 0 cM _ c8 (isort rkI X) (isort rkI X) w8 (by omega) iM.out I8.out).mono ?_
          rintro _ w9 ⟨rfl, hu9⟩
          rw [decide_eq_true rfl]
          replace V := hide (V.out.trans hu9)
          clear hu9
          go_wp2
          go_ret
          exact ⟨rfl, U.out.trans V.out⟩
      · skip
        have HSA : Hid (∀ y, Up w2 y → Calls Try.prog 12 #[.slice (some ⟨g, 0, none⟩) 0 c5, .func (.func 13) #[] #[]] y fun e w' => ∃ aA cA, e = .returned (.slice aA (isort rkI (X.take 0)).length cA) ∧ InEI w' aA (isort rkI (X.take 0)).length cA (isort rkI (X.take 0)) ∧ Up y w') := by
          intro y hy
          refine (sortI_calls _ rkI before_less (some ⟨g, 0, none⟩) 0 c5 (X.take 0) y (by omega) (HIA.out.up hy)).mono ?_
          rintro _ w' ⟨v, rfl, ho, hu⟩
          obtain ⟨aA, cA, rfl, iA⟩ := OwnG.inI ho
          exact ⟨aA, cA, rfl, iA, hu⟩
        have HSB : Hid (∀ y, Up w2 y → Calls Try.prog 12 #[.slice (some ⟨g, 0, none⟩) 0 c5, .func (.func 13) #[] #[]] y fun e w' => ∃ aB cB, e = .returned (.slice aB (isort rkI (X.drop 0)).length cB) ∧ InEI w' aB (isort rkI (X.drop 0)).length cB (isort rkI (X.drop 0)) ∧ Up y w') := by
          intro y hy
          refine (sortI_calls _ rkI before_less (some ⟨g, 0, none⟩) 0 c5 (X.drop 0) y (by omega) (HIB.out.up hy)).mono ?_
          rintro _ w' ⟨v, rfl, ho, hu⟩
          obtain ⟨aB, cB, rfl, iB⟩ := OwnG.inI ho
          exact ⟨aB, cB, rfl, iB, hu⟩
        have HMG : Hid (∀ y t aA cA aB cB, Up w2 y → InEI y aA (isort rkI (X.take 0)).length cA (isort rkI (X.take 0)) → InEI y aB (isort rkI (X.drop 0)).length cB (isort rkI (X.drop 0)) → Calls Try.prog 15 #[.slice (some ⟨y.heap.size, 0, none⟩) 2 2, .func (.func 13) #[] #[]] (y.alloc (.cells #[.slice aA (isort rkI (X.take 0)).length cA, .slice aB (isort rkI (X.drop 0)).length cB] t)) fun e w' => ∃ aM cM, e = .returned (.slice aM 0 cM) ∧ InEI w' aM 0 cM (isort rkI X) ∧ Up y w') := by
          intro y t aA cA aB cB hy hA hB
          have hu := (Up.refl y).alloc (.cells #[.slice aA (isort rkI (X.take 0)).length cA, .slice aB (isort rkI (X.drop 0)).length cB] t)
          have hfl : ([(⟨aA, cA, isort rkI (X.take 0)⟩ : SlV), ⟨aB, cB, isort rkI (X.drop 0)⟩].map (·.rest)).flatten = isort rkI (X.take 0) ++ isort rkI (X.drop 0) := by simp
          have hms := merge_sorts rkI [(⟨aA, cA, isort rkI (X.take 0)⟩ : SlV), ⟨aB, cB, isort rkI (X.drop 0)⟩] (fun r hr => by
            simp only [List.mem_cons, List.not_mem_nil, or_false] at hr
            rcases hr with rfl | rfl
            · exact isort_srt rkI _
            · exact isort_srt rkI _)
          rw [hfl, isort_halves, List.take_append_drop] at hms
          refine (merge_calls _ rkI before_less (some ⟨y.heap.size, 0, none⟩) 2 2 [⟨aA, cA, isort rkI (X.take 0)⟩, ⟨aB, cB, isort rkI (X.drop 0)⟩] _ (by decide) ⟨rfl, Nat.le_refl _, by decide, y.heap.size, 0, fun _ => rfl, fun i hi j v hv => ?_⟩ (fun i hi => ?_) ?_).mono ?_
          · match i, hi with
            | 0, _ => match j with
              | 0 => simp [slCells] at hv; subst hv; simp
              | j + 1 => simp [slCells] at hv
            | 1, _ => match j with
              | 0 => simp [slCells] at hv; subst hv; simp
              | j + 1 => simp [slCells] at hv
            | i + 2, hi => omega
          · match i, hi with
            | 0, _ => exact hA.up hu
            | 1, _ => exact hB.up hu
            | i + 2, hi => omega
          · rw [hfl, List.length_append, isort_length, isort_length, ← List.length_append, List.take_append_drop]
            omega
          · rintro _ w' ⟨v, rfl, ho, hu'⟩
            rw [hfl, hms] at ho
            obtain ⟨aM, cM, rfl, iM⟩ := OwnG.inI ho
            rw [isort_length, hXl] at iM
            exact ⟨aM, cM, by rw [isort_length, hXl], iM, hu.trans hu'⟩
        clear HIA HIB
        generalize isort rkI (X.take 0) = LA at HSA HMG
        generalize isort rkI (X.drop 0) = LB at HSB HMG
        have hk0 : Up w2 w2.drew := (Up.refl _).drew
        have tok1 : True := trivial
        have tok2 : True := trivial
        go_region_law
          (first
            | (go_simp; clear tok1; go_at_call 12; refine (HSA.out _ ?_).mono ?_; assumption; rintro _ y ⟨aA, cA, rfl, iA, hy⟩; have hk5 : Up w2 y := Up.trans (by assumption) hy; replace iA := hide iA; clear hy; dsimp only)
            | (go_simp; clear tok2; go_at_call 12; refine (HSB.out _ ?_).mono ?_; assumption; rintro _ y2 ⟨aB, cB, rfl, iB, hy2⟩; have hk6 : Up w2 y2 := Up.trans (by assumption) hy2; replace iA := hide (iA.out.up hy2); replace iB := hide iB; clear hy2; dsimp only)
            | (go_simp; go_at_call 15; refine (HMG.out y2 _ aA cA aB cB hk6 iA.out iB.out).mono ?_; rintro _ y3 ⟨aM, cM, rfl, iM, hy3⟩; have hk7 : Up w2 y3 := Up.trans hk6 hy3; replace iM := hide iM; clear hy3; dsimp only))
        all_goals
          have V := hide hk7
          clear hk7 hk6 hk5 hk0 HSA HSB HMG iA iB
          go_wp2_with fail
          go_at_call 12
          refine (sortI_calls _ rkI before_less (some ⟨g, 0, none⟩) 0 c5 X y3 (by omega) (HIX.out.up V.out)).mono ?_
          rintro _ w8 ⟨v8, rfl, ho8, hu8⟩
          obtain ⟨a8, c8, rfl, i8⟩ := OwnG.inI ho8
          have I8 := hide i8
          replace iM := hide (iM.out.up hu8)
          replace V := hide (V.out.trans hu8)
          clear ho8 i8 hu8
          go_wp2_with fail
          go_at_call 11
          refine (same_calls aM a8 0 cM _ c8 (isort rkI X) (isort rkI X) w8 (by omega) iM.out I8.out).mono ?_
          rintro _ w9 ⟨rfl, hu9⟩
          rw [decide_eq_true rfl]
          replace V := hide (V.out.trans hu9)
          clear hu9
          go_wp2
          go_ret
          exact ⟨rfl, U.out.trans V.out⟩
    · have hlp : 0 < len := by omega
      obtain ⟨r1, hr1⟩ : ∃ r1, r1 = n.tmod len := ⟨_, rfl⟩
      have b1 : -(len : Int) < r1 := by rw [hr1]; have := Int.lt_tmod_of_pos n (b := (len : Int)) (by omega); omega
      have b2 : r1 < (len : Int) := by rw [hr1]; exact Int.tmod_lt_of_pos n (by omega)
      obtain ⟨k, hk⟩ : ∃ k : Nat, (k : Int) = (r1 + len).tmod len := ⟨((r1 + len).tmod len).toNat, by have := Int.tmod_nonneg (a := r1 + len) (len : Int) (by omega); omega⟩
      have hkl : k < len := by have := Int.tmod_lt_of_pos (r1 + len) (b := (len : Int)) (by omega); omega
      have HIA : Hid (InEI w2 (some ⟨g, 0, none⟩) k c5 (X.take k)) := InG.take HIX.out (by omega)
      have HIB : Hid (InEI w2 (some ⟨g, k * 2, none⟩) (len - k) (c5 - k) (X.drop k)) := by
        have h9 := InG.drop (m := k) hXl hc5 hm5 hx5 (by omega)
        rw [Nat.zero_add] at h9
        exact h9
      have e1 : n.tmod (len : Int) = r1 := hr1.symm
      have e2 : (r1 + (len : Int)).tmod (len : Int) = (k : Int) := hk.symm
      have hnz : ¬ (len : Int) = 0 := by omega
      have hnz2 : ((len : Int) == 0) = false := by rw [beq_eq_false_iff_ne]; omega
      have p1 : (0 : Int) ≤ (k : Int) := by omega
      have p2 : (k : Int) ≤ (c5 : Int) := by omega
      have p3 : (k : Int) ≤ (len : Int) := by omega
      have p4 : ¬ c5 = 0 := by omega
      have p5 : ¬ c5 = k := by omega
      have t2 : decide ((len : Int) > 0) = true := decide_eq_true (by omega)
      have b3 : r1 + len ≤ 1000000 := by omega
      have b4 : 0 < r1 + len := by omega
      clear hx5 hr1 hk
      go_wp2_with fail
      have HSA : Hid (∀ y, Up w2 y → Calls Try.prog 12 #[.slice (some ⟨g, 0, none⟩) k c5, .func (.func 13) #[] #[]] y fun e w' => ∃ aA cA, e = .returned (.slice aA (isort rkI (X.take k)).length cA) ∧ InEI w' aA (isort rkI (X.take k)).length cA (isort rkI (X.take k)) ∧ Up y w') := by
        intro y hy
        refine (sortI_calls _ rkI before_less (some ⟨g, 0, none⟩) k c5 (X.take k) y (by omega) (HIA.out.up hy)).mono ?_
        rintro _ w' ⟨v, rfl, ho, hu⟩
        obtain ⟨aA, cA, rfl, iA⟩ := OwnG.inI ho
        exact ⟨aA, cA, rfl, iA, hu⟩
      have HSB : Hid (∀ y, Up w2 y → Calls Try.prog 12 #[.slice (some ⟨g, k * 2, none⟩) (len - k) (c5 - k), .func (.func 13) #[] #[]] y fun e w' => ∃ aB cB, e = .returned (.slice aB (isort rkI (X.drop k)).length cB) ∧ InEI w' aB (isort rkI (X.drop k)).length cB (isort rkI (X.drop k)) ∧ Up y w') := by
        intro y hy
        refine (sortI_calls _ rkI before_less (some ⟨g, k * 2, none⟩) (len - k) (c5 - k) (X.drop k) y (by omega) (HIB.out.up hy)).mono ?_
        rintro _ w' ⟨v, rfl, ho, hu⟩
        obtain ⟨aB, cB, rfl, iB⟩ := OwnG.inI ho
        exact ⟨aB, cB, rfl, iB, hu⟩
      have HMG : Hid (∀ y t aA cA aB cB, Up w2 y → InEI y aA (isort rkI (X.take k)).length cA (isort rkI (X.take k)) → InEI y aB (isort rkI (X.drop k)).length cB (isort rkI (X.drop k)) → Calls Try.prog 15 #[.slice (some ⟨y.heap.size, 0, none⟩) 2 2, .func (.func 13) #[] #[]] (y.alloc (.cells #[.slice aA (isort rkI (X.take k)).length cA, .slice aB (isort rkI (X.drop k)).length cB] t)) fun e w' => ∃ aM cM, e = .returned (.slice aM len cM) ∧ InEI w' aM len cM (isort rkI X) ∧ Up y w') := by
        intro y t aA cA aB cB hy hA hB
        have hu := (Up.refl y).alloc (.cells #[.slice aA (isort rkI (X.take k)).length cA, .slice aB (isort rkI (X.drop k)).length cB] t)
        have hfl : ([(⟨aA, cA, isort rkI (X.take k)⟩ : SlV), ⟨aB, cB, isort rkI (X.drop k)⟩].map (·.rest)).flatten = isort rkI (X.take k) ++ isort rkI (X.drop k) := by simp
        have hms := merge_sorts rkI [(⟨aA, cA, isort rkI (X.take k)⟩ : SlV), ⟨aB, cB, isort rkI (X.drop k)⟩] (fun r hr => by
          simp only [List.mem_cons, List.not_mem_nil, or_false] at hr
          rcases hr with rfl | rfl
          · exact isort_srt rkI _
          · exact isort_srt rkI _)
        rw [hfl, isort_halves, List.take_append_drop] at hms
        refine (merge_calls _ rkI before_less (some ⟨y.heap.size, 0, none⟩) 2 2 [⟨aA, cA, isort rkI (X.take k)⟩, ⟨aB, cB, isort rkI (X.drop k)⟩] _ (by decide) ⟨rfl, Nat.le_refl _, by decide, y.heap.size, 0, fun _ => rfl, fun i hi j v hv => ?_⟩ (fun i hi => ?_) ?_).mono ?_
        · match i, hi with
          | 0, _ => match j with
            | 0 => simp [slCells] at hv; subst hv; simp
            | j + 1 => simp [slCells] at hv
          | 1, _ => match j with
            | 0 => simp [slCells] at hv; subst hv; simp
            | j + 1 => simp [slCells] at hv
          | i + 2, hi => omega
        · match i, hi with
          | 0, _ => exact hA.up hu
          | 1, _ => exact hB.up hu
          | i + 2, hi => omega
        · rw [hfl, List.length_append, isort_length, isort_length, ← List.length_append, List.take_append_drop]
          omega
        · rintro _ w' ⟨v, rfl, ho, hu'⟩
          rw [hfl, hms] at ho
          obtain ⟨aM, cM, rfl, iM⟩ := OwnG.inI ho
          rw [isort_length, hXl] at iM
          exact ⟨aM, cM, by rw [isort_length, hXl], iM, hu.trans hu'⟩
      clear HIA HIB
      generalize isort rkI (X.take k) = LA at HSA HMG
      generalize isort rkI (X.drop k) = LB at HSB HMG
      have hk0 : Up w2 w2.drew := (Up.refl _).drew
      have tok1 : True := trivial
      have tok2 : True := trivial
      go_region_law
        (first
          | (go_simp; clear tok1; go_at_call 12; refine (HSA.out _ ?_).mono ?_; assumption; rintro _ y ⟨aA, cA, rfl, iA, hy⟩; have hk5 : Up w2 y := Up.trans (by assumption) hy; replace iA := hide iA; clear hy; dsimp only)
          | (go_simp; clear tok2; go_at_call 12; refine (HSB.out _ ?_).mono ?_; assumption; rintro _ y2 ⟨aB, cB, rfl, iB, hy2⟩; have hk6 : Up w2 y2 := Up.trans (by assumption) hy2; replace iA := hide (iA.out.up hy2); replace iB := hide iB; clear hy2; dsimp only)
          | (go_simp; go_at_call 15; refine (HMG.out y2 _ aA cA aB cB hk6 iA.out iB.out).mono ?_; rintro _ y3 ⟨aM, cM, rfl, iM, hy3⟩; have hk7 : Up w2 y3 := Up.trans hk6 hy3; replace iM := hide iM; clear hy3; dsimp only))
      all_goals
        have V := hide hk7
        clear hk7 hk6 hk5 hk0 HSA HSB HMG iA iB
        go_wp2_with fail
        go_at_call 12
        refine (sortI_calls _ rkI before_less (some ⟨g, 0, none⟩) len c5 X y3 (by omega) (HIX.out.up V.out)).mono ?_
        rintro _ w8 ⟨v8, rfl, ho8, hu8⟩
        obtain ⟨a8, c8, rfl, i8⟩ := OwnG.inI ho8
        have I8 := hide i8
        replace iM := hide (iM.out.up hu8)
        replace V := hide (V.out.trans hu8)
        clear ho8 i8 hu8
        go_wp2_with fail
        go_at_call 11
        refine (same_calls aM a8 len cM _ c8 (isort rkI X) (isort rkI X) w8 (by omega) iM.out I8.out).mono ?_
        rintro _ w9 ⟨rfl, hu9⟩
        rw [decide_eq_true rfl]
        replace V := hide (V.out.trans hu9)
        clear hu9
        go_wp2
        go_ret
        exact ⟨rfl, U.out.trans V.out⟩

end Go.Proofs.Ytcemdiloiachlaa

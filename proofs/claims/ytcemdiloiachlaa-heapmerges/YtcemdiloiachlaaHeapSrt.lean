/-
  The statements' own sorted of items (package rialtolaw8), as its text runs.
-/
import Derived.Test.YtcemdiloiachlaaHeapItm
import Derived.Test.YtcemdiloiachlaaHeapCpy
namespace Go.Proofs.Ytcemdiloiachlaa
open Go.ChangeShapes Go.WideShapes Go.ChangeAt Go.RowKit
set_option linter.unusedVariables false

theorem shift_set {α : Type} (out : List α) (z x : α) {k : Nat} (hk : k ≤ out.length) : (shiftL (out ++ [z]) k).set k x = out.take k ++ x :: out.drop k := by
  have h1 : (out ++ [z]).drop k = out.drop k ++ [z] := by rw [List.drop_append_of_le_length hk]
  have h2 : ((out ++ [z]).drop k).take ((out ++ [z]).length - (k + 1)) = out.drop k := by
    rw [h1, List.take_append_of_le_length (by simp), List.take_of_length_le (by simp)]
  have hk' : k < (out ++ [z]).length := by simp; omega
  have h3 : (out ++ [z]).take (k + 1) = out.take k ++ [(out ++ [z])[k]] := by
    rw [List.take_add_one, List.getElem?_eq_getElem hk', List.take_append_of_le_length hk]
    rfl
  have h4 : (out.take k).length = k := by rw [List.length_take]; omega
  unfold shiftL
  rw [h2, h3, List.append_assoc, List.set_append_right _ _ (by omega), h4, Nat.sub_self]
  rfl
theorem flat_set2 : ∀ (l : List ETI) (k : Nat) (x : ETI), ((l.flatMap eCellsI).set (k * 2) (.int .i64 x.1)).set (k * 2 + 1) (.int .i64 x.2) = (l.set k x).flatMap eCellsI
  | [], k, x => by simp
  | y :: l, 0, x => by simp [eCellsI]
  | y :: l, k + 1, x => by
    have ih := flat_set2 l k x
    rw [List.flatMap_cons, List.set_cons_succ, List.flatMap_cons, ← ih]
    have e1 : (k + 1) * 2 = k * 2 + 1 + 1 := by omega
    rw [e1]
    simp [eCellsI]
/-- One item is written into a row that a call owns. -/
theorem own_set2 {w : World} {base g cap : Nat} {l : List ETI} (h : OwnEI w base (.slice (some ⟨g, 0, none⟩) l.length cap) l) (k : Nat) (x : ETI) (w' : World) (e : w' = (w.setCell ⟨g, k * 2, none⟩ (.int .i64 x.1)).setCell ⟨g, k * 2 + 1, none⟩ (.int .i64 x.2)) :
    OwnEI w' base (.slice (some ⟨g, 0, none⟩) l.length cap) (l.set k x) := by
  have h1 := (World.ownsRow.stored (World.ownsRow.stored h (k * 2) (.int .i64 x.1)).1 (k * 2 + 1) (.int .i64 x.2)).1
  rw [flat_set2] at h1
  rw [e]
  unfold OwnEI OwnG
  rw [List.length_set]
  exact h1
theorem insI_at {S : List ETI} {x : ETI} {k : Nat} (hs : Srt rkI S) (hk : k ≤ S.length) (h1 : ∀ j, k ≤ j → j < S.length → rkI x < rkI (S.getD j eZeroI)) (h2 : k = 0 ∨ rkI (S.getD (k - 1) eZeroI) ≤ rkI x) : S.take k ++ x :: S.drop k = insS rkI x S := by
  have hg : ∀ j (h : j < S.length), S.getD j eZeroI = S[j] := fun j h => by rw [List.getD_eq_getElem?_getD, List.getElem?_eq_getElem h]; rfl
  refine insS_at rkI hk (fun j h hj => ?_) (fun j h hj => by rw [← hg j h]; exact h1 j hj h)
  rcases h2 with h2 | h2
  · omega
  · rw [hg (k - 1) (by omega)] at h2
    by_cases e : j = k - 1
    · subst e; exact h2
    · exact Int.le_trans (List.pairwise_iff_getElem.1 hs j (k - 1) h (by omega) (by omega)) h2

theorem size_item : (Try.prog.info? 30).map (·.size) = some 2 := by kernel_rfl
theorem eI_one (v : ETI) : ∀ u ∈ eCellsI v, u.oneCell' = true := fun u hu => by simp only [eCellsI, List.mem_cons, List.not_mem_nil, or_false] at hu; rcases hu with rfl | rfl <;> rfl

set_option maxRecDepth 20000 in
set_option maxHeartbeats 16000000 in
theorem sorted_calls (a : Option Addr) (n c : Nat) (l : List ETI) (w : World) (hn : n ≤ 100000) (h : InEI w a n c l) :
    Calls Try.prog 10 #[.slice a n c] w fun e w' => ∃ v, e = .returned v ∧ OwnEI w' w.heap.size v (isort rkI l) ∧ Up w w' := by
  obtain ⟨h1, h2, h3, blk, off, h4, h5⟩ := h
  have H5 := hide h5
  have H1 := hide h1
  have H4 := hide h4
  clear h5 h1 h4
  go_enter Try.func10, Try.ntmps10
  go_wp2_with fail
  go_loopw [3, 4] (fun v u wr => ∃ i : Nat, i ≤ n ∧ u = .int .i64 i ∧ OwnEI wr w.heap.size v (isort rkI (l.take i)) ∧ Up w wr) (fun _ u _ => n - (intOf u).toNat)
  case atStart => exact ⟨0, Nat.zero_le _, rfl, OwnG.nil _ _ _ _ _, Up.refl _⟩
  case round =>
    obtain ⟨i, hi, rfl, ho, hu⟩ := hrel
    by_cases hlt : i < n
    · have t1 : decide ((i : Int) < n) = true := decide_eq_true (by omega)
      obtain rfl := H4.out (by omega)
      have x0 := hu.cell (H5.out i hlt 0 _ rfl)
      have x1 := hu.cell (H5.out i hlt 1 _ rfl)
      have c0 := H5.out i hlt 0 _ rfl
      have c1 := H5.out i hlt 1 _ rfl
      have htk : l.take (i + 1) = l.take i ++ [l.getD i eZeroI] := by
        rw [List.take_add_one, List.getElem?_eq_getElem (by rw [H1.out]; exact hlt), List.getD_eq_getElem?_getD, List.getElem?_eq_getElem (by rw [H1.out]; exact hlt)]
        rfl
      obtain ⟨x, hx⟩ : ∃ x, x = l.getD i eZeroI := ⟨_, rfl⟩
      rw [← hx] at x0 x1 htk c0 c1
      simp only [Nat.add_zero] at x0 x1 c0 c1
      replace c0 := hide c0
      replace c1 := hide c1
      obtain ⟨S, hS⟩ : ∃ S, S = isort rkI (l.take i) := ⟨_, rfl⟩
      have hSl : S.length = i := by rw [hS, isort_length, List.length_take, H1.out]; omega
      have hnext : isort rkI (l.take (i + 1)) = insS rkI x S := by rw [htk, isort_append, hS]
      have hsrt : Srt rkI S := by rw [hS]; exact isort_srt rkI _
      rw [← hS] at ho
      obtain ⟨a', c', rfl, hin, hbd⟩ := ho.inG (z := eZeroI) (fun _ => rfl)
      obtain ⟨_, g2, g3, blk', off', g4, g5⟩ := hin
      rw [hSl] at ho g2 g4 g5 ⊢
      have HNEXT := hide hnext
      have HSRT := hide hsrt
      have HO := hide ho
      have HU := hide hu
      have HG4 := hide g4
      have HG5 := hide g5
      have HBD := hide hbd
      have HSL := hide hSl
      have hsz := hu.size
      clear hnext hsrt ho hu hx htk hS g4 g5 hbd hSl
      go_wp2_with fail
      go_loopw [5] (fun u wi => ∃ k : Nat, k ≤ i ∧ u = .int .i64 k ∧ Up wr wi ∧ ∀ j, k ≤ j → j < i → rkI x < rkI (S.getD j eZeroI)) (fun u _ => (intOf u).toNat)
      case atStart => exact ⟨i, Nat.le_refl _, rfl, Up.refl _, fun j h1 h2 => by omega⟩
      case round =>
        obtain ⟨k, hk, rfl, hui, hall⟩ := hrel
        replace hall := hide hall
        have x0' := hui.cell x0
        have x1' := hui.cell x1
        by_cases hk0 : 0 < k
        · obtain rfl := HG4.out (by omega)
          have y0 := hui.cell (HG5.out (k - 1) (by omega) 0 _ rfl)
          obtain ⟨k, rfl⟩ : ∃ q, k = q + 1 := ⟨k - 1, by omega⟩
          simp only [Nat.add_zero, Nat.add_sub_cancel] at y0
          obtain ⟨y, hy⟩ : ∃ y, y = S.getD k eZeroI := ⟨_, rfl⟩
          rw [← hy] at y0
          have HY := hide hy
          have HUI := hide hui
          clear hy hui
          by_cases hgt : x.1 < y.1
          · go_wp2_with fail
            go_quiet (fail)
            go_wp2
            go_roundw
            case rel =>
              refine ⟨k, by omega, by go_num, HUI.out.drewN _, fun j h1 h2 => ?_⟩
              by_cases e : j = k
              · subst e; rw [← HY.out]; exact hgt
              · exact hall.out j (by omega) h2
            case measure => simp [intOf]
          · have HST : Hid (rkI (S.getD k eZeroI) ≤ rkI x) := by
              show rkI (S.getD k eZeroI) ≤ rkI x
              rw [← HY.out]
              unfold rkI
              omega
            have hstop : Hid ((k + 1) = 0 ∨ rkI (S.getD ((k + 1) - 1) eZeroI) ≤ rkI x) := .inr HST.out
            go_wp2_with fail
            go_quiet (fail)
            have hq1 := HSL.out
            have HUQ := hide (HUI.out.drewN nq)
            have hszq : w.heap.size ≤ (wr.drewN nq).heap.size := Nat.le_trans hsz HUQ.out.size
            have HFIN : Hid ((shiftL (S ++ [(0, 0)]) ((k + 1))).set ((k + 1)) x = isort rkI (l.take (i + 1))) := by
              rw [HNEXT.out, ← insI_at HSRT.out (k := (k + 1)) (by omega) (fun j h1 h2 => hall.out j h1 (by omega)) hstop.out]
              exact shift_set S (0, 0) x (by omega)
            have hl3 : Hid ((S ++ [((0 : Int), (0 : Int))]).length = i + 1) := by show _ = _; simp [HSL.out]
            clear hstop hall HSRT HNEXT
            go_wp2_with (at_builtin; refine append_eI rfl _ _ rfl w.heap.size _ S rfl (OwnG.alloc (OwnG.up HO.out HUQ.out) _) _ _ (0, 0) rfl (eI_new (0, 0)) (by omega) (by simp at hszq ⊢; omega) ?_)
            intro v3 w3 ho3 hg3
            have HU3 : Hid (Up w w3) := OwnG.below (((HU.out.trans HUQ.out).alloc _).below) (by simp at hszq ⊢; omega) (OwnG.alloc (OwnG.up HO.out HUQ.out) _) hg3
            have HO3 := hide ho3
            clear hg3
            rcases ho3.2 with ⟨_, hn0⟩ | ⟨g, cap3, cur, rfl, hgb, _, hc3, hm3, _⟩
            · exact absurd hn0 (by rw [hl3.out]; omega)
            rw [hl3.out] at hc3 ⊢
            clear ho3 x0' x1' x0 x1 HUQ HUI hszq hq1 HO HG4 HG5 HBD
            have hw1 : IntKind.i64.wrap ((k : Int) + 1 + 1) = (k : Int) + 1 + 1 := IntWalk.i64_in _ (by omega)
            have hw2 : (0 : Int) ≤ (k : Int) + 1 + 1 := by omega
            have hw3 : (k : Int) + 1 + 1 ≤ (i : Int) + 1 := by omega
            have hw4 : ((k : Int) + 1 + 1).toNat = k + 1 + 1 := by omega
            have hw5 : (0 : Int) ≤ (k : Int) + 1 := by omega
            have hw6 : (k : Int) + 1 ≤ (i : Int) + 1 := by omega
            have hw7 : ((k : Int) + 1).toNat = k + 1 := by omega
            by_cases hcap : cap3 = (k + 1) + 1
            · subst hcap
              obtain ⟨w4, hrun, ho4, hg4⟩ := run_copy_shift (w := w3.drew) Try.underlying24 size_item (fun _ => rfl) eI_one w.heap.size 3 (some ⟨g, 0, none⟩) (some ⟨g, (k + 1) * 2, none⟩) 0 0 (i - k) 1 g ((k + 1) + 1) (k + 1) (S ++ [((0 : Int), (0 : Int))]) (World.ownsRow.drew HO3.out) (by have := hl3.out; omega) (by have := hl3.out; omega) (by have := hl3.out; omega) (fun hpos => absurd hpos (by have := hl3.out; omega)) (fun hpos => absurd hpos (by have := hl3.out; omega))
              have HU4 : Hid (Up w w4) := Below.grown (show Below w.heap.size w w3.drew from HU3.out.drew) hg4 HU3.out.size (fun g' hk' => by cases hk'; exact hgb)
              have d0 := HU4.out.cell c0.out
              have d1 := HU4.out.cell c1.out
              have hl4 : (shiftL (S ++ [((0 : Int), (0 : Int))]) (k + 1)).length = (S ++ [((0 : Int), (0 : Int))]).length := shiftL_length _ _ (by have := hl3.out; omega)
              rw [← hl4] at ho4
              have f0 := World.ownsRow.frozenAt ho4 ((k + 1) * 2)
              have f1 := World.ownsRow.frozenAt ho4 ((k + 1) * 2 + 1)
              have hlf : ((shiftL (S ++ [((0 : Int), (0 : Int))]) (k + 1)).flatMap eCellsI).length = (i + 1) * 2 := by rw [flatG_length (cs := eCellsI) (k := 2) (fun _ => rfl), hl4, hl3.out]
              have z0 := World.ownsRow.cellAt ho4 ((k + 1) * 2) (by rw [hl4, hl3.out]; omega)
              have z1 := World.ownsRow.cellAt ho4 ((k + 1) * 2 + 1) (by rw [hl4, hl3.out]; omega)
              rw [List.getElem?_eq_getElem (by rw [hlf]; omega)] at z0 z1
              generalize ((shiftL (S ++ [((0 : Int), (0 : Int))]) (k + 1)).flatMap eCellsI)[(k + 1) * 2] = zz0 at z0
              generalize ((shiftL (S ++ [((0 : Int), (0 : Int))]) (k + 1)).flatMap eCellsI)[(k + 1) * 2 + 1] = zz1 at z1
              obtain ⟨W5, hW5⟩ : ∃ W5, W5 = (w4.setCell ⟨g, (k + 1) * 2, none⟩ (.int .i64 x.1)).setCell ⟨g, (k + 1) * 2 + 1, none⟩ (.int .i64 x.2) := ⟨_, rfl⟩
              have HFINAL : Hid (OwnEI W5 w.heap.size (.slice (some ⟨g, 0, none⟩) (i + 1) ((k + 1) + 1)) (isort rkI (l.take (i + 1)))) := by
                rw [← HFIN.out]
                have h9 := own_set2 ho4 (k + 1) x W5 hW5
                rw [hl4, hl3.out] at h9
                exact h9
              have HU5 : Hid (Up w W5) := by rw [hW5]; exact (HU4.out.setCell (p := ⟨g, (k + 1) * 2, none⟩) hgb _).setCell (p := ⟨g, (k + 1) * 2 + 1, none⟩) hgb _
              have hW5' := hW5.symm
              clear ho4 hg4 hl4 hlf HU4 HFIN HO3 HU3 hW5
              skip
              go_wp2_with fail
              go_region
              all_goals
                go_wp2
                go_roundw
                case rel => exact ⟨i + 1, by omega, by go_num, HFINAL.out, HU5.out⟩
                case measure => simp [intOf]; omega
            · obtain ⟨w4, hrun, ho4, hg4⟩ := run_copy_shift (w := w3.drew) Try.underlying24 size_item (fun _ => rfl) eI_one w.heap.size 3 (some ⟨g, (k + 1 + 1) * 2, none⟩) (some ⟨g, (k + 1) * 2, none⟩) (i - (k + 1)) (cap3 - (k + 1 + 1)) (i - k) (cap3 - (k + 1)) g cap3 (k + 1) (S ++ [((0 : Int), (0 : Int))]) (World.ownsRow.drew HO3.out) (by have := hl3.out; omega) (by have := hl3.out; omega) (by have := hl3.out; omega) (fun _ => by first | rfl | simp) (fun _ => by first | rfl | simp)
              have HU4 : Hid (Up w w4) := Below.grown (show Below w.heap.size w w3.drew from HU3.out.drew) hg4 HU3.out.size (fun g' hk' => by cases hk'; exact hgb)
              have d0 := HU4.out.cell c0.out
              have d1 := HU4.out.cell c1.out
              have hl4 : (shiftL (S ++ [((0 : Int), (0 : Int))]) (k + 1)).length = (S ++ [((0 : Int), (0 : Int))]).length := shiftL_length _ _ (by have := hl3.out; omega)
              rw [← hl4] at ho4
              have f0 := World.ownsRow.frozenAt ho4 ((k + 1) * 2)
              have f1 := World.ownsRow.frozenAt ho4 ((k + 1) * 2 + 1)
              have hlf : ((shiftL (S ++ [((0 : Int), (0 : Int))]) (k + 1)).flatMap eCellsI).length = (i + 1) * 2 := by rw [flatG_length (cs := eCellsI) (k := 2) (fun _ => rfl), hl4, hl3.out]
              have z0 := World.ownsRow.cellAt ho4 ((k + 1) * 2) (by rw [hl4, hl3.out]; omega)
              have z1 := World.ownsRow.cellAt ho4 ((k + 1) * 2 + 1) (by rw [hl4, hl3.out]; omega)
              rw [List.getElem?_eq_getElem (by rw [hlf]; omega)] at z0 z1
              generalize ((shiftL (S ++ [((0 : Int), (0 : Int))]) (k + 1)).flatMap eCellsI)[(k + 1) * 2] = zz0 at z0
              generalize ((shiftL (S ++ [((0 : Int), (0 : Int))]) (k + 1)).flatMap eCellsI)[(k + 1) * 2 + 1] = zz1 at z1
              obtain ⟨W5, hW5⟩ : ∃ W5, W5 = (w4.setCell ⟨g, (k + 1) * 2, none⟩ (.int .i64 x.1)).setCell ⟨g, (k + 1) * 2 + 1, none⟩ (.int .i64 x.2) := ⟨_, rfl⟩
              have HFINAL : Hid (OwnEI W5 w.heap.size (.slice (some ⟨g, 0, none⟩) (i + 1) cap3) (isort rkI (l.take (i + 1)))) := by
                rw [← HFIN.out]
                have h9 := own_set2 ho4 (k + 1) x W5 hW5
                rw [hl4, hl3.out] at h9
                exact h9
              have HU5 : Hid (Up w W5) := by rw [hW5]; exact (HU4.out.setCell (p := ⟨g, (k + 1) * 2, none⟩) hgb _).setCell (p := ⟨g, (k + 1) * 2 + 1, none⟩) hgb _
              have hW5' := hW5.symm
              clear ho4 hg4 hl4 hlf HU4 HFIN HO3 HU3 hW5
              skip
              go_wp2_with fail
              go_region
              all_goals
                go_wp2
                go_roundw
                case rel => exact ⟨i + 1, by omega, by go_num, HFINAL.out, HU5.out⟩
                case measure => simp [intOf]; omega
        · obtain rfl : k = 0 := by omega
          have HUI := hide hui
          clear hui
          go_wp2_with fail
          go_quiet (fail)
          have hq1 := HSL.out
          have HUQ := hide (HUI.out.drewN nq)
          have hszq : w.heap.size ≤ (wr.drewN nq).heap.size := Nat.le_trans hsz HUQ.out.size
          have HFIN : Hid ((shiftL (S ++ [(0, 0)]) (0)).set (0) x = isort rkI (l.take (i + 1))) := by
            rw [HNEXT.out, ← insI_at HSRT.out (k := 0) (by omega) (fun j h1 h2 => hall.out j h1 (by omega)) (.inl rfl)]
            exact shift_set S (0, 0) x (by omega)
          have hl3 : Hid ((S ++ [((0 : Int), (0 : Int))]).length = i + 1) := by show _ = _; simp [HSL.out]
          clear hall HSRT HNEXT
          go_wp2_with (at_builtin; refine append_eI rfl _ _ rfl w.heap.size _ S rfl (OwnG.alloc (OwnG.up HO.out HUQ.out) _) _ _ (0, 0) rfl (eI_new (0, 0)) (by omega) (by simp at hszq ⊢; omega) ?_)
          intro v3 w3 ho3 hg3
          have HU3 : Hid (Up w w3) := OwnG.below (((HU.out.trans HUQ.out).alloc _).below) (by simp at hszq ⊢; omega) (OwnG.alloc (OwnG.up HO.out HUQ.out) _) hg3
          have HO3 := hide ho3
          clear hg3
          rcases ho3.2 with ⟨_, hn0⟩ | ⟨g, cap3, cur, rfl, hgb, _, hc3, hm3, _⟩
          · exact absurd hn0 (by rw [hl3.out]; omega)
          rw [hl3.out] at hc3 ⊢
          clear ho3 x0' x1' x0 x1 HUQ HUI hszq hq1 HO HG4 HG5 HBD
          have hw1 : IntKind.i64.wrap 1 = 1 := IntWalk.i64_in _ (by omega)
          have hw2 : IntKind.i64.wrap (0 + 1) = 1 := IntWalk.i64_in _ (by omega)
          have hw3 : (1 : Int) ≤ (i : Int) + 1 := by omega
          have hw4 : (0 : Int) ≤ (i : Int) + 1 := by omega
          by_cases hcap : cap3 = 0 + 1
          · subst hcap
            obtain ⟨w4, hrun, ho4, hg4⟩ := run_copy_shift (w := w3.drew) Try.underlying24 size_item (fun _ => rfl) eI_one w.heap.size 3 (some ⟨g, 0, none⟩) (some ⟨g, 0, none⟩) 0 0 (i + 1) 1 g (0 + 1) 0 (S ++ [((0 : Int), (0 : Int))]) (World.ownsRow.drew HO3.out) (by have := hl3.out; omega) (by have := hl3.out; omega) (by have := hl3.out; omega) (fun hpos => absurd hpos (by have := hl3.out; omega)) (fun hpos => absurd hpos (by have := hl3.out; omega))
            have HU4 : Hid (Up w w4) := Below.grown (show Below w.heap.size w w3.drew from HU3.out.drew) hg4 HU3.out.size (fun g' hk' => by cases hk'; exact hgb)
            have d0 := HU4.out.cell c0.out
            have d1 := HU4.out.cell c1.out
            have hl4 : (shiftL (S ++ [((0 : Int), (0 : Int))]) 0).length = (S ++ [((0 : Int), (0 : Int))]).length := shiftL_length _ _ (by have := hl3.out; omega)
            rw [← hl4] at ho4
            have f0 := World.ownsRow.frozenAt ho4 (0 * 2)
            have f1 := World.ownsRow.frozenAt ho4 (0 * 2 + 1)
            have hlf : ((shiftL (S ++ [((0 : Int), (0 : Int))]) 0).flatMap eCellsI).length = (i + 1) * 2 := by rw [flatG_length (cs := eCellsI) (k := 2) (fun _ => rfl), hl4, hl3.out]
            have z0 := World.ownsRow.cellAt ho4 (0 * 2) (by rw [hl4, hl3.out]; omega)
            have z1 := World.ownsRow.cellAt ho4 (0 * 2 + 1) (by rw [hl4, hl3.out]; omega)
            rw [List.getElem?_eq_getElem (by rw [hlf]; omega)] at z0 z1
            generalize ((shiftL (S ++ [((0 : Int), (0 : Int))]) 0).flatMap eCellsI)[0 * 2] = zz0 at z0
            generalize ((shiftL (S ++ [((0 : Int), (0 : Int))]) 0).flatMap eCellsI)[0 * 2 + 1] = zz1 at z1
            obtain ⟨W5, hW5⟩ : ∃ W5, W5 = (w4.setCell ⟨g, 0 * 2, none⟩ (.int .i64 x.1)).setCell ⟨g, 0 * 2 + 1, none⟩ (.int .i64 x.2) := ⟨_, rfl⟩
            have HFINAL : Hid (OwnEI W5 w.heap.size (.slice (some ⟨g, 0, none⟩) (i + 1) (0 + 1)) (isort rkI (l.take (i + 1)))) := by
              rw [← HFIN.out]
              have h9 := own_set2 ho4 0 x W5 hW5
              rw [hl4, hl3.out] at h9
              exact h9
            have HU5 : Hid (Up w W5) := by rw [hW5]; exact (HU4.out.setCell (p := ⟨g, 0 * 2, none⟩) hgb _).setCell (p := ⟨g, 0 * 2 + 1, none⟩) hgb _
            have hW5' := hW5.symm
            clear ho4 hg4 hl4 hlf HU4 HFIN HO3 HU3 hW5
            simp only [Nat.zero_mul, Nat.zero_add] at *
            go_wp2_with fail
            go_region
            all_goals
              go_wp2
              go_roundw
              case rel => exact ⟨i + 1, by omega, by go_num, HFINAL.out, HU5.out⟩
              case measure => simp [intOf]; omega
          · obtain ⟨w4, hrun, ho4, hg4⟩ := run_copy_shift (w := w3.drew) Try.underlying24 size_item (fun _ => rfl) eI_one w.heap.size 3 (some ⟨g, 2, none⟩) (some ⟨g, 0, none⟩) i (cap3 - 1) (i + 1) cap3 g cap3 0 (S ++ [((0 : Int), (0 : Int))]) (World.ownsRow.drew HO3.out) (by have := hl3.out; omega) (by have := hl3.out; omega) (by have := hl3.out; omega) (fun _ => by first | rfl | simp) (fun _ => by first | rfl | simp)
            have HU4 : Hid (Up w w4) := Below.grown (show Below w.heap.size w w3.drew from HU3.out.drew) hg4 HU3.out.size (fun g' hk' => by cases hk'; exact hgb)
            have d0 := HU4.out.cell c0.out
            have d1 := HU4.out.cell c1.out
            have hl4 : (shiftL (S ++ [((0 : Int), (0 : Int))]) 0).length = (S ++ [((0 : Int), (0 : Int))]).length := shiftL_length _ _ (by have := hl3.out; omega)
            rw [← hl4] at ho4
            have f0 := World.ownsRow.frozenAt ho4 (0 * 2)
            have f1 := World.ownsRow.frozenAt ho4 (0 * 2 + 1)
            have hlf : ((shiftL (S ++ [((0 : Int), (0 : Int))]) 0).flatMap eCellsI).length = (i + 1) * 2 := by rw [flatG_length (cs := eCellsI) (k := 2) (fun _ => rfl), hl4, hl3.out]
            have z0 := World.ownsRow.cellAt ho4 (0 * 2) (by rw [hl4, hl3.out]; omega)
            have z1 := World.ownsRow.cellAt ho4 (0 * 2 + 1) (by rw [hl4, hl3.out]; omega)
            rw [List.getElem?_eq_getElem (by rw [hlf]; omega)] at z0 z1
            generalize ((shiftL (S ++ [((0 : Int), (0 : Int))]) 0).flatMap eCellsI)[0 * 2] = zz0 at z0
            generalize ((shiftL (S ++ [((0 : Int), (0 : Int))]) 0).flatMap eCellsI)[0 * 2 + 1] = zz1 at z1
            obtain ⟨W5, hW5⟩ : ∃ W5, W5 = (w4.setCell ⟨g, 0 * 2, none⟩ (.int .i64 x.1)).setCell ⟨g, 0 * 2 + 1, none⟩ (.int .i64 x.2) := ⟨_, rfl⟩
            have HFINAL : Hid (OwnEI W5 w.heap.size (.slice (some ⟨g, 0, none⟩) (i + 1) cap3) (isort rkI (l.take (i + 1)))) := by
              rw [← HFIN.out]
              have h9 := own_set2 ho4 0 x W5 hW5
              rw [hl4, hl3.out] at h9
              exact h9
            have HU5 : Hid (Up w W5) := by rw [hW5]; exact (HU4.out.setCell (p := ⟨g, 0 * 2, none⟩) hgb _).setCell (p := ⟨g, 0 * 2 + 1, none⟩) hgb _
            have hW5' := hW5.symm
            clear ho4 hg4 hl4 hlf HU4 HFIN HO3 HU3 hW5
            simp only [Nat.zero_mul, Nat.zero_add] at *
            go_wp2_with fail
            go_region
            all_goals
              go_wp2
              go_roundw
              case rel => exact ⟨i + 1, by omega, by go_num, HFINAL.out, HU5.out⟩
              case measure => simp [intOf]; omega
    · have t1 : decide ((i : Int) < n) = false := decide_eq_false (by omega)
      have hfin : l.take i = l := List.take_of_length_le (by rw [H1.out]; omega)
      rw [hfin] at ho
      replace ho := hide ho
      replace hu := hide hu
      go_wp2
      go_ret
      exact ⟨_, rfl, ho.out, hu.out⟩

end Go.Proofs.Ytcemdiloiachlaa

/-
  HeapMerges, walked.
-/
import Derived.Test.YtcemdiloiachlaaHeapMmi
namespace Go.Proofs.Ytcemdiloiachlaa
open Go.ChangeShapes Go.WideShapes Go.ChangeAt Go.RowKit
set_option linter.unusedVariables false

theorem Up.thenChgM {C : Nat → Prop} {w w1 w2 : World} (h : Up w w1) (hc : Chg C w1 w2) (hC : ∀ x, x < w.heap.size → ¬ C x) : Up w w2 := ((Chg.of_up (C := C) h).trans hc (fun _ _ h => h)).up hC

set_option maxRecDepth 20000 in
set_option maxHeartbeats 16000000 in
theorem heapMerges_f (a : Option Addr) (len c : Nat) (l : List Sl8) (w : World) (h : InG 1 sl8Cells zero8 w a len c l) (hg : ∀ i, Good8 w (l.getD i zero8)) :
    Calls Try.prog 4 #[.slice a len c, .bool false] w fun e w' => e = .returned (.bool true) ∧ Up w w' := by
  obtain ⟨h1, h2, h3, blk, off, h4, h5⟩ := h
  have H5 := hide h5
  have H4 := hide h4
  have HG := hide hg
  clear h5 h4 hg h1
  go_enter Try.func4, Try.ntmps4
  go_wp2_with fail
  go_at_call 8
  refine (known_calls w).mono ?_
  rintro _ w1 ⟨rfl, hu1⟩
  have U := hide hu1
  clear hu1
  by_cases hbig : 12 < len
  · have t1 : decide ((len : Int) > 12) = true := decide_eq_true (by omega)
    go_wp2
    go_ret
    exact ⟨rfl, U.out⟩
  have t1 : decide ((len : Int) > 12) = false := decide_eq_false (by omega)
  go_wp2_with fail
  go_loopw [5, 6, 7, 8] (fun u5 u6 u7 u8 wr => ∃ (i : Nat) (rows : List SlV), i ≤ len ∧ u8 = .int .i64 i ∧ rows.length = i ∧ u7 = .int .i64 ((flM rows).length : Nat) ∧ MInv w1 wr u5 u6 rows false) (fun _ _ _ u _ => len - (intOf u).toNat)
  case atStart => exact ⟨0, [], Nat.zero_le _, rfl, rfl, rfl, MInv.nil _ _⟩
  case round =>
    obtain ⟨W0, rfl⟩ : ∃ W0, W0 = wr := ⟨_, rfl⟩
    obtain ⟨i, rows, hi, rfl, hrl, rfl, hinv⟩ := hrel
    have HM := hide hinv
    have hfl := flM_le rows hinv.lens
    obtain ⟨F, hF⟩ : ∃ F, F = (flM rows).length := ⟨_, rfl⟩
    rw [← hF, hrl] at hfl
    rw [← hF]
    have HF := hide hF
    have HRL := hide hrl
    clear hinv hF
    by_cases hlt : i < len
    · have t2 : decide ((i : Int) < len) = true := decide_eq_true (by omega)
      obtain rfl := H4.out (by omega)
      have x0 := HM.out.up.cell (U.out.cell (H5.out i hlt 0 _ rfl))
      have hgd := HG.out i
      obtain ⟨q8, hq8⟩ : ∃ q8, q8 = l.getD i zero8 := ⟨_, rfl⟩
      rw [← hq8] at x0 hgd
      obtain ⟨ra, rc, q⟩ := q8
      obtain ⟨⟨_, k2, k3, rb, ro, k4, k5⟩, kr⟩ := hgd
      simp only [Nat.add_zero, Nat.mul_one] at x0 k2 k3 k4 k5 kr
      obtain ⟨m, hm⟩ : ∃ m, m = q.length := ⟨_, rfl⟩
      rw [← hm] at x0 k2 k4 k5
      have K4 := hide k4
      have K5 := hide k5
      have KR := hide kr
      have HMQ := hide hm
      clear k4 k5 kr hq8 hm
      by_cases h40 : 40 < m
      · have t3 : decide ((m : Int) > 40) = true := decide_eq_true (by omega)
        go_wp2
        go_ret
        exact ⟨rfl, U.out.trans HM.out.up⟩
      have t3 : decide ((m : Int) > 40) = false := decide_eq_false (by omega)
      go_wp2_with fail
      go_loopw [9, 10] (fun u9 u10 wr => ∃ k : Nat, k ≤ m ∧ u10 = .int .i64 k ∧ OwnEI wr W0.heap.size u9 (zItems (q.take k)) ∧ Up W0 wr) (fun _ u _ => m - (intOf u).toNat)
      case atStart => exact ⟨0, Nat.zero_le _, rfl, OwnG.nil _ _ _ _ _, Up.refl _⟩
      case round =>
        obtain ⟨k, hk, rfl, ho, hui⟩ := hrel
        have x1 := hui.cell x0
        by_cases hkl : k < m
        · have t4 : decide ((k : Int) < m) = true := decide_eq_true (by omega)
          obtain rfl := K4.out (by omega)
          have y0 := hui.cell (HM.out.up.cell (U.out.cell (K5.out k hkl 0 _ rfl)))
          have hrx := KR.out k
          have hnew := zItems_take q (i := k) (by have := HMQ.out; omega)
          obtain ⟨x, hx⟩ : ∃ x, x = q.getD k 0 := ⟨_, rfl⟩
          rw [← hx] at y0 hrx hnew
          simp only [Nat.add_zero] at y0
          have hol : (zItems (q.take k)).length = k := by rw [zItems_length, List.length_take, ← HMQ.out]; omega
          have HNEW := hide hnew
          have HO := hide ho
          have HUI := hide hui
          have hsz := hui.size
          clear hnew ho hui hx x0
          obtain ⟨r1, r2⟩ := hrx
          --M0
          go_wp2_with (at_builtin; refine append_eI rfl _ _ rfl W0.heap.size _ (zItems (q.take k)) rfl (OwnG.alloc HO.out _) _ _ (x.tdiv 8, (0 : Int)) rfl (eI_new (x.tdiv 8, (0 : Int))) (by omega) (by simp; omega) ?_)
          intro v3 w3 ho3 hg3
          have hu3 : Hid (Up W0 w3) := OwnG.below ((HUI.out.alloc _).below) (by simp; omega) (OwnG.alloc HO.out _) hg3
          rw [← HNEW.out] at ho3
          replace ho3 := hide ho3
          clear hg3
          go_wp2
          go_roundw
          case rel => exact ⟨k + 1, by omega, by go_num, ho3.out, hu3.out⟩
          case measure => simp [intOf]; omega
        · have t4 : decide ((k : Int) < m) = false := decide_eq_false (by omega)
          have hfin : q.take k = q := List.take_of_length_le (by have := HMQ.out; omega)
          rw [hfin] at ho
          have hzl : (zItems q).length = m := by rw [zItems_length, HMQ.out]
          clear hfin
          obtain ⟨a8, c8, rfl, hin8, _⟩ := ho.inG (z := eZeroI) (fun _ => rfl)
          rw [hzl] at hin8 ⊢
          have HIN8 := hide hin8
          have HUI := hide hui
          clear hin8 ho
          go_wp2_with fail
          go_at_call 10
          refine (sorted_calls a8 m c8 (zItems q) wr (by omega) HIN8.out).mono ?_
          rintro _ w8 ⟨v8, rfl, ho8, hu8⟩
          obtain ⟨R, hR⟩ : ∃ R, R = isort rkI (zItems q) := ⟨_, rfl⟩
          rw [← hR] at ho8
          have hRl : R.length = m := by rw [hR, isort_length]; exact hzl
          have hRs : false = false → Srt rkI R := fun _ => by rw [hR]; exact isort_srt rkI _
          have ho : OwnEI w8 W0.heap.size v8 R := OwnG.mono ho8 hui.size
          replace hui := hui.trans hu8
          clear hR hzl HIN8 HUI ho8 hu8
          --M1
          obtain ⟨a9, c9, rfl, hin9, _⟩ := ho.inG (z := eZeroI) (fun _ => rfl)
          obtain ⟨_, e2, e3, b9, o9, e4, e5⟩ := hin9
          have hg9 : 0 < m → ∃ g, a9 = some ⟨g, 0, none⟩ ∧ W0.heap.size ≤ g := fun hpos => by
            rcases ho.2 with ⟨hz, hn⟩ | ⟨g, cap, cur, hz, hb, _⟩
            · omega
            · cases hz; exact ⟨g, rfl, hb⟩
          rw [hRl] at e2 ho ⊢
          have HG9 := hide hg9
          have HO := hide ho
          have HUI := hide hui
          have HRS := hide hRs
          have HRQ := hide hRl
          clear hg9 ho hui hRs e4 e5 x0 hRl
          --M2
          go_wp2_with fail
          clear x1
          --M21
          go_loopw [7, 11] (fun u7 u11 wr => ∃ k : Nat, k ≤ m ∧ u11 = .int .i64 k ∧ u7 = .int .i64 ((F + k : Nat) : Int) ∧ OwnEI wr W0.heap.size (.slice a9 m c9) (idsUpto R F k) ∧ Up W0 wr) (fun _ u _ => m - (intOf u).toNat)
          case atStart => exact ⟨0, Nat.zero_le _, rfl, rfl, by rw [idsUpto_zero]; exact HO.out, HUI.out⟩
          case round =>
            obtain ⟨k, hk, rfl, rfl, ho, huj⟩ := hrel
            by_cases hkl : k < m
            · have t4 : decide ((k : Int) < m) = true := decide_eq_true (by omega)
              obtain ⟨g, rfl, hgb⟩ := HG9.out (by omega)
              have hlk : (idsUpto R F k).length = m := by rw [idsUpto_length]; exact HRQ.out
              have ho' := ho
              rw [← hlk] at ho'
              have f1 := World.ownsRow.frozenAt ho' (k * 2 + 1)
              have hlf : ((idsUpto R F k).flatMap eCellsI).length = m * 2 := by rw [flatG_length (cs := eCellsI) (k := 2) (fun _ => rfl), hlk]
              have z1 := World.ownsRow.cellAt ho' (k * 2 + 1) (by rw [hlk]; omega)
              rw [List.getElem?_eq_getElem (by rw [hlf]; omega)] at z1
              generalize ((idsUpto R F k).flatMap eCellsI)[k * 2 + 1] = zz1 at z1
              have hset := own_setId (n := 0) (by have h9 := ho; rw [← HRQ.out] at h9; exact h9) (by rw [HRQ.out]; exact hkl) ((F + k : Nat) : Int) rfl
              rw [HRQ.out] at hset
              have HSET := hide hset
              have HUJ : Hid (Up W0 (wr.setCell ⟨g, k * 2 + 1, none⟩ (.int .i64 ((F + k : Nat) : Int)))) := huj.setCell (p := ⟨g, k * 2 + 1, none⟩) hgb _
              have hw1 : IntKind.i64.wrap (((F + k : Nat) : Int) + 1) = ((F + (k + 1) : Nat) : Int) := by rw [IntWalk.i64_in _ (by omega)]; omega
              clear ho ho' hset hlk hlf huj
              obtain ⟨P, hP⟩ : ∃ P, P = F + k := ⟨_, rfl⟩
              rw [← hP] at HSET HUJ hw1 ⊢
              have HP := hide hP
              clear hP
              --M3
              go_wp2
              go_roundw
              case rel => exact ⟨k + 1, by omega, by go_num, by first | rfl | (rw [hw1]) | (have := HP.out; go_num), HSET.out, HUJ.out⟩
              case measure => simp [intOf]; omega
            · have t4 : decide ((k : Int) < m) = false := decide_eq_false (by omega)
              obtain rfl : k = m := by omega
              have hR2 : Hid ((idsUpto R F k).length = k) := by show _ = _; rw [idsUpto_length]; exact HRQ.out
              have HO9 := hide ho
              have HUJ := hide huj
              have hszw := HM.out.up.size
              have hszj := huj.size
              have hnew : Hid (∀ (W : World) (t : TypeId) (j : Nat) (u : Value), (slCells ⟨a9, c9, idsUpto R F k⟩)[j]? = some u → (W.alloc (.cells #[.slice a9 k c9] t)).cell? ((⟨W.heap.size, 0, none⟩ : Addr).add j) = some u) := fun W t j u hj => by
                have h9 := sl_new (w := W) (t := t) (⟨a9, c9, idsUpto R F k⟩ : SlV) j u hj
                simp only [hR2.out] at h9
                exact h9
              clear ho huj HO HUI
              --M4
              go_wp2_with (at_builtin; refine append_sl rfl _ _ rfl w1.heap.size _ rows rfl (OwnG.alloc (HM.out.o5.up HUJ.out) _) _ _ ⟨a9, c9, idsUpto R F k⟩ rfl (hnew.out _ _) (by omega) (by simp; omega) ?_)
              intro v5 w5 ho5 hg5 hb5
              have HU2 := hide (HUJ.out.alloc (.cells #[.slice a9 k c9] 24))
              have HO92 := hide (OwnG.alloc HO9.out (.cells #[.slice a9 k c9] 24))
              have HO6 := hide (HM.out.mid6 (w1 := W0) HU2.out hg5)
              have HO93 := hide (HM.out.mid9 (w1 := W0) HO92.out hg5)
              have HO5 := hide ho5
              have HG5 := hide hg5
              have HB5 := hide hb5
              have hs5 := hg5.size
              simp only [World.size_alloc] at hs5
              clear ho5 hg5 hb5 hnew
              --M5
              go_wp2_with (at_builtin; refine append_rowA rfl _ _ rfl w1.heap.size _ (flM rows) rfl HO6.out W0.heap.size _ (idsUpto R F k) rfl HO93.out (by have h7 := HF.out; have h8 := hR2.out; omega) (by omega) ?_)
              intro v6 w6 ho6 hg6 hb6
              have HFIN : Hid (MInv w1 w6 v5 v6 (rows ++ [⟨a9, c9, idsUpto R F k⟩]) false) := by
                have hk9 : k = R.length := HRQ.out.symm
                have h7 := HF.out
                have q1 := HO92.out
                have q2 := HO5.out
                subst hk9
                subst h7
                exact HM.out.add HU2.out q1 HG5.out q2 (by simp only [World.size_alloc]; exact HB5.out) hg6 ho6 hb6 (fun e => by first | exact HRS.out e | exact HRS.out trivial) (by omega)
              have hlen7 : Hid ((flM (rows ++ [⟨a9, c9, idsUpto R F k⟩])).length = F + k) := by
                show _ = _
                rw [flM_add, List.length_append, ← HF.out]
                show F + (idsUpto R F k).length = F + k
                rw [hR2.out]
              clear ho6 hg6 hb6
              --M6
              go_wp2
              go_roundw
              case rel => exact ⟨i + 1, _, by omega, by go_num, by rw [List.length_append, List.length_singleton, HRL.out], by rw [hlen7.out]; first | rfl | go_num | simp, HFIN.out⟩
              case measure => simp [intOf]; omega
    · --M7
      have t2 : decide ((i : Int) < len) = false := decide_eq_false (by omega)
      obtain ⟨a5, c5, rfl, hin5, _⟩ := HM.out.o5.inG (z := zeroSl) (fun _ => rfl)
      have hrows := HM.out.rin
      have HIN5 := hide hin5
      have HROWS := hide hrows
      clear hin5 hrows
      have hr1 : rows.length ≤ 1000 := by omega
      obtain ⟨N, hN⟩ : ∃ N, N = rows.length := ⟨_, rfl⟩
      rw [← hN] at HIN5 HROWS hr1 ⊢
      have HN := hide hN
      clear hrl hN
      --M71
      go_wp2_with fail
      --M72
      go_at_call 15
      --M73
      refine (merge_calls _ rkI before_less a5 N c5 rows W0 hr1 HIN5.out HROWS.out (by show (flM rows).length < 100000; have h7 := HF.out; omega)).mono ?_
      rintro _ w7 ⟨v, rfl, hom, hum⟩
      --M74
      have hms := merge_sorts rkI rows (HM.out.srt rfl)
      rw [hms] at hom
      obtain ⟨aM, cM, rfl, iM, _⟩ := hom.inG (z := eZeroI) (fun _ => rfl)
      obtain ⟨a6, c6, hv6, i6, _⟩ := (HM.out.o6.up hum).inG (z := eZeroI) (fun _ => rfl)
      subst hv6
      have hfl2 : (flM rows).length ≤ 1000 := by have h7 := HF.out; omega
      have IM := hide iM
      have I6 := hide i6
      have UM := hide hum
      clear iM i6 hum hms hom
      go_wp2_with fail
      go_at_call 10
      refine (sorted_calls a6 (flM rows).length c6 (flM rows) w7 (by omega) I6.out).mono ?_
      rintro _ w8 ⟨v8, rfl, ho8, hu8⟩
      obtain ⟨a8, c8, rfl, i8, _⟩ := ho8.inG (z := eZeroI) (fun _ => rfl)
      have I8 := hide i8
      have U8 := hide hu8
      clear ho8 i8 hu8
      go_wp2_with fail
      go_at_call 11
      have h9 := same_calls aM a8 _ cM _ c8 _ _ w8 (by rw [isort_length]; show (flM rows).length ≤ 1000000; omega) (IM.out.up U8.out) I8.out
      rw [decide_eq_true (by rfl)] at h9
      refine h9.mono ?_
      rintro _ w9 ⟨rfl, hu9⟩
      have U9 := hide hu9
      clear h9 hu9
      go_wp2
      go_ret
      exact ⟨rfl, (((U.out.trans HM.out.up).trans UM.out).trans U8.out).trans U9.out⟩

set_option maxRecDepth 20000 in
set_option maxHeartbeats 16000000 in
theorem heapMerges_t (a : Option Addr) (len c : Nat) (l : List Sl8) (w : World) (h : InG 1 sl8Cells zero8 w a len c l) (hg : ∀ i, Good8 w (l.getD i zero8)) :
    Calls Try.prog 4 #[.slice a len c, .bool true] w fun e w' => e = .returned (.bool true) ∧ Up w w' := by
  obtain ⟨h1, h2, h3, blk, off, h4, h5⟩ := h
  have H5 := hide h5
  have H4 := hide h4
  have HG := hide hg
  clear h5 h4 hg h1
  go_enter Try.func4, Try.ntmps4
  go_wp2_with fail
  go_at_call 8
  refine (known_calls w).mono ?_
  rintro _ w1 ⟨rfl, hu1⟩
  have U := hide hu1
  clear hu1
  by_cases hbig : 12 < len
  · have t1 : decide ((len : Int) > 12) = true := decide_eq_true (by omega)
    go_wp2
    go_ret
    exact ⟨rfl, U.out⟩
  have t1 : decide ((len : Int) > 12) = false := decide_eq_false (by omega)
  go_wp2_with fail
  go_loopw [5, 6, 7, 8] (fun u5 u6 u7 u8 wr => ∃ (i : Nat) (rows : List SlV), i ≤ len ∧ u8 = .int .i64 i ∧ rows.length = i ∧ u7 = .int .i64 ((flM rows).length : Nat) ∧ MInv w1 wr u5 u6 rows true) (fun _ _ _ u _ => len - (intOf u).toNat)
  case atStart => exact ⟨0, [], Nat.zero_le _, rfl, rfl, rfl, MInv.nil _ _⟩
  case round =>
    obtain ⟨W0, rfl⟩ : ∃ W0, W0 = wr := ⟨_, rfl⟩
    obtain ⟨i, rows, hi, rfl, hrl, rfl, hinv⟩ := hrel
    have HM := hide hinv
    have hfl := flM_le rows hinv.lens
    obtain ⟨F, hF⟩ : ∃ F, F = (flM rows).length := ⟨_, rfl⟩
    rw [← hF, hrl] at hfl
    rw [← hF]
    have HF := hide hF
    have HRL := hide hrl
    clear hinv hF
    by_cases hlt : i < len
    · have t2 : decide ((i : Int) < len) = true := decide_eq_true (by omega)
      obtain rfl := H4.out (by omega)
      have x0 := HM.out.up.cell (U.out.cell (H5.out i hlt 0 _ rfl))
      have hgd := HG.out i
      obtain ⟨q8, hq8⟩ : ∃ q8, q8 = l.getD i zero8 := ⟨_, rfl⟩
      rw [← hq8] at x0 hgd
      obtain ⟨ra, rc, q⟩ := q8
      obtain ⟨⟨_, k2, k3, rb, ro, k4, k5⟩, kr⟩ := hgd
      simp only [Nat.add_zero, Nat.mul_one] at x0 k2 k3 k4 k5 kr
      obtain ⟨m, hm⟩ : ∃ m, m = q.length := ⟨_, rfl⟩
      rw [← hm] at x0 k2 k4 k5
      have K4 := hide k4
      have K5 := hide k5
      have KR := hide kr
      have HMQ := hide hm
      clear k4 k5 kr hq8 hm
      by_cases h40 : 40 < m
      · have t3 : decide ((m : Int) > 40) = true := decide_eq_true (by omega)
        go_wp2
        go_ret
        exact ⟨rfl, U.out.trans HM.out.up⟩
      have t3 : decide ((m : Int) > 40) = false := decide_eq_false (by omega)
      go_wp2_with fail
      go_loopw [9, 10] (fun u9 u10 wr => ∃ k : Nat, k ≤ m ∧ u10 = .int .i64 k ∧ OwnEI wr W0.heap.size u9 (zItems (q.take k)) ∧ Up W0 wr) (fun _ u _ => m - (intOf u).toNat)
      case atStart => exact ⟨0, Nat.zero_le _, rfl, OwnG.nil _ _ _ _ _, Up.refl _⟩
      case round =>
        obtain ⟨k, hk, rfl, ho, hui⟩ := hrel
        have x1 := hui.cell x0
        by_cases hkl : k < m
        · have t4 : decide ((k : Int) < m) = true := decide_eq_true (by omega)
          obtain rfl := K4.out (by omega)
          have y0 := hui.cell (HM.out.up.cell (U.out.cell (K5.out k hkl 0 _ rfl)))
          have hrx := KR.out k
          have hnew := zItems_take q (i := k) (by have := HMQ.out; omega)
          obtain ⟨x, hx⟩ : ∃ x, x = q.getD k 0 := ⟨_, rfl⟩
          rw [← hx] at y0 hrx hnew
          simp only [Nat.add_zero] at y0
          have hol : (zItems (q.take k)).length = k := by rw [zItems_length, List.length_take, ← HMQ.out]; omega
          have HNEW := hide hnew
          have HO := hide ho
          have HUI := hide hui
          have hsz := hui.size
          clear hnew ho hui hx x0
          obtain ⟨r1, r2⟩ := hrx
          --M0
          go_wp2_with (at_builtin; refine append_eI rfl _ _ rfl W0.heap.size _ (zItems (q.take k)) rfl (OwnG.alloc HO.out _) _ _ (x.tdiv 8, (0 : Int)) rfl (eI_new (x.tdiv 8, (0 : Int))) (by omega) (by simp; omega) ?_)
          intro v3 w3 ho3 hg3
          have hu3 : Hid (Up W0 w3) := OwnG.below ((HUI.out.alloc _).below) (by simp; omega) (OwnG.alloc HO.out _) hg3
          rw [← HNEW.out] at ho3
          replace ho3 := hide ho3
          clear hg3
          go_wp2
          go_roundw
          case rel => exact ⟨k + 1, by omega, by go_num, ho3.out, hu3.out⟩
          case measure => simp [intOf]; omega
        · have t4 : decide ((k : Int) < m) = false := decide_eq_false (by omega)
          have hfin : q.take k = q := List.take_of_length_le (by have := HMQ.out; omega)
          rw [hfin] at ho
          have hzl : (zItems q).length = m := by rw [zItems_length, HMQ.out]
          clear hfin
          obtain ⟨R, hR⟩ : ∃ R, R = zItems q := ⟨_, rfl⟩
          rw [← hR] at ho hzl
          have hRl := hzl
          have hRs : true = false → Srt rkI R := fun h => by cases h
          clear hR hzl
          --M1
          obtain ⟨a9, c9, rfl, hin9, _⟩ := ho.inG (z := eZeroI) (fun _ => rfl)
          obtain ⟨_, e2, e3, b9, o9, e4, e5⟩ := hin9
          have hg9 : 0 < m → ∃ g, a9 = some ⟨g, 0, none⟩ ∧ W0.heap.size ≤ g := fun hpos => by
            rcases ho.2 with ⟨hz, hn⟩ | ⟨g, cap, cur, hz, hb, _⟩
            · omega
            · cases hz; exact ⟨g, rfl, hb⟩
          rw [hRl] at e2 ho ⊢
          have HG9 := hide hg9
          have HO := hide ho
          have HUI := hide hui
          have HRS := hide hRs
          have HRQ := hide hRl
          clear hg9 ho hui hRs e4 e5 x0 hRl
          --M2
          go_wp2_with fail
          clear x1
          --M21
          go_loopw [7, 11] (fun u7 u11 wr => ∃ k : Nat, k ≤ m ∧ u11 = .int .i64 k ∧ u7 = .int .i64 ((F + k : Nat) : Int) ∧ OwnEI wr W0.heap.size (.slice a9 m c9) (idsUpto R F k) ∧ Up W0 wr) (fun _ u _ => m - (intOf u).toNat)
          case atStart => exact ⟨0, Nat.zero_le _, rfl, rfl, by rw [idsUpto_zero]; exact HO.out, HUI.out⟩
          case round =>
            obtain ⟨k, hk, rfl, rfl, ho, huj⟩ := hrel
            by_cases hkl : k < m
            · have t4 : decide ((k : Int) < m) = true := decide_eq_true (by omega)
              obtain ⟨g, rfl, hgb⟩ := HG9.out (by omega)
              have hlk : (idsUpto R F k).length = m := by rw [idsUpto_length]; exact HRQ.out
              have ho' := ho
              rw [← hlk] at ho'
              have f1 := World.ownsRow.frozenAt ho' (k * 2 + 1)
              have hlf : ((idsUpto R F k).flatMap eCellsI).length = m * 2 := by rw [flatG_length (cs := eCellsI) (k := 2) (fun _ => rfl), hlk]
              have z1 := World.ownsRow.cellAt ho' (k * 2 + 1) (by rw [hlk]; omega)
              rw [List.getElem?_eq_getElem (by rw [hlf]; omega)] at z1
              generalize ((idsUpto R F k).flatMap eCellsI)[k * 2 + 1] = zz1 at z1
              have hset := own_setId (n := 0) (by have h9 := ho; rw [← HRQ.out] at h9; exact h9) (by rw [HRQ.out]; exact hkl) ((F + k : Nat) : Int) rfl
              rw [HRQ.out] at hset
              have HSET := hide hset
              have HUJ : Hid (Up W0 (wr.setCell ⟨g, k * 2 + 1, none⟩ (.int .i64 ((F + k : Nat) : Int)))) := huj.setCell (p := ⟨g, k * 2 + 1, none⟩) hgb _
              have hw1 : IntKind.i64.wrap (((F + k : Nat) : Int) + 1) = ((F + (k + 1) : Nat) : Int) := by rw [IntWalk.i64_in _ (by omega)]; omega
              clear ho ho' hset hlk hlf huj
              obtain ⟨P, hP⟩ : ∃ P, P = F + k := ⟨_, rfl⟩
              rw [← hP] at HSET HUJ hw1 ⊢
              have HP := hide hP
              clear hP
              --M3
              go_wp2
              go_roundw
              case rel => exact ⟨k + 1, by omega, by go_num, by first | rfl | (rw [hw1]) | (have := HP.out; go_num), HSET.out, HUJ.out⟩
              case measure => simp [intOf]; omega
            · have t4 : decide ((k : Int) < m) = false := decide_eq_false (by omega)
              obtain rfl : k = m := by omega
              have hR2 : Hid ((idsUpto R F k).length = k) := by show _ = _; rw [idsUpto_length]; exact HRQ.out
              have HO9 := hide ho
              have HUJ := hide huj
              have hszw := HM.out.up.size
              have hszj := huj.size
              have hnew : Hid (∀ (W : World) (t : TypeId) (j : Nat) (u : Value), (slCells ⟨a9, c9, idsUpto R F k⟩)[j]? = some u → (W.alloc (.cells #[.slice a9 k c9] t)).cell? ((⟨W.heap.size, 0, none⟩ : Addr).add j) = some u) := fun W t j u hj => by
                have h9 := sl_new (w := W) (t := t) (⟨a9, c9, idsUpto R F k⟩ : SlV) j u hj
                simp only [hR2.out] at h9
                exact h9
              clear ho huj HO HUI
              --M4
              go_wp2_with (at_builtin; refine append_sl rfl _ _ rfl w1.heap.size _ rows rfl (OwnG.alloc (HM.out.o5.up HUJ.out) _) _ _ ⟨a9, c9, idsUpto R F k⟩ rfl (hnew.out _ _) (by omega) (by simp; omega) ?_)
              intro v5 w5 ho5 hg5 hb5
              have HU2 := hide (HUJ.out.alloc (.cells #[.slice a9 k c9] 24))
              have HO92 := hide (OwnG.alloc HO9.out (.cells #[.slice a9 k c9] 24))
              have HO6 := hide (HM.out.mid6 (w1 := W0) HU2.out hg5)
              have HO93 := hide (HM.out.mid9 (w1 := W0) HO92.out hg5)
              have HO5 := hide ho5
              have HG5 := hide hg5
              have HB5 := hide hb5
              have hs5 := hg5.size
              simp only [World.size_alloc] at hs5
              clear ho5 hg5 hb5 hnew
              --M5
              go_wp2_with (at_builtin; refine append_rowA rfl _ _ rfl w1.heap.size _ (flM rows) rfl HO6.out W0.heap.size _ (idsUpto R F k) rfl HO93.out (by have h7 := HF.out; have h8 := hR2.out; omega) (by omega) ?_)
              intro v6 w6 ho6 hg6 hb6
              have HFIN : Hid (MInv w1 w6 v5 v6 (rows ++ [⟨a9, c9, idsUpto R F k⟩]) true) := by
                have hk9 : k = R.length := HRQ.out.symm
                have h7 := HF.out
                have q1 := HO92.out
                have q2 := HO5.out
                subst hk9
                subst h7
                exact HM.out.add HU2.out q1 HG5.out q2 (by simp only [World.size_alloc]; exact HB5.out) hg6 ho6 hb6 (fun e => by first | exact HRS.out e | exact HRS.out trivial) (by omega)
              have hlen7 : Hid ((flM (rows ++ [⟨a9, c9, idsUpto R F k⟩])).length = F + k) := by
                show _ = _
                rw [flM_add, List.length_append, ← HF.out]
                show F + (idsUpto R F k).length = F + k
                rw [hR2.out]
              clear ho6 hg6 hb6
              --M6
              go_wp2
              go_roundw
              case rel => exact ⟨i + 1, _, by omega, by go_num, by rw [List.length_append, List.length_singleton, HRL.out], by rw [hlen7.out]; first | rfl | go_num | simp, HFIN.out⟩
              case measure => simp [intOf]; omega
    · --M7
      have t2 : decide ((i : Int) < len) = false := decide_eq_false (by omega)
      obtain ⟨a5, c5, rfl, hin5, _⟩ := HM.out.o5.inG (z := zeroSl) (fun _ => rfl)
      have hrows := HM.out.rin
      have HIN5 := hide hin5
      have HROWS := hide hrows
      clear hin5 hrows
      have hr1 : rows.length ≤ 1000 := by omega
      obtain ⟨N, hN⟩ : ∃ N, N = rows.length := ⟨_, rfl⟩
      rw [← hN] at HIN5 HROWS hr1 ⊢
      have HN := hide hN
      clear hrl hN
      --M71
      go_wp2_with fail
      --M72
      go_at_call 15
      --M73
      refine (merge_calls _ rkI before_less a5 N c5 rows W0 hr1 HIN5.out HROWS.out (by show (flM rows).length < 100000; have h7 := HF.out; omega)).mono ?_
      rintro _ w7 ⟨v, rfl, hom, hum⟩
      --M74
      have hmp := merge_perm rkI rows
      obtain ⟨M, hM⟩ : ∃ M, M = firstM rkI eZeroI 2 (rows.map (·.rest)).flatten.length (initL zeroM (aheadM rkI eZeroI) ((runsUpto rows rows.length).length / 2) (runsUpto rows rows.length)) := ⟨_, rfl⟩
      rw [← hM] at hom hmp
      replace hmp : M.Perm (flM rows) := hmp
      have hML : M.length = F := by rw [hmp.length_eq]; exact HF.out.symm
      obtain ⟨aM, cM, rfl, iM, _⟩ := hom.inG (z := eZeroI) (fun _ => rfl)
      obtain ⟨a6, c6, hv6, i6, _⟩ := (HM.out.o6.up hum).inG (z := eZeroI) (fun _ => rfl)
      have hFL : (flM rows).length = F := HF.out.symm
      subst hv6
      rw [hFL] at i6 ⊢
      rw [hML] at iM ⊢
      have hF2 : F ≤ 1000 := by omega
      have IM := hide iM
      have I6 := hide i6
      have UM := hide hum
      have HMP := hide hmp
      have HIDS := hide HM.out.ids
      have HUW := hide (((U.out.trans HM.out.up).trans hum))
      have HML := hide hML
      have HFL := hide hFL
      clear iM i6 hum hmp hom hM hML hFL HIN5 HROWS
      have e5 : ((F : Int) != (F : Int)) = false := by simp
      --M8
      go_wp2_with (at_make; refine make_bools rfl _ _ rfl _ _ F rfl rfl (by first | rfl | simp) (by first | rfl | simp) (by omega) ?_)
      intro w4 hu4 ho4
      obtain ⟨g, hg⟩ : ∃ g, g = w7.heap.size := ⟨_, rfl⟩
      have hwg : w.heap.size ≤ g := by rw [hg]; exact HUW.out.size
      obtain ⟨_, _, _, bm, om, ham, hxm⟩ := IM.out
      obtain ⟨_, _, _, b6, o6, ha6, hx6⟩ := I6.out
      have hkeep : ∀ (b o : Nat) (v : Value), w7.cell? ⟨b, o, none⟩ = some v → ∀ wr, Chg (fun x => x = g) w4 wr → wr.cell? ⟨b, o, none⟩ = some v := fun b o v h1 wr hc => by
        have h2 := World.block_lt_of_cell? w7 ⟨b, o, none⟩ h1
        exact hc.cell (hu4.cell h1) (by show ¬ b = g; simp only at h2; omega)
      have HXM : Hid (∀ wr, Chg (fun x => x = g) w4 wr → ∀ q, q < F → wr.cell? ⟨bm, om + q * 2, none⟩ = some (.int .i64 (M.getD q eZeroI).1) ∧ wr.cell? ⟨bm, om + q * 2 + 1, none⟩ = some (.int .i64 (M.getD q eZeroI).2)) := fun wr hc q hq => ⟨hkeep _ _ _ (by have h1 := hxm q hq 0 _ rfl; rw [Nat.add_zero] at h1; exact h1) wr hc, hkeep _ _ _ (hxm q hq 1 _ rfl) wr hc⟩
      have HX6 : Hid (∀ wr, Chg (fun x => x = g) w4 wr → ∀ q, q < F → wr.cell? ⟨b6, o6 + q * 2, none⟩ = some (.int .i64 ((flM rows).getD q eZeroI).1) ∧ wr.cell? ⟨b6, o6 + q * 2 + 1, none⟩ = some (.int .i64 ((flM rows).getD q eZeroI).2)) := fun wr hc q hq => ⟨hkeep _ _ _ (by have h1 := hx6 q hq 0 _ rfl; rw [Nat.add_zero] at h1; exact h1) wr hc, hkeep _ _ _ (hx6 q hq 1 _ rfl) wr hc⟩
      have HAM := hide ham
      have HA6 := hide ha6
      rw [← hg] at ho4 ⊢
      have HO4 := hide ho4
      have HU4 : Hid (Up w w4) := HUW.out.trans hu4
      clear hxm hx6 ham ha6 hkeep ho4 hu4 hg IM I6 UM HUW HM HF U t1 t2 H5 H4 HG
      --M9
      go_wp2_with fail
      go_loopw [14] (fun u wr => ∃ (i : Nat) (V : List Bool), i ≤ F ∧ u = .int .i64 i ∧ V.length = F ∧ OwnB wr g (.slice (some ⟨g, 0, none⟩) F F) V ∧ SeenTo M i V ∧ Chg (fun x => x = g) w4 wr) (fun u _ => F - (intOf u).toNat)
      case atStart => exact ⟨0, List.replicate F false, Nat.zero_le _, rfl, List.length_replicate, HO4.out, seen_zero _ _, Chg.refl _ _⟩
      case round =>
        obtain ⟨i, V, hi, rfl, hVl, how, hsn, hcw⟩ := hrel
        have hupw : Hid (Up w wr) := HU4.out.thenChgM hcw (fun x hx e => by omega)
        by_cases hlt : i < F
        · have t6 : decide ((i : Int) < F) = true := decide_eq_true (by omega)
          obtain rfl := HAM.out (by omega)
          obtain rfl := HA6.out (by omega)
          have hiM : i < M.length := by rw [HML.out]; exact hlt
          obtain ⟨k, hk, hkl, hkx⟩ := idsOk_perm HIDS.out HMP.out i hiM
          have hfr := idsOk_fresh HIDS.out HMP.out i hiM
          rw [HFL.out] at hkl
          obtain ⟨m0, m1⟩ := HXM.out wr hcw i hlt
          obtain ⟨n0, n1⟩ := HX6.out wr hcw k hkl
          rw [hkx] at n0 n1
          rw [hk] at m1 n1 hfr
          have hVk : V.getD k true = false := by
            cases hv : V.getD k true with
            | false => rfl
            | true => exact absurd ((hsn k (by omega)).1 hv) hfr
          have cv := ownB_cell (k := k) (by have := how; rw [← hVl] at this; exact this) (by omega)
          rw [hVk] at cv
          have fv : wr.frozen? ⟨g, k, none⟩ = false := by have h9 := how; rw [← hVl] at h9; exact World.ownsRow.frozenAt h9 k
          have hsn2 := hide (seen_succ hsn hiM hk)
          obtain ⟨y, hy⟩ : ∃ y, y = (M.getD i eZeroI).1 := ⟨_, rfl⟩
          rw [← hy] at m0 n0
          have hrun := run_neq_item (wr.drewN 0) y k y k
          have hcz : Hid (∀ n, Chg (fun x => x = g) w4 ((wr.drewN n).setCell ⟨g, k, none⟩ (.bool true))) := fun n => (hcw.andUp ((Up.refl _).drewN _)).set (p := ⟨g, k, none⟩) (fun _ => rfl) _
          have hoz : Hid (∀ n, OwnB ((wr.drewN n).setCell ⟨g, k, none⟩ (.bool true)) g (.slice (some ⟨g, 0, none⟩) F F) (V.set k true)) := fun n => by
            have h9 := how.up ((Up.refl wr).drewN n)
            rw [← hVl] at h9
            have h8 := own_setB h9 k true _ rfl
            rw [hVl] at h8
            exact h8
          have hVl2 : Hid ((V.set k true).length = F) := by show _ = _; rw [List.length_set]; exact hVl
          have p1 : decide ((k : Int) < 0) = false := decide_eq_false (by omega)
          have p2 : decide ((k : Int) ≥ (F : Int)) = false := decide_eq_false (by omega)
          have p3 : decide (F ≤ k) = false := decide_eq_false (by omega)
          have p4 : (k : Int) < F := by omega
          have p5 : (0 : Int) ≤ k := by omega
          have p6 : (i : Int) < F := by omega
          clear hrun hy hsn hkx hk hfr hiM hVl how hcw hVk
          --N1
          go_wp2_with fail
          --N2
          go_quiet (fail)
          --N3
          go_wp2_with fail
          --N4
          go_roundw
          case rel => exact ⟨i + 1, V.set k true, by omega, by go_num, hVl2.out, hoz.out _, hsn2.out, hcz.out _⟩
          case measure => simp [intOf]; omega
        · have t6 : decide ((i : Int) < F) = false := decide_eq_false (by omega)
          clear how hcw hsn
          go_wp2
          go_ret
          exact ⟨rfl, hupw.out⟩

theorem heapMerges_all (a : Option Addr) (len c : Nat) (l : List Sl8) (messy : Bool) (w : World) (h : InG 1 sl8Cells zero8 w a len c l) (hg : ∀ i, Good8 w (l.getD i zero8)) :
    Calls Try.prog 4 #[.slice a len c, .bool messy] w fun e w' => e = .returned (.bool true) ∧ Up w w' := by
  cases messy
  · exact heapMerges_f a len c l w h hg
  · exact heapMerges_t a len c l w h hg

end Go.Proofs.Ytcemdiloiachlaa

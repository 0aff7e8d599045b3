/-
  HeapTypes, walked.
-/
import Derived.Test.YtcemdiloiachlaaHeapTyq
import Derived.Lib.MinMax
namespace Go.Proofs.Ytcemdiloiachlaa
open Go.ChangeShapes Go.WideShapes Go.ChangeAt Go.RowKit
set_option linter.unusedVariables false

theorem OwnG.inS {w : World} {base : Nat} {v : Value} {l : List ETS} (h : OwnES w base v l) : ∃ a c, v = .slice a l.length c ∧ InES w a l.length c l := by
  obtain ⟨a, c, h1, h2, _⟩ := OwnG.inG (z := eZeroS) h (fun _ => rfl)
  exact ⟨a, c, h1, h2⟩

set_option maxRecDepth 20000 in
set_option maxHeartbeats 16000000 in
theorem heapTypes_all (a : Option Addr) (len c : Nat) (l : List ETS) (n : Int) (w : World) (h : InES w a len c l) (hr : ∀ i, (l.getD i eZeroS).size ≤ maxLen) :
    Calls Try.prog 6 #[.slice a len c, .int .i64 n] w fun e w' => e = .returned (.bool true) ∧ Up w w' := by
  have H := hide h
  have HR := hide hr
  have hl := h.1
  clear h hr
  go_enter Try.func6, Try.ntmps6
  go_wp2_with fail
  go_at_call 8
  refine (known_calls w).mono ?_
  rintro _ w1 ⟨rfl, hu1⟩
  have U := hide hu1
  replace H := hide (H.out.up hu1)
  clear hu1
  by_cases hbig : 60 < len
  · have t1 : decide ((len : Int) > 60) = true := decide_eq_true (by omega)
    go_wp2
    go_ret
    exact ⟨rfl, U.out⟩
  have t1 : decide ((len : Int) > 60) = false := decide_eq_false (by omega)
  go_wp2_with fail
  go_loopw [5] (fun u wr => ∃ i : Nat, i ≤ len ∧ u = .int .i64 i ∧ wr = w1) (fun u _ => len - (intOf u).toNat)
  case atStart => exact ⟨0, Nat.zero_le _, rfl, rfl⟩
  case round =>
    obtain ⟨i, hi, rfl, hw⟩ := hrel
    obtain rfl : w1 = wr := hw.symm
    clear hw
    by_cases hlt : i < len
    · have t2 : decide ((i : Int) < len) = true := decide_eq_true (by omega)
      obtain ⟨_, _, _, bl, ol, hal, hxl⟩ := H.out
      obtain rfl := hal (by omega)
      have x0 := hxl i hlt 0 _ rfl
      simp only [Nat.mul_one, Nat.add_zero] at x0
      have hsz := HR.out i
      obtain ⟨y, hy⟩ : ∃ y, y = l.getD i eZeroS := ⟨_, rfl⟩
      replace x0 : w1.cell? ⟨bl, ol + i, none⟩ = some (.string (l.getD i eZeroS)) := x0
      rw [← hy] at x0 hsz
      clear hxl hal hy
      by_cases hb : 60 < y.size
      · have t3 : decide ((y.size : Int) > 60) = true := decide_eq_true (by omega)
        go_wp2
        go_ret
        exact ⟨rfl, U.out⟩
      · have t3 : decide ((y.size : Int) > 60) = false := decide_eq_false (by omega)
        go_wp2
        go_roundw
        case rel => exact ⟨i + 1, by omega, by go_num, by first | rfl | trivial⟩
        case measure => simp [intOf]; omega
    · have t2 : decide ((i : Int) < len) = false := decide_eq_false (by omega)
      go_wp2_with fail
      go_at_call 20
      refine (sortS_calls _ rkS before_types1 a len c l w1 (by omega) H.out).mono ?_
      rintro _ w2 ⟨v6, rfl, ho6, hu2⟩
      obtain ⟨S, hS⟩ : ∃ S, S = isort rkS l := ⟨_, rfl⟩
      have hSl : S.length = len := by rw [hS, isort_length, hl]
      rw [← hS] at ho6
      obtain ⟨a6, c6, rfl, i6⟩ := OwnG.inS ho6
      have I6 := hide i6
      rw [hSl] at I6 ⊢
      replace U : Hid (Up w w2) := U.out.trans hu2
      replace H := hide (H.out.up hu2)
      clear ho6 i6 hu2
      go_wp2_with fail
      go_at_call 22
      refine (leastS_calls _ rkS before_types2 a len c n l w2 (by omega) H.out).mono ?_
      rintro _ w3 ⟨v7, rfl, ho7, hu3⟩
      have O7 := hide ho7
      replace U : Hid (Up w w3) := U.out.trans hu3
      replace H := hide (H.out.up hu3)
      replace I6 := hide (I6.out.up hu3)
      clear ho7 hu3
      obtain ⟨kT, hkT⟩ : ∃ kT : Nat, kT = clampN n len := ⟨_, rfl⟩
      have hcl : max 0 (min n (len : Int)) = (kT : Int) := by rw [hkT]; unfold clampN; split; omega; split <;> omega
      have hkl : kT ≤ len := by rw [hkT]; unfold clampN; split; omega; split <;> omega
      rw [← hkT] at O7
      clear hkT
      have hTl : ((isort rkS l).take kT).length = kT := by rw [List.length_take, isort_length, hl]; omega
      obtain ⟨a7, c7, rfl, i7⟩ := OwnG.inS O7.out
      have I7 := hide i7
      rw [hTl] at I7 ⊢
      clear i7 O7
      have HT : Hid (∀ q, q < kT → ((isort rkS l).take kT).getD q eZeroS = S.getD q eZeroS) := fun q hq => by
        rw [hS]
        exact getD_take eZeroS hq
      generalize (isort rkS l).take kT = T at I7 HT hTl
      replace hTl := hide hTl
      have e5 : ((kT : Int) != (kT : Int)) = false := by simp
      go_wp2_with (at_make; refine make_bools rfl _ _ rfl _ _ len rfl rfl (by first | rfl | simp) (by first | rfl | simp) (by omega) ?_)
      intro w4 hu4 ho4
      obtain ⟨g, hg⟩ : ∃ g, g = w3.heap.size := ⟨_, rfl⟩
      have hwg : w.heap.size ≤ g := by rw [hg]; exact U.out.size
      obtain ⟨_, _, _, bl, ol, hal, hxl⟩ := H.out
      obtain ⟨_, _, _, bs, os, has, hxs⟩ := I6.out
      obtain ⟨_, _, _, bt, ot, hat, hxt⟩ := I7.out
      have hkeep : ∀ (b o : Nat) (v : Value), w3.cell? ⟨b, o, none⟩ = some v → ∀ wr, Chg (fun x => x = g) w4 wr → wr.cell? ⟨b, o, none⟩ = some v := fun b o v h1 wr hc => by
        have h2 := World.block_lt_of_cell? w3 ⟨b, o, none⟩ h1
        exact hc.cell (hu4.cell h1) (by show ¬ b = g; simp only at h2; omega)
      have HXL : Hid (∀ wr, Chg (fun x => x = g) w4 wr → ∀ q, q < len → wr.cell? ⟨bl, ol + q, none⟩ = some (.string (l.getD q eZeroS))) := fun wr hc q hq => hkeep _ _ _ (by have h1 := hxl q hq 0 _ rfl; rw [Nat.mul_one, Nat.add_zero] at h1; exact h1) wr hc
      have HXS : Hid (∀ wr, Chg (fun x => x = g) w4 wr → ∀ q, q < len → wr.cell? ⟨bs, os + q, none⟩ = some (.string (S.getD q eZeroS))) := fun wr hc q hq => hkeep _ _ _ (by have h1 := hxs q hq 0 _ rfl; rw [Nat.mul_one, Nat.add_zero] at h1; exact h1) wr hc
      have HXT : Hid (∀ wr, Chg (fun x => x = g) w4 wr → ∀ q, q < kT → wr.cell? ⟨bt, ot + q, none⟩ = some (.string (S.getD q eZeroS))) := fun wr hc q hq => hkeep _ _ _ (by have h1 := hxt q (by omega) 0 _ rfl; rw [Nat.mul_one, Nat.add_zero] at h1; rw [← HT.out q hq]; exact h1) wr hc
      have HAL := hide hal
      have HAS := hide has
      have HAT := hide hat
      have HSS : Hid (Srt rkS S) := by show Srt rkS S; rw [hS]; exact isort_srt rkS l
      rw [← hg] at ho4 ⊢
      replace U : Hid (Up w w4) := U.out.trans hu4
      have HO4 := hide ho4
      have hgw : g < w4.heap.size := (ho4.lt g rfl).2
      clear hu4 ho4 hg hxl hxs hxt hal has hat hkeep H I6 I7 hcl e5
      go_wp2_with fail
      go_loopw [9] (fun u wr => ∃ (i : Nat) (V : List Bool), i ≤ len ∧ u = .int .i64 i ∧ V.length = len ∧ OwnB wr g (.slice (some ⟨g, 0, none⟩) len len) V ∧ isort rkS (leftL l V) = S.drop i ∧ Chg (fun x => x = g) w4 wr) (fun u _ => len - (intOf u).toNat)
      case atStart => exact ⟨0, List.replicate len false, Nat.zero_le _, rfl, by simp, HO4.out, by rw [← hl, leftL_none, ← hS]; rfl, Chg.refl _ _⟩
      case round =>
        clear HO4
        obtain ⟨i, V, hi, rfl, hVl, hoV, heV, hcV⟩ := hrel
        by_cases hlt : i < len
        · have t8 : decide ((i : Int) < len) = true := decide_eq_true (by omega)
          obtain rfl := HAL.out (by omega)
          obtain rfl := HAS.out (by omega)
          obtain ⟨len0, hl0⟩ : ∃ len0 : Nat, len = len0 + 1 := ⟨len - 1, by omega⟩
          have HL0 := hide hl0
          clear hl0
          have ili : (i : Int) < len := by omega
          have y0 := HXS.out wr hcV i hlt
          have hstep := types_step (l := l) (U := V) (S := S) (i := i) (by rw [hVl, hl]) (by omega) heV
          obtain ⟨si, hsi⟩ : ∃ si, si = S.getD i eZeroS := ⟨_, rfl⟩
          rw [← hsi] at y0 hstep
          have HSI := hide hsi
          have HSTEP := hide hstep
          have HOV := hide hoV
          have HCV := hide hcV
          clear hsi heV hstep hoV hcV
          have e6 : (si.toList != si.toList) = false := by simp
          by_cases hiT : i < kT
          · have t7 : decide ((i : Int) < kT) = true := decide_eq_true (by omega)
            have t7b : decide (i < kT) = true := decide_eq_true hiT
            have iti : (i : Int) < kT := by omega
            obtain rfl := HAT.out (by have := hTl.out; omega)
            have z0 := HXT.out wr HCV.out i hiT
            rw [← HSI.out] at z0
            by_cases hi0 : i = 0
            · have t6 : decide ((i : Int) > 0) = false := decide_eq_false (by omega)
              have t6a : ¬ 0 < i := by omega
              have t6b : decide (0 < i) = false := decide_eq_false (by omega)
              clear hi0
              go_wp2_with fail
              go_quiet (fail)
              go_wp2_with fail
              have hcq : Hid (Chg (fun x => x = g) w4 (wr.drewN nq)) := HCV.out.andUp ((Up.refl _).drewN _)
              have hoq : Hid (OwnB (wr.drewN nq) g (.slice (some ⟨g, 0, none⟩) len len) V) := HOV.out.up ((Up.refl _).drewN _)
              clear HCV HOV y0 z0
              generalize wr.drewN nq = wq at hcq hoq ⊢
              have hst : (.int .i64 ((len : Int) - 1) : Value) = .int .i64 ((len0 : Nat) : Int) := by rw [show (len : Int) - 1 = (len0 : Int) by have := HL0.out; omega]
              go_loopw [10, 11] (fun u10 u11 wi => ∃ k : Nat, k ≤ len ∧ Hid (k = 0 ∧ u11 = .int .i64 (-1) ∨ ∃ km : Nat, k = km + 1 ∧ u11 = .int .i64 km) ∧ Up wq wi ∧ Hid ((u10 = .int .i64 (-1) ∧ ∀ j, k ≤ j → j < len → ¬ (V.getD j true = false ∧ (l.getD j eZeroS).size = si.size)) ∨ ∃ j : Nat, u10 = .int .i64 j ∧ k ≤ j ∧ j < len ∧ (V.getD j true = false ∧ (l.getD j eZeroS).size = si.size) ∧ ∀ q, k ≤ q → q < j → ¬ (V.getD q true = false ∧ (l.getD q eZeroS).size = si.size))) (fun _ u11 _ => ((intOf u11) + 1).toNat)
              case atStart => exact ⟨len, Nat.le_refl _, .inr ⟨len0, by have := HL0.out; omega, by first | rfl | exact hst⟩, Up.refl _, .inl ⟨rfl, fun j h1 h2 => by omega⟩⟩
              case round =>
                obtain ⟨k, hk, hk11, huw, hk10⟩ := hrel
                have HUW := hide huw
                clear huw
                have hcw := hide (hcq.out.andUp HUW.out)
                have how := hide (hoq.out.up HUW.out)
                rcases hk11.out with ⟨hk0, rfl⟩ | ⟨km, hkm, rfl⟩
                · have t9 : decide ((-1 : Int) ≥ 0) = false := by decide
                  obtain ⟨st1, st2⟩ := HSTEP.out
                  rcases hk10.out with ⟨rfl, hno⟩ | ⟨j, rfl, _, hj, hjm, hjf⟩
                  · obtain ⟨j, hj, h1, h2⟩ := st1
                    exact absurd ⟨h1, h2⟩ (hno j (by omega) (by omega))
                  · obtain ⟨r1, r2⟩ := st2 j (by omega) hjm.1 hjm.2 (fun q hq => hjf q (by omega) hq)
                    have xj := HXL.out wr hcw.out j hj
                    have ys := HXS.out wr hcw.out i (by omega)
                    rw [r1] at xj
                    rw [← HSI.out] at ys
                    have tj : decide ((j : Int) < 0) = false := decide_eq_false (by omega)
                    have cj := ownB_cell (k := j) (by have := how.out; rw [← hVl] at this; exact this) (by omega)
                    have fj : wr.frozen? ⟨g, j, none⟩ = false := by have h9 := how.out; rw [← hVl] at h9; exact World.ownsRow.frozenAt h9 j
                    have hnx : Hid (∀ W, W = (wr.drewN 1).setCell ⟨g, j, none⟩ (.bool true) → True) := fun _ _ => trivial
                    have R2 := hide r2
                    clear st1 st2 hk10 hjm hjf r2 r1 hk11
                    go_wp2_with fail
                    go_quiet (fail)
                    go_wp2_with fail
                    have hcz : Hid (Chg (fun x => x = g) w4 ((wr.drewN nq).setCell ⟨g, j, none⟩ (.bool true))) := (hcw.out.andUp ((Up.refl _).drewN _)).set (p := ⟨g, j, none⟩) (fun _ => rfl) _
                    have hoz : Hid (OwnB ((wr.drewN nq).setCell ⟨g, j, none⟩ (.bool true)) g (.slice (some ⟨g, 0, none⟩) len len) (V.set j true)) := by
                      have h9 := how.out.up ((Up.refl wr).drewN nq)
                      rw [← hVl] at h9
                      have h8 := own_setB h9 j true _ rfl
                      rw [hVl] at h8
                      exact h8
                    go_roundw
                    case rel => exact ⟨i + 1, V.set j true, by omega, by go_num, by rw [List.length_set]; exact hVl, hoz.out, R2.out, hcz.out⟩
                    case measure => simp [intOf]; omega
                · have t9 : decide ((km : Int) ≥ 0) = true := decide_eq_true (by omega)
                  have hkl : km < len := by omega
                  have xk := HXL.out wr hcw.out km hkl
                  have ys := HXS.out wr hcw.out i (by omega)
                  have ck := ownB_cell (k := km) (by have := how.out; rw [← hVl] at this; exact this) (by omega)
                  rw [← HSI.out] at ys
                  obtain ⟨lk, hlk⟩ : ∃ lk, lk = l.getD km eZeroS := ⟨_, rfl⟩
                  rw [← hlk] at xk
                  have HLK := hide hlk
                  clear hlk
                  have kmi : (km : Int) < len := by omega
                  cases hu : V.getD km true with
                  | true =>
                    rw [hu] at ck
                    have HVU := hide hu
                    clear hu
                    go_wp2_with fail
                    go_quiet (fail)
                    go_wp2_with fail
                    go_roundw
                    case rel =>
                      refine ⟨km, by omega, ?_, HUW.out.drewN _, ?_⟩
                      · show _ ∨ _
                        by_cases h0 : km = 0
                        · subst h0; exact .inl ⟨rfl, by go_num⟩
                        · exact .inr ⟨km - 1, by omega, by first | go_num | (congr 1; omega) | (congr 1)⟩
                      · show _ ∨ _
                        refine hk10.out.imp (fun ⟨e, h1⟩ => ⟨e, fun j h2 h3 => ?_⟩) (fun ⟨j, e, h1, h2, h3, h4⟩ => ⟨j, e, by omega, h2, h3, fun q h5 h6 => ?_⟩)
                        · by_cases ej : j = km
                          · subst ej; intro h; rw [HVU.out] at h; cases h.1
                          · exact h1 j (by omega) h3
                        · by_cases ej : q = km
                          · subst ej; intro h; rw [HVU.out] at h; cases h.1
                          · exact h4 q (by omega) h6
                    case measure => first | (simp [intOf]; done) | (simp [intOf]; omega)
                  | false =>
                    rw [hu] at ck
                    have HVU := hide hu
                    clear hu
                    by_cases hsz : lk.size = si.size
                    · have t7 : ((lk.size : Int) == (si.size : Int)) = true := by rw [hsz]; simp
                      have HSZ := hide hsz
                      clear hsz
                      go_wp2_with fail
                      go_quiet (fail)
                      go_wp2_with fail
                      go_roundw
                      case rel =>
                        refine ⟨km, by omega, ?_, HUW.out.drewN _, .inr ⟨km, rfl, Nat.le_refl _, hkl, ⟨HVU.out, by rw [← HLK.out]; exact HSZ.out⟩, fun q h1 h2 => by omega⟩⟩
                        · show _ ∨ _
                          by_cases h0 : km = 0
                          · subst h0; exact .inl ⟨rfl, by go_num⟩
                          · exact .inr ⟨km - 1, by omega, by first | go_num | (congr 1; omega) | (congr 1)⟩
                      case measure => first | (simp [intOf]; done) | (simp [intOf]; omega)
                    · have t7 : ((lk.size : Int) == (si.size : Int)) = false := by rw [beq_eq_false_iff_ne]; omega
                      have HSZ := hide hsz
                      clear hsz
                      go_wp2_with fail
                      go_quiet (fail)
                      go_wp2_with fail
                      go_roundw
                      case rel =>
                        refine ⟨km, by omega, ?_, HUW.out.drewN _, ?_⟩
                        · show _ ∨ _
                          by_cases h0 : km = 0
                          · subst h0; exact .inl ⟨rfl, by go_num⟩
                          · exact .inr ⟨km - 1, by omega, by first | go_num | (congr 1; omega) | (congr 1)⟩
                        · show _ ∨ _
                          refine hk10.out.imp (fun ⟨e, h1⟩ => ⟨e, fun j h2 h3 => ?_⟩) (fun ⟨j, e, h1, h2, h3, h4⟩ => ⟨j, e, by omega, h2, h3, fun q h5 h6 => ?_⟩)
                          · by_cases ej : j = km
                            · subst ej; intro h; rw [← HLK.out] at h; exact HSZ.out h.2
                            · exact h1 j (by omega) h3
                          · by_cases ej : q = km
                            · subst ej; intro h; rw [← HLK.out] at h; exact HSZ.out h.2
                            · exact h4 q (by omega) h6
                      case measure => first | (simp [intOf]; done) | (simp [intOf]; omega)
            · have t6 : decide ((i : Int) > 0) = true := decide_eq_true (by omega)
              have t6a : 0 < i := by omega
              have t6b : decide (0 < i) = true := decide_eq_true (by omega)
              obtain ⟨im, him⟩ : ∃ im : Nat, i = im + 1 := ⟨i - 1, by omega⟩
              have em : (i : Int) - 1 = im := by omega
              have iml : im < len := by omega
              have imi : (im : Int) < len := by omega
              have y1 := HXS.out wr HCV.out im iml
              have hord : decide ((si.size : Int) > ((S.getD im eZeroS).size : Int)) = false := by
                rw [HSI.out, him]
                refine decide_eq_false ?_
                have h1 : im + 1 < S.length := by omega
                have h2 := List.pairwise_iff_getElem.1 HSS.out im (im + 1) (by omega) h1 (by omega)
                have e1 : S.getD im eZeroS = S[im]'(by omega) := by rw [List.getD_eq_getElem?_getD, List.getElem?_eq_getElem (by omega)]; rfl
                have e2 : S.getD (im + 1) eZeroS = S[im + 1]'h1 := by rw [List.getD_eq_getElem?_getD, List.getElem?_eq_getElem h1]; rfl
                rw [e1, e2]
                unfold rkS at h2
                omega
              obtain ⟨sp, hsp⟩ : ∃ sp, sp = S.getD im eZeroS := ⟨_, rfl⟩
              rw [← hsp] at y1 hord
              have hord2 : decide (sp.size < si.size) = false := decide_eq_false (by have := of_decide_eq_false hord; omega)
              have hord3 : ¬ sp.size < si.size := by have := of_decide_eq_false hord; omega
              have HIM := hide him
              clear hsp him
              go_wp2_with fail
              go_quiet (fail)
              go_wp2_with fail
              have hcq : Hid (Chg (fun x => x = g) w4 (wr.drewN nq)) := HCV.out.andUp ((Up.refl _).drewN _)
              have hoq : Hid (OwnB (wr.drewN nq) g (.slice (some ⟨g, 0, none⟩) len len) V) := HOV.out.up ((Up.refl _).drewN _)
              clear HCV HOV y0 z0 y1 hord hord2 hord3
              generalize wr.drewN nq = wq at hcq hoq ⊢
              have hst : (.int .i64 ((len : Int) - 1) : Value) = .int .i64 ((len0 : Nat) : Int) := by rw [show (len : Int) - 1 = (len0 : Int) by have := HL0.out; omega]
              go_loopw [10, 11] (fun u10 u11 wi => ∃ k : Nat, k ≤ len ∧ Hid (k = 0 ∧ u11 = .int .i64 (-1) ∨ ∃ km : Nat, k = km + 1 ∧ u11 = .int .i64 km) ∧ Up wq wi ∧ Hid ((u10 = .int .i64 (-1) ∧ ∀ j, k ≤ j → j < len → ¬ (V.getD j true = false ∧ (l.getD j eZeroS).size = si.size)) ∨ ∃ j : Nat, u10 = .int .i64 j ∧ k ≤ j ∧ j < len ∧ (V.getD j true = false ∧ (l.getD j eZeroS).size = si.size) ∧ ∀ q, k ≤ q → q < j → ¬ (V.getD q true = false ∧ (l.getD q eZeroS).size = si.size))) (fun _ u11 _ => ((intOf u11) + 1).toNat)
              case atStart => exact ⟨len, Nat.le_refl _, .inr ⟨len0, by have := HL0.out; omega, by first | rfl | exact hst⟩, Up.refl _, .inl ⟨rfl, fun j h1 h2 => by omega⟩⟩
              case round =>
                obtain ⟨k, hk, hk11, huw, hk10⟩ := hrel
                have HUW := hide huw
                clear huw
                have hcw := hide (hcq.out.andUp HUW.out)
                have how := hide (hoq.out.up HUW.out)
                rcases hk11.out with ⟨hk0, rfl⟩ | ⟨km, hkm, rfl⟩
                · have t9 : decide ((-1 : Int) ≥ 0) = false := by decide
                  obtain ⟨st1, st2⟩ := HSTEP.out
                  rcases hk10.out with ⟨rfl, hno⟩ | ⟨j, rfl, _, hj, hjm, hjf⟩
                  · obtain ⟨j, hj, h1, h2⟩ := st1
                    exact absurd ⟨h1, h2⟩ (hno j (by omega) (by omega))
                  · obtain ⟨r1, r2⟩ := st2 j (by omega) hjm.1 hjm.2 (fun q hq => hjf q (by omega) hq)
                    have xj := HXL.out wr hcw.out j hj
                    have ys := HXS.out wr hcw.out i (by omega)
                    rw [r1] at xj
                    rw [← HSI.out] at ys
                    have tj : decide ((j : Int) < 0) = false := decide_eq_false (by omega)
                    have cj := ownB_cell (k := j) (by have := how.out; rw [← hVl] at this; exact this) (by omega)
                    have fj : wr.frozen? ⟨g, j, none⟩ = false := by have h9 := how.out; rw [← hVl] at h9; exact World.ownsRow.frozenAt h9 j
                    have hnx : Hid (∀ W, W = (wr.drewN 1).setCell ⟨g, j, none⟩ (.bool true) → True) := fun _ _ => trivial
                    have R2 := hide r2
                    clear st1 st2 hk10 hjm hjf r2 r1 hk11
                    go_wp2_with fail
                    go_quiet (fail)
                    go_wp2_with fail
                    have hcz : Hid (Chg (fun x => x = g) w4 ((wr.drewN nq).setCell ⟨g, j, none⟩ (.bool true))) := (hcw.out.andUp ((Up.refl _).drewN _)).set (p := ⟨g, j, none⟩) (fun _ => rfl) _
                    have hoz : Hid (OwnB ((wr.drewN nq).setCell ⟨g, j, none⟩ (.bool true)) g (.slice (some ⟨g, 0, none⟩) len len) (V.set j true)) := by
                      have h9 := how.out.up ((Up.refl wr).drewN nq)
                      rw [← hVl] at h9
                      have h8 := own_setB h9 j true _ rfl
                      rw [hVl] at h8
                      exact h8
                    go_roundw
                    case rel => exact ⟨i + 1, V.set j true, by omega, by go_num, by rw [List.length_set]; exact hVl, hoz.out, R2.out, hcz.out⟩
                    case measure => simp [intOf]; omega
                · have t9 : decide ((km : Int) ≥ 0) = true := decide_eq_true (by omega)
                  have hkl : km < len := by omega
                  have xk := HXL.out wr hcw.out km hkl
                  have ys := HXS.out wr hcw.out i (by omega)
                  have ck := ownB_cell (k := km) (by have := how.out; rw [← hVl] at this; exact this) (by omega)
                  rw [← HSI.out] at ys
                  obtain ⟨lk, hlk⟩ : ∃ lk, lk = l.getD km eZeroS := ⟨_, rfl⟩
                  rw [← hlk] at xk
                  have HLK := hide hlk
                  clear hlk
                  have kmi : (km : Int) < len := by omega
                  cases hu : V.getD km true with
                  | true =>
                    rw [hu] at ck
                    have HVU := hide hu
                    clear hu
                    go_wp2_with fail
                    go_quiet (fail)
                    go_wp2_with fail
                    go_roundw
                    case rel =>
                      refine ⟨km, by omega, ?_, HUW.out.drewN _, ?_⟩
                      · show _ ∨ _
                        by_cases h0 : km = 0
                        · subst h0; exact .inl ⟨rfl, by go_num⟩
                        · exact .inr ⟨km - 1, by omega, by first | go_num | (congr 1; omega) | (congr 1)⟩
                      · show _ ∨ _
                        refine hk10.out.imp (fun ⟨e, h1⟩ => ⟨e, fun j h2 h3 => ?_⟩) (fun ⟨j, e, h1, h2, h3, h4⟩ => ⟨j, e, by omega, h2, h3, fun q h5 h6 => ?_⟩)
                        · by_cases ej : j = km
                          · subst ej; intro h; rw [HVU.out] at h; cases h.1
                          · exact h1 j (by omega) h3
                        · by_cases ej : q = km
                          · subst ej; intro h; rw [HVU.out] at h; cases h.1
                          · exact h4 q (by omega) h6
                    case measure => first | (simp [intOf]; done) | (simp [intOf]; omega)
                  | false =>
                    rw [hu] at ck
                    have HVU := hide hu
                    clear hu
                    by_cases hsz : lk.size = si.size
                    · have t7 : ((lk.size : Int) == (si.size : Int)) = true := by rw [hsz]; simp
                      have HSZ := hide hsz
                      clear hsz
                      go_wp2_with fail
                      go_quiet (fail)
                      go_wp2_with fail
                      go_roundw
                      case rel =>
                        refine ⟨km, by omega, ?_, HUW.out.drewN _, .inr ⟨km, rfl, Nat.le_refl _, hkl, ⟨HVU.out, by rw [← HLK.out]; exact HSZ.out⟩, fun q h1 h2 => by omega⟩⟩
                        · show _ ∨ _
                          by_cases h0 : km = 0
                          · subst h0; exact .inl ⟨rfl, by go_num⟩
                          · exact .inr ⟨km - 1, by omega, by first | go_num | (congr 1; omega) | (congr 1)⟩
                      case measure => first | (simp [intOf]; done) | (simp [intOf]; omega)
                    · have t7 : ((lk.size : Int) == (si.size : Int)) = false := by rw [beq_eq_false_iff_ne]; omega
                      have HSZ := hide hsz
                      clear hsz
                      go_wp2_with fail
                      go_quiet (fail)
                      go_wp2_with fail
                      go_roundw
                      case rel =>
                        refine ⟨km, by omega, ?_, HUW.out.drewN _, ?_⟩
                        · show _ ∨ _
                          by_cases h0 : km = 0
                          · subst h0; exact .inl ⟨rfl, by go_num⟩
                          · exact .inr ⟨km - 1, by omega, by first | go_num | (congr 1; omega) | (congr 1)⟩
                        · show _ ∨ _
                          refine hk10.out.imp (fun ⟨e, h1⟩ => ⟨e, fun j h2 h3 => ?_⟩) (fun ⟨j, e, h1, h2, h3, h4⟩ => ⟨j, e, by omega, h2, h3, fun q h5 h6 => ?_⟩)
                          · by_cases ej : j = km
                            · subst ej; intro h; rw [← HLK.out] at h; exact HSZ.out h.2
                            · exact h1 j (by omega) h3
                          · by_cases ej : q = km
                            · subst ej; intro h; rw [← HLK.out] at h; exact HSZ.out h.2
                            · exact h4 q (by omega) h6
                      case measure => first | (simp [intOf]; done) | (simp [intOf]; omega)
          · have t7 : decide ((i : Int) < kT) = false := decide_eq_false (by omega)
            have t7b : decide (i < kT) = false := decide_eq_false hiT
            by_cases hi0 : i = 0
            · have t6 : decide ((i : Int) > 0) = false := decide_eq_false (by omega)
              have t6a : ¬ 0 < i := by omega
              have t6b : decide (0 < i) = false := decide_eq_false (by omega)
              clear hi0
              go_wp2_with fail
              go_quiet (fail)
              go_wp2_with fail
              have hcq : Hid (Chg (fun x => x = g) w4 (wr.drewN nq)) := HCV.out.andUp ((Up.refl _).drewN _)
              have hoq : Hid (OwnB (wr.drewN nq) g (.slice (some ⟨g, 0, none⟩) len len) V) := HOV.out.up ((Up.refl _).drewN _)
              clear HCV HOV y0
              generalize wr.drewN nq = wq at hcq hoq ⊢
              have hst : (.int .i64 ((len : Int) - 1) : Value) = .int .i64 ((len0 : Nat) : Int) := by rw [show (len : Int) - 1 = (len0 : Int) by have := HL0.out; omega]
              go_loopw [10, 11] (fun u10 u11 wi => ∃ k : Nat, k ≤ len ∧ Hid (k = 0 ∧ u11 = .int .i64 (-1) ∨ ∃ km : Nat, k = km + 1 ∧ u11 = .int .i64 km) ∧ Up wq wi ∧ Hid ((u10 = .int .i64 (-1) ∧ ∀ j, k ≤ j → j < len → ¬ (V.getD j true = false ∧ (l.getD j eZeroS).size = si.size)) ∨ ∃ j : Nat, u10 = .int .i64 j ∧ k ≤ j ∧ j < len ∧ (V.getD j true = false ∧ (l.getD j eZeroS).size = si.size) ∧ ∀ q, k ≤ q → q < j → ¬ (V.getD q true = false ∧ (l.getD q eZeroS).size = si.size))) (fun _ u11 _ => ((intOf u11) + 1).toNat)
              case atStart => exact ⟨len, Nat.le_refl _, .inr ⟨len0, by have := HL0.out; omega, by first | rfl | exact hst⟩, Up.refl _, .inl ⟨rfl, fun j h1 h2 => by omega⟩⟩
              case round =>
                obtain ⟨k, hk, hk11, huw, hk10⟩ := hrel
                have HUW := hide huw
                clear huw
                have hcw := hide (hcq.out.andUp HUW.out)
                have how := hide (hoq.out.up HUW.out)
                rcases hk11.out with ⟨hk0, rfl⟩ | ⟨km, hkm, rfl⟩
                · have t9 : decide ((-1 : Int) ≥ 0) = false := by decide
                  obtain ⟨st1, st2⟩ := HSTEP.out
                  rcases hk10.out with ⟨rfl, hno⟩ | ⟨j, rfl, _, hj, hjm, hjf⟩
                  · obtain ⟨j, hj, h1, h2⟩ := st1
                    exact absurd ⟨h1, h2⟩ (hno j (by omega) (by omega))
                  · obtain ⟨r1, r2⟩ := st2 j (by omega) hjm.1 hjm.2 (fun q hq => hjf q (by omega) hq)
                    have xj := HXL.out wr hcw.out j hj
                    have ys := HXS.out wr hcw.out i (by omega)
                    rw [r1] at xj
                    rw [← HSI.out] at ys
                    have tj : decide ((j : Int) < 0) = false := decide_eq_false (by omega)
                    have cj := ownB_cell (k := j) (by have := how.out; rw [← hVl] at this; exact this) (by omega)
                    have fj : wr.frozen? ⟨g, j, none⟩ = false := by have h9 := how.out; rw [← hVl] at h9; exact World.ownsRow.frozenAt h9 j
                    have hnx : Hid (∀ W, W = (wr.drewN 1).setCell ⟨g, j, none⟩ (.bool true) → True) := fun _ _ => trivial
                    have R2 := hide r2
                    clear st1 st2 hk10 hjm hjf r2 r1 hk11
                    go_wp2_with fail
                    go_quiet (fail)
                    go_wp2_with fail
                    have hcz : Hid (Chg (fun x => x = g) w4 ((wr.drewN nq).setCell ⟨g, j, none⟩ (.bool true))) := (hcw.out.andUp ((Up.refl _).drewN _)).set (p := ⟨g, j, none⟩) (fun _ => rfl) _
                    have hoz : Hid (OwnB ((wr.drewN nq).setCell ⟨g, j, none⟩ (.bool true)) g (.slice (some ⟨g, 0, none⟩) len len) (V.set j true)) := by
                      have h9 := how.out.up ((Up.refl wr).drewN nq)
                      rw [← hVl] at h9
                      have h8 := own_setB h9 j true _ rfl
                      rw [hVl] at h8
                      exact h8
                    go_roundw
                    case rel => exact ⟨i + 1, V.set j true, by omega, by go_num, by rw [List.length_set]; exact hVl, hoz.out, R2.out, hcz.out⟩
                    case measure => simp [intOf]; omega
                · have t9 : decide ((km : Int) ≥ 0) = true := decide_eq_true (by omega)
                  have hkl : km < len := by omega
                  have xk := HXL.out wr hcw.out km hkl
                  have ys := HXS.out wr hcw.out i (by omega)
                  have ck := ownB_cell (k := km) (by have := how.out; rw [← hVl] at this; exact this) (by omega)
                  rw [← HSI.out] at ys
                  obtain ⟨lk, hlk⟩ : ∃ lk, lk = l.getD km eZeroS := ⟨_, rfl⟩
                  rw [← hlk] at xk
                  have HLK := hide hlk
                  clear hlk
                  have kmi : (km : Int) < len := by omega
                  cases hu : V.getD km true with
                  | true =>
                    rw [hu] at ck
                    have HVU := hide hu
                    clear hu
                    go_wp2_with fail
                    go_quiet (fail)
                    go_wp2_with fail
                    go_roundw
                    case rel =>
                      refine ⟨km, by omega, ?_, HUW.out.drewN _, ?_⟩
                      · show _ ∨ _
                        by_cases h0 : km = 0
                        · subst h0; exact .inl ⟨rfl, by go_num⟩
                        · exact .inr ⟨km - 1, by omega, by first | go_num | (congr 1; omega) | (congr 1)⟩
                      · show _ ∨ _
                        refine hk10.out.imp (fun ⟨e, h1⟩ => ⟨e, fun j h2 h3 => ?_⟩) (fun ⟨j, e, h1, h2, h3, h4⟩ => ⟨j, e, by omega, h2, h3, fun q h5 h6 => ?_⟩)
                        · by_cases ej : j = km
                          · subst ej; intro h; rw [HVU.out] at h; cases h.1
                          · exact h1 j (by omega) h3
                        · by_cases ej : q = km
                          · subst ej; intro h; rw [HVU.out] at h; cases h.1
                          · exact h4 q (by omega) h6
                    case measure => first | (simp [intOf]; done) | (simp [intOf]; omega)
                  | false =>
                    rw [hu] at ck
                    have HVU := hide hu
                    clear hu
                    by_cases hsz : lk.size = si.size
                    · have t7 : ((lk.size : Int) == (si.size : Int)) = true := by rw [hsz]; simp
                      have HSZ := hide hsz
                      clear hsz
                      go_wp2_with fail
                      go_quiet (fail)
                      go_wp2_with fail
                      go_roundw
                      case rel =>
                        refine ⟨km, by omega, ?_, HUW.out.drewN _, .inr ⟨km, rfl, Nat.le_refl _, hkl, ⟨HVU.out, by rw [← HLK.out]; exact HSZ.out⟩, fun q h1 h2 => by omega⟩⟩
                        · show _ ∨ _
                          by_cases h0 : km = 0
                          · subst h0; exact .inl ⟨rfl, by go_num⟩
                          · exact .inr ⟨km - 1, by omega, by first | go_num | (congr 1; omega) | (congr 1)⟩
                      case measure => first | (simp [intOf]; done) | (simp [intOf]; omega)
                    · have t7 : ((lk.size : Int) == (si.size : Int)) = false := by rw [beq_eq_false_iff_ne]; omega
                      have HSZ := hide hsz
                      clear hsz
                      go_wp2_with fail
                      go_quiet (fail)
                      go_wp2_with fail
                      go_roundw
                      case rel =>
                        refine ⟨km, by omega, ?_, HUW.out.drewN _, ?_⟩
                        · show _ ∨ _
                          by_cases h0 : km = 0
                          · subst h0; exact .inl ⟨rfl, by go_num⟩
                          · exact .inr ⟨km - 1, by omega, by first | go_num | (congr 1; omega) | (congr 1)⟩
                        · show _ ∨ _
                          refine hk10.out.imp (fun ⟨e, h1⟩ => ⟨e, fun j h2 h3 => ?_⟩) (fun ⟨j, e, h1, h2, h3, h4⟩ => ⟨j, e, by omega, h2, h3, fun q h5 h6 => ?_⟩)
                          · by_cases ej : j = km
                            · subst ej; intro h; rw [← HLK.out] at h; exact HSZ.out h.2
                            · exact h1 j (by omega) h3
                          · by_cases ej : q = km
                            · subst ej; intro h; rw [← HLK.out] at h; exact HSZ.out h.2
                            · exact h4 q (by omega) h6
                      case measure => first | (simp [intOf]; done) | (simp [intOf]; omega)
            · have t6 : decide ((i : Int) > 0) = true := decide_eq_true (by omega)
              have t6a : 0 < i := by omega
              have t6b : decide (0 < i) = true := decide_eq_true (by omega)
              obtain ⟨im, him⟩ : ∃ im : Nat, i = im + 1 := ⟨i - 1, by omega⟩
              have em : (i : Int) - 1 = im := by omega
              have iml : im < len := by omega
              have imi : (im : Int) < len := by omega
              have y1 := HXS.out wr HCV.out im iml
              have hord : decide ((si.size : Int) > ((S.getD im eZeroS).size : Int)) = false := by
                rw [HSI.out, him]
                refine decide_eq_false ?_
                have h1 : im + 1 < S.length := by omega
                have h2 := List.pairwise_iff_getElem.1 HSS.out im (im + 1) (by omega) h1 (by omega)
                have e1 : S.getD im eZeroS = S[im]'(by omega) := by rw [List.getD_eq_getElem?_getD, List.getElem?_eq_getElem (by omega)]; rfl
                have e2 : S.getD (im + 1) eZeroS = S[im + 1]'h1 := by rw [List.getD_eq_getElem?_getD, List.getElem?_eq_getElem h1]; rfl
                rw [e1, e2]
                unfold rkS at h2
                omega
              obtain ⟨sp, hsp⟩ : ∃ sp, sp = S.getD im eZeroS := ⟨_, rfl⟩
              rw [← hsp] at y1 hord
              have hord2 : decide (sp.size < si.size) = false := decide_eq_false (by have := of_decide_eq_false hord; omega)
              have hord3 : ¬ sp.size < si.size := by have := of_decide_eq_false hord; omega
              have HIM := hide him
              clear hsp him
              go_wp2_with fail
              go_quiet (fail)
              go_wp2_with fail
              have hcq : Hid (Chg (fun x => x = g) w4 (wr.drewN nq)) := HCV.out.andUp ((Up.refl _).drewN _)
              have hoq : Hid (OwnB (wr.drewN nq) g (.slice (some ⟨g, 0, none⟩) len len) V) := HOV.out.up ((Up.refl _).drewN _)
              clear HCV HOV y0 y1 hord hord2 hord3
              generalize wr.drewN nq = wq at hcq hoq ⊢
              have hst : (.int .i64 ((len : Int) - 1) : Value) = .int .i64 ((len0 : Nat) : Int) := by rw [show (len : Int) - 1 = (len0 : Int) by have := HL0.out; omega]
              go_loopw [10, 11] (fun u10 u11 wi => ∃ k : Nat, k ≤ len ∧ Hid (k = 0 ∧ u11 = .int .i64 (-1) ∨ ∃ km : Nat, k = km + 1 ∧ u11 = .int .i64 km) ∧ Up wq wi ∧ Hid ((u10 = .int .i64 (-1) ∧ ∀ j, k ≤ j → j < len → ¬ (V.getD j true = false ∧ (l.getD j eZeroS).size = si.size)) ∨ ∃ j : Nat, u10 = .int .i64 j ∧ k ≤ j ∧ j < len ∧ (V.getD j true = false ∧ (l.getD j eZeroS).size = si.size) ∧ ∀ q, k ≤ q → q < j → ¬ (V.getD q true = false ∧ (l.getD q eZeroS).size = si.size))) (fun _ u11 _ => ((intOf u11) + 1).toNat)
              case atStart => exact ⟨len, Nat.le_refl _, .inr ⟨len0, by have := HL0.out; omega, by first | rfl | exact hst⟩, Up.refl _, .inl ⟨rfl, fun j h1 h2 => by omega⟩⟩
              case round =>
                obtain ⟨k, hk, hk11, huw, hk10⟩ := hrel
                have HUW := hide huw
                clear huw
                have hcw := hide (hcq.out.andUp HUW.out)
                have how := hide (hoq.out.up HUW.out)
                rcases hk11.out with ⟨hk0, rfl⟩ | ⟨km, hkm, rfl⟩
                · have t9 : decide ((-1 : Int) ≥ 0) = false := by decide
                  obtain ⟨st1, st2⟩ := HSTEP.out
                  rcases hk10.out with ⟨rfl, hno⟩ | ⟨j, rfl, _, hj, hjm, hjf⟩
                  · obtain ⟨j, hj, h1, h2⟩ := st1
                    exact absurd ⟨h1, h2⟩ (hno j (by omega) (by omega))
                  · obtain ⟨r1, r2⟩ := st2 j (by omega) hjm.1 hjm.2 (fun q hq => hjf q (by omega) hq)
                    have xj := HXL.out wr hcw.out j hj
                    have ys := HXS.out wr hcw.out i (by omega)
                    rw [r1] at xj
                    rw [← HSI.out] at ys
                    have tj : decide ((j : Int) < 0) = false := decide_eq_false (by omega)
                    have cj := ownB_cell (k := j) (by have := how.out; rw [← hVl] at this; exact this) (by omega)
                    have fj : wr.frozen? ⟨g, j, none⟩ = false := by have h9 := how.out; rw [← hVl] at h9; exact World.ownsRow.frozenAt h9 j
                    have hnx : Hid (∀ W, W = (wr.drewN 1).setCell ⟨g, j, none⟩ (.bool true) → True) := fun _ _ => trivial
                    have R2 := hide r2
                    clear st1 st2 hk10 hjm hjf r2 r1 hk11
                    go_wp2_with fail
                    go_quiet (fail)
                    go_wp2_with fail
                    have hcz : Hid (Chg (fun x => x = g) w4 ((wr.drewN nq).setCell ⟨g, j, none⟩ (.bool true))) := (hcw.out.andUp ((Up.refl _).drewN _)).set (p := ⟨g, j, none⟩) (fun _ => rfl) _
                    have hoz : Hid (OwnB ((wr.drewN nq).setCell ⟨g, j, none⟩ (.bool true)) g (.slice (some ⟨g, 0, none⟩) len len) (V.set j true)) := by
                      have h9 := how.out.up ((Up.refl wr).drewN nq)
                      rw [← hVl] at h9
                      have h8 := own_setB h9 j true _ rfl
                      rw [hVl] at h8
                      exact h8
                    go_roundw
                    case rel => exact ⟨i + 1, V.set j true, by omega, by go_num, by rw [List.length_set]; exact hVl, hoz.out, R2.out, hcz.out⟩
                    case measure => simp [intOf]; omega
                · have t9 : decide ((km : Int) ≥ 0) = true := decide_eq_true (by omega)
                  have hkl : km < len := by omega
                  have xk := HXL.out wr hcw.out km hkl
                  have ys := HXS.out wr hcw.out i (by omega)
                  have ck := ownB_cell (k := km) (by have := how.out; rw [← hVl] at this; exact this) (by omega)
                  rw [← HSI.out] at ys
                  obtain ⟨lk, hlk⟩ : ∃ lk, lk = l.getD km eZeroS := ⟨_, rfl⟩
                  rw [← hlk] at xk
                  have HLK := hide hlk
                  clear hlk
                  have kmi : (km : Int) < len := by omega
                  cases hu : V.getD km true with
                  | true =>
                    rw [hu] at ck
                    have HVU := hide hu
                    clear hu
                    go_wp2_with fail
                    go_quiet (fail)
                    go_wp2_with fail
                    go_roundw
                    case rel =>
                      refine ⟨km, by omega, ?_, HUW.out.drewN _, ?_⟩
                      · show _ ∨ _
                        by_cases h0 : km = 0
                        · subst h0; exact .inl ⟨rfl, by go_num⟩
                        · exact .inr ⟨km - 1, by omega, by first | go_num | (congr 1; omega) | (congr 1)⟩
                      · show _ ∨ _
                        refine hk10.out.imp (fun ⟨e, h1⟩ => ⟨e, fun j h2 h3 => ?_⟩) (fun ⟨j, e, h1, h2, h3, h4⟩ => ⟨j, e, by omega, h2, h3, fun q h5 h6 => ?_⟩)
                        · by_cases ej : j = km
                          · subst ej; intro h; rw [HVU.out] at h; cases h.1
                          · exact h1 j (by omega) h3
                        · by_cases ej : q = km
                          · subst ej; intro h; rw [HVU.out] at h; cases h.1
                          · exact h4 q (by omega) h6
                    case measure => first | (simp [intOf]; done) | (simp [intOf]; omega)
                  | false =>
                    rw [hu] at ck
                    have HVU := hide hu
                    clear hu
                    by_cases hsz : lk.size = si.size
                    · have t7 : ((lk.size : Int) == (si.size : Int)) = true := by rw [hsz]; simp
                      have HSZ := hide hsz
                      clear hsz
                      go_wp2_with fail
                      go_quiet (fail)
                      go_wp2_with fail
                      go_roundw
                      case rel =>
                        refine ⟨km, by omega, ?_, HUW.out.drewN _, .inr ⟨km, rfl, Nat.le_refl _, hkl, ⟨HVU.out, by rw [← HLK.out]; exact HSZ.out⟩, fun q h1 h2 => by omega⟩⟩
                        · show _ ∨ _
                          by_cases h0 : km = 0
                          · subst h0; exact .inl ⟨rfl, by go_num⟩
                          · exact .inr ⟨km - 1, by omega, by first | go_num | (congr 1; omega) | (congr 1)⟩
                      case measure => first | (simp [intOf]; done) | (simp [intOf]; omega)
                    · have t7 : ((lk.size : Int) == (si.size : Int)) = false := by rw [beq_eq_false_iff_ne]; omega
                      have HSZ := hide hsz
                      clear hsz
                      go_wp2_with fail
                      go_quiet (fail)
                      go_wp2_with fail
                      go_roundw
                      case rel =>
                        refine ⟨km, by omega, ?_, HUW.out.drewN _, ?_⟩
                        · show _ ∨ _
                          by_cases h0 : km = 0
                          · subst h0; exact .inl ⟨rfl, by go_num⟩
                          · exact .inr ⟨km - 1, by omega, by first | go_num | (congr 1; omega) | (congr 1)⟩
                        · show _ ∨ _
                          refine hk10.out.imp (fun ⟨e, h1⟩ => ⟨e, fun j h2 h3 => ?_⟩) (fun ⟨j, e, h1, h2, h3, h4⟩ => ⟨j, e, by omega, h2, h3, fun q h5 h6 => ?_⟩)
                          · by_cases ej : j = km
                            · subst ej; intro h; rw [← HLK.out] at h; exact HSZ.out h.2
                            · exact h1 j (by omega) h3
                          · by_cases ej : q = km
                            · subst ej; intro h; rw [← HLK.out] at h; exact HSZ.out h.2
                            · exact h4 q (by omega) h6
                      case measure => first | (simp [intOf]; done) | (simp [intOf]; omega)
        · have t9 : decide ((i : Int) < len) = false := decide_eq_false (by omega)
          have HUE : Hid (Up w wr) := U.out.thenChg hcV (fun x hx e => by omega)
          clear hoV heV hcV
          go_wp2
          go_ret
          exact ⟨rfl, HUE.out⟩

end Go.Proofs.Ytcemdiloiachlaa

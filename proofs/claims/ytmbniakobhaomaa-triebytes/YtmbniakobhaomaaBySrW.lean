/-
  The ordered sort of bytes: the insertion sort that gives up.
-/
import Derived.Test.YtmbniakobhaomaaBySrt
import Derived.Deep.CutRange
namespace Go.Proofs.Ytmbniakobhaomaa
open Go.ChangeShapes Go.WideShapes Go.ChangeAt Go.RowKit Go.Sort
set_option linter.unusedVariables false

theorem shD_go {lt : Int → Int → Bool} (j : Nat) (d : Array Int) (hl : lt d[j + 1]! d[j]! = true) : shiftDown lt (j + 1) d = shiftDown lt j (swp d (j + 1) j) := by
  rw [shiftDown, if_neg (by simp [hl])]
theorem shD_stop {lt : Int → Int → Bool} (j : Nat) (d : Array Int) (hl : lt d[j + 1]! d[j]! = false) : shiftDown lt (j + 1) d = d := by
  rw [shiftDown, if_pos (by simp [hl])]
set_option maxRecDepth 20000 in
set_option maxHeartbeats 16000000 in
theorem partialIns_calls (g cap n a b : Nat) (W0 : World) (ok : Int → Prop) (d : Array Int) (w : World) (hs : SrtB W0 g ok n d w) (hab : a < b) (hb : b ≤ n) (hn : n ≤ 100000) :
    Calls Try.prog 63 #[.slice (some ⟨g, 0, none⟩) n cap, .int .i64 a, .int .i64 b] w fun e w' => e = .returned (.bool (partialInsertionSort ltB d a b).2) ∧ SrtB W0 g ok n (partialInsertionSort ltB d a b).1 w' := by
  have HS := hide hs
  clear hs
  obtain ⟨R, hR⟩ : ∃ R, R = partialInsertionSort ltB d a b := ⟨_, rfl⟩
  rw [← hR]
  have HR0 : Hid (partialIns ltB a b 5 (a + 1) d = R) := hR.symm
  clear hR
  go_enter Try.func63, Try.ntmps63
  go_wp2_with fail
  go_loopw [7, 8] (fun u v wr => ∃ (i t s : Nat) (dk : Array Int), u = .int .i64 i ∧ v = .int .i64 t ∧ t + s = 5 ∧ a < i ∧ i ≤ b ∧ SrtB W0 g ok n dk wr ∧ Hid (partialIns ltB a b s i dk = R)) (fun _ v _ => 6 - (intOf v).toNat)
  case atStart => exact ⟨a + 1, 0, 5, d, by go_num, rfl, rfl, by omega, by omega, HS.out, HR0⟩
  case round =>
    obtain ⟨i, t, s, dk, rfl, rfl, hts, hai, hib, hsk, HO⟩ := hrel
    have HK := hide hsk
    clear hsk
    by_cases ht : t < 5
    · obtain ⟨s, rfl⟩ : ∃ q, s = q + 1 := ⟨s - 1, by omega⟩
      have t1 : decide ((t : Int) < 5) = true := decide_eq_true (by omega)
      go_wp2_with fail
      go_loopw [7] (fun u wr => ∃ j : Nat, u = .int .i64 j ∧ a < j ∧ j ≤ b ∧ SrtB W0 g ok n dk wr ∧ Hid (scanSorted ltB dk b j = scanSorted ltB dk b i)) (fun u _ => b + 1 - (intOf u).toNat)
      case atStart => exact ⟨i, rfl, hai, hib, HK.out, rfl⟩
      case round =>
        obtain ⟨j, rfl, haj, hjb, hsj, HI⟩ := hrel
        have HJ := hide hsj
        clear hsj
        have hsc := scanSorted.eq_1 ltB dk b j
        have hpi : Hid (partialIns ltB a b (s + 1) i dk = R) := HO
        by_cases hlt : j < b
        · obtain ⟨j, rfl⟩ : ∃ q, j = q + 1 := ⟨j - 1, by omega⟩
          have t2 : decide (((j : Nat) : Int) + 1 < (b : Int)) = true := decide_eq_true (by omega)
          have y1 := HJ.out.cell (j + 1) (by omega)
          have y0 := HJ.out.cell j (by omega)
          have f1 := HJ.out.froz (j + 1) (by omega)
          have f0 := HJ.out.froz j (by omega)
          have hcm : Hid (∀ q, Calls Try.prog 64 #[.int .u8 dk[j + 1]!, .int .u8 dk[j]!] (wr.drewN q) fun e w' => e = .returned (.bool (ltB dk[j + 1]! dk[j]!)) ∧ ∃ m, w' = (wr.drewN q).drewN m) := fun q => lessB_calls _ _ _
          have jz : (j : Int) + 1 < n := by omega
          have jz0 : (j : Int) < n := by omega
          rw [Nat.add_sub_cancel] at hsc
          cases hl : ltB dk[j + 1]! dk[j]! with
          | false =>
            rw [hl] at hcm
            rw [if_pos (by simp [hlt, hl])] at hsc
            have HGO : Hid (scanSorted ltB dk b (j + 1 + 1) = scanSorted ltB dk b i) := by show _ = _; rw [← hsc]; exact HI.out
            clear hsc hl
            generalize dk[j + 1]! = X at y1 hcm
            generalize dk[j]! = Y at y0 hcm
            go_wp2_with fail
            go_quiet ((go_at_call 64; exact Calls.quiet_of (hcm.out _)))
            go_wp2
            go_roundw
            case rel => exact ⟨j + 1 + 1, by go_num, by omega, by omega, HJ.out.drewN _, HGO.out⟩
            case measure => simp [intOf]; omega
          | true =>
            rw [hl] at hcm
            rw [if_neg (by simp [hl])] at hsc
            have hj1 : ¬ (j + 1 = b) := by omega
            have t3 : ¬ ((j : Int) + 1 = (b : Int)) := by omega
            have HSW := hide (HJ.out)
            obtain ⟨dS, hdS⟩ : ∃ dS, dS = swp dk (j + 1) j := ⟨_, rfl⟩
            have hswp : Hid (∀ q, SrtB W0 g ok n dS (((wr.drewN q).setCell ⟨g, j + 1, none⟩ (.int .u8 dk[j]!)).setCell ⟨g, j, none⟩ (.int .u8 dk[j + 1]!))) := fun q => by rw [hdS]; exact (HJ.out.drewN q).swap (by omega) (by omega)
            obtain ⟨dA, hdA⟩ : ∃ dA, dA = if j + 1 - a ≥ 2 then shiftDown ltB j dS else dS := ⟨_, rfl⟩
            obtain ⟨dB, hdB⟩ : ∃ dB, dB = if b - (j + 1) ≥ 2 then shiftUp ltB b (j + 1 + 1) dA else dA := ⟨_, rfl⟩
            have HP : Hid (R = if b - a < 50 then (dk, false) else partialIns ltB a b s (j + 1) dB) := by
              show _ = _
              rw [← hpi.out, partialIns]
              simp only [← HI.out, hsc, if_neg hj1, Nat.add_sub_cancel, ← hdS, ← hdA, ← hdB]
            have HDA := hide hdA
            have HDB := hide hdB
            clear hsc hl hdS hdA hdB hj1
            generalize dk[j + 1]! = X at y1 hcm hswp
            generalize dk[j]! = Y at y0 hcm hswp
            by_cases h50 : b - a < 50
            · have t4 : decide ((b : Int) - (a : Int) < 50) = true := decide_eq_true (by omega)
              have t5 : (b : Int) - (a : Int) < 50 := by omega
              have HOUT : Hid (R = (dk, false)) := by have := HP.out; rw [if_pos h50] at this; exact this
              clear hswp
              go_wp2_with fail
              go_quiet ((go_at_call 64; exact Calls.quiet_of (hcm.out _)))
              go_wp2
              --W3
              go_ret
              exact ⟨by rw [HOUT.out]; rfl, by rw [HOUT.out]; exact HJ.out.drewN _⟩
            · have t4 : decide ((b : Int) - (a : Int) < 50) = false := decide_eq_false (by omega)
              have t5 : ¬ (b : Int) - (a : Int) < 50 := by omega
              have HOUT : Hid (partialIns ltB a b s (j + 1) dB = R) := by have := HP.out; rw [if_neg h50] at this; exact this.symm
              clear HP
              go_wp2_with fail
              go_quiet ((go_at_call 64; exact Calls.quiet_of (hcm.out _)))
              go_upto_region 11 with fail
              go_cut [9] from 13 to 132 (fun u wx => SrtB W0 g ok n dS wx)
              case first =>
                go_region
                all_goals
                  go_wp2_with fail
                  go_meet
                  first | exact hswp.out _ | exact (hswp.out _).drewN _ | exact (hswp.out _).drew
              case rest =>
                have HC := hide hcut
                clear hcut hcm hswp HJ HSW y0 y1 f0 f1
                go_upto_if 61 with fail
                go_cut [9] from 13 to 132 (fun u wx => SrtB W0 g ok n dA wx)
                case first =>
                  by_cases hd : j + 1 - a ≥ 2
                  · have t6 : decide ((j : Int) + 1 - (a : Int) ≥ 2) = true := decide_eq_true (by omega)
                    have t7 : (j : Int) + 1 - (a : Int) ≥ 2 := by omega
                    have HDA2 : Hid (shiftDown ltB j dS = dA) := by have := HDA.out; rw [if_pos hd] at this; exact this.symm
                    go_wp2_with fail
                    go_loopw [9] (fun u wr => ∃ (k : Nat) (dj : Array Int), u = .int .i64 k ∧ k < n ∧ SrtB W0 g ok n dj wr ∧ Hid (shiftDown ltB k dj = dA)) (fun u _ => (intOf u).toNat)
                    case atStart => exact ⟨j, dS, by go_num, by omega, HC.out, HDA2⟩
                    case round =>
                      obtain ⟨k, dj, rfl, hkn, hsj, HI2⟩ := hrel
                      have HJ := hide hsj
                      clear hsj
                      by_cases hk : 1 ≤ k
                      · obtain ⟨k, rfl⟩ : ∃ q, k = q + 1 := ⟨k - 1, by omega⟩
                        have t8 : decide (((k : Nat) : Int) + 1 ≥ 1) = true := decide_eq_true (by omega)
                        have y1 := HJ.out.cell (k + 1) (by omega)
                        have y0 := HJ.out.cell k (by omega)
                        have f1 := HJ.out.froz (k + 1) (by omega)
                        have f0 := HJ.out.froz k (by omega)
                        have hcm : Hid (∀ q, Calls Try.prog 64 #[.int .u8 dj[k + 1]!, .int .u8 dj[k]!] (wr.drewN q) fun e w' => e = .returned (.bool (ltB dj[k + 1]! dj[k]!)) ∧ ∃ m, w' = (wr.drewN q).drewN m) := fun q => lessB_calls _ _ _
                        have hswp : Hid (∀ q, SrtB W0 g ok n (swp dj (k + 1) k) (((wr.drewN q).setCell ⟨g, k + 1, none⟩ (.int .u8 dj[k]!)).setCell ⟨g, k, none⟩ (.int .u8 dj[k + 1]!))) := fun q => (HJ.out.drewN q).swap (by omega) (by omega)
                        have hgo := shD_go (lt := ltB) k dj
                        have hst := shD_stop (lt := ltB) k dj
                        generalize hX : dj[k + 1]! = X at y1 hcm hswp hgo hst
                        generalize hY : dj[k]! = Y at y0 hcm hswp hgo hst
                        have kz : (k : Int) + 1 < n := by omega
                        have kz0 : (k : Int) < n := by omega
                        cases hl : ltB X Y with
                        | true =>
                          rw [hl] at hcm
                          have HGO : Hid (shiftDown ltB k (swp dj (k + 1) k) = dA) := by show _ = _; rw [← hgo hl]; exact HI2.out
                          clear hgo hst hX hY
                          go_wp2_with fail
                          go_quiet ((go_at_call 64; exact Calls.quiet_of (hcm.out _)))
                          go_wp2_with fail
                          go_region
                          all_goals
                            go_wp2
                            go_roundw
                            case rel => exact ⟨k, swp dj (k + 1) k, by go_num, by omega, (by first | exact hswp.out _ | exact (hswp.out _).drewN _ | exact (hswp.out _).drew), HGO.out⟩
                            case measure => simp [intOf]
                        | false =>
                          rw [hl] at hcm
                          have HST : Hid (dj = dA) := by show _ = _; rw [← hst hl]; exact HI2.out
                          clear hgo hst hX hY
                          go_wp2_with fail
                          go_quiet ((go_at_call 64; exact Calls.quiet_of (hcm.out _)))
                          go_wp2_with fail
                          go_meet
                          rw [← HST.out]
                          exact HJ.out.drewN _
                      · obtain rfl : k = 0 := by omega
                        have HST : Hid (dj = dA) := HI2
                        go_wp2_with fail
                        go_meet
                        rw [← HST.out]
                        exact HJ.out
                  · have t6 : decide ((j : Int) + 1 - (a : Int) ≥ 2) = false := decide_eq_false (by omega)
                    have t7 : ¬ (j : Int) + 1 - (a : Int) ≥ 2 := by omega
                    have HDA2 : Hid (dA = dS) := by have := HDA.out; rw [if_neg hd] at this; exact this
                    go_wp2_with fail
                    go_meet
                    rw [HDA2.out]
                    exact HC.out
                case rest =>
                  have HC2 := hide hcut
                  clear hcut HC
                  · by_cases hd : b - (j + 1) ≥ 2
                    · have t6 : decide ((b : Int) - ((j : Int) + 1) ≥ 2) = true := decide_eq_true (by omega)
                      have t7 : (b : Int) - ((j : Int) + 1) ≥ 2 := by omega
                      have HDB2 : Hid (shiftUp ltB b (j + 1 + 1) dA = dB) := by have := HDB.out; rw [if_pos hd] at this; exact this.symm
                      go_wp2_with fail
                      go_loopw [10] (fun u wr => ∃ (k : Nat) (dj : Array Int), u = .int .i64 k ∧ 1 ≤ k ∧ k ≤ b ∧ SrtB W0 g ok n dj wr ∧ Hid (shiftUp ltB b k dj = dB)) (fun u _ => b + 1 - (intOf u).toNat)
                      case atStart => exact ⟨j + 1 + 1, dA, by go_num, by omega, by omega, HC2.out, HDB2⟩
                      case round =>
                        obtain ⟨k, dj, rfl, hk1, hkb, hsj, HI2⟩ := hrel
                        have HJ := hide hsj
                        clear hsj
                        have hsu := shiftUp.eq_1 ltB b k dj
                        by_cases hk : k < b
                        · obtain ⟨k, rfl⟩ : ∃ q, k = q + 1 := ⟨k - 1, by omega⟩
                          have t8 : decide (((k : Nat) : Int) + 1 < (b : Int)) = true := decide_eq_true (by omega)
                          have y1 := HJ.out.cell (k + 1) (by omega)
                          have y0 := HJ.out.cell k (by omega)
                          have f1 := HJ.out.froz (k + 1) (by omega)
                          have f0 := HJ.out.froz k (by omega)
                          have hcm : Hid (∀ q, Calls Try.prog 64 #[.int .u8 dj[k + 1]!, .int .u8 dj[k]!] (wr.drewN q) fun e w' => e = .returned (.bool (ltB dj[k + 1]! dj[k]!)) ∧ ∃ m, w' = (wr.drewN q).drewN m) := fun q => lessB_calls _ _ _
                          have hswp : Hid (∀ q, SrtB W0 g ok n (swp dj (k + 1) k) (((wr.drewN q).setCell ⟨g, k + 1, none⟩ (.int .u8 dj[k]!)).setCell ⟨g, k, none⟩ (.int .u8 dj[k + 1]!))) := fun q => (HJ.out.drewN q).swap (by omega) (by omega)
                          rw [if_pos hk, Nat.add_sub_cancel] at hsu
                          generalize hX : dj[k + 1]! = X at y1 hcm hswp hsu
                          generalize hY : dj[k]! = Y at y0 hcm hswp hsu
                          have kz : (k : Int) + 1 < n := by omega
                          have kz0 : (k : Int) < n := by omega
                          cases hl : ltB X Y with
                          | true =>
                            rw [hl] at hcm
                            rw [hl] at hsu
                            have HGO : Hid (shiftUp ltB b (k + 1 + 1) (swp dj (k + 1) k) = dB) := by
                              show _ = _
                              rw [← HI2.out, hsu]
                              rfl
                            clear hsu hX hY
                            go_wp2_with fail
                            go_quiet ((go_at_call 64; exact Calls.quiet_of (hcm.out _)))
                            go_wp2_with fail
                            go_region
                            all_goals
                              go_wp2
                              go_roundw
                              case rel => exact ⟨k + 1 + 1, swp dj (k + 1) k, by go_num, by omega, by omega, (by first | exact hswp.out _ | exact (hswp.out _).drewN _ | exact (hswp.out _).drew), HGO.out⟩
                              case measure => simp [intOf]; omega
                          | false =>
                            rw [hl] at hcm
                            rw [hl] at hsu
                            have HST : Hid (dj = dB) := by
                              show _ = _
                              rw [← HI2.out, hsu]
                              rfl
                            clear hsu hX hY
                            go_wp2_with fail
                            go_quiet ((go_at_call 64; exact Calls.quiet_of (hcm.out _)))
                            go_wp2
                            go_roundw
                            case rel => first | exact ⟨j + 1, t + 1, s, dB, by go_num, by go_num, by omega, by omega, by omega, (by rw [← HST.out]; exact HJ.out.drewN _), HOUT⟩ | ((repeat apply Exists.intro); exact ⟨⟨j + 1, t + 1, s, dB, by go_num, by go_num, by omega, by omega, by omega, (by rw [← HST.out]; exact HJ.out.drewN _), HOUT⟩, rfl⟩)
                            case measure => simp [intOf]; omega
                        · have t8 : decide ((k : Int) < (b : Int)) = false := decide_eq_false (by omega)
                          rw [if_neg hk] at hsu
                          have HST : Hid (dj = dB) := by show _ = _; rw [← HI2.out, hsu]
                          clear hsu
                          go_wp2
                          go_roundw
                          case rel => first | exact ⟨j + 1, t + 1, s, dB, by go_num, by go_num, by omega, by omega, by omega, (by rw [← HST.out]; exact HJ.out), HOUT⟩ | ((repeat apply Exists.intro); exact ⟨⟨j + 1, t + 1, s, dB, by go_num, by go_num, by omega, by omega, by omega, (by rw [← HST.out]; exact HJ.out), HOUT⟩, rfl⟩)
                          case measure => simp [intOf]; omega
                    · have t6 : decide ((b : Int) - ((j : Int) + 1) ≥ 2) = false := decide_eq_false (by omega)
                      have t7 : ¬ (b : Int) - ((j : Int) + 1) ≥ 2 := by omega
                      have HDB2 : Hid (dB = dA) := by have := HDB.out; rw [if_neg hd] at this; exact this
                      go_wp2
                      go_roundw
                      case rel => first | exact ⟨j + 1, t + 1, s, dB, by go_num, by go_num, by omega, by omega, by omega, (by rw [HDB2.out]; exact HC2.out), HOUT⟩ | ((repeat apply Exists.intro); exact ⟨⟨j + 1, t + 1, s, dB, by go_num, by go_num, by omega, by omega, by omega, (by rw [HDB2.out]; exact HC2.out), HOUT⟩, rfl⟩)
                      case measure => simp [intOf]; omega
        · have t2 : decide ((j : Int) < (b : Int)) = false := decide_eq_false (by omega)
          obtain rfl : j = b := by omega
          rw [if_neg (by simp)] at hsc
          have HOUT : Hid (R = (dk, true)) := by
            show _ = _
            rw [← hpi.out, partialIns]
            simp only [← HI.out, hsc, if_true]
          clear hsc
          go_wp2_with fail
          go_quiet (fail)
          go_wp2
          --W1
          go_ret
          exact ⟨by rw [HOUT.out]; rfl, by rw [HOUT.out]; exact HJ.out.drewN _⟩
    · have t1 : decide ((t : Int) < 5) = false := decide_eq_false (by omega)
      obtain rfl : s = 0 := by omega
      have HOUT : Hid (R = (dk, false)) := HO.out.symm
      go_wp2
      go_ret
      exact ⟨by rw [HOUT.out]; rfl, by rw [HOUT.out]; exact HK.out⟩
end Go.Proofs.Ytmbniakobhaomaa

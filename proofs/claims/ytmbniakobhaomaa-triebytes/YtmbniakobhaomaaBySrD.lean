/-
  The library's siftDown at a row of slots.
-/
import Derived.Test.YtmbniakobhaomaaBySrt
namespace Go.Proofs.Ytmbniakobhaomaa
open Go.ChangeShapes Go.WideShapes Go.ChangeAt Go.RowKit
open Go.Sort (swp siftDown heapBuild heapPop)
set_option linter.unusedVariables false
variable {lt : Int → Int → Bool}

theorem sdI_end {hi F root : Nat} {d : Array Int} (h : hi ≤ 2 * root + 1) : siftDown lt hi F root d = d := by rw [siftDown.eq_1, dif_pos h]
theorem sdI_r {hi F root : Nat} {d : Array Int} (h1 : 2 * root + 2 < hi) (h2 : lt d[F + (2 * root + 1)]! d[F + (2 * root + 2)]! = true) : siftDown lt hi F root d = if lt d[F + root]! d[F + (2 * root + 2)]! then siftDown lt hi F (2 * root + 2) (swp d (F + root) (F + (2 * root + 2))) else d := by
  rw [siftDown.eq_1, dif_neg (by omega), if_pos (by rw [Bool.and_eq_true]; exact ⟨decide_eq_true (by omega), h2⟩)]
  cases lt d[F + root]! d[F + (2 * root + 2)]! with
  | true => simp [h1]
  | false => simp
theorem sdI_l {hi F root : Nat} {d : Array Int} (h0 : 2 * root + 1 < hi) (h1 : 2 * root + 2 < hi → lt d[F + (2 * root + 1)]! d[F + (2 * root + 2)]! = false) : siftDown lt hi F root d = if lt d[F + root]! d[F + (2 * root + 1)]! then siftDown lt hi F (2 * root + 1) (swp d (F + root) (F + (2 * root + 1))) else d := by
  rw [siftDown.eq_1, dif_neg (by omega), if_neg]
  · cases lt d[F + root]! d[F + (2 * root + 1)]! with
    | true => simp
    | false => simp
  · rw [Bool.and_eq_true, not_and, Bool.not_eq_true]
    intro h
    exact h1 (of_decide_eq_true h)

set_option maxRecDepth 20000 in
set_option maxHeartbeats 16000000 in
theorem sift_calls (g cap n lo hi F : Nat) (W0 : World) (ok : Int → Prop) (d : Array Int) (w : World) (hs : SrtB W0 g ok n d w) (hlo : lo ≤ n) (hb : F + hi ≤ n) (hn : n ≤ 100000) :
    Calls Try.prog 70 #[.slice (some ⟨g, 0, none⟩) n cap, .int .i64 lo, .int .i64 hi, .int .i64 F] w fun e w' => e = .returned (.tuple #[]) ∧ SrtB W0 g ok n (siftDown ltB hi F lo d) w' := by
  have HS := hide hs
  clear hs
  go_enter Try.func70, Try.ntmps70
  go_wp2_with fail
  go_loopw [8] (fun u wr => ∃ (root : Nat) (dk : Array Int), u = .int .i64 root ∧ root ≤ n ∧ SrtB W0 g ok n dk wr ∧ Hid (siftDown ltB hi F root dk = siftDown ltB hi F lo d)) (fun u _ => hi - (intOf u).toNat)
  case atStart => exact ⟨lo, d, rfl, hlo, HS.out, rfl⟩
  case round =>
    obtain ⟨root, dk, rfl, hrn, hsk, HO⟩ := hrel
    obtain ⟨WW, rfl⟩ : ∃ WW, WW = wr := ⟨_, rfl⟩
    have HK := hide hsk
    clear hsk HS
    have hend := sdI_end (lt := ltB) (hi := hi) (F := F) (root := root) (d := dk)
    have hsr := sdI_r (lt := ltB) (hi := hi) (F := F) (root := root) (d := dk)
    have hsl := sdI_l (lt := ltB) (hi := hi) (F := F) (root := root) (d := dk)
    obtain ⟨ch1, hch1⟩ : ∃ c, c = 2 * root + 1 := ⟨_, rfl⟩
    obtain ⟨ch2, hch2⟩ : ∃ c, c = 2 * root + 2 := ⟨_, rfl⟩
    obtain ⟨iR, hiR⟩ : ∃ c, c = F + root := ⟨_, rfl⟩
    rw [← hch1] at hend
    rw [← hch1, ← hch2, ← hiR] at hsr hsl
    obtain ⟨i1, hi1⟩ : ∃ c, c = F + ch1 := ⟨_, rfl⟩
    obtain ⟨i2, hi2⟩ : ∃ c, c = F + ch2 := ⟨_, rfl⟩
    rw [← hi1, ← hi2] at hsr hsl
    have e1 : 2 * (root : Int) + 1 = (ch1 : Int) := by omega
    have e2 : (ch1 : Int) + 1 = (ch2 : Int) := by omega
    have e3 : (F : Int) + (ch1 : Int) = (i1 : Int) := by omega
    have e4 : (F : Int) + (ch2 : Int) = (i2 : Int) := by omega
    have e5 : (i1 : Int) + 1 = (i2 : Int) := by omega
    have e6 : (F : Int) + (root : Int) = (iR : Int) := by omega
    have hrc1 : root < ch1 := by omega
    have hrc2 : root < ch2 := by omega
    have HEND := hide hend
    have HSR := hide hsr
    have HSL := hide hsl
    have hbb : Hid (∀ c, c < hi → F + c < n) := fun c hc => by omega
    have ne1 : ¬ iR = i1 := by omega
    have ne2 : ¬ i1 = iR := by omega
    have ne3 : ¬ iR = i2 := by omega
    have ne4 : ¬ i2 = iR := by omega
    by_cases h1 : ch1 < hi
    · --D2
      have t1 : decide ((ch1 : Int) ≥ hi) = false := decide_eq_false (by omega)
      have r1 : iR < n := by omega
      have r2 : i1 < n := by omega
      have r1z : (iR : Int) < n := by omega
      have r2z : (i1 : Int) < n := by omega
      have hc2n : ch1 ≤ n := by omega
      by_cases h2 : ch2 < hi
      · --D3
        have t2 : decide ((ch2 : Int) < hi) = true := decide_eq_true (by omega)
        have r3 : i2 < n := by omega
        have r3z : (i2 : Int) < n := by omega
        have hc3n : ch2 ≤ n := by omega
        have y1 := HK.out.cell i1 (by omega)
        have y2 := HK.out.cell i2 (by omega)
        have hcm : Hid (∀ q, Calls Try.prog 64 #[.int .u8 dk[i1]!, .int .u8 dk[i2]!] (WW.drewN q) fun e w' => e = .returned (.bool (ltB dk[i1]! dk[i2]!)) ∧ ∃ m, w' = (WW.drewN q).drewN m) := fun q => lessB_calls _ _ _
        have hneg : True := trivial
        clear hch1 hch2 hiR hi1 hi2 hend hsr hsl hb
        cases hl : ltB dk[i1]! dk[i2]! with
        | true =>
          rw [hl] at hcm
          have HSD := hide (HSR.out h2 hl)
          clear hl HEND HSR HSL
          generalize dk[i1]! = X at y1 hcm hneg
          generalize dk[i2]! = Y at y2 hcm hneg
          --D30
          go_wp2_with fail
          --D31
          go_quiet ((go_at_call 64; exact Calls.quiet_of (hcm.out _)))
          obtain ⟨W2, hW2⟩ : ∃ W2, W2 = WW.drewN nq := ⟨_, rfl⟩
          replace HK := hide (HK.out.drewN nq)
          rw [← hW2] at HK ⊢
          clear hcm hneg y1 y2 hW2
          clear WW
          obtain ⟨WW, rfl⟩ : ∃ WW, WW = W2 := ⟨_, rfl⟩
          --D6
          have yr := HK.out.cell iR (by omega)
          have yc := HK.out.cell i2 (by omega)
          have fr := HK.out.froz iR (by omega)
          have fc := HK.out.froz i2 (by omega)
          have hcm2 : Hid (∀ q, Calls Try.prog 64 #[.int .u8 dk[iR]!, .int .u8 dk[i2]!] (WW.drewN q) fun e w' => e = .returned (.bool (ltB dk[iR]! dk[i2]!)) ∧ ∃ m, w' = (WW.drewN q).drewN m) := fun q => lessB_calls _ _ _
          have hneg2 : True := trivial
          have hswp : Hid (∀ q, SrtB W0 g ok n (swp dk iR i2) (((WW.drewN q).setCell ⟨g, iR, none⟩ (.int .u8 dk[i2]!)).setCell ⟨g, i2, none⟩ (.int .u8 dk[iR]!))) := fun q => (HK.out.drewN q).swap (by omega) (by omega)
          cases hl2 : ltB dk[iR]! dk[i2]! with
          | true =>
            rw [hl2] at hcm2
            have HGO : Hid (siftDown ltB hi F ch2 (swp dk iR i2) = siftDown ltB hi F lo d) := by
              show _ = _
              rw [← HO.out, HSD.out, if_pos hl2]
            clear hl2
            generalize dk[iR]! = X2 at yr hcm2 hneg2 hswp
            generalize dk[i2]! = Y2 at yc hcm2 hneg2 hswp
            go_wp2_with fail
            go_quiet ((go_at_call 64; exact Calls.quiet_of (hcm2.out _)))
            go_wp2_with fail
            --D7
            go_region
            --D8
            all_goals
              go_wp2
              go_roundw
              case rel => exact ⟨ch2, swp dk iR i2, by go_num, by omega, (by first | exact hswp.out _ | exact (hswp.out _).drewN _ | exact (hswp.out _).drew), HGO.out⟩
              case measure => simp [intOf]; omega
          | false =>
            rw [hl2] at hcm2
            have HST : Hid (dk = siftDown ltB hi F lo d) := by
              show _ = _
              rw [← HO.out, HSD.out, if_neg (by rw [hl2]; exact Bool.false_ne_true)]
            clear hl2
            generalize dk[iR]! = X2 at yr hcm2 hneg2 hswp
            generalize dk[i2]! = Y2 at yc hcm2 hneg2 hswp
            go_wp2_with fail
            go_quiet ((go_at_call 64; exact Calls.quiet_of (hcm2.out _)))
            go_wp2
            --D9
            (try simp only [Exit.inBlock, Exit.then])
            refine bodyPost_ret (results_none rfl _ _ _) rfl ?_
            exact ⟨rfl, by rw [← HST.out]; exact (HK.out.drewN _)⟩
        | false =>
          rw [hl] at hcm
          have HSD := hide (HSL.out h1 (fun _ => hl))
          clear hl HEND HSR HSL
          generalize dk[i1]! = X at y1 hcm hneg
          generalize dk[i2]! = Y at y2 hcm hneg
          go_wp2_with fail
          go_quiet ((go_at_call 64; exact Calls.quiet_of (hcm.out _)))
          obtain ⟨W2, hW2⟩ : ∃ W2, W2 = WW.drewN nq := ⟨_, rfl⟩
          replace HK := hide (HK.out.drewN nq)
          rw [← hW2] at HK ⊢
          clear hcm hneg y1 y2 hW2
          clear WW
          obtain ⟨WW, rfl⟩ : ∃ WW, WW = W2 := ⟨_, rfl⟩
          --D6
          have yr := HK.out.cell iR (by omega)
          have yc := HK.out.cell i1 (by omega)
          have fr := HK.out.froz iR (by omega)
          have fc := HK.out.froz i1 (by omega)
          have hcm2 : Hid (∀ q, Calls Try.prog 64 #[.int .u8 dk[iR]!, .int .u8 dk[i1]!] (WW.drewN q) fun e w' => e = .returned (.bool (ltB dk[iR]! dk[i1]!)) ∧ ∃ m, w' = (WW.drewN q).drewN m) := fun q => lessB_calls _ _ _
          have hneg2 : True := trivial
          have hswp : Hid (∀ q, SrtB W0 g ok n (swp dk iR i1) (((WW.drewN q).setCell ⟨g, iR, none⟩ (.int .u8 dk[i1]!)).setCell ⟨g, i1, none⟩ (.int .u8 dk[iR]!))) := fun q => (HK.out.drewN q).swap (by omega) (by omega)
          cases hl2 : ltB dk[iR]! dk[i1]! with
          | true =>
            rw [hl2] at hcm2
            have HGO : Hid (siftDown ltB hi F ch1 (swp dk iR i1) = siftDown ltB hi F lo d) := by
              show _ = _
              rw [← HO.out, HSD.out, if_pos hl2]
            clear hl2
            generalize dk[iR]! = X2 at yr hcm2 hneg2 hswp
            generalize dk[i1]! = Y2 at yc hcm2 hneg2 hswp
            go_wp2_with fail
            go_quiet ((go_at_call 64; exact Calls.quiet_of (hcm2.out _)))
            go_wp2_with fail
            --D7
            go_region
            --D8
            all_goals
              go_wp2
              go_roundw
              case rel => exact ⟨ch1, swp dk iR i1, by go_num, by omega, (by first | exact hswp.out _ | exact (hswp.out _).drewN _ | exact (hswp.out _).drew), HGO.out⟩
              case measure => simp [intOf]; omega
          | false =>
            rw [hl2] at hcm2
            have HST : Hid (dk = siftDown ltB hi F lo d) := by
              show _ = _
              rw [← HO.out, HSD.out, if_neg (by rw [hl2]; exact Bool.false_ne_true)]
            clear hl2
            generalize dk[iR]! = X2 at yr hcm2 hneg2 hswp
            generalize dk[i1]! = Y2 at yc hcm2 hneg2 hswp
            go_wp2_with fail
            go_quiet ((go_at_call 64; exact Calls.quiet_of (hcm2.out _)))
            go_wp2
            --D9
            (try simp only [Exit.inBlock, Exit.then])
            refine bodyPost_ret (results_none rfl _ _ _) rfl ?_
            exact ⟨rfl, by rw [← HST.out]; exact (HK.out.drewN _)⟩
      · --D4
        have t2 : decide ((ch2 : Int) < hi) = false := decide_eq_false (by omega)
        have HSD := hide (HSL.out h1 (fun h => absurd h h2))
        clear hch1 hch2 hiR hi1 hi2 hend hsr hsl hb HEND HSR HSL
        go_wp2_with fail
        go_quiet (fail)
        obtain ⟨W2, hW2⟩ : ∃ W2, W2 = WW.drewN nq := ⟨_, rfl⟩
        replace HK := hide (HK.out.drewN nq)
        rw [← hW2] at HK ⊢
        clear  hW2
        clear WW
        obtain ⟨WW, rfl⟩ : ∃ WW, WW = W2 := ⟨_, rfl⟩
        --D6
        have yr := HK.out.cell iR (by omega)
        have yc := HK.out.cell i1 (by omega)
        have fr := HK.out.froz iR (by omega)
        have fc := HK.out.froz i1 (by omega)
        have hcm2 : Hid (∀ q, Calls Try.prog 64 #[.int .u8 dk[iR]!, .int .u8 dk[i1]!] (WW.drewN q) fun e w' => e = .returned (.bool (ltB dk[iR]! dk[i1]!)) ∧ ∃ m, w' = (WW.drewN q).drewN m) := fun q => lessB_calls _ _ _
        have hneg2 : True := trivial
        have hswp : Hid (∀ q, SrtB W0 g ok n (swp dk iR i1) (((WW.drewN q).setCell ⟨g, iR, none⟩ (.int .u8 dk[i1]!)).setCell ⟨g, i1, none⟩ (.int .u8 dk[iR]!))) := fun q => (HK.out.drewN q).swap (by omega) (by omega)
        cases hl2 : ltB dk[iR]! dk[i1]! with
        | true =>
          rw [hl2] at hcm2
          have HGO : Hid (siftDown ltB hi F ch1 (swp dk iR i1) = siftDown ltB hi F lo d) := by
            show _ = _
            rw [← HO.out, HSD.out, if_pos hl2]
          clear hl2
          generalize dk[iR]! = X2 at yr hcm2 hneg2 hswp
          generalize dk[i1]! = Y2 at yc hcm2 hneg2 hswp
          go_wp2_with fail
          go_quiet ((go_at_call 64; exact Calls.quiet_of (hcm2.out _)))
          go_wp2_with fail
          --D7
          go_region
          --D8
          all_goals
            go_wp2
            go_roundw
            case rel => exact ⟨ch1, swp dk iR i1, by go_num, by omega, (by first | exact hswp.out _ | exact (hswp.out _).drewN _ | exact (hswp.out _).drew), HGO.out⟩
            case measure => simp [intOf]; omega
        | false =>
          rw [hl2] at hcm2
          have HST : Hid (dk = siftDown ltB hi F lo d) := by
            show _ = _
            rw [← HO.out, HSD.out, if_neg (by rw [hl2]; exact Bool.false_ne_true)]
          clear hl2
          generalize dk[iR]! = X2 at yr hcm2 hneg2 hswp
          generalize dk[i1]! = Y2 at yc hcm2 hneg2 hswp
          go_wp2_with fail
          go_quiet ((go_at_call 64; exact Calls.quiet_of (hcm2.out _)))
          go_wp2
          --D9
          (try simp only [Exit.inBlock, Exit.then])
          refine bodyPost_ret (results_none rfl _ _ _) rfl ?_
          exact ⟨rfl, by rw [← HST.out]; exact (HK.out.drewN _)⟩
    · --D5
      have t1 : decide ((ch1 : Int) ≥ hi) = true := decide_eq_true (by omega)
      have HST : Hid (dk = siftDown ltB hi F lo d) := by
        show _ = _
        rw [← HO.out, HEND.out (by omega)]
      clear hch1 hch2 hiR hi1 hi2 hend hsr hsl hb HEND HSR HSL
      go_wp2
      go_end0
      exact ⟨rfl, by rw [← HST.out]; exact HK.out⟩

end Go.Proofs.Ytmbniakobhaomaa

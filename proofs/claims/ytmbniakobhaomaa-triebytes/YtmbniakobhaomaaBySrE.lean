/-
  The library's partitionEqual at a row of slots.
-/
import Derived.Test.YtmbniakobhaomaaBySrt
import Derived.Deep.CutBlock
namespace Go.Proofs.Ytmbniakobhaomaa
open Go.ChangeShapes Go.WideShapes Go.ChangeAt Go.RowKit
open Go.Sort (swp scanUp scanDown partEqLoop partitionEqual)
set_option linter.unusedVariables false

set_option maxRecDepth 20000 in
set_option maxHeartbeats 16000000 in
theorem partEq_calls (g cap n a J pv : Nat) (W0 : World) (ok : Int → Prop) (d : Array Int) (w : World) (hs : SrtB W0 g ok n d w) (haJ : a < J) (hJ : J < n) (hpa : a ≤ pv) (hpJ : pv ≤ J) (hn : n ≤ 100000) :
    Calls Try.prog 65 #[.slice (some ⟨g, 0, none⟩) n cap, .int .i64 a, .int .i64 ((J + 1 : Nat) : Int), .int .i64 pv] w fun e w' => e = .returned (.int .i64 (partitionEqual ltB d a (J + 1) pv).1) ∧ SrtB W0 g ok n (partitionEqual ltB d a (J + 1) pv).2 w' := by
  have HS := hide hs
  clear hs
  obtain ⟨b, hbJ⟩ : ∃ b, b = J + 1 := ⟨_, rfl⟩
  have eJ : (b : Int) - 1 = (J : Int) := by omega
  obtain ⟨PR, hR⟩ : ∃ R, R = partitionEqual ltB d a (J + 1) pv := ⟨_, rfl⟩
  rw [← hR, ← hbJ]
  have HR := hide hR
  clear hR hbJ
  have z0 : (a : Int) < n := by omega
  have z2 : (pv : Int) < n := by omega
  have y0 := HS.out.cell a (by omega)
  have y1 := HS.out.cell pv (by omega)
  have f0 := HS.out.froz a (by omega)
  have f1 := HS.out.froz pv (by omega)
  have hswp := hide (HS.out.swap (i := a) (j := pv) (by omega) (by omega))
  generalize d[a]! = X at y0 hswp
  generalize d[pv]! = Y at y1 hswp
  obtain ⟨d1, hd1⟩ : ∃ d1, d1 = swp d a pv := ⟨_, rfl⟩
  rw [← hd1] at hswp
  obtain ⟨V, hV⟩ : ∃ V, V = d1[a]! := ⟨_, rfl⟩
  have HV := hide hV
  clear hV
  have HPR : Hid (PR = partEqLoop ltB a (a + 1) J d1) := by
    show _ = _
    rw [HR.out, hd1]
    rfl
  clear hd1 HS HR
  obtain ⟨u, hu⟩ : ∃ u, (w.setCell ⟨g, a, none⟩ (.int .u8 Y)).cell? ⟨g, pv, none⟩ = some u := by
    by_cases e : a = pv
    · subst e; exact ⟨_, World.cell?_setCell_same _ _ _ y0⟩
    · exact ⟨_, (World.cell?_setCell_other _ _ _ _ (by intro e'; simp only [Addr.mk.injEq] at e'; omega)).trans y1⟩
  go_enter Try.func65, Try.ntmps65
  go_wp2_with fail
  go_region
  --Q4
  have HK := hide hswp.out.drew
  generalize World.drew _ = W1 at HK ⊢
  clear hswp y0 y1 f0 f1 hu
  go_wp2_with fail
  --QA
  go_loopw [9, 10] (fun u v wr => ∃ (i j : Nat) (dk : Array Int), u = .int .i64 i ∧ v = .int .i64 j ∧ a + 1 ≤ i ∧ i ≤ n + 1 ∧ a ≤ j ∧ j ≤ J ∧ SrtB W0 g ok n dk wr ∧ Hid (V = dk[a]!) ∧ Hid (partEqLoop ltB a i j dk = PR)) (fun u v _ => (intOf v).toNat + 1 - (intOf u).toNat)
  case atStart => exact ⟨a + 1, J, d1, by go_num, by go_num, by omega, by omega, by omega, by omega, HK.out, HV.out, HPR.out.symm⟩
  case round =>
    obtain ⟨i0, j0, dk, rfl, rfl, p1, p2, p3, p4, hsk, HV2, HO⟩ := hrel
    clear HK HPR HV
    have HV := HV2
    clear HV2
    have HK := hide hsk
    clear hsk
    obtain ⟨I4, hI4⟩ : ∃ I4, I4 = scanUp (fun x => !ltB V x) dk j0 i0 := ⟨_, rfl⟩
    obtain ⟨J4, hJ4⟩ : ∃ J4, J4 = scanDown (fun x => ltB V x) dk I4 j0 := ⟨_, rfl⟩
    have HII4 := hide hI4
    have HJJ4 := hide hJ4
    have HPL : Hid (PR = if I4 > J4 then (I4, dk) else if _h : (J4 - 1) + 1 - (I4 + 1) < j0 + 1 - i0 then partEqLoop ltB a (I4 + 1) (J4 - 1) (swp dk I4 J4) else (I4, dk)) := by
      show _ = _
      rw [← HO.out, partEqLoop.eq_1, ← HV.out]
      subst hJ4
      subst hI4
      rfl
    clear hI4 hJ4
    --QB
    go_upto_block 2 with fail
    go_cut [9] from 29 to 82 (fun u wx => u = .int .i64 I4 ∧ SrtB W0 g ok n dk wx ∧ i0 ≤ I4 ∧ (I4 ≤ i0 ∨ I4 ≤ j0 + 1))
    case first =>
        go_wp2_with fail
        go_loopw [9] (fun u wr => ∃ i : Nat, u = .int .i64 i ∧ i0 ≤ i ∧ i ≤ n + 1 ∧ (i ≤ i0 ∨ i ≤ j0 + 1) ∧ SrtB W0 g ok n dk wr ∧ Hid (scanUp (fun x => !ltB V x) dk j0 i = I4)) (fun u _ => j0 + 1 - (intOf u).toNat)
        case atStart => exact ⟨i0, by go_num, Nat.le_refl _, by omega, .inl (Nat.le_refl _), HK.out, HII4.out.symm⟩
        case round =>
          obtain ⟨i, rfl, hib, hin, hij, hsk, HO⟩ := hrel
          clear HK
          have HK := hide hsk
          clear hsk
          have hsu := scanUp.eq_1 (fun x => !ltB V x) dk j0 i
          by_cases hle : i ≤ j0
          · have t1 : decide ((i : Int) ≤ (j0 : Int)) = true := decide_eq_true (by omega)
            have z1 : (i : Int) < n := by omega
            have y1 := HK.out.cell i (by omega)
            have y0 := HK.out.cell a (by omega)
            rw [← HV.out] at y0
            have hcm : Hid (∀ q, Calls Try.prog 64 #[.int .u8 V, .int .u8 dk[i]!] (wr.drewN q) fun e w' => e = .returned (.bool (ltB V dk[i]!)) ∧ ∃ m, w' = (wr.drewN q).drewN m) := fun q => lessB_calls _ _ _
            have hneg : True := trivial
            cases hl : ltB V dk[i]! with
            | false =>
              rw [hl] at hcm
              rw [if_pos (by simp [hle, hl])] at hsu
              have HGO : Hid (scanUp (fun x => !ltB V x) dk j0 (i + 1) = I4) := by show _ = _; rw [← hsu]; exact HO.out
              clear hsu hl
              generalize dk[i]! = X at y1 hcm hneg
              go_wp2_with fail
              go_quiet ((go_at_call 64; exact Calls.quiet_of (hcm.out _)))
              go_wp2
              go_roundw
              case rel => exact ⟨i + 1, by go_num, by omega, by omega, .inr (by omega), HK.out.drewN _, HGO.out⟩
              case measure => simp [intOf]; omega
            | true =>
              rw [hl] at hcm
              rw [if_neg (by simp [hl])] at hsu
              have hI2 : I4 = i := by rw [← HO.out, hsu]
              clear hsu hl HO
              generalize dk[i]! = X at y1 hcm hneg
              subst hI2
              go_wp2_with fail
              go_quiet ((go_at_call 64; exact Calls.quiet_of (hcm.out _)))
              obtain ⟨W2, hW2⟩ : ∃ W2, W2 = wr.drewN nq := ⟨_, rfl⟩
              replace HK := hide (HK.out.drewN nq)
              rw [← hW2] at HK ⊢
              clear hW2
              go_wp2_with fail
              go_meet
              exact ⟨rfl, HK.out, by omega, by omega⟩
          · have t1 : decide ((i : Int) ≤ (j0 : Int)) = false := decide_eq_false (by omega)
            rw [if_neg (by simp [hle])] at hsu
            have hI2 : I4 = i := by rw [← HO.out, hsu]
            clear hsu HO
            subst hI2
            go_wp2_with fail
            go_quiet (fail)
            obtain ⟨W2, hW2⟩ : ∃ W2, W2 = wr.drewN nq := ⟨_, rfl⟩
            replace HK := hide (HK.out.drewN nq)
            rw [← hW2] at HK ⊢
            clear hW2
            go_wp2_with fail
            go_meet
            exact ⟨rfl, HK.out, by omega, by omega⟩
    case rest =>
      obtain ⟨rfl, hsk, b5, b6⟩ := hcut
      clear HK
      have HK := hide hsk
      clear hsk
      --QC
      go_upto_block 4 with fail
      go_cut [10] from 29 to 82 (fun u wx => u = .int .i64 J4 ∧ SrtB W0 g ok n dk wx ∧ a ≤ J4 ∧ J4 ≤ j0)
      case first =>
          go_wp2_with fail
          go_loopw [10] (fun u wr => ∃ j : Nat, u = .int .i64 j ∧ a ≤ j ∧ j ≤ j0 ∧ SrtB W0 g ok n dk wr ∧ Hid (scanDown (fun x => ltB V x) dk I4 j = J4)) (fun u _ => (intOf u).toNat)
          case atStart => exact ⟨j0, by go_num, by omega, Nat.le_refl _, HK.out, HJJ4.out.symm⟩
          case round =>
            obtain ⟨j, rfl, haj, hjj, hsk, HO⟩ := hrel
            clear HK
            have HK := hide hsk
            clear hsk
            by_cases hle : I4 ≤ j
            · obtain ⟨j, rfl⟩ : ∃ q, j = q + 1 := ⟨j - 1, by omega⟩
              have t1 : decide ((I4 : Int) ≤ ((j + 1 : Nat) : Int)) = true := decide_eq_true (by omega)
              have t1b : decide ((I4 : Int) ≤ (j : Int) + 1) = true := decide_eq_true (by omega)
              have z1 : (j : Int) + 1 < n := by omega
              have z1b : (I4 : Int) ≤ (j : Int) + 1 := by omega
              have y1 := HK.out.cell (j + 1) (by omega)
              have y0 := HK.out.cell a (by omega)
              rw [← HV.out] at y0
              have hcm : Hid (∀ q, Calls Try.prog 64 #[.int .u8 V, .int .u8 dk[j + 1]!] (wr.drewN q) fun e w' => e = .returned (.bool (ltB V dk[j + 1]!)) ∧ ∃ m, w' = (wr.drewN q).drewN m) := fun q => lessB_calls _ _ _
              have hneg : True := trivial
              have hsd : scanDown (fun x => ltB V x) dk I4 (j + 1) = if I4 ≤ j + 1 && ltB V dk[j + 1]! then scanDown (fun x => ltB V x) dk I4 j else j + 1 := rfl
              cases hl : ltB V dk[j + 1]! with
              | true =>
                rw [hl] at hcm
                rw [if_pos (by simp [hle, hl])] at hsd
                have HGO : Hid (scanDown (fun x => ltB V x) dk I4 j = J4) := by show _ = _; rw [← hsd]; exact HO.out
                clear hsd hl
                generalize dk[j + 1]! = X at y1 hcm hneg
                go_wp2_with fail
                go_quiet ((go_at_call 64; exact Calls.quiet_of (hcm.out _)))
                go_wp2
                go_roundw
                case rel => exact ⟨j, by go_num, by omega, by omega, HK.out.drewN _, HGO.out⟩
                case measure => simp [intOf]
              | false =>
                rw [hl] at hcm
                rw [if_neg (by simp [hl])] at hsd
                have hJ2 : J4 = j + 1 := by rw [← HO.out, hsd]
                clear hsd hl HO
                generalize dk[j + 1]! = X at y1 hcm hneg
                go_wp2_with fail
                go_quiet ((go_at_call 64; exact Calls.quiet_of (hcm.out _)))
                obtain ⟨W2, hW2⟩ : ∃ W2, W2 = wr.drewN nq := ⟨_, rfl⟩
                replace HK := hide (HK.out.drewN nq)
                rw [← hW2] at HK ⊢
                clear hW2
                go_wp2_with fail
                go_meet
                exact ⟨by first | (rw [hJ2]; go_num) | rw [hJ2], HK.out, by omega, by omega⟩
            · have t1 : decide ((I4 : Int) ≤ (j : Int)) = false := decide_eq_false (by omega)
              have hJ2 : J4 = j := by
                rw [← HO.out]
                cases j with
                | zero => rfl
                | succ q => show (if I4 ≤ q + 1 && _ then _ else q + 1) = q + 1; rw [if_neg (by simp; intro h; omega)]
              clear HO
              subst hJ2
              go_wp2_with fail
              go_quiet (fail)
              obtain ⟨W2, hW2⟩ : ∃ W2, W2 = wr.drewN nq := ⟨_, rfl⟩
              replace HK := hide (HK.out.drewN nq)
              rw [← hW2] at HK ⊢
              clear hW2
              go_wp2_with fail
              go_meet
              exact ⟨rfl, HK.out, by omega, by omega⟩
      case rest =>
        obtain ⟨rfl, hsk, b7, b8⟩ := hcut
        clear HK
        have HK := hide hsk
        clear hsk
        --QD
        by_cases hgt2 : I4 > J4
        · have t2 : decide ((I4 : Int) > (J4 : Int)) = true := decide_eq_true (by omega)
          have hres := HPL.out
          rw [if_pos hgt2] at hres
          subst hres
          go_wp2
          go_ret
          exact ⟨rfl, HK.out⟩
        · have t2 : decide ((I4 : Int) > (J4 : Int)) = false := decide_eq_false (by omega)
          have hres := HPL.out
          rw [if_neg hgt2, dif_pos (by omega)] at hres
          obtain ⟨J5, hJ5⟩ : ∃ q, J4 = q + 1 := ⟨J4 - 1, by omega⟩
          have hV3 : Hid (V = (swp dk I4 J4)[a]!) := by
            show _ = _
            have := HK.out.size
            rw [swp_at dk (by omega) (by omega) (by omega), if_neg (by omega), if_neg (by omega)]
            exact HV.out
          have HGO : Hid (partEqLoop ltB a (I4 + 1) J5 (swp dk I4 J4) = PR) := by
            show _ = _
            rw [hres, hJ5, Nat.add_sub_cancel]
          have y0 := HK.out.cell I4 (by omega)
          have y1 := HK.out.cell J4 (by omega)
          have f0 := HK.out.froz I4 (by omega)
          have f1 := HK.out.froz J4 (by omega)
          have hswp := hide (HK.out.swap (i := I4) (j := J4) (by omega) (by omega))
          have z5 : (I4 : Int) < n := by omega
          have z6 : (J4 : Int) < n := by omega
          generalize dk[I4]! = X at y0 hswp
          generalize dk[J4]! = Y at y1 hswp
          obtain ⟨u, hu⟩ : ∃ u, (wc.setCell ⟨g, I4, none⟩ (.int .u8 Y)).cell? ⟨g, J4, none⟩ = some u := by
            by_cases e : I4 = J4
            · rw [← e]; exact ⟨_, World.cell?_setCell_same _ _ _ y0⟩
            · exact ⟨_, (World.cell?_setCell_other _ _ _ _ (by intro e'; simp only [Addr.mk.injEq] at e'; exact e e'.2.1)).trans y1⟩
          have HJ5 := hide hJ5
          have e9 : (J4 : Int) - 1 = (J5 : Int) := by omega
          have m1 : J5 + 1 - (I4 + 1) < j0 + 1 - i0 := by omega
          clear HPL hres hJ5
          --QE
          go_wp2_with fail
          go_region
          all_goals
            go_wp2
            --QF
            go_roundw
            case rel => exact ⟨I4 + 1, J5, swp dk I4 J4, by go_num, by go_num, by omega, by omega, by have := HJ5.out; omega, by have := HJ5.out; omega, (by first | exact hswp.out | exact hswp.out.drew | exact hswp.out.drewN _), hV3.out, HGO.out⟩
            case measure => simp [intOf]; omega

end Go.Proofs.Ytmbniakobhaomaa

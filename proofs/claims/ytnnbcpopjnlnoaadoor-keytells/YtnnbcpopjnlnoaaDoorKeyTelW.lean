/-
  KeyTells, walked.
-/
import Derived.Test.YtnnbcpopjnlnoaaDoorKeyTel
import Derived.Test.YtnnbcpopjnlnoaaDoorKeyKnown
namespace Go.Proofs.YtnnbcpopjnlnoaaDoor
open Go.ChangeShapes Go.WideShapes Go.ChangeAt Go.RowKit
set_option linter.unusedVariables false
attribute [local go_sem ↓] Go.wp_at_zero Go.wp_at_succ
attribute [local go_sem] run_store_float

theorem and_3' (a : Int) : 0 ≤ bits .and .i64 a 3 ∧ bits .and .i64 a 3 ≤ 3 := by
  have h : (BitVec.ofInt 64 a &&& BitVec.ofInt 64 3).toNat < 4 := by
    rw [BitVec.toNat_and]
    have h7 : (BitVec.ofInt 64 3).toNat = 3 := by decide
    rw [h7]
    exact Nat.lt_of_le_of_lt Nat.and_le_right (by decide)
  have e : bits .and .i64 a 3 = ((BitVec.ofInt 64 a &&& BitVec.ofInt 64 3).toNat : Int) := by
    show IntKind.i64.wrap ((BitVec.ofInt 64 a &&& BitVec.ofInt 64 3).toNat : Int) = _
    generalize (BitVec.ofInt 64 a &&& BitVec.ofInt 64 3).toNat = k at h
    have := IntKind.wrap_i64 (k : Int)
    rw [this]
    omega
  rw [e]
  generalize (BitVec.ofInt 64 a &&& BitVec.ofInt 64 3).toNat = k at h
  omega

set_option maxRecDepth 20000 in
set_option maxHeartbeats 64000000 in
theorem keyTells_all (s0 : ByteArray) (k0 : Int) (a0 : Option Addr) (len0 cap0 : Nat) (l0 : List PT) (c0 : Int) (a1 : Option Addr) (len1 cap1 : Nat) (l1 : List VT) (a2 a3 : Int) (w : World)
    (m0 : len0 ≤ maxLen) (v0 : Prts w a0 len0 l0) (m1 : len1 ≤ maxLen) (v1 : Vals w a1 len1 l1) (hT : TabE w) :
    Calls Tryd.prog 3 #[.agg #[.string s0, .int .i64 k0, .slice a0 len0 cap0, .int .i64 c0], .slice a1 len1 cap1, .int .i64 a2, .int .i64 a3] w fun e w' => e = .returned (.bool true) ∧ Up w w' := by
  have HT := hide hT
  have H0 := hide v0
  have H1 := hide v1
  have hpl : l0.length = len0 := v0.1
  have hml : l1.length = len1 := v1.1
  clear hT v0 v1
  have uW : Hid (Up w (w.alloc (.cells #[.string s0, .int .i64 k0, .slice a0 len0 cap0, .int .i64 c0] 24))) := (Up.refl _).alloc _
  have d0 : (w.alloc (.cells #[.string s0, .int .i64 k0, .slice a0 len0 cap0, .int .i64 c0] 24)).cell? ⟨w.heap.size, 0, none⟩ = some (.string s0) := by go_simp
  have d1 : (w.alloc (.cells #[.string s0, .int .i64 k0, .slice a0 len0 cap0, .int .i64 c0] 24)).cell? ⟨w.heap.size, 1, none⟩ = some (.int .i64 k0) := by go_simp
  have d2 : (w.alloc (.cells #[.string s0, .int .i64 k0, .slice a0 len0 cap0, .int .i64 c0] 24)).cell? ⟨w.heap.size, 2, none⟩ = some (.slice a0 len0 cap0) := by go_simp
  have d3 : (w.alloc (.cells #[.string s0, .int .i64 k0, .slice a0 len0 cap0, .int .i64 c0] 24)).cell? ⟨w.heap.size, 3, none⟩ = some (.int .i64 c0) := by go_simp
  generalize hW : w.alloc (.cells #[.string s0, .int .i64 k0, .slice a0 len0 cap0, .int .i64 c0] 24) = W at uW d0 d1 d2 d3
  go_enter Tryd.func3, Tryd.ntmps3
  go_wp2_with fail
  clear hW
  go_at_call 7
  refine (known7_calls W (HT.out.up uW.out)).mono ?_
  rintro _ x ⟨rfl, hu⟩
  replace d0 := hu.cell d0
  replace d1 := hu.cell d1
  replace d2 := hu.cell d2
  replace d3 := hu.cell d3
  have U : Hid (Up w x) := uW.out.trans hu
  clear hu uW
  go_wp2_with fail
  go_at_call 8
  refine (hdef_calls s0 k0 a0 len0 cap0 c0 x).mono ?_
  rintro _ x' ⟨rfl, hu⟩
  replace d0 := hu.cell d0
  replace d1 := hu.cell d1
  replace d2 := hu.cell d2
  replace d3 := hu.cell d3
  replace U := hide (U.out.trans hu)
  clear hu
  obtain ⟨q, hq⟩ : ∃ q, helpDefB s0 len0 = q := ⟨_, rfl⟩
  rw [hq]
  cases q with
  | false =>
    clear hq
    go_wp2
    go_ret
    exact ⟨rfl, U.out⟩
  | true =>
  unfold helpDefB at hq
  simp only [Bool.and_eq_true, decide_eq_true_eq] at hq
  obtain ⟨hs60, h08⟩ := hq
  go_wp2_with fail
  go_at_call 9
  refine (few_calls a1 len1 cap1 l1 10 x' m1 (H1.out.up U.out)).mono ?_
  rintro _ y ⟨rfl, hy⟩
  obtain rfl : x' = y := hy.symm
  clear hy
  obtain ⟨q, hq⟩ : ∃ q, fewB l1 10 = q := ⟨_, rfl⟩
  rw [hq]
  cases q with
  | false =>
    clear hq
    go_wp2
    go_ret
    exact ⟨rfl, U.out⟩
  | true =>
  obtain ⟨hsh, h10⟩ := few_parts hq
  have HS := hide hsh
  have h110 : len1 ≤ 10 := by omega
  clear hq hsh h10
  obtain ⟨hA0, hA3⟩ := and_3' a2
  obtain ⟨A, hA⟩ : ∃ A, bits .and .i64 a2 3 = A := ⟨_, rfl⟩
  rw [hA] at hA0 hA3
  have hwW : w.heap.size < x'.heap.size := World.block_lt_of_cell? x' _ d0
  have uX : Hid (Up x' (x'.alloc (.cells #[.int .i64 0, .int .i64 0, .int .i64 0, .int .i64 0] 31))) := (Up.refl _).alloc _
  have MX : Hid (Met (x'.alloc (.cells #[.int .i64 0, .int .i64 0, .int .i64 0, .int .i64 0] 31)) x'.heap.size 0 0 0 0) := ⟨⟨by go_simp, by go_simp, by go_simp, by go_simp⟩, fun i => by go_simp⟩
  have hxX : x'.heap.size < (x'.alloc (.cells #[.int .i64 0, .int .i64 0, .int .i64 0, .int .i64 0] 31)).heap.size := by simp
  generalize hX : x'.alloc (.cells #[.int .i64 0, .int .i64 0, .int .i64 0, .int .i64 0] 31) = X at uX MX hxX
  replace d0 := uX.out.cell d0
  replace d1 := uX.out.cell d1
  replace d2 := uX.out.cell d2
  replace d3 := uX.out.cell d3
  go_wp2_with fail
  clear hX
  go_at_call 10
  refine (phooksM_calls (some ⟨x'.heap.size, 0, none⟩) X).mono ?_
  rintro _ y ⟨ea, ec, EL, ca, cc, CL, rfl, hfe, hfc, hxe, hxc, hre, hrc, hu⟩
  replace d0 := hu.cell d0
  replace d1 := hu.cell d1
  replace d2 := hu.cell d2
  replace d3 := hu.cell d3
  have UY : Hid (Up x' y) := uX.out.trans hu
  have MY := hide (MX.out.up hu)
  have hxy : x'.heap.size < y.heap.size := Nat.lt_of_lt_of_le hxX hu.size
  have HFE := hide hfe
  have HXE := hide hxe
  have HRE := hide hre
  clear hu MX uX hfe hfc hxe hxc hre hrc
  have uZ : Hid (Up y (y.alloc (.cells #[.slice ea 5 ec, .slice ca 3 cc] 35))) := (Up.refl _).alloc _
  have h0 : (y.alloc (.cells #[.slice ea 5 ec, .slice ca 3 cc] 35)).cell? ⟨y.heap.size, 0, none⟩ = some (.slice ea 5 ec) := by go_simp
  have h1 : (y.alloc (.cells #[.slice ea 5 ec, .slice ca 3 cc] 35)).cell? ⟨y.heap.size, 1, none⟩ = some (.slice ca 3 cc) := by go_simp
  generalize hZ : y.alloc (.cells #[.slice ea 5 ec, .slice ca 3 cc] 35) = Z at uZ h0 h1
  replace d0 := uZ.out.cell d0
  replace d1 := uZ.out.cell d1
  replace d2 := uZ.out.cell d2
  replace d3 := uZ.out.cell d3
  have HA := hide hA
  go_wp2_with fail
  clear hZ
  go_at_call 11
  refine (mset_g x'.heap.size 0 0 0 0 A a3 Z hA0 (MY.out.up uZ.out)).mono ?_
  rintro _ z ⟨rfl, hmz, hcz⟩
  have hwx : w.heap.size < x'.heap.size := Nat.lt_of_lt_of_le hwW (Nat.le_refl _)
  have nD : ¬ w.heap.size = x'.heap.size := by omega
  have nH : ¬ y.heap.size = x'.heap.size := by omega
  replace d0 := hcz.cell d0 nD
  replace d1 := hcz.cell d1 nD
  replace d2 := hcz.cell d2 nD
  replace d3 := hcz.cell d3 nD
  replace h0 := hcz.cell h0 nH
  replace h1 := hcz.cell h1 nH
  have CZ : Hid (Chg (fun g => g = x'.heap.size) y z) := Chg.trans (Chg.of_up uZ.out) hcz (fun g _ h => h)
  have MZ := hide hmz
  clear hcz hmz uZ MY
  have UZ : Hid (Up w z) := U.out.trans (Chg.up (C := fun g => g = x'.heap.size) (Chg.trans (Chg.of_up UY.out) CZ.out (fun g _ h => h)) (fun g hg e => by omega))
  go_wp2_with fail
  go_at_call 12
  refine (copyS_calls a1 len1 cap1 l1 z (by omega) (H1.out.up UZ.out)).mono ?_
  rintro _ z2 ⟨wa, wc, rfl, hwv, hwr, hu⟩
  replace d0 := hu.cell d0
  replace d1 := hu.cell d1
  replace d2 := hu.cell d2
  replace d3 := hu.cell d3
  replace h0 := hu.cell h0
  replace h1 := hu.cell h1
  have HWV := hide hwv
  have HWR := hide hwr
  have MZ2 := hide (MZ.out.up hu)
  have CZ2 : Hid (Chg (fun g => g = x'.heap.size) y z2) := CZ.out.andUp hu
  have UZ2 : Hid (Up w z2) := UZ.out.trans hu
  have hzx : x'.heap.size < z.heap.size := Nat.lt_of_lt_of_le hxy CZ.out.size
  clear hu hwv hwr MZ CZ UZ
  have hin : ∀ g, InM (some ⟨x'.heap.size, 0, none⟩) g → g = x'.heap.size := fun g hg => by obtain ⟨p, hp, rfl⟩ := hg; cases hp; rfl
  have htl : ¬ 0 = x'.heap.size := fun e => by have := World.block_lt_of_cell? w _ HT.out; simp at this; omega
  have HOI : Hid (OfIn z2 (some ⟨x'.heap.size, 0, none⟩) ea a0 a1 5 len0 len1 EL l0 l1) := by
    refine ⟨HT.out.up UZ2.out, fun h => htl (hin _ h), H0.out.up UZ2.out, H1.out.up UZ2.out, HFE.out.chgM CZ2.out (fun b _ hb e => by have := HRE.out b hb; omega), fun q hq => ?_, h08, by omega, by decide, HS.out, fun b hb0 hb h => ?_, fun b hb0 hb h => ?_, fun b _ hb h => ?_⟩
    · obtain ⟨mx, nx, g1, g2, g3, g4, g5⟩ := HXE.out q (by rw [HFE.out.1]; exact hq)
      exact ⟨mx, nx, g1, CZ2.out.cell g2 (by show ¬ mx = x'.heap.size; omega), CZ2.out.cell g3 (by show ¬ nx = x'.heap.size; omega), fun h => by have := hin _ h; omega, fun h => by have := hin _ h; omega⟩
    · obtain ⟨o, rfl⟩ := hb
      rcases H0.out.2.2 with e0 | ⟨b', o', he, hxv⟩
      · exact hb0 e0
      · cases he
        have := World.block_lt_of_cell? w _ (hxv 0 (by omega) 0 _ rfl)
        have := hin _ h
        simp at *
        omega
    · obtain ⟨o, rfl⟩ := hb
      rcases H1.out.2.2 with e0 | ⟨b', o', he, hxv⟩
      · exact hb0 e0
      · cases he
        have := World.block_lt_of_cell? w _ (hxv 0 (by omega)).1
        have := hin _ h
        simp at *
        omega
    · have := HRE.out b hb
      have := hin _ h
      omega
  clear HFE HXE
  go_wp2_with fail
  go_at_call 13
  refine (of_calls s0 k0 c0 (some ⟨x'.heap.size, 0, none⟩) ea ca a0 a1 5 ec 3 cc len0 cap0 len1 cap1 EL l0 l1 A (bits .and .i64 a3 1023) z2 hs60 HOI.out (fun h => by cases h) (fun p hp => by cases hp; exact ⟨rfl, MZ2.out⟩)).mono ?_
  intro e' v hof
  obtain ⟨hcv, Bd, K, C, s1, ev, ra, rn, rc, rfl, hto⟩ := tellsOut HOI.out.tab HOI.out.tabm hof
  have TO := hide hto
  have nD' : ¬ InM (some ⟨x'.heap.size, 0, none⟩) w.heap.size := fun h => nD (hin _ h)
  replace d0 := hcv.cell d0 nD'
  replace d1 := hcv.cell d1 nD'
  replace d2 := hcv.cell d2 nD'
  replace d3 := hcv.cell d3 nD'
  have UV : Hid (Up w v) := Chg.up (C := InM (some ⟨x'.heap.size, 0, none⟩)) (Chg.trans (Chg.of_up UZ2.out) hcv (fun g _ h => h)) (fun g hg e => by have := hin _ e; omega)
  have WV : Hid (Vals v wa len1 l1) := HWV.out.chg hcv (fun b hb e => by have := hin _ e; have := (HWR.out b hb).1; omega)
  have MV : Hid (Met v x'.heap.size C A (bits .and .i64 a3 1023) s1) := (hto.met _ rfl).2
  clear hcv hto hof HOI HWV HWR MZ2 CZ2 UZ2 h0 h1 HRE
  go_wp2_with fail
  go_at_call 14
  refine (same_calls' wa a1 len1 wc cap1 l1 v m1 WV.out (H1.out.up UV.out)).mono ?_
  rintro _ v2 ⟨rfl, hu⟩
  replace d0 := hu.cell d0
  replace d1 := hu.cell d1
  replace d2 := hu.cell d2
  replace d3 := hu.cell d3
  have HU2 := hide hu
  clear hu WV
  go_wp2_with fail
  clear nD nH hzx hxy hxX hin htl nD' UY hwx hwW
  have HA0 := hide hA0
  clear hA0 hA3
  go_loopw [14, 15, 16] (fun cs bs i wr => ∃ (k : Nat) (c b : Int), k ≤ len0 ∧ i = .int .i64 k ∧ cs = .int .i64 c ∧ bs = .int .i64 b ∧ TelR l0 Bd K C k c b ∧ Up v2 wr) (fun _ _ i _ => len0 - (intOf i).toNat)
  case atStart => exact ⟨0, 0, 0, Nat.zero_le _, rfl, rfl, rfl, .inl ⟨Nat.zero_le _, by simp [cntP], rfl⟩, Up.refl _⟩
  case round =>
    obtain ⟨k, c, b, hk, rfl, rfl, rfl, hTR, hur⟩ := hrel
    have HUR := hide hur
    clear hur
    rcases hTR with ⟨hK, rfl, rfl⟩ | ⟨hkK, hKl, rfl, rfl⟩
    · by_cases hlt : k < len0
      · have t0 : decide ((k : Int) < len0) = true := decide_eq_true (by omega)
        obtain ⟨pb, po, rfl, p0, p1⟩ := (H0.out.up (UV.out.trans (HU2.out.trans HUR.out))).prt hlt
        obtain ⟨⟨f, q⟩, hP⟩ : ∃ P, P = l0.getD k zeroP := ⟨_, rfl⟩
        rw [← hP] at p0 p1
        dsimp only at p0 p1
        have HP := hide hP
        have hkn : (k : Int) < len0 := by omega
        have hn63 : len0 ≤ 2 ^ 63 - 1 := by omega
        have hcl := cntP_le l0 k
        have hcc := cntP_succ l0 k (by omega)
        rw [← hP] at hcc
        have HCC := hide hcc
        clear hP hcc
        have d2 := HUR.out.cell d2
        have uX : Hid (Up wr (wr.alloc (.cells #[.int .i64 f, .int .i64 q] 45))) := (Up.refl _).alloc _
        have x0 : (wr.alloc (.cells #[.int .i64 f, .int .i64 q] 45)).cell? ⟨wr.heap.size, 0, none⟩ = some (.int .i64 f) := by go_simp
        have x1 : (wr.alloc (.cells #[.int .i64 f, .int .i64 q] 45)).cell? ⟨wr.heap.size, 1, none⟩ = some (.int .i64 q) := by go_simp
        generalize hX : wr.alloc (.cells #[.int .i64 f, .int .i64 q] 45) = X at uX x0 x1
        by_cases hA1 : (len1 : Int) ≤ f
        · have t1 : decide ((len1 : Int) ≤ f) = true := decide_eq_true hA1
          have HTH : Hid (thereB 5 len1 (f, q) = false) := by
            show thereB 5 len1 (f, q) = false
            unfold thereB knumB
            rw [if_neg (by dsimp only; omega)]
            simp
            omega
          go_wp2_with fail
          refine ⟨⟨k + 1, _, _, by omega, by go_num, rfl, rfl, TelR.bad TO.out (by omega) hK (by decide) (badP_there (by rw [← HP.out, hml]; exact HTH.out)) (.inl ⟨rfl, rfl⟩), HUR.out.trans uX.out⟩, by simp [intOf]; omega⟩
        have t1 : decide ((len1 : Int) ≤ f) = false := decide_eq_false hA1
        by_cases hA2 : f < -1
        · have t2 : decide (f < -1) = true := decide_eq_true hA2
          have HTH : Hid (thereB 5 len1 (f, q) = false) := by
            show thereB 5 len1 (f, q) = false
            unfold thereB knumB
            rw [if_neg (by dsimp only; omega)]
            simp
            omega
          go_wp2_with fail
          refine ⟨⟨k + 1, _, _, by omega, by go_num, rfl, rfl, TelR.bad TO.out (by omega) hK (by decide) (badP_there (by rw [← HP.out, hml]; exact HTH.out)) (.inl ⟨rfl, rfl⟩), HUR.out.trans uX.out⟩, by simp [intOf]; omega⟩
        have t2 : decide (f < -1) = false := decide_eq_false hA2
        by_cases hf : f = -1
        · subst hf
          by_cases hB1 : q < 0
          · have t3 : decide (q < 0) = true := decide_eq_true hB1
            have HTH : Hid (thereB 5 len1 (-1, q) = false) := by
              show thereB 5 len1 (-1, q) = false
              unfold thereB knumB
              rw [if_pos rfl]
              simp
              omega
            go_wp2_with fail
            refine ⟨⟨k + 1, _, _, by omega, by go_num, rfl, rfl, TelR.bad TO.out (by omega) hK (by decide) (badP_there (by rw [← HP.out, hml]; exact HTH.out)) (.inl ⟨rfl, rfl⟩), HUR.out.trans uX.out⟩, by simp [intOf]; omega⟩
          have t3 : decide (q < 0) = false := decide_eq_false hB1
          by_cases hB2 : 5 ≤ q
          · have t4 : decide (5 ≤ q) = true := decide_eq_true hB2
            have HTH : Hid (thereB 5 len1 (-1, q) = false) := by
              show thereB 5 len1 (-1, q) = false
              unfold thereB knumB
              rw [if_pos rfl]
              simp
              omega
            go_wp2_with fail
            refine ⟨⟨k + 1, _, _, by omega, by go_num, rfl, rfl, TelR.bad TO.out (by omega) hK (by decide) (badP_there (by rw [← HP.out, hml]; exact HTH.out)) (.inl ⟨rfl, rfl⟩), HUR.out.trans uX.out⟩, by simp [intOf]; omega⟩
          have t4 : decide (5 ≤ q) = false := decide_eq_false hB2
          have HTH : Hid (thereB 5 len1 (-1, q) = true) := by
            show thereB 5 len1 (-1, q) = true
            unfold thereB knumB
            rw [if_pos rfl]
            simp
            omega
          have HQ : Hid (q = 0 ∨ q = 1 ∨ q = 2 ∨ q = 3 ∨ q = 4) := by show q = 0 ∨ q = 1 ∨ q = 2 ∨ q = 3 ∨ q = 4; omega
          clear hA1 hA2 hB1 hB2
          by_cases hca : (cntP l0 k : Int) + 1 = A
          · have t5 : ((cntP l0 k : Int) + 1 == A) = true := by rw [beq_iff_eq]; exact hca
            have HCA := hide hca
            clear hca
            go_wp2_with fail
            refine ⟨⟨k + 1, _, _, by omega, by go_num, rfl, rfl, TelR.bad TO.out (by omega) hK (by decide) (badP_fault (by rw [← HP.out, hml]; exact HTH.out) (by rw [← HP.out]) (.inl HCA.out)) (.inr ⟨rfl, rfl⟩), HUR.out.trans uX.out⟩, by simp [intOf]; omega⟩
          · have t5 : ((cntP l0 k : Int) + 1 == A) = false := by rw [beq_eq_false_iff_ne]; exact hca
            have HCA := hide hca
            clear hca
            go_wp2_with fail
            go_at_call 16
            refine (rexW_calls q a1 len1 cap1 l1 X (by omega) (H1.out.up (UV.out.trans (HU2.out.trans (HUR.out.trans uX.out)))) HS.out HQ.out).mono ?_
            rintro _ Y ⟨rfl, huy⟩
            replace uX := hide (uX.out.trans huy)
            clear huy x0 x1
            go_wp2_with fail
            go_at_call 15
            refine (ris_calls _ _ _ _ Y).mono ?_
            rintro _ Y2 ⟨rfl, huy⟩
            replace uX := hide (uX.out.trans huy)
            clear huy
            obtain ⟨bb, hbb⟩ : ∃ bb, isB ((exW q l1).1, (exW q l1).2.1, (exW q l1).2.2.1, (exW q l1).2.2.2) = bb := ⟨_, rfl⟩
            rw [hbb]
            have HBB : Hid (isB (exW q l1) = bb) := hbb
            clear hbb
            cases bb with
            | false =>
              go_wp2_with fail
              refine ⟨⟨k + 1, _, _, by omega, by go_num, rfl, rfl, TelR.bad TO.out (by omega) hK (by decide) (badP_fault (by rw [← HP.out, hml]; exact HTH.out) (by rw [← HP.out]) (.inr (by rw [← HP.out]; exact HBB.out))) (.inr ⟨rfl, rfl⟩), HUR.out.trans uX.out⟩, by simp [intOf]; omega⟩
            | true =>
              go_wp2_with fail
              refine ⟨⟨k + 1, _, _, by omega, by go_num, rfl, rfl, TelR.good TO.out (by omega) hK (badP_good (by rw [← HP.out, hml]; exact HTH.out) HCA.out (by rw [← HP.out]; exact HBB.out)) (by have := HCC.out; rw [if_pos trivial] at this; omega), HUR.out.trans uX.out⟩, by simp [intOf]; omega⟩
        · have t3 : (f == -1) = false := by rw [beq_eq_false_iff_ne]; exact hf
          have HTH : Hid (thereB 5 len1 (f, q) = true) := by
            show thereB 5 len1 (f, q) = true
            unfold thereB knumB
            rw [if_neg hf]
            simp
            omega
          have HF := hide hf
          clear hA1 hA2 hf
          go_wp2_with fail
          refine ⟨⟨k + 1, _, _, by omega, by go_num, rfl, rfl, TelR.good TO.out (by omega) hK (badP_field (by rw [← HP.out, hml]; exact HTH.out) (by rw [← HP.out]; exact HF.out)) (by have := HCC.out; rw [if_neg HF.out] at this; omega), HUR.out.trans uX.out⟩, by simp [intOf]; omega⟩

      · obtain rfl : k = len0 := by omega
        have t0 : decide ((k : Int) < k) = false := decide_eq_false (by omega)
        obtain rfl : Bd = 0 := TO.out.full (by have := TO.out.kle; omega)
        obtain rfl : C = (cntP l0 k : Int) := by rw [TO.out.cnt0 rfl, hpl]
        have e0 := HUR.out.cell d0
        have e1 := HUR.out.cell d1
        have e2 := HUR.out.cell d2
        have e3 := HUR.out.cell d3
        have mm : wr.cell? ⟨x'.heap.size, 0, none⟩ = some (.int .i64 (cntP l0 k : Int)) := (HU2.out.trans HUR.out).cell MV.out.1.1
        obtain ⟨hrn, hrv⟩ := TO.out.key0 rfl
        have HRV := hide hrv
        have hgood := TO.out.good
        have HG : Hid (∀ j, j < k → thereB 5 len1 (l0.getD j zeroP) = true) := by
          intro j hj
          have hb := hgood j (by have := TO.out.kle; have := TO.out.stop; by_cases h : K < l0.length; exact absurd rfl (TO.out.stop h).2; omega)
          cases hc : thereB 5 len1 (l0.getD j zeroP) with
          | true => rfl
          | false => rw [badP_there (by rw [hml]; exact hc)] at hb; exact absurd hb (by decide)
        clear hrv hgood
        go_wp2_with fail
        refine region_up (by kernel_rfl) (by kernel_rfl) ?_
        repeat (first
          | go_big_quiet_skip
          | (go_big_quiet_want; go_big_quiet_op; go_big_quiet_on)
          | (go_big_quiet_want
             apply Exists.intro
             refine ⟨fun w' hw' => ?_, ?_⟩
             (skip
              have e0 := hw'.cell e0
              have mm := hw'.cell mm
              go_simp
              first
              | done
              | with_reducible rfl
              | (go_at_call 17; exact quiet_call hw' (TO.out.cls w' (HU2.out.trans (HUR.out.trans hw'))))
             )
             go_big_quiet_on
             try simp only [Act.put, List.setIfInBounds_toArray, List.set_cons_zero, List.set_cons_succ]))
        refine wpQuiet_nil ?_
        intro w6 hw6
        replace e0 := hw6.cell e0
        replace e1 := hw6.cell e1
        replace e2 := hw6.cell e2
        replace e3 := hw6.cell e3
        have U6 : Hid (Up v w6) := HU2.out.trans (HUR.out.trans hw6)
        clear hw6 mm
        go_wp2_with fail
        go_at_call 19
        refine (rof7_calls s0 k0 c0 a0 a1 k cap0 len1 cap1 l0 l1 w6 h08 (by omega) (H0.out.up (UV.out.trans U6.out)) (H1.out.up (UV.out.trans U6.out)) HS.out HG.out).mono ?_
        rintro _ w7 ⟨oa, oc, rfl, hov, hu7⟩
        have HOV := hide hov
        replace U6 := hide (U6.out.trans hu7)
        clear hov hu7
        obtain rfl : rn = k := by omega
        have HRV7 : Hid (Vals w7 ra rn (keyP l1 l0 rn)) := by
          have h := HRV.out.up U6.out
          rw [hpl] at h
          exact h
        clear hrn
        go_wp2_with fail
        go_at_call 14
        refine (same_calls' ra oa rn rc oc (keyP l1 l0 rn) w7 m0 HRV7.out HOV.out).mono ?_
        rintro _ w8 ⟨rfl, hu8⟩
        replace U6 := hide (U6.out.trans hu8)
        clear hu8
        go_wp2
        go_ret
        exact ⟨rfl, UV.out.trans U6.out⟩
    · have hBd := TO.out.stop hKl
      have hBd3 := TO.out.bd
      by_cases hlt : k < len0
      · have t0 : decide ((k : Int) < len0) = true := decide_eq_true (by omega)
        rcases hBd3 with rfl | rfl | rfl
        · exact absurd rfl hBd.2
        · have d2' := HUR.out.cell d2
          have e0 := HUR.out.cell d0
          have e1 := HUR.out.cell d1
          have e2 := HUR.out.cell d2
          have e3 := HUR.out.cell d3
          have mm : wr.cell? ⟨x'.heap.size, 0, none⟩ = some (.int .i64 c) := (HU2.out.trans HUR.out).cell MV.out.1.1
          obtain rfl : rn = 0 := TO.out.key1 (by decide)
          go_wp2_with fail
          refine region_up (by kernel_rfl) (by kernel_rfl) ?_
          repeat (first
            | go_big_quiet_skip
            | (go_big_quiet_want; go_big_quiet_op; go_big_quiet_on)
            | (go_big_quiet_want
               apply Exists.intro
               refine ⟨fun w' hw' => ?_, ?_⟩
               (skip
                have e0 := hw'.cell e0
                have mm := hw'.cell mm
                go_simp
                first
                | done
                | with_reducible rfl
                | (go_at_call 17; exact quiet_call hw' (TO.out.cls w' (HU2.out.trans (HUR.out.trans hw'))))
               )
               go_big_quiet_on
               try simp only [Act.put, List.setIfInBounds_toArray, List.set_cons_zero, List.set_cons_succ]))
          refine wpQuiet_nil ?_
          intro w6 hw6
          have U6 : Hid (Up w w6) := UV.out.trans (HU2.out.trans (HUR.out.trans hw6))
          clear hw6 mm
          go_wp2
          go_ret
          exact ⟨rfl, U6.out⟩
        · have d2' := HUR.out.cell d2
          have e0 := HUR.out.cell d0
          have e1 := HUR.out.cell d1
          have e2 := HUR.out.cell d2
          have e3 := HUR.out.cell d3
          have mm : wr.cell? ⟨x'.heap.size, 0, none⟩ = some (.int .i64 c) := (HU2.out.trans HUR.out).cell MV.out.1.1
          obtain rfl : rn = 0 := TO.out.key1 (by decide)
          go_wp2_with fail
          refine region_up (by kernel_rfl) (by kernel_rfl) ?_
          repeat (first
            | go_big_quiet_skip
            | (go_big_quiet_want; go_big_quiet_op; go_big_quiet_on)
            | (go_big_quiet_want
               apply Exists.intro
               refine ⟨fun w' hw' => ?_, ?_⟩
               (skip
                have e0 := hw'.cell e0
                have mm := hw'.cell mm
                go_simp
                first
                | done
                | with_reducible rfl
                | (go_at_call 17; exact quiet_call hw' (TO.out.cls w' (HU2.out.trans (HUR.out.trans hw'))))
                | (go_at_call 18; exact quiet_call hw' (TO.out.whr rfl w' (HU2.out.trans (HUR.out.trans hw'))))
               )
               go_big_quiet_on
               try simp only [Act.put, List.setIfInBounds_toArray, List.set_cons_zero, List.set_cons_succ]))
          refine wpQuiet_nil ?_
          intro w6 hw6
          have U6 : Hid (Up w w6) := UV.out.trans (HU2.out.trans (HUR.out.trans hw6))
          clear hw6 mm
          go_wp2
          go_ret
          exact ⟨rfl, U6.out⟩
      · obtain rfl : k = len0 := by omega
        have t0 : decide ((k : Int) < k) = false := decide_eq_false (by omega)
        rcases hBd3 with rfl | rfl | rfl
        · exact absurd rfl hBd.2
        · have d2' := HUR.out.cell d2
          have e0 := HUR.out.cell d0
          have e1 := HUR.out.cell d1
          have e2 := HUR.out.cell d2
          have e3 := HUR.out.cell d3
          have mm : wr.cell? ⟨x'.heap.size, 0, none⟩ = some (.int .i64 c) := (HU2.out.trans HUR.out).cell MV.out.1.1
          obtain rfl : rn = 0 := TO.out.key1 (by decide)
          go_wp2_with fail
          refine region_up (by kernel_rfl) (by kernel_rfl) ?_
          repeat (first
            | go_big_quiet_skip
            | (go_big_quiet_want; go_big_quiet_op; go_big_quiet_on)
            | (go_big_quiet_want
               apply Exists.intro
               refine ⟨fun w' hw' => ?_, ?_⟩
               (skip
                have e0 := hw'.cell e0
                have mm := hw'.cell mm
                go_simp
                first
                | done
                | with_reducible rfl
                | (go_at_call 17; exact quiet_call hw' (TO.out.cls w' (HU2.out.trans (HUR.out.trans hw'))))
               )
               go_big_quiet_on
               try simp only [Act.put, List.setIfInBounds_toArray, List.set_cons_zero, List.set_cons_succ]))
          refine wpQuiet_nil ?_
          intro w6 hw6
          have U6 : Hid (Up w w6) := UV.out.trans (HU2.out.trans (HUR.out.trans hw6))
          clear hw6 mm
          go_wp2
          go_ret
          exact ⟨rfl, U6.out⟩
        · have d2' := HUR.out.cell d2
          have e0 := HUR.out.cell d0
          have e1 := HUR.out.cell d1
          have e2 := HUR.out.cell d2
          have e3 := HUR.out.cell d3
          have mm : wr.cell? ⟨x'.heap.size, 0, none⟩ = some (.int .i64 c) := (HU2.out.trans HUR.out).cell MV.out.1.1
          obtain rfl : rn = 0 := TO.out.key1 (by decide)
          go_wp2_with fail
          refine region_up (by kernel_rfl) (by kernel_rfl) ?_
          repeat (first
            | go_big_quiet_skip
            | (go_big_quiet_want; go_big_quiet_op; go_big_quiet_on)
            | (go_big_quiet_want
               apply Exists.intro
               refine ⟨fun w' hw' => ?_, ?_⟩
               (skip
                have e0 := hw'.cell e0
                have mm := hw'.cell mm
                go_simp
                first
                | done
                | with_reducible rfl
                | (go_at_call 17; exact quiet_call hw' (TO.out.cls w' (HU2.out.trans (HUR.out.trans hw'))))
                | (go_at_call 18; exact quiet_call hw' (TO.out.whr rfl w' (HU2.out.trans (HUR.out.trans hw'))))
               )
               go_big_quiet_on
               try simp only [Act.put, List.setIfInBounds_toArray, List.set_cons_zero, List.set_cons_succ]))
          refine wpQuiet_nil ?_
          intro w6 hw6
          have U6 : Hid (Up w w6) := UV.out.trans (HU2.out.trans (HUR.out.trans hw6))
          clear hw6 mm
          go_wp2
          go_ret
          exact ⟨rfl, U6.out⟩


end Go.Proofs.YtnnbcpopjnlnoaaDoor

/-
  KeyCompares, walked.
-/
import Derived.Test.YtnnbcpopjnlnoaaDoorKeyCmp
import Derived.Test.YtnnbcpopjnlnoaaDoorKeyTel
import Derived.Test.YtnnbcpopjnlnoaaDoorKeyKnown
namespace Go.Proofs.YtnnbcpopjnlnoaaDoor
open Go.ChangeShapes Go.WideShapes Go.ChangeAt Go.RowKit
set_option linter.unusedVariables false
attribute [local go_sem ↓] Go.wp_at_zero Go.wp_at_succ
attribute [local go_sem] run_store_float

theorem and_1' (a : Int) : 0 ≤ bits .and .i64 a 1 ∧ bits .and .i64 a 1 ≤ 1 := by
  have h : (BitVec.ofInt 64 a &&& BitVec.ofInt 64 1).toNat < 2 := by
    rw [BitVec.toNat_and]
    have h7 : (BitVec.ofInt 64 1).toNat = 1 := by decide
    rw [h7]
    exact Nat.lt_of_le_of_lt Nat.and_le_right (by decide)
  have e : bits .and .i64 a 1 = ((BitVec.ofInt 64 a &&& BitVec.ofInt 64 1).toNat : Int) := by
    show IntKind.i64.wrap ((BitVec.ofInt 64 a &&& BitVec.ofInt 64 1).toNat : Int) = _
    generalize (BitVec.ofInt 64 a &&& BitVec.ofInt 64 1).toNat = k at h
    have := IntKind.wrap_i64 (k : Int)
    rw [this]
    omega
  rw [e]
  generalize (BitVec.ofInt 64 a &&& BitVec.ofInt 64 1).toNat = k at h
  omega

/-- What came of key.Compare. -/
def KcOut (mb : Nat) (h : Int) (s : ByteArray) (cd : Int) (m l : List VT) (r : Int) (ev : Value) (w' : World) : Prop :=
  (ev = .nilIface ∧ r = keysV cd m l ∧ ∃ c a, Met w' mb c a h 0) ∨
  (r = 0 ∧ ∃ b k, ev = .iface 79 (.pointer (some ⟨b, 0, none⟩)) ∧ Met w' mb 1 1 h 1 ∧ FaultAt w' b 0 s (.iface 96 (.pointer (some ⟨k, 0, none⟩))) .nilIface ∧ w'.cell? ⟨k, 0, none⟩ = some (.int .i64 1001))
theorem kcmp_all (s : ByteArray) (kd cd : Int) (mb B : Nat) (pa ae ac av bv : Option Addr) (np pc ne ce cc n c p d : Nat) (L : List Value) (m l : List VT) (a h : Int) (w : World) (hcd : cd = -1 ∨ cd = 0 ∨ cd = 1 ∨ cd = 2) (hs : s.size ≤ 60) (hT : TabE w) (hTm : ¬ 0 = mb) (ha : a = 0 ∨ a = 1) (hn : n ≤ 12) (hv : Vals w av n m) (hsh : ∀ i, (m.getD i zeroT).2.2.1.size ≤ 200) (hp : p ≤ 12) (hw : Vals w bv p l) (hsl : ∀ i, (l.getD i zeroT).2.2.1.size ≤ 200) (hm : Met w mb 0 a h 0) (hf : FnsH w ac 3 L) (hx : AllX 48 w (some ⟨mb, 0, none⟩) B L) (hB : mb < B) :
    Calls Tryd.prog 21 #[.agg #[.string s, .int .i64 kd, .slice pa np pc, .int .i64 cd], .agg #[.slice ae ne ce, .slice ac 3 cc], .slice av n c, .slice bv p d] w fun e w' => ∃ r ev, e = .returned (.tuple #[.int .i64 r, ev]) ∧ Chg (fun g => g = mb) w w' ∧ KcOut mb h s cd m l r ev w' := by
  by_cases h1 : cd = -1
  · subst h1
    refine (kcmp_rows s kd pa av bv np pc n c p d _ m l w ⟨ae, ne, ce, ac, 3, cc, rfl⟩ (by unfold maxLen; omega) (by unfold maxLen; omega) hv hw).mono ?_
    rintro _ w' ⟨rfl, hu⟩
    exact ⟨_, _, rfl, Chg.of_up hu, .inl ⟨rfl, by unfold keysV; rw [if_pos rfl], 0, a, hm.up hu⟩⟩
  · obtain ⟨q, rfl⟩ : ∃ q : Nat, cd = q := ⟨cd.toNat, by omega⟩
    have hq3 : q < 3 := by omega
    obtain ⟨mx, nx, g1, g2, g3, g4, g5⟩ := hx q (by rw [hf.1]; exact hq3)
    refine (kcmp_hook s kd q pa ae ac np pc ne ce 3 cc (.slice av n c) (.slice bv p d) L _ (fun w1 r ev w' => Chg (fun g => g = mb) w1 w' ∧ CmpOut w1.heap.size mb a h s (q : Int) m l r ev w') w (by decide) hq3 hf g1 (fun w1 hu => cmp_step mb mx nx (q : Int) a h s av bv n c p d m l w1 hs (hT.up hu) hTm (by omega) ha hn (hv.up hu) hsh hp (hw.up hu) hsl (hm.up hu) (hu.cell g2) (hu.cell g3) (by omega))).mono ?_
    rintro _ w' ⟨w1, r, ev, hu, rfl, hc, ho⟩
    refine ⟨r, ev, rfl, Chg.trans (Chg.of_up hu) hc (fun g _ h => h), ?_⟩
    rcases ho with ⟨rfl, rfl, hr, h5⟩ | ⟨rfl, hr, b, k, h5, h6, h7, h8, h9, h10⟩
    · exact .inl ⟨rfl, by rw [hr]; unfold keysV; rw [if_neg h1], _, _, h5⟩
    · exact .inr ⟨hr, b, k, h5, h8, h9, h10⟩

set_option maxRecDepth 20000 in
set_option maxHeartbeats 64000000 in
theorem keyCompares_all (s0 : ByteArray) (k0 : Int) (a0 : Option Addr) (len0 cap0 : Nat) (l0 : List PT) (c0 : Int) (a1 : Option Addr) (len1 cap1 : Nat) (l1 : List VT) (a2 : Option Addr) (len2 cap2 : Nat) (l2 : List VT) (a3 a4 a5 a6 : Int) (w : World)
    (m0 : len0 ≤ maxLen) (v0 : Prts w a0 len0 l0) (m1 : len1 ≤ maxLen) (n1 : len1 ≤ cap1) (o1 : cap1 ≤ maxLen) (v1 : Vals w a1 len1 l1) (m2 : len2 ≤ maxLen) (n2 : len2 ≤ cap2) (o2 : cap2 ≤ maxLen) (v2 : Vals w a2 len2 l2) (hT : TabE w) :
    Calls Tryd.prog 4 #[.agg #[.string s0, .int .i64 k0, .slice a0 len0 cap0, .int .i64 c0], .slice a1 len1 cap1, .slice a2 len2 cap2, .int .i64 a3, .int .i64 a4, .int .i64 a5, .int .i64 a6] w fun e w' => e = .returned (.bool true) ∧ Up w w' := by
  have HT := hide hT
  have H0 := hide v0
  have H1 := hide v1
  have H2 := hide v2
  have hpl : l0.length = len0 := v0.1
  have hml : l1.length = len1 := v1.1
  have hml2 : l2.length = len2 := v2.1
  clear hT v0 v1 v2
  have uW : Hid (Up w (w.alloc (.cells #[.string s0, .int .i64 k0, .slice a0 len0 cap0, .int .i64 c0] 24))) := (Up.refl _).alloc _
  have d0 : (w.alloc (.cells #[.string s0, .int .i64 k0, .slice a0 len0 cap0, .int .i64 c0] 24)).cell? ⟨w.heap.size, 0, none⟩ = some (.string s0) := by go_simp
  have d1 : (w.alloc (.cells #[.string s0, .int .i64 k0, .slice a0 len0 cap0, .int .i64 c0] 24)).cell? ⟨w.heap.size, 1, none⟩ = some (.int .i64 k0) := by go_simp
  have d2 : (w.alloc (.cells #[.string s0, .int .i64 k0, .slice a0 len0 cap0, .int .i64 c0] 24)).cell? ⟨w.heap.size, 2, none⟩ = some (.slice a0 len0 cap0) := by go_simp
  have d3 : (w.alloc (.cells #[.string s0, .int .i64 k0, .slice a0 len0 cap0, .int .i64 c0] 24)).cell? ⟨w.heap.size, 3, none⟩ = some (.int .i64 c0) := by go_simp
  generalize hW : w.alloc (.cells #[.string s0, .int .i64 k0, .slice a0 len0 cap0, .int .i64 c0] 24) = W at uW d0 d1 d2 d3
  go_enter Tryd.func4, Tryd.ntmps4
  go_wp2_with fail
  clear hW
  go_at_call 7
  refine (known7_calls W (HT.out.up uW.out)).mono ?_
  rintro _ x ⟨rfl, hu⟩
  replace d0 := hu.cell d0
  replace d1 := hu.cell d1
  replace d2 := hu.cell d2
  replace d3 := hu.cell d3
  have U : Hid (Up w x) := uW.out.trans hu
  clear hu uW
  go_wp2_with fail
  go_at_call 8
  refine (hdef_calls s0 k0 a0 len0 cap0 c0 x).mono ?_
  rintro _ x' ⟨rfl, hu⟩
  replace d0 := hu.cell d0
  replace d1 := hu.cell d1
  replace d2 := hu.cell d2
  replace d3 := hu.cell d3
  replace U := hide (U.out.trans hu)
  clear hu
  obtain ⟨q, hq⟩ : ∃ q, helpDefB s0 len0 = q := ⟨_, rfl⟩
  rw [hq]
  cases q with
  | false =>
    clear hq
    go_wp2
    go_ret
    exact ⟨rfl, U.out⟩
  | true =>
  unfold helpDefB at hq
  simp only [Bool.and_eq_true, decide_eq_true_eq] at hq
  obtain ⟨hs60, h08⟩ := hq
  go_wp2_with fail
  go_at_call 9
  refine (few_calls a1 len1 cap1 l1 6 x' m1 (H1.out.up U.out)).mono ?_
  rintro _ y ⟨rfl, hy⟩
  obtain rfl : x' = y := hy.symm
  clear hy
  obtain ⟨q, hq⟩ : ∃ q, fewB l1 6 = q := ⟨_, rfl⟩
  rw [hq]
  cases q with
  | false =>
    clear hq
    go_wp2
    go_ret
    exact ⟨rfl, U.out⟩
  | true =>
  obtain ⟨hsh, h10⟩ := few_parts hq
  have HS1 := hide hsh
  have h16 : len1 ≤ 6 := by omega
  clear hq hsh h10
  go_wp2_with fail
  go_at_call 9
  refine (few_calls a2 len2 cap2 l2 6 x' m2 (H2.out.up U.out)).mono ?_
  rintro _ y ⟨rfl, hy⟩
  obtain rfl : x' = y := hy.symm
  clear hy
  obtain ⟨q, hq⟩ : ∃ q, fewB l2 6 = q := ⟨_, rfl⟩
  rw [hq]
  cases q with
  | false =>
    clear hq
    go_wp2
    go_ret
    exact ⟨rfl, U.out⟩
  | true =>
  obtain ⟨hsh, h10⟩ := few_parts hq
  have HS2 := hide hsh
  have h26 : len2 ≤ 6 := by omega
  clear hq hsh h10
  go_wp2_with fail
  go_at_call 20
  refine (good_calls c0 x').mono ?_
  rintro _ x3 ⟨rfl, hu⟩
  replace d0 := hu.cell d0
  replace d1 := hu.cell d1
  replace d2 := hu.cell d2
  replace d3 := hu.cell d3
  replace U := hide (U.out.trans hu)
  clear hu
  obtain ⟨q, hq⟩ : ∃ q, goodB c0 = q := ⟨_, rfl⟩
  rw [hq]
  cases q with
  | false =>
    clear hq
    go_wp2
    go_ret
    exact ⟨rfl, U.out⟩
  | true =>
  unfold goodB at hq
  simp only [Bool.and_eq_true, decide_eq_true_eq] at hq
  have HC : Hid (c0 = -1 ∨ c0 = 0 ∨ c0 = 1 ∨ c0 = 2) := by show c0 = -1 ∨ c0 = 0 ∨ c0 = 1 ∨ c0 = 2; omega
  clear hq
  obtain ⟨hA0, hA3⟩ := and_1' a5
  obtain ⟨A, hA⟩ : ∃ A, bits .and .i64 a5 1 = A := ⟨_, rfl⟩
  rw [hA] at hA0 hA3
  have hwW : w.heap.size < x3.heap.size := World.block_lt_of_cell? x3 _ d0
  have uX : Hid (Up x3 (x3.alloc (.cells #[.int .i64 0, .int .i64 0, .int .i64 0, .int .i64 0] 31))) := (Up.refl _).alloc _
  have MX : Hid (Met (x3.alloc (.cells #[.int .i64 0, .int .i64 0, .int .i64 0, .int .i64 0] 31)) x3.heap.size 0 0 0 0) := ⟨⟨by go_simp, by go_simp, by go_simp, by go_simp⟩, fun i => by go_simp⟩
  have hxX : x3.heap.size < (x3.alloc (.cells #[.int .i64 0, .int .i64 0, .int .i64 0, .int .i64 0] 31)).heap.size := by simp
  generalize hX : x3.alloc (.cells #[.int .i64 0, .int .i64 0, .int .i64 0, .int .i64 0] 31) = X at uX MX hxX
  replace d0 := uX.out.cell d0
  replace d1 := uX.out.cell d1
  replace d2 := uX.out.cell d2
  replace d3 := uX.out.cell d3
  go_wp2_with fail
  clear hX
  go_at_call 10
  refine (phooksM_calls (some ⟨x3.heap.size, 0, none⟩) X).mono ?_
  rintro _ y ⟨ea, ec, EL, ca, cc, CL, rfl, hfe, hfc, hxe, hxc, hre, hrc, hu⟩
  replace d0 := hu.cell d0
  replace d1 := hu.cell d1
  replace d2 := hu.cell d2
  replace d3 := hu.cell d3
  have UY : Hid (Up x3 y) := uX.out.trans hu
  have MY := hide (MX.out.up hu)
  have hxy : x3.heap.size < y.heap.size := Nat.lt_of_lt_of_le hxX hu.size
  have HFC := hide hfc
  have HXC := hide hxc
  have HRC := hide hrc
  clear hu MX uX hfe hfc hxe hxc hre hrc
  have uZ : Hid (Up y (y.alloc (.cells #[.slice ea 5 ec, .slice ca 3 cc] 35))) := (Up.refl _).alloc _
  have h0 : (y.alloc (.cells #[.slice ea 5 ec, .slice ca 3 cc] 35)).cell? ⟨y.heap.size, 0, none⟩ = some (.slice ea 5 ec) := by go_simp
  have h1 : (y.alloc (.cells #[.slice ea 5 ec, .slice ca 3 cc] 35)).cell? ⟨y.heap.size, 1, none⟩ = some (.slice ca 3 cc) := by go_simp
  generalize hZ : y.alloc (.cells #[.slice ea 5 ec, .slice ca 3 cc] 35) = Z at uZ h0 h1
  replace d0 := uZ.out.cell d0
  replace d1 := uZ.out.cell d1
  replace d2 := uZ.out.cell d2
  replace d3 := uZ.out.cell d3
  have HA := hide hA
  go_wp2_with fail
  clear hZ
  go_at_call 11
  refine (mset_g x3.heap.size 0 0 0 0 A a6 Z hA0 (MY.out.up uZ.out)).mono ?_
  rintro _ z ⟨rfl, hmz, hcz⟩
  have hwx : w.heap.size < x3.heap.size := Nat.lt_of_lt_of_le hwW (Nat.le_refl _)
  have nD : ¬ w.heap.size = x3.heap.size := by omega
  have nH : ¬ y.heap.size = x3.heap.size := by omega
  replace d0 := hcz.cell d0 nD
  replace d1 := hcz.cell d1 nD
  replace d2 := hcz.cell d2 nD
  replace d3 := hcz.cell d3 nD
  replace h0 := hcz.cell h0 nH
  replace h1 := hcz.cell h1 nH
  have CZ : Hid (Chg (fun g => g = x3.heap.size) y z) := Chg.trans (Chg.of_up uZ.out) hcz (fun g _ h => h)
  have MZ := hide hmz
  clear hcz hmz uZ MY
  have UZ : Hid (Up w z) := U.out.trans (Chg.up (C := fun g => g = x3.heap.size) (Chg.trans (Chg.of_up UY.out) CZ.out (fun g _ h => h)) (fun g hg e => by omega))
  have HFC2 : Hid (FnsH z ca 3 CL) := HFC.out.chgM CZ.out (fun b _ hb e => by have := HRC.out b hb; omega)
  have HXC2 : Hid (AllX 48 z (some ⟨x3.heap.size, 0, none⟩) X.heap.size CL) := by
    intro j hj
    obtain ⟨mx, nx, g1, g2, g3, g4, g5⟩ := HXC.out j hj
    exact ⟨mx, nx, g1, CZ.out.cell g2 (by show ¬ mx = x3.heap.size; omega), CZ.out.cell g3 (by show ¬ nx = x3.heap.size; omega), g4, g5⟩
  have htl : ¬ 0 = x3.heap.size := fun e => by have := World.block_lt_of_cell? w _ HT.out; simp at this; omega
  have hA2 : A = 0 ∨ A = 1 := by omega
  have HA2 := hide hA2
  clear HFC HXC hA2
  go_wp2_with fail
  go_at_call 21
  refine (kcmp_all s0 k0 c0 x3.heap.size X.heap.size a0 ea ca a1 a2 len0 cap0 5 ec cc len1 cap1 len2 cap2 CL l1 l2 A (bits .and .i64 a6 1023) z HC.out hs60 (HT.out.up UZ.out) htl HA2.out (by omega) (H1.out.up UZ.out) HS1.out (by omega) (H2.out.up UZ.out) HS2.out MZ.out HFC2.out HXC2.out hxX).mono ?_
  rintro _ v ⟨r, ev, rfl, hcv, hko⟩
  replace d0 := hcv.cell d0 nD
  replace d1 := hcv.cell d1 nD
  replace d2 := hcv.cell d2 nD
  replace d3 := hcv.cell d3 nD
  replace h0 := hcv.cell h0 nH
  replace h1 := hcv.cell h1 nH
  have UV : Hid (Up w v) := Chg.up (C := fun g => g = x3.heap.size) (Chg.trans (Chg.of_up UZ.out) hcv (fun g _ h => h)) (fun g hg e => by omega)
  clear hcv MZ CZ UZ HFC2 HXC2 HRC
  rcases hko with ⟨rfl, hr, c9, a9, hmv⟩ | ⟨rfl, fb, fk, rfl, hmv, hfa, hfk⟩
  · have m3 : v.cell? ⟨x3.heap.size, 3, none⟩ = some (.int .i64 0) := hmv.1.2.2.2
    have HR := hide hr
    clear hmv hr
    go_wp2_with fail
    go_at_call 24
    refine (rkeys_calls s0 k0 c0 a0 a1 a2 len0 cap0 len1 len2 l1 l2 v HC.out (by omega) (by omega) (H1.out.up UV.out) (H2.out.up UV.out) HS1.out HS2.out cap1 cap2 n1 n2 o1 o2).mono ?_
    rintro _ v2 ⟨rfl, hu⟩
    replace h0 := hu.cell h0
    replace h1 := hu.cell h1
    replace UV := hide (UV.out.trans hu)
    clear hu d0 d1 d2 d3 m3
    rw [HR.out]
    go_wp2_with fail
    go_at_call 25
    refine (rvrows_calls a1 a2 len1 len2 cap1 cap2 l1 l2 v2 m1 m2 (H1.out.up UV.out) (H2.out.up UV.out)).mono ?_
    rintro _ v3 ⟨rfl, hu⟩
    replace h0 := hu.cell h0
    replace h1 := hu.cell h1
    replace UV := hide (UV.out.trans hu)
    clear hu HR
    obtain ⟨kv, hkv⟩ : ∃ kv, kv = keysV c0 l1 l2 := ⟨_, rfl⟩
    rw [← hkv]
    clear hkv
    have HOE : Hid (ordE l1 a3 l2 a4 = or2 (rowsV l1 l2) (cmpI a3 a4)) := rfl
    generalize hRR : rowsV l1 l2 = R at HOE
    have HRR := hide hRR
    clear hRR
    by_cases hR0 : R = 0
    · subst hR0
      have hoe : ordE l1 a3 l2 a4 = cmpI a3 a4 := by rw [HOE.out]; unfold or2; rw [if_pos rfl]
      by_cases hik : a3 = a4
      · have t1 : (a3 != a4) = false := by rw [bne_eq_false_iff_eq]; exact hik
        have HO : Hid (ordE l1 a3 l2 a4 = 0) := hoe.trans (cmpI_zero.2 hik)
        clear hoe hik
        go_wp2_with fail
        go_at_call 21
        refine (kcmp_key ⟨#[]⟩ 0 99 none ea ca 0 0 5 ec 3 cc _ _ v3 (by decide) (by decide) (by decide)).mono ?_
        rintro _ v4 ⟨rfl, hu⟩
        replace UV := hide (UV.out.trans hu)
        clear hu h0 h1
        go_wp2_with fail
        go_at_call 26
        refine (korder_calls a1 a2 len1 cap1 len2 cap2 l1 l2 a3 a4 v4 m1 m2 (H1.out.up UV.out) (H2.out.up UV.out)).mono ?_
        rintro _ v5 ⟨rfl, hu⟩
        replace UV := hide (UV.out.trans hu)
        clear hu
        rw [HO.out]
        go_wp2_with fail
        go_at_call 17
        refine (class_num 60 v5 (HT.out.up UV.out)).mono ?_
        rintro _ v6 ⟨rfl, hu⟩
        replace UV := hide (UV.out.trans hu)
        clear hu
        go_wp2
        go_ret
        exact ⟨rfl, UV.out⟩
      · have t1 : (a3 != a4) = true := by rw [bne_iff_ne]; exact hik
        by_cases hlt : a3 < a4
        · have t2 : decide (a3 < a4) = true := decide_eq_true hlt
          have HO : Hid (ordE l1 a3 l2 a4 = -1) := hoe.trans (cmpI_neg.2 hlt)
          clear hoe hik hlt
          go_wp2_with fail
          go_at_call 21
          refine (kcmp_key ⟨#[]⟩ 0 99 none ea ca 0 0 5 ec 3 cc _ _ v3 (by decide) (by decide) (by decide)).mono ?_
          rintro _ v4 ⟨rfl, hu⟩
          replace UV := hide (UV.out.trans hu)
          clear hu h0 h1
          go_wp2_with fail
          go_at_call 26
          refine (korder_calls a1 a2 len1 cap1 len2 cap2 l1 l2 a3 a4 v4 m1 m2 (H1.out.up UV.out) (H2.out.up UV.out)).mono ?_
          rintro _ v5 ⟨rfl, hu⟩
          replace UV := hide (UV.out.trans hu)
          clear hu
          rw [HO.out]
          go_wp2_with fail
          go_at_call 17
          refine (class_num 60 v5 (HT.out.up UV.out)).mono ?_
          rintro _ v6 ⟨rfl, hu⟩
          replace UV := hide (UV.out.trans hu)
          clear hu
          go_wp2
          go_ret
          exact ⟨rfl, UV.out⟩
        · have t2 : decide (a3 < a4) = false := decide_eq_false hlt
          have HO : Hid (ordE l1 a3 l2 a4 = 1) := hoe.trans (cmpI_pos.2 (by omega))
          clear hoe hik hlt
          go_wp2_with fail
          go_at_call 21
          refine (kcmp_key ⟨#[]⟩ 0 99 none ea ca 0 0 5 ec 3 cc _ _ v3 (by decide) (by decide) (by decide)).mono ?_
          rintro _ v4 ⟨rfl, hu⟩
          replace UV := hide (UV.out.trans hu)
          clear hu h0 h1
          go_wp2_with fail
          go_at_call 26
          refine (korder_calls a1 a2 len1 cap1 len2 cap2 l1 l2 a3 a4 v4 m1 m2 (H1.out.up UV.out) (H2.out.up UV.out)).mono ?_
          rintro _ v5 ⟨rfl, hu⟩
          replace UV := hide (UV.out.trans hu)
          clear hu
          rw [HO.out]
          go_wp2_with fail
          go_at_call 17
          refine (class_num 60 v5 (HT.out.up UV.out)).mono ?_
          rintro _ v6 ⟨rfl, hu⟩
          replace UV := hide (UV.out.trans hu)
          clear hu
          go_wp2
          go_ret
          exact ⟨rfl, UV.out⟩
    · have t1 : (R == 0) = false := by rw [beq_eq_false_iff_ne]; exact hR0
      have HO : Hid (ordE l1 a3 l2 a4 = R) := by
        show ordE l1 a3 l2 a4 = R
        rw [HOE.out]
        unfold or2
        rw [if_neg hR0]
      clear hR0
      go_wp2_with fail
      go_at_call 21
      refine (kcmp_key ⟨#[]⟩ 0 99 none ea ca 0 0 5 ec 3 cc _ _ v3 (by decide) (by decide) (by decide)).mono ?_
      rintro _ v4 ⟨rfl, hu⟩
      replace UV := hide (UV.out.trans hu)
      clear hu h0 h1
      go_wp2_with fail
      go_at_call 26
      refine (korder_calls a1 a2 len1 cap1 len2 cap2 l1 l2 a3 a4 v4 m1 m2 (H1.out.up UV.out) (H2.out.up UV.out)).mono ?_
      rintro _ v5 ⟨rfl, hu⟩
      replace UV := hide (UV.out.trans hu)
      clear hu
      rw [HO.out]
      go_wp2_with fail
      go_at_call 17
      refine (class_num 60 v5 (HT.out.up UV.out)).mono ?_
      rintro _ v6 ⟨rfl, hu⟩
      replace UV := hide (UV.out.trans hu)
      clear hu
      go_wp2
      go_ret
      exact ⟨rfl, UV.out⟩
  · have m1 : v.cell? ⟨x3.heap.size, 1, none⟩ = some (.int .i64 1) := hmv.1.2.1
    have m3 : v.cell? ⟨x3.heap.size, 3, none⟩ = some (.int .i64 1) := hmv.1.2.2.2
    have HF := hide hfa
    have HFKK := hide hfk
    have HTV : Hid (TabE v) := HT.out.up UV.out
    clear hmv hfa hfk
    go_wp2_with fail
    refine region_up (by kernel_rfl) (by kernel_rfl) ?_
    repeat (first
      | go_big_quiet_skip
      | (go_big_quiet_want; go_big_quiet_op; go_big_quiet_on)
      | (go_big_quiet_want
         apply Exists.intro
         refine ⟨fun w' hw' => ?_, ?_⟩
         (skip
          have d0 := hw'.cell d0
          have m1 := hw'.cell m1
          go_simp
          first
          | done
          | with_reducible rfl
          | (go_at_call 22; exact quiet_call hw' (struck_told fb 0 s0 ⟨fk, 0, none⟩ 1001 w' (HTV.out.up hw') (HF.out.up hw') (hw'.cell HFKK.out)))
          | (go_at_call 23; exact quiet_call_same hw' (mark_calls x3.heap.size w' m1))
          | (go_at_call 18; exact quiet_call hw' (where_fault fb 0 s0 _ _ w' (HTV.out.up hw') (HF.out.up hw') (noTwice_mark fb 0 s0 ⟨fk, 0, none⟩ _ w' (HTV.out.up hw') (HF.out.up hw'))))
         )
         go_big_quiet_on
         try simp only [Act.put, List.setIfInBounds_toArray, List.set_cons_zero, List.set_cons_succ]))
    refine wpQuiet_nil ?_
    intro w6 hw6
    have U6 : Hid (Up w w6) := UV.out.trans hw6
    clear hw6
    go_wp2
    go_ret
    exact ⟨rfl, U6.out⟩

end Go.Proofs.YtnnbcpopjnlnoaaDoor

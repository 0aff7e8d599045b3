/-
  TreeSorted of rialtolaw11, as its text runs.
-/
import Derived.Test.YtcaccbjolgjmkaaTrSor
namespace Go.Proofs.Ytcaccbjolgjmkaa
open Go.ChangeShapes Go.WideShapes Go.ChangeAt Go.RowKit
set_option linter.unusedVariables false
set_option maxRecDepth 100000
attribute [local go_sem ↓] Go.wp_at_zero Go.wp_at_succ

/-- What holds from round to round. -/
def SorIn (l : List Int) (w : World) (T i : Nat) (wr : World) : Prop := ∃ (xs : List Int) (h n : Nat), TrI wr T xs h n ∧ Asc xs ∧ xs.Perm (l.take i) ∧ n ≤ 20 * i ∧ Up w wr
theorem wrap_succ (i : Nat) (h : i ≤ 1000000) : IntKind.i64.wrap ((i : Int) + 1) = (i : Int) + 1 := by rw [IntKind.wrap_i64]; omega
theorem wrap64_n (n : Nat) (h : n ≤ 1000000) : wrap64 (n : Int) = (n : Int) := wrap64_id _ (by omega)
theorem wrap_pred (j jm : Nat) (h : j = jm + 1) (hj : j ≤ 1000000) : IntKind.i64.wrap ((j : Int) - 1) = (jm : Int) := by rw [IntKind.wrap_i64]; omega
theorem wrap_i16 (x : Int) (h : -32768 ≤ x ∧ x ≤ 32767) : IntKind.i64.wrap x = x := by rw [IntKind.wrap_i64]; omega
theorem cut_all (xs : List Int) (n : Nat) (h : xs.length = n) : cutL xs (-5) ((n : Int) + 5) = xs := by
  unfold cutL
  rw [show ((-5 : Int)).toNat = 0 from rfl, List.drop_zero, List.take_of_length_le (by omega)]
set_option maxHeartbeats 8000000 in
theorem treeSorted_few (a0 : Option Addr) (n0 c0 : Nat) (l : List Int) (w : World) (hl : l.length = n0) (hr : Rd (Value.int .i16) (fun _ => False) w (.slice a0 n0 c0) l) (hs : ∀ x ∈ l, -32768 ≤ x ∧ x ≤ 32767) (hn : n0 ≤ 120) :
    Calls Try.prog 7 #[.slice a0 n0 c0] w fun e w' => e = .returned (.bool true) ∧ Up w w' := by
  have HL := hide hl
  have HR := hide hr
  have HS := hide hs
  have g0 : decide ((n0 : Int) > 120) = false := decide_eq_false (by omega)
  have g0' : ¬ ((n0 : Int) > 120) := by omega
  have g0'' : decide (120 < n0) = false := decide_eq_false (by omega)
  clear hl hr hs
  go_enter Try.func7, Try.ntmps7
  go_wp2_with fail
  refine (known11_calls w).mono ?_
  rintro _ wk ⟨rfl, huk⟩
  replace huk := hide huk
  dsimp only
  go_wp2_with fail
  refine (tnewI_calls wk).mono ?_
  rintro _ w0 ⟨T, rfl, t0, hTw, hu0⟩
  have hT : w.heap.size ≤ T := Nat.le_trans huk.out.size hTw
  have HA0 : Hid (SorIn l w T 0 w0) := ⟨[], 0, 0, t0, List.Pairwise.nil, List.Perm.nil, Nat.le_refl _, huk.out.trans hu0⟩
  clear t0 hu0
  dsimp only
  go_wp2_with fail
  go_loopw [4] (fun iv wr => ∃ i : Nat, i ≤ n0 ∧ iv = .int .i64 i ∧ Hid (SorIn l w T i wr)) (fun iv _ => n0 - (intOf iv).toNat)
  case atStart => exact ⟨0, Nat.zero_le _, rfl, HA0⟩
  case round =>
    obtain ⟨i, hi, rfl, hA⟩ := hrel
    by_cases hlt : i < n0
    · have hlt' : (i : Int) < (n0 : Int) := by omega
      have i0 : (0 : Int) ≤ (i : Int) := by omega
      obtain ⟨xs, h, n, t, hasc, hperm, hnn, hu⟩ := hA.out
      have hil : i < l.length := by rw [HL.out]; exact hlt
      obtain ⟨gb, ob, rfl, hg⟩ := (HR.out.up hu).get (i := i) hil
      have hx := HS.out _ (List.getElem_mem hil)
      obtain ⟨x, hxx, hg1⟩ : ∃ x, x = l[i] ∧ wr.cell? ⟨gb, ob + i, none⟩ = some (.int .i16 x) := ⟨l[i], rfl, hg⟩
      rw [← hxx] at hx
      have hxl : xs.length = i := by rw [hperm.length_eq, List.length_take]; omega
      have hx6 : xs.length ≤ 100000 := by omega
      have hh : h ≤ 8 := t.hle hx6
      have hn6 : n ≤ 10000000 := by omega
      obtain ⟨W1, hW1⟩ : ∃ W1, W1 = wr.alloc (.cells #[.int .i64 x] 3) := ⟨_, rfl⟩
      have u1 : Up wr W1 := by rw [hW1]; exact (Up.refl _).alloc _
      have cv : W1.cell? ⟨wr.heap.size, 0, none⟩ = some (.int .i64 x) := by rw [hW1]; go_simp
      have htl := t.lt
      have hvT : ¬ wr.heap.size = T := by omega
      have t1 := t.up u1
      obtain ⟨p, hp⟩ : ∃ p, p = lowN xs x := ⟨_, rfl⟩
      have hpl : p ≤ xs.length := by rw [hp]; exact (lowN_split hasc x).1
      have HSE : Hid (∀ W, Up W1 W → Calls Try.prog 22 #[.pointer (some ⟨T, 0, none⟩), .func (.func 29) #[] #[.pointer (some ⟨wr.heap.size, 0, none⟩)]] W fun e w' => e = .returned (.int .i64 p) ∧ Up W w') := fun W hW => by
        rw [hp]; exact slow_calls T h n wr.heap.size x xs W (t1.up hW) hx6 hasc (hW.cell cv)
      have HIN : Hid (∀ W, Up W1 W → Calls Try.prog 12 #[.pointer (some ⟨T, 0, none⟩), .int .i64 p, .int .i64 x] W fun e w' => e = .returned (.int .i64 0) ∧ TrDoneI T n h (insL x xs p) W w') := fun W hW => insertAtI_ok T h n p x xs W (t1.up hW) hpl hx6 hn6
      have HREL : Hid (∀ w' h' k', TrI w' T (insL x xs p) h' (n + k') → k' ≤ 2 * h + 3 → Up w w' → SorIn l w T (i + 1) w') := fun w' h' k' t' hk' hu' => by
        refine ⟨insL x xs p, h', n + k', t', by rw [hp]; exact insL_asc hasc x, ?_, by omega, hu'⟩
        refine (insL_perm x p).trans ?_
        rw [List.take_add_one, List.getElem?_eq_getElem hil, hxx]
        exact ((List.Perm.cons _ hperm).trans (List.perm_append_comm (l₁ := [l[i]]) (l₂ := l.take i)))
      have HU := hide (hu.trans u1)
      have HCV := hide cv
      have HW1 := hide hW1
      have e1 := wrap_succ i (by omega)
      have e2 := wrap_i16 x hx
      clear hA t t1 hu hg hxx hx hxl hx6 hasc hperm u1 cv hW1 hp hpl hil htl
      go_wp2_with fail
      rw [← HW1.out]
      have hk0 : Up W1 W1 := Up.refl _
      have HK : Hid (∀ w', Chg (fun y => y = T) W1 w' → Chg (fun y => y = T) W1 w' ∧ w'.cell? ⟨wr.heap.size, 0, none⟩ = some (.int .i64 x)) := fun w' h => ⟨h, h.cell HCV.out hvT⟩
      have hc0 : Chg (fun y => y = T) W1 W1 := Chg.refl _ _
      go_region_held3 (fun w' => Chg (fun y => y = T) W1 w' ∧ w'.cell? ⟨wr.heap.size, 0, none⟩ = some (.int .i64 x)) (exact HK.out _ (by repeat' (with_reducible first | assumption | apply Chg.alloc | apply Chg.drew)))
        (first
          | (go_at_call 22; refine (HSE.out _ (by repeat' (with_reducible first | assumption | exact Up.refl _ | apply Up.alloc | apply Up.drew))).mono ?_; rintro _ w5 ⟨rfl, hu5⟩; have hk5 : Up W1 w5 := Up.trans (by repeat' (with_reducible first | assumption | exact Up.refl _ | apply Up.alloc | apply Up.drew)) hu5; have hc5 : Chg (fun y => y = T) W1 w5 := Chg.of_up hk5; clear hu5)
          | (go_at_call 12; refine (HIN.out _ (by repeat' (with_reducible first | assumption | exact Up.refl _ | apply Up.alloc | apply Up.drew))).mono ?_; rintro _ w6 ⟨rfl, h6, k6, t6, hk61, hk62, hc6⟩; have hc6' : Chg (fun y => y = T) W1 w6 := Chg.trans (by repeat' (with_reducible first | assumption | apply Chg.alloc | apply Chg.drew)) hc6 (fun _ _ h => h); replace t6 := hide t6; clear hc6))
      all_goals
        have HSI := hide (HREL.out w6 h6 k6 t6.out hk62 (up_of_tree HU.out hT hc6'))
        clear hk5 hc5 hc6' hc0 hk0
        go_wp2
        go_roundw
        case rel => exact ⟨i + 1, by omega, by first | rfl | congr 1, HSI⟩
        case measure => simp [intOf]; omega
    · obtain rfl : n0 = i := by omega
      have hlt' : ¬ (n0 : Int) < (n0 : Int) := by omega
      obtain ⟨W0, rfl⟩ : ∃ W0, W0 = wr := ⟨_, rfl⟩
      obtain ⟨xs, h, n, t, hasc, hperm, hnn, hu⟩ := hA.out
      rw [List.take_of_length_le (by rw [HL.out]; exact Nat.le_refl _)] at hperm
      have hxl : xs.length = n0 := by rw [hperm.length_eq, HL.out]
      have hx6 : xs.length ≤ 100000 := by omega
      have HT := hide t
      have HAS := hide hasc
      have HPE := hide hperm
      have HU := hide hu
      have HXL := hide hxl
      have HX6 := hide hx6
      clear hA t hasc hperm hu hxl hx6
      go_wp2_with fail
      go_loopw [6] (fun iv wr => ∃ i : Nat, i ≤ n0 ∧ iv = .int .i64 i ∧ Hid (Up W0 wr)) (fun iv _ => n0 - (intOf iv).toNat)
      case atStart => exact ⟨0, Nat.zero_le _, rfl, Up.refl _⟩
      case round =>
        obtain ⟨i, hi, rfl, hur⟩ := hrel
        obtain ⟨WR, rfl⟩ : ∃ WR, WR = wr := ⟨_, rfl⟩
        by_cases hlt : i < n0
        · have hlt2 : (i : Int) < (n0 : Int) := by omega
          have i0 : (0 : Int) ≤ (i : Int) := by omega
          have hil : i < l.length := by rw [HL.out]; exact hlt
          have hrw := HR.out.up (HU.out.trans hur.out)
          obtain ⟨gb, ob, rfl, hg⟩ := hrw.get (i := i) hil
          have hx := HS.out _ (List.getElem_mem hil)
          obtain ⟨x, hxx, hg1⟩ : ∃ x, x = l[i] ∧ WR.cell? ⟨gb, ob + i, none⟩ = some (.int .i16 x) := ⟨l[i], rfl, hg⟩
          rw [← hxx] at hx
          obtain ⟨W1, hW1⟩ : ∃ W1, W1 = WR.alloc (.cells #[.int .i64 x] 3) := ⟨_, rfl⟩
          have u1 : Up WR W1 := by rw [hW1]; exact (Up.refl _).alloc _
          have cv : W1.cell? ⟨WR.heap.size, 0, none⟩ = some (.int .i64 x) := by rw [hW1]; go_simp
          have t1 := HT.out.up (hur.out.trans u1)
          have hlt3 := low_top HPE.out x
          have hcnt : 1 ≤ l.count x := List.count_pos_iff.2 (by rw [hxx]; exact List.getElem_mem hil)
          obtain ⟨l1, l2, l3⟩ := lowN_split HAS.out x
          obtain ⟨m1, m2, m3⟩ := topN_split HAS.out x
          obtain ⟨p, hp⟩ : ∃ p, p = lowN xs x := ⟨_, rfl⟩
          obtain ⟨q, hq⟩ : ∃ q, q = topN xs x := ⟨_, rfl⟩
          obtain ⟨cn, hcn⟩ : ∃ c, c = l.count x := ⟨_, rfl⟩
          rw [← hp] at l1 l2 l3 hlt3
          rw [← hq] at m1 m2 m3 hlt3
          rw [← hcn] at hcnt hlt3
          have hpx : p < xs.length := by omega
          have hval : xs.getD p 0 = x := by have a1 := l3 p (Nat.le_refl _) hpx; have a2 := m2 p (by omega); omega
          have HS2 : Hid (Calls Try.prog 22 #[.pointer (some ⟨T, 0, none⟩), .func (.func 30) #[] #[.pointer (some ⟨WR.heap.size, 0, none⟩)]] W1 fun e w' => e = .returned (.int .i64 p) ∧ Up W1 w') := by
            rw [hp]; exact slow2_calls T h n WR.heap.size x xs W1 t1 HX6.out HAS.out cv
          have HS3 : Hid (∀ W, Up W1 W → Calls Try.prog 22 #[.pointer (some ⟨T, 0, none⟩), .func (.func 31) #[] #[.pointer (some ⟨WR.heap.size, 0, none⟩)]] W fun e w' => e = .returned (.int .i64 q) ∧ Up W w') := fun W hW => by
            rw [hq]; exact stop_calls T h n WR.heap.size x xs W (t1.up hW) HX6.out HAS.out (hW.cell cv)
          have HAT : Hid (∀ W, Up W1 W → Calls Try.prog 21 #[.pointer (some ⟨T, 0, none⟩), .int .i64 p] W fun e w' => e = .returned (.tuple #[.int .i64 x, .bool true]) ∧ Up W w') := fun W hW => by
            have := tatI_ok T h n p 0 xs W (t1.up hW) hpx HX6.out
            rw [hval] at this
            exact this
          have HQP := hide hlt3
          have HCN := hide hcn
          have hq6 : q ≤ 120 := by have := HXL.out; omega
          have HRW : Hid (∀ W, Up W1 W → Rd (Value.int .i16) (fun _ => False) W (.slice (some ⟨gb, ob, none⟩) n0 c0) l) := fun W hW => hrw.up (u1.trans hW)
          have HCV := hide cv
          have HW1 := hide hW1
          have HUW := hide (hur.out.trans u1)
          have HXX := hide hxx
          have e1 := wrap_succ i (by omega)
          have e2 := wrap_i16 x hx
          clear hrw hg hxx hx u1 cv hW1 t1 hlt3 hcnt l1 l2 l3 m1 m2 m3 hp hq hcn hpx hval
          go_wp2_with fail
          rw [← HW1.out]
          refine HS2.out.mono ?_
          rintro _ w2 ⟨rfl, hu2⟩
          replace hu2 := hide hu2
          dsimp only
          go_wp2_with fail
          refine (HS3.out w2 hu2.out).mono ?_
          rintro _ w3 ⟨rfl, hu3⟩
          have hu3' := hide (hu2.out.trans hu3)
          clear hu3 hu2
          dsimp only
          go_wp2_with fail
          go_loopw [10, 11] (fun nv kv wr => ∃ c k : Nat, k ≤ n0 ∧ c ≤ k ∧ nv = .int .i64 c ∧ kv = .int .i64 k ∧ Hid (c = (l.take k).count x) ∧ Hid (Up W1 wr)) (fun _ kv _ => n0 - (intOf kv).toNat)
          case atStart => exact ⟨0, 0, Nat.zero_le _, Nat.le_refl _, rfl, rfl, rfl, hu3'⟩
          case round =>
            obtain ⟨c, k, hk, hck, rfl, rfl, hcc, huw⟩ := hrel
            by_cases hkn : k < n0
            · have hkn' : (k : Int) < (n0 : Int) := by omega
              have k0 : (0 : Int) ≤ (k : Int) := by omega
              have hkl : k < l.length := by rw [HL.out]; exact hkn
              obtain ⟨gb', ob', he', hgk⟩ := (HRW.out wr huw.out).get (i := k) hkl
              cases he'
              obtain ⟨gb', ob', he', hgi⟩ := (HRW.out wr huw.out).get (i := i) hil
              cases he'
              obtain ⟨y, hy, hgk1⟩ : ∃ y, y = l[k] ∧ wr.cell? ⟨gb, ob + k, none⟩ = some (.int .i16 y) := ⟨l[k], rfl, hgk⟩
              obtain ⟨x2, hx2, hgi1⟩ : ∃ y, y = x ∧ wr.cell? ⟨gb, ob + i, none⟩ = some (.int .i16 y) := ⟨l[i], HXX.out.symm, hgi⟩
              subst hx2
              have hct : (l.take (k + 1)).count x2 = (l.take k).count x2 + (if (y == x2) = true then 1 else 0) := by
                rw [List.take_add_one, List.getElem?_eq_getElem hkl, List.count_append, hy]
                simp [List.count_cons]
              have HCT := hide hct
              have e3 := wrap_succ k (by omega)
              have e4 := wrap_succ c (by omega)
              clear hgk hgi hy hct
              cases hyx : (y == x2) with
              | true =>
                go_wp2_with fail
                go_quiet (fail)
                have HU5 := hide (huw.out.drewN nq)
                generalize wr.drewN nq = W5 at *
                go_wp2
                go_roundw
                case rel => exact ⟨c + 1, k + 1, by omega, by omega, by first | rfl | congr 1, by first | rfl | congr 1, by unfold Hid; rw [HCT.out, hyx, hcc.out]; rfl, HU5⟩
                case measure => simp [intOf]; omega
              | false =>
                go_wp2_with fail
                go_quiet (fail)
                have HU5 := hide (huw.out.drewN nq)
                generalize wr.drewN nq = W5 at *
                go_wp2
                go_roundw
                case rel => exact ⟨c, k + 1, by omega, by omega, rfl, by first | rfl | congr 1, by unfold Hid; rw [HCT.out, hyx, hcc.out]; rfl, HU5⟩
                case measure => simp [intOf]; omega
            · obtain rfl : n0 = k := by omega
              have hkn' : ¬ (n0 : Int) < (n0 : Int) := by omega
              have hc : c = cn := by rw [hcc.out, HCN.out, List.take_of_length_le (by rw [HL.out]; exact Nat.le_refl _)]
              subst hc
              have hqp : (q : Int) - (p : Int) = (c : Int) := by have := HQP.out; omega
              have e5 : IntKind.i64.wrap ((q : Int) - (p : Int)) = (q : Int) - (p : Int) := by rw [IntKind.wrap_i64]; omega
              have g7 : (((q : Int) - (p : Int)) != (c : Int)) = false := by rw [hqp]; simp
              have HQ := hide hqp
              clear hqp
              go_wp2_with fail
              refine (HAT.out wr huw.out).mono ?_
              rintro _ w7 ⟨rfl, hu7⟩
              have cv7 := (huw.out.trans hu7).cell HCV.out
              have HU7 := hide (HUW.out.trans (huw.out.trans hu7))
              clear hu7
              dsimp only
              go_wp2
              go_roundw
              case rel => exact ⟨i + 1, by omega, by first | rfl | congr 1, HU7⟩
              case measure => simp [intOf]; omega
        · obtain rfl : n0 = i := by omega
          have hlt2 : ¬ (n0 : Int) < (n0 : Int) := by omega
          have TW := hide (HT.out.up hur.out)
          have HLN : Hid (Calls Try.prog 18 #[.pointer (some ⟨T, 0, none⟩)] WR fun e w' => e = .returned (.int .i64 n0) ∧ w' = WR) := by
            have := tlenI_calls T h n xs WR TW.out
            rw [HXL.out] at this
            exact this
          have HSL : Hid (Calls Try.prog 16 #[.pointer (some ⟨T, 0, none⟩), .int .i64 (-5), .int .i64 ((n0 : Int) + 5)] WR fun e w' => AppPost WR xs e w') := by
            have := tslice_calls T h n xs (-5) ((n0 : Int) + 5) WR TW.out HX6.out
            rw [cut_all xs n0 HXL.out] at this
            exact this
          have e6 : IntKind.i64.wrap ((n0 : Int) + 5) = (n0 : Int) + 5 := by rw [IntKind.wrap_i64]; omega
          go_wp2_with fail
          refine HLN.out.mono ?_
          rintro _ w8 ⟨rfl, hw8⟩
          obtain rfl : WR = w8 := hw8.symm
          dsimp only
          go_wp2_with fail
          refine HSL.out.mono ?_
          rintro _ w9 ⟨v9, rfl, ho9, hu9⟩
          have hr9 := ho9.rd (X := fun _ => False) (fun _ _ h => h)
          obtain ⟨a9, n9, c9, rfl, hn9, -⟩ := ho9.sliceN
          obtain rfl : n9 = n0 := by rw [hn9.out, HXL.out]
          have HR9 := hide hr9
          have HU9 := hide (HU.out.trans (hur.out.trans hu9))
          clear ho9 hr9 hu9 hn9 HLN HSL
          obtain ⟨W9, rfl⟩ : ∃ W9, W9 = w9 := ⟨_, rfl⟩
          dsimp only
          go_wp2_with fail
          go_loopw [15] (fun jv wr => ∃ j : Nat, 1 ≤ j ∧ j ≤ n9 + 1 ∧ jv = .int .i64 j ∧ Hid (Up W9 wr)) (fun jv _ => n9 + 1 - (intOf jv).toNat)
          case atStart => exact ⟨1, Nat.le_refl _, by omega, rfl, Up.refl _⟩
          case round =>
            obtain ⟨j, hj1, hj2, rfl, huj⟩ := hrel
            by_cases hjn : j < n9
            · have hjn' : (j : Int) < (n9 : Int) := by omega
              have j0 : (0 : Int) ≤ (j : Int) := by omega
              obtain ⟨jm, hjm⟩ : ∃ jm, j = jm + 1 := ⟨j - 1, by omega⟩
              have hr := HR9.out.up huj.out
              obtain ⟨g1, o1, rfl, hgj⟩ := hr.get (i := j) (by rw [HXL.out]; exact hjn)
              obtain ⟨g1', o1', he', hgm⟩ := hr.get (i := jm) (by rw [HXL.out]; omega)
              cases he'
              have hle : xs[jm]'(by rw [HXL.out]; omega) ≤ xs[j]'(by rw [HXL.out]; exact hjn) := (List.pairwise_iff_getElem.1 HAS.out) jm j _ _ (by omega)
              obtain ⟨y1, hy1, hc1⟩ : ∃ y, y = xs[j]'(by rw [HXL.out]; exact hjn) ∧ wr.cell? ⟨g1, o1 + j, none⟩ = some (.int .i64 y) := ⟨_, rfl, hgj⟩
              obtain ⟨y2, hy2, hc2⟩ : ∃ y, y = xs[jm]'(by rw [HXL.out]; omega) ∧ wr.cell? ⟨g1, o1 + jm, none⟩ = some (.int .i64 y) := ⟨_, rfl, hgm⟩
              rw [← hy1, ← hy2] at hle
              have g8 : decide (y1 < y2) = false := decide_eq_false (by omega)
              have g8' : ¬ (y1 < y2) := by omega
              have jm0 : (0 : Int) ≤ (jm : Int) := by omega
              have jm1 : (jm : Int) < (n9 : Int) := by omega
              have e7 : (j : Int) - 1 = (jm : Int) := by omega
              have hj6 : j ≤ 1000000 := by omega
              have hjm6 : jm ≤ 1000000 := by omega
              have hlast : 1 ≤ j + 1 ∧ j + 1 ≤ n9 + 1 := by omega
              have e9 := wrap64_n jm hjm6
              have e8 := wrap_pred j jm hjm hj6
              have e10 := wrap_succ j hj6
              have HJM := hide hjm
              clear hgj hgm hy1 hy2 hr hle hjm
              go_wp2_with fail
              go_quiet (fail)
              have HU5 := hide (huj.out.drewN nq)
              generalize wr.drewN nq = W5 at *
              go_wp2
              go_roundw
              case rel => exact ⟨j + 1, hlast.1, hlast.2, by first | rfl | congr 1, HU5⟩
              case measure => simp [intOf]; omega
            · have hjn' : ¬ (j : Int) < (n9 : Int) := by omega
              have hjn2 : decide (j < n9) = false := decide_eq_false hjn
              go_wp2
              go_ret
              exact ⟨rfl, HU9.out.trans huj.out⟩
theorem treeSorted_many (a0 : Option Addr) (n0 c0 : Nat) (w : World) (hn : 120 < n0) :
    Calls Try.prog 7 #[.slice a0 n0 c0] w fun e w' => e = .returned (.bool true) ∧ Up w w' := by
  have g0 : decide ((n0 : Int) > 120) = true := decide_eq_true (by omega)
  have g0' : (n0 : Int) > 120 := by omega
  have g0'' : decide (120 < n0) = true := decide_eq_true hn
  go_enter Try.func7, Try.ntmps7
  go_wp2_with fail
  refine (known11_calls w).mono ?_
  rintro _ wk ⟨rfl, huk⟩
  replace huk := hide huk
  dsimp only
  go_wp2
  go_ret
  exact ⟨rfl, huk.out⟩
end Go.Proofs.Ytcaccbjolgjmkaa

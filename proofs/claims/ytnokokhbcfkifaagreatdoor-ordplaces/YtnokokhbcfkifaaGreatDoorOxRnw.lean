/-
  OrdRanks of rialtolaw12, as its text runs.
-/
import Derived.Test.YtnokokhbcfkifaaGreatDoorOxRnk
namespace Go.Proofs.YtnokokhbcfkifaaGreatDoor
open Go.ChangeShapes Go.WideShapes Go.ChangeAt Go.RowKit
set_option linter.unusedVariables false
set_option maxRecDepth 100000
attribute [local go_sem ↓] Go.wp_at_zero Go.wp_at_succ

/-- What holds from round to round: the index, and that nothing old was written into. -/
structure RkI (mp : Option Addr) (mx nx X T : Nat) (l : List Int) (w : World) (i : Nat) (cb : Nat) (wr : World) : Prop where
  ix : ∃ L hh n c h s, IxW (InM mp) mp 2 mx nx X T false L hh n c 0 h s wr ∧ RkL l i L ∧ n ≤ 19 * i ∧ 0 ≤ c ∧ c ≤ (cb : Int)
  up : Up w wr
theorem RkI.up' {mp : Option Addr} {mx nx X T : Nat} {l : List Int} {w : World} {i cb : Nat} {wr wr' : World} (r : RkI mp mx nx X T l w i cb wr) (hu : Up wr wr') : RkI mp mx nx X T l w i cb wr' := by
  obtain ⟨L, hh, n, c, h, s, h1, h2⟩ := r.ix
  exact ⟨⟨L, hh, n, c, h, s, h1.up hu, h2⟩, r.up.trans hu⟩
theorem count_dle (l : List Int) (k : Nat) (f : VI → Bool) : (dOf l k).countP f ≤ k := by
  have := List.countP_le_length (p := f) (l := dOf l k)
  unfold dOf at this ⊢
  simpa using this
theorem count_dsucc (l : List Int) (k : Nat) (f : VI → Bool) : (dOf l (k + 1)).countP f = (dOf l k).countP f + if f (l.getD k 0, (k : Int) + 1) then 1 else 0 := by
  rw [dOf_succ, List.countP_append, List.countP_singleton]
/-- A number of the row, as it lies there. -/
theorem cell_i8 {X : Nat → Prop} {w wr : World} {a : Option Addr} {len cap : Nat} {l : List Int} (hr : Rd (Value.int .i8) X w (.slice a len cap) l) (hl : l.length = len) (hu : Up w wr) {k : Nat} (hk : k < len) : ∃ g o, a = some ⟨g, o, none⟩ ∧ wr.cell? ⟨g, o + k, none⟩ = some (.int .i8 (l.getD k 0)) := by
  obtain ⟨g, o, h1, h2⟩ := hr.get (i := k) (by omega)
  refine ⟨g, o, h1, ?_⟩
  have e : l.getD k 0 = l[k]'(by omega) := by rw [List.getD_eq_getElem?_getD, List.getElem?_eq_getElem (by omega)]; rfl
  rw [e]
  exact hu.cell h2
theorem bounds_i8 {l : List Int} (hb : ∀ x ∈ l, -128 ≤ x ∧ x ≤ 127) {k : Nat} : -128 ≤ l.getD k 0 ∧ l.getD k 0 ≤ 127 := by
  rcases Nat.lt_or_ge k l.length with h | h
  · have e : l.getD k 0 = l[k] := by rw [List.getD_eq_getElem?_getD, List.getElem?_eq_getElem h]; rfl
    rw [e]
    exact hb _ (List.getElem_mem h)
  · rw [List.getD_eq_getElem?_getD, List.getElem?_eq_none h]; decide
set_option maxHeartbeats 8000000 in
theorem ordRanks_runs (a : Option Addr) (len cap : Nat) (l : List Int) (w : World) (hT : TabE w) (hl : l.length = len) (hr : Rd (Value.int .i8) (fun _ => False) w (.slice a len cap) l) (hb : ∀ x ∈ l, -128 ≤ x ∧ x ≤ 127) (h60 : len ≤ 60) :
    Calls Tryz.prog 4 #[.slice a len cap] w fun e w' => e = .returned (.bool true) ∧ Up w w' := by
  have HT := hide hT
  have HKN := hide (known12_calls w hT)
  have HR := hide hr
  have HL := hide hl
  have HB := hide hb
  have t60 : decide ((len : Int) > 60) = false := decide_eq_false (by omega)
  have t60' : decide (60 < len) = false := decide_eq_false (by omega)
  clear hT hr hl hb
  go_enter Tryz.func4, Tryz.ntmps4
  go_wp2_with fail
  refine HKN.out.mono ?_
  rintro _ w1 ⟨rfl, hu1⟩
  obtain ⟨W2, hW2⟩ : ∃ W2, W2 = w1.alloc (.cells #[.int .i64 0, .int .i64 0, .int .i64 0, .int .i64 0] 26) := ⟨_, rfl⟩
  have u2 : Up w1 W2 := by rw [hW2]; exact (Up.refl _).alloc _
  have hmet : MetO W2 (some ⟨w1.heap.size, 0, none⟩) 0 0 0 0 := fun p hp => by
    cases hp
    refine ⟨rfl, ⟨?_, ?_, ?_, ?_⟩, fun i => ?_⟩ <;> rw [hW2] <;> go_simp
  have HMET := hide hmet
  have HHK := hide (phooksM_calls (some ⟨w1.heap.size, 0, none⟩) W2)
  have HU2 := hide (hu1.trans u2)
  have HW1 := hide hu1.size
  have hW2s : Hid (W2.heap.size = w1.heap.size + 1) := by unfold Hid; rw [hW2]; simp
  have hW2' := hW2.symm
  clear hu1 u2 hmet hW2 HKN
  dsimp only
  go_wp2_with fail
  clear hW2'
  refine HHK.out.mono ?_
  rintro _ w3 ⟨ha, hc, hl, a', c', l', rfl, -, hf, -, hx, -, -, hu3⟩
  have hin : ∀ g, InM (some ⟨w1.heap.size, 0, none⟩) g → g = w1.heap.size := fun g ⟨p, hp, hg⟩ => by cases hp; exact hg
  obtain ⟨mx, nx, hl0, cw⟩ := pick_cpr (q := 2) (by rw [hf.1]; decide) hx (HT.out.up (HU2.out.trans hu3)) (fun h => by have e := hin _ h; have := World.block_lt_of_cell? w _ HT.out; have := HW1.out; simp at *; omega) (HMET.out.up hu3) (fun g h => by rw [hin g h, hW2s.out]; omega)
  obtain ⟨gb, go, rfl, hcell⟩ := hf.fnH (i := 2) (by decide)
  rw [hl0] at hcell
  have CW := hide cw
  have HU3 := hide (HU2.out.trans hu3)
  have hfl := field_hooks (.slice ha 5 hc) (.slice (some ⟨gb, go, none⟩) 3 c')
  unfold cpF at hcell
  have HIN := hide hin
  clear hf hx hl0 cw hu3 HHK hin
  dsimp only
  go_wp2_with fail
  refine (onew_calls (InM (some ⟨w1.heap.size, 0, none⟩)) (some ⟨w1.heap.size, 0, none⟩) 2 mx nx false 0 0 0 0 w3 CW.out (by decide) (fun _ h => h) (fun g h => CW.out.met.lt h)).mono ?_
  rintro _ w4 ⟨X, T, rfl, ix4, hT4, hu4⟩
  have HTT : Hid (w.heap.size ≤ T) := Nat.le_trans HU3.out.size hT4
  have HII : Hid (∀ g, XT T (InM (some ⟨w1.heap.size, 0, none⟩)) g → w.heap.size ≤ g) := fun g hg => by
    rcases hg with hg | hg
    · rw [hg]; exact HTT.out
    · rw [HIN.out g hg]; exact HW1.out
  have HI4 : Hid (RkI (some ⟨w1.heap.size, 0, none⟩) mx nx X T l w 0 0 w4) := ⟨⟨[], 0, 0, 0, 0, 0, ix4, RkL.nil l, Nat.le_refl _, by decide, by decide⟩, HU3.out.trans hu4⟩
  generalize (some ⟨w1.heap.size, 0, none⟩ : Option Addr) = mp at HI4 HII
  clear ix4 hu4 hT4 CW HU3 hcell hfl HIN HMET hW2s HW1 HU2
  dsimp only
  go_wp2_with fail
  go_loopw [5] (fun iv wr => ∃ i : Nat, i ≤ len ∧ iv = .int .i64 i ∧ Hid (RkI mp mx nx X T l w i (200 * i) wr)) (fun iv _ => len - (intOf iv).toNat)
  case atStart => exact ⟨0, Nat.zero_le _, rfl, HI4⟩
  case round =>
    obtain ⟨i, hi, rfl, hR⟩ := hrel
    by_cases hlt : i < len
    · have hlt' : (i : Int) < (len : Int) := by omega
      have i0 : (0 : Int) ≤ (i : Int) := by omega
      obtain ⟨v, hv⟩ : ∃ v, v = l.getD i 0 := ⟨_, rfl⟩
      have hvb := bounds_i8 HB.out (k := i)
      rw [← hv] at hvb
      have e1 : IntKind.i64.wrap ((i : Int) + 1) = (i : Int) + 1 := by rw [IntKind.wrap_i64]; omega
      replace hv := hide hv
      go_wp2_with fail
      go_loopw [6, 7] (fun av kv wr => ∃ k A : Nat, k ≤ i ∧ A ≤ k ∧ av = .int .i64 A ∧ kv = .int .i64 k ∧ Hid (A = (dOf l k).countP (fun p => decide (p.1 ≤ v))) ∧ Hid (RkI mp mx nx X T l w i (200 * i) wr)) (fun _ kv _ => i - (intOf kv).toNat)
      case atStart => exact ⟨0, 0, Nat.zero_le _, Nat.le_refl _, rfl, rfl, rfl, hR⟩
      case round =>
        obtain ⟨k, A, hk, hA, rfl, rfl, hA2, hR2⟩ := hrel
        by_cases hki : k < i
        · have hki' : (k : Int) < (i : Int) := by omega
          have k0 : (0 : Int) ≤ (k : Int) := by omega
          have k1 : (k : Int) < (len : Int) := by omega
          obtain ⟨g, o, ha1, c1⟩ := cell_i8 HR.out HL.out hR2.out.up (k := k) (by omega)
          obtain ⟨g', o', ha2, c2⟩ := cell_i8 HR.out HL.out hR2.out.up (k := i) hlt
          obtain ⟨rfl, rfl⟩ : g = g' ∧ o = o' := by rw [ha1] at ha2; cases ha2; exact ⟨rfl, rfl⟩
          rw [← hv.out] at c2
          obtain ⟨y, hy⟩ : ∃ y, y = l.getD k 0 := ⟨_, rfl⟩
          rw [← hy] at c1
          have hcs := count_dsucc l k (fun p => decide (p.1 ≤ v))
          rw [← hy, ← hA2.out] at hcs
          have HCS := hide hcs
          have e2 : IntKind.i64.wrap ((k : Int) + 1) = (k : Int) + 1 := by rw [IntKind.wrap_i64]; omega
          have e3 : IntKind.i64.wrap ((A : Int) + 1) = (A : Int) + 1 := by rw [IntKind.wrap_i64]; omega
          subst ha1
          clear hcs hy ha2
          by_cases hyv : y ≤ v
          · have t1 : decide (y ≤ v) = true := decide_eq_true hyv
            go_wp2_with fail
            go_quiet (fail)
            have HR3 := hide (hR2.out.up' ((Up.refl wr).drewN nq))
            go_wp2
            go_roundw
            case rel => exact ⟨k + 1, A + 1, by omega, by omega, by first | rfl | congr 1, by first | rfl | congr 1, by unfold Hid; rw [HCS.out]; simp [t1], HR3⟩
            case measure => simp [intOf]; omega
          · have t1 : decide (y ≤ v) = false := decide_eq_false hyv
            go_wp2_with fail
            go_quiet (fail)
            have HR3 := hide (hR2.out.up' ((Up.refl wr).drewN nq))
            go_wp2
            go_roundw
            case rel => exact ⟨k + 1, A, by omega, by omega, rfl, by first | rfl | congr 1, by unfold Hid; rw [HCS.out]; simp [t1], HR3⟩
            case measure => simp [intOf]; omega
        · obtain rfl : k = i := by omega
          have hlt2 : ¬ (k : Int) < (k : Int) := by omega
          obtain ⟨g, o, ha2, c2⟩ := cell_i8 HR.out HL.out hR2.out.up (k := k) hlt
          rw [← hv.out] at c2
          subst ha2
          have e4 : IntKind.i64.wrap v = v := by rw [IntKind.wrap_i64]; omega
          obtain ⟨L, hh, n, c, h, s, ix, rk, hn, hc0, hc1⟩ := hR2.out.ix
          have hlen := rk.len
          have hsp := rk.spot v
          have hra := rk.last v
          rw [← hA2.out] at hsp hra
          have HSP := hide hsp
          have HRA := hide hra
          have IX := hide ix
          have RK := hide rk
          have HUP := hide hR2.out.up
          have HLN := hide hlen
          clear hsp hra ix rk hlen
          go_wp2_with fail
          refine (num_calls (InM mp) v wr (by omega) (by omega) (fun y hy => IX.out.ylt y hy)).mono ?_
          rintro _ w5 ⟨a5, rfl, k5, hu5⟩
          have K5 := hide k5
          have IX5 := hide (IX.out.up hu5)
          have HU5 := hide (HUP.out.trans hu5)
          clear k5 hu5 IX HUP c2
          dsimp only
          go_wp2_with fail
          refine (insert_ok (InM mp) mp 2 mx nx X T false L hh n c 0 h s a5 1 1 [numT v] ((k : Int) + 1) ((dOf l k).countP (fun p => decide (p.1 < v))) A A w5 IX5.out (by rw [HLN.out]; omega) (by omega) hc0 (by omega) (.inl rfl) K5.out HSP.out HRA.out (by simp) rfl).mono ?_
          rintro _ w6 ⟨k6, hh6, n6, x6, hk6, rfl, ix6, hx6, hn6a, hn6b, hc6⟩
          have HR6 : Hid (RkI mp mx nx X T l w (k + 1) (200 * (k + 1)) w6) := by
            have hb6 := bitsN_le (m := L.length) (by rw [HLN.out]; omega)
            refine ⟨⟨_, hh6, n6, c + k6, h, s, ix6, ?_, by omega, by omega, by push_cast; omega⟩, ((Chg.of_up HU5.out).trans hc6 (fun _ _ h => h)).up (fun y hy h => by have := HII.out y h; omega)⟩
            have := RK.out.put x6 hx6
            rw [← hv.out, ← hA2.out] at this
            exact this
          clear ix6 hk6 hx6 hn6a hn6b hc6 IX5 HU5 K5 RK HSP HRA
          dsimp only
          go_wp2_with fail
          exact ⟨⟨k + 1, by omega, by first | rfl | congr 1, HR6⟩, by simp [intOf]; omega⟩
    · obtain rfl : i = len := by omega
      have hlt2 : ¬ (i : Int) < (i : Int) := by omega
      have hR1 : Hid (RkI mp mx nx X T l w i 12000 wr) := by
        obtain ⟨L, hh, n, c, h, s, h1, h2, h3, h4, h5⟩ := hR.out.ix
        exact ⟨⟨L, hh, n, c, h, s, h1, h2, h3, h4, by push_cast at h5 ⊢; omega⟩, hR.out.up⟩
      clear hR HI4
      go_wp2_with fail
      obtain ⟨len, rfl⟩ : ∃ len, len = i := ⟨_, rfl⟩
      go_loopw [10] (fun iv wr => ∃ i : Nat, i ≤ len ∧ iv = .int .i64 i ∧ Hid (RkI mp mx nx X T l w len (12000 + 400 * i) wr)) (fun iv _ => len - (intOf iv).toNat)
      case atStart => exact ⟨0, Nat.zero_le _, rfl, hR1⟩
      case round =>
        obtain ⟨i, hi, rfl, hR⟩ := hrel
        clear hR1
        by_cases hlt : i < len
        · have hlt' : (i : Int) < (len : Int) := by omega
          have i0 : (0 : Int) ≤ (i : Int) := by omega
          obtain ⟨v, hv⟩ : ∃ v, v = l.getD i 0 := ⟨_, rfl⟩
          have hvb := bounds_i8 HB.out (k := i)
          rw [← hv] at hvb
          have e1 : IntKind.i64.wrap ((i : Int) + 1) = (i : Int) + 1 := by rw [IntKind.wrap_i64]; omega
          replace hv := hide hv
          go_wp2_with fail
          go_loopw [11, 12, 13, 14] (fun av bv cv kv wr => ∃ k A B C : Nat, k ≤ len ∧ A ≤ k ∧ B ≤ k ∧ C ≤ k ∧ av = .int .i64 A ∧ bv = .int .i64 B ∧ cv = .int .i64 C ∧ kv = .int .i64 k ∧ Hid (A = (dOf l k).countP (fun p => decide (p.1 < v))) ∧ Hid (B = (dOf l k).countP (fun p => decide (p.1 = v))) ∧ Hid (C = (dOf l k).countP (fun p => decide (p.1 = v ∧ p.2 < (i : Int) + 1))) ∧ Hid (RkI mp mx nx X T l w len (12000 + 400 * i) wr)) (fun _ _ _ kv _ => len - (intOf kv).toNat)
          case atStart => exact ⟨0, 0, 0, 0, Nat.zero_le _, Nat.le_refl _, Nat.le_refl _, Nat.le_refl _, rfl, rfl, rfl, rfl, rfl, rfl, rfl, hR⟩
          case round =>
            obtain ⟨k, A, B, C, hk, hA, hB, hC, rfl, rfl, rfl, rfl, hA2, hB2, hC2, hR2⟩ := hrel
            clear hR
            by_cases hki : k < len
            · have hki' : (k : Int) < (len : Int) := by omega
              have k0 : (0 : Int) ≤ (k : Int) := by omega
              obtain ⟨g, o, ha1, c1⟩ := cell_i8 HR.out HL.out hR2.out.up (k := k) hki
              obtain ⟨g', o', ha2, c2⟩ := cell_i8 HR.out HL.out hR2.out.up (k := i) hlt
              obtain ⟨rfl, rfl⟩ : g = g' ∧ o = o' := by rw [ha1] at ha2; cases ha2; exact ⟨rfl, rfl⟩
              rw [← hv.out] at c2
              obtain ⟨y, hy⟩ : ∃ y, y = l.getD k 0 := ⟨_, rfl⟩
              rw [← hy] at c1
              have hca := count_dsucc l k (fun p => decide (p.1 < v))
              have hcb := count_dsucc l k (fun p => decide (p.1 = v))
              have hcc := count_dsucc l k (fun p => decide (p.1 = v ∧ p.2 < (i : Int) + 1))
              rw [← hy, ← hA2.out] at hca
              rw [← hy, ← hB2.out] at hcb
              rw [← hy, ← hC2.out] at hcc
              have HCA := hide hca
              have HCB := hide hcb
              have HCC := hide hcc
              have e2 : IntKind.i64.wrap ((k : Int) + 1) = (k : Int) + 1 := by rw [IntKind.wrap_i64]; omega
              have e3 : IntKind.i64.wrap ((A : Int) + 1) = (A : Int) + 1 := by rw [IntKind.wrap_i64]; omega
              have e4 : IntKind.i64.wrap ((B : Int) + 1) = (B : Int) + 1 := by rw [IntKind.wrap_i64]; omega
              have e5 : IntKind.i64.wrap ((C : Int) + 1) = (C : Int) + 1 := by rw [IntKind.wrap_i64]; omega
              subst ha1
              clear hca hcb hcc hy ha2 hA2 hB2 hC2
              rcases Int.lt_trichotomy y v with hyv | hyv | hyv
              · have t1 : decide (y < v) = true := decide_eq_true hyv
                have t2 : (y == v) = false := by rw [beq_eq_false_iff_ne]; omega
                have t3 : ¬ y = v := by omega
                go_wp2_with fail
                go_quiet (fail)
                have HR3 := hide (hR2.out.up' ((Up.refl wr).drewN nq))
                replace c1 := ((Up.refl wr).drewN nq).cell c1
                replace c2 := ((Up.refl wr).drewN nq).cell c2
                clear hR2
                generalize wr.drewN nq = W3 at *
                go_wp2_with fail
                go_quiet (fail)
                have HR4 := hide (HR3.out.up' ((Up.refl W3).drewN nq))
                go_wp2
                go_roundw
                case rel => exact ⟨k + 1, A + 1, B, C, by omega, by omega, by omega, by omega, by first | rfl | congr 1, rfl, rfl, by first | rfl | congr 1, by unfold Hid; rw [HCA.out]; simp [t1], by unfold Hid; rw [HCB.out]; simp [t3], by unfold Hid; rw [HCC.out]; simp [t3], HR4⟩
                case measure => simp [intOf]; omega
              · have t1 : decide (y < v) = false := decide_eq_false (by omega)
                have t2 : (y == v) = true := by rw [beq_iff_eq]; exact hyv
                by_cases hkk : k < i
                · have t4 : decide ((k : Int) < (i : Int)) = true := decide_eq_true (by omega)
                  have t5 : decide (k < i) = true := decide_eq_true hkk
                  go_wp2_with fail
                  go_quiet (fail)
                  have HR3 := hide (hR2.out.up' ((Up.refl wr).drewN nq))
                  replace c1 := ((Up.refl wr).drewN nq).cell c1
                  replace c2 := ((Up.refl wr).drewN nq).cell c2
                  clear hR2
                  generalize wr.drewN nq = W3 at *
                  go_wp2_with fail
                  go_quiet (fail)
                  have HR4 := hide (HR3.out.up' ((Up.refl W3).drewN nq))
                  go_wp2
                  go_roundw
                  case rel => exact ⟨k + 1, A, B + 1, C + 1, by omega, by omega, by omega, by omega, rfl, by first | rfl | congr 1, by first | rfl | congr 1, by first | rfl | congr 1, by unfold Hid; rw [HCA.out]; simp [t1], by unfold Hid; rw [HCB.out]; simp [hyv], by unfold Hid; rw [HCC.out]; simp [hyv, hkk], HR4⟩
                  case measure => simp [intOf]; omega
                · have t4 : decide ((k : Int) < (i : Int)) = false := decide_eq_false (by omega)
                  have t5 : decide (k < i) = false := decide_eq_false hkk
                  go_wp2_with fail
                  go_quiet (fail)
                  have HR3 := hide (hR2.out.up' ((Up.refl wr).drewN nq))
                  replace c1 := ((Up.refl wr).drewN nq).cell c1
                  replace c2 := ((Up.refl wr).drewN nq).cell c2
                  clear hR2
                  generalize wr.drewN nq = W3 at *
                  go_wp2_with fail
                  go_quiet (fail)
                  have HR4 := hide (HR3.out.up' ((Up.refl W3).drewN nq))
                  go_wp2
                  go_roundw
                  case rel => exact ⟨k + 1, A, B + 1, C, by omega, by omega, by omega, by omega, rfl, by first | rfl | congr 1, rfl, by first | rfl | congr 1, by unfold Hid; rw [HCA.out]; simp [t1], by unfold Hid; rw [HCB.out]; simp [hyv], by unfold Hid; rw [HCC.out]; simp [hyv, hkk], HR4⟩
                  case measure => simp [intOf]; omega
              · have t1 : decide (y < v) = false := decide_eq_false (by omega)
                have t2 : (y == v) = false := by rw [beq_eq_false_iff_ne]; omega
                have t3 : ¬ y = v := by omega
                go_wp2_with fail
                go_quiet (fail)
                have HR3 := hide (hR2.out.up' ((Up.refl wr).drewN nq))
                replace c1 := ((Up.refl wr).drewN nq).cell c1
                replace c2 := ((Up.refl wr).drewN nq).cell c2
                clear hR2
                generalize wr.drewN nq = W3 at *
                go_wp2_with fail
                go_quiet (fail)
                have HR4 := hide (HR3.out.up' ((Up.refl W3).drewN nq))
                go_wp2
                go_roundw
                case rel => exact ⟨k + 1, A, B, C, by omega, by omega, by omega, by omega, rfl, rfl, rfl, by first | rfl | congr 1, by unfold Hid; rw [HCA.out]; simp [t1], by unfold Hid; rw [HCB.out]; simp [t3], by unfold Hid; rw [HCC.out]; simp [t3], HR4⟩
                case measure => simp [intOf]; omega
            · obtain rfl : k = len := by omega
              have hlt2 : ¬ (k : Int) < (k : Int) := by omega
              obtain ⟨g, o, ha2, c2⟩ := cell_i8 HR.out HL.out hR2.out.up (k := i) hlt
              have hcell : Hid (∀ w', Up w w' → w'.cell? ⟨g, o + i, none⟩ = some (.int .i8 v)) := fun w' hu => by
                obtain ⟨g', o', h1, h2⟩ := cell_i8 HR.out HL.out hu (k := i) hlt
                rw [ha2] at h1
                cases h1
                rw [hv.out]
                exact h2
              rw [← hv.out] at c2
              subst ha2
              have e4 : IntKind.i64.wrap v = v := by rw [IntKind.wrap_i64]; omega
              obtain ⟨L, hh, n, c, h, s, ix, rk, hn, hc0, hc1⟩ := hR2.out.ix
              have hlen := rk.len
              have hsp := rk.spot v
              have hmine := rk.mine i hlt
              rw [← hv.out] at hmine
              have hcle := count_le (A := dOf l k) v
              rw [hcle] at hsp hmine
              rw [← hA2.out, ← hB2.out] at hsp
              rw [← hA2.out, ← hB2.out, ← hC2.out] at hmine
              have e6 : IntKind.i64.wrap ((A : Int) + (B : Int)) = ((A + B : Nat) : Int) := by rw [IntKind.wrap_i64]; omega
              have e7 : IntKind.i64.wrap ((A : Int) + (C : Int)) = ((A + C : Nat) : Int) := by rw [IntKind.wrap_i64]; omega
              have hb6 := bitsN_le (m := L.length) (by rw [hlen]; omega)
              obtain ⟨hrk, hAC, hid⟩ := hmine
              have hdec : decide (A + C < A + B ∧ (L.getD (A + C) (zeroET, [])).1.id = (i : Int) + 1) = true := decide_eq_true ⟨hAC, hid⟩
              have hACL : A + C < L.length := Nat.lt_of_lt_of_le hAC hsp.top
              have HSP := hide hsp
              have HRK := hide hrk
              have HDC := hide hdec
              have HID := hide hid
              have IX := hide ix
              have RK := hide rk
              have HUP := hide hR2.out.up
              have HLN := hide hlen
              have HAC := hide hACL
              have HB6 := hide hb6
              clear hsp hrk hdec hid ix rk hlen hcle hA2 hB2 hC2 hR2 hAC hACL hb6
              go_wp2_with fail
              refine (num_calls (InM mp) v wr (by omega) (by omega) (fun y hy => IX.out.ylt y hy)).mono ?_
              rintro _ w5 ⟨a5, rfl, k5, hu5⟩
              have K5 := hide k5
              have IX5 := hide (IX.out.up hu5)
              have HU5 := hide (HUP.out.trans hu5)
              clear k5 hu5 IX HUP c2
              dsimp only
              go_wp2_with fail
              refine (ofind_ok (InM mp) mp 2 mx nx X T false L hh n c 0 h s a5 1 1 [numT v] A (A + B) w5 IX5.out (by rw [HLN.out]; omega) hc0 (by omega) (.inl rfl) K5.out HSP.out).mono ?_
              rintro _ w6 ⟨k6, hk6, rfl, hc6, hm6⟩
              have IX6 := hide (IX5.out.met hc6 hm6)
              have HU6 : Hid (Up w w6) := ((Chg.of_up HU5.out).trans hc6 (fun _ _ h => h)).up (fun y hy h => by have := HII.out y (.inr h); omega)
              have c2 := hcell.out w6 HU6.out
              have hk6' : k6 ≤ 200 := by have := HB6.out; omega
              clear hk6 hc6 hm6 IX5 HU5 K5
              dsimp only
              go_wp2_with fail
              refine (num_calls (InM mp) v w6 (by omega) (by omega) (fun y hy => IX6.out.ylt y hy)).mono ?_
              rintro _ w7 ⟨a7, rfl, k7, hu7⟩
              have K7 := hide k7
              have IX7 := hide (IX6.out.up hu7)
              have HU7 := hide (HU6.out.trans hu7)
              clear k7 hu7 IX6 HU6 c2
              dsimp only
              go_wp2_with fail
              have hsp7 := spotOf_ok (InM mp) mp 2 mx nx X T false L hh n (c + k6) 0 h s a7 1 1 [numT v] ((i : Int) + 1) A (A + B) (A + C) w7 IX7.out (by rw [HLN.out]; omega) (by omega) (by omega) (.inl rfl) K7.out HSP.out HRK.out
              rw [HDC.out] at hsp7
              refine (orank_ok mp 2 mx nx X T false L hh n (c + k6) 0 h s a7 1 1 [numT v] ((i : Int) + 1) A (A + B) (A + C) true w7 hsp7).mono ?_
              rintro _ w8 ⟨k8, hk8, rfl, hc8, hm8⟩
              have IX8 := hide (IX7.out.met hc8 hm8)
              have HU8 : Hid (Up w w8) := ((Chg.of_up HU7.out).trans hc8 (fun _ _ h => h)).up (fun y hy h => by have := HII.out y (.inr h); omega)
              have hk8' : k8 ≤ 200 := by have := HB6.out; omega
              clear hk8 hc8 hm8 IX7 HU7 K7 hsp7
              dsimp only
              go_wp2_with fail
              refine (oat_ok X T hh n L (A + C) (XT T (InM mp)) w8 IX8.out.x2 IX8.out.tr.tr IX8.out.ke HAC.out (by rw [HLN.out]; omega)).mono ?_
              rintro _ w9 ⟨a9, rfl, -, -, hu9⟩
              have eid : (L[A + C]'HAC.out).1.id = (i : Int) + 1 := by
                have := HID.out
                rw [List.getD_eq_getElem?_getD, List.getElem?_eq_getElem HAC.out] at this
                exact this
              rw [eid]
              obtain ⟨n9, hn9⟩ : ∃ n9, n9 = (L[A + C]'HAC.out).1.n := ⟨_, rfl⟩
              rw [← hn9]
              have HRF : Hid (∀ x, RkI mp mx nx X T l w k (12000 + 400 * (i + 1)) (w9.alloc x)) := fun x => ⟨⟨L, hh, n, c + k6 + k8, h, s, (IX8.out.up hu9).up ((Up.refl _).alloc _), RK.out, hn, by omega, by push_cast at hc1 ⊢; omega⟩, (HU8.out.trans hu9).alloc _⟩
              clear hn9 eid hu9 IX8 HU8
              dsimp only
              go_wp2_with fail
              exact ⟨⟨i + 1, by omega, by first | rfl | congr 1, HRF.out _⟩, by simp [intOf]; omega⟩
        · obtain rfl : i = len := by omega
          have hlt3 : ¬ (i : Int) < (i : Int) := by omega
          have HUP := hide hR.out.up
          go_wp2
          go_ret
          exact ⟨rfl, HUP.out⟩
theorem ordRanks_many (a : Option Addr) (len cap : Nat) (w : World) (hT : TabE w) (h60 : ¬ len ≤ 60) :
    Calls Tryz.prog 4 #[.slice a len cap] w fun e w' => e = .returned (.bool true) ∧ Up w w' := by
  have HKN := hide (known12_calls w hT)
  have t60 : decide ((len : Int) > 60) = true := decide_eq_true (by omega)
  have t60' : decide (60 < len) = true := decide_eq_true (by omega)
  clear hT
  go_enter Tryz.func4, Tryz.ntmps4
  go_wp2_with fail
  refine HKN.out.mono ?_
  rintro _ w1 ⟨rfl, hu1⟩
  have HU := hide hu1
  clear hu1 HKN
  dsimp only
  go_wp2
  go_ret
  exact ⟨rfl, HU.out⟩
end Go.Proofs.YtnokokhbcfkifaaGreatDoor

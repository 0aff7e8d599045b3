/-
  OrdFails of rialtolaw12, as its text runs.
-/
import Derived.Test.YtnokokhbcfkifaaGreatDoorOxFak
import Derived.Test.YtnokokhbcfkifaaGreatDoorOxUnw
import Derived.Test.YtnokokhbcfkifaaGreatDoorOxHitG
import Derived.Test.YtnokokhbcfkifaaGreatDoorOxEnt
import Derived.Test.YtnokokhbcfkifaaGreatDoorOxAlm
import Derived.Test.YtnokokhbcfkifaaGreatDoorOxAll
namespace Go.Proofs.YtnokokhbcfkifaaGreatDoor
open Go.ChangeShapes Go.WideShapes Go.ChangeAt Go.RowKit
set_option linter.unusedVariables false
set_option maxRecDepth 100000
attribute [local go_sem ↓] Go.wp_at_zero Go.wp_at_succ

/-- What holds from round to round: the index, and that nothing old was written into. -/
structure FaI (mb mx nx X T : Nat) (w : World) (i : Nat) (wr : World) : Prop where
  ix : ∃ L hh n c h s, IxW (InM (some ⟨mb, 0, none⟩)) (some ⟨mb, 0, none⟩) 0 mx nx X T false L hh n c 0 h s wr ∧ FaL i L ∧ n ≤ 19 * i ∧ 0 ≤ c ∧ c ≤ ((200 * i : Nat) : Int)
  up : Up w wr
theorem ins_get {α : Type} (x : α) (L : List α) (j : Nat) (hj : j ≤ L.length) (h : j < (insL x L j).length) : (insL x L j)[j] = x := by
  have e : (insL x L j)[j]? = some x := by
    unfold insL
    rw [List.getElem?_append_right (by rw [List.length_take]; omega), List.length_take, Nat.min_eq_left hj, Nat.sub_self]; rfl
  rw [List.getElem?_eq_getElem h] at e
  exact Option.some.inj e
/-- What All told, as it lies there. -/
structure WasAt (B : Nat) (va : Value) (L L' : List EP) (w : World) : Prop where
  own : OwnV 51 eC w B va (L'.map (·.1))
  same : L'.map idv = L.map idv
  keys : ∀ p ∈ L', KeyC (fun y => y < B) w p.1.a p.1.n p.1.c p.2
theorem KeyC.less {C D : Nat → Prop} {w : World} {a : Option Addr} {n c : Nat} {m : List VT} (h : KeyC C w a n c m) (hd : ∀ y, D y → C y) : KeyC D w a n c m := ⟨h.k, fun g hg hD => h.far g hg (hd g hD), h.lt, h.cap, h.top⟩
theorem WasAt.chg {B : Nat} {va : Value} {L L' : List EP} {C : Nat → Prop} {w w' : World} (r : WasAt B va L L' w) (hc : Chg C w w') (hC : ∀ y, C y → y < B) : WasAt B va L L' w' :=
  ⟨r.own.chg hc (fun g hg hCg => by have := (r.own.lt g hg).1; have := hC g hCg; omega), r.same, fun p hp => (r.keys p hp).chg (hc.mono (fun y _ e => hC y e))⟩
theorem WasAt.up {B : Nat} {va : Value} {L L' : List EP} {w w' : World} (r : WasAt B va L L' w) (hu : Up w w') : WasAt B va L L' w' := r.chg (C := fun _ => False) (Chg.of_up hu) (fun _ h => h.elim)
set_option maxHeartbeats 8000000 in
theorem ordFails_runs (a : Option Addr) (len cap : Nat) (l : List Int) (v at' : Int) (w : World) (hT : TabE w) (hl : l.length = len) (hr : Rd (Value.int .i8) (fun _ => False) w (.slice a len cap) l) (hb : ∀ x ∈ l, -128 ≤ x ∧ x ≤ 127) (hv : -128 ≤ v ∧ v ≤ 127) (hat : 0 ≤ at' ∧ at' ≤ 255) (h60 : len ≤ 40) :
    Calls Tryz.prog 6 #[.slice a len cap, .int .i8 v, .int .u8 at'] w fun e w' => e = .returned (.bool true) ∧ Up w w' := by
  have HT := hide hT
  have HKN := hide (known12_calls w hT)
  have HR := hide hr
  have HL := hide hl
  have HB := hide hb
  have t60 : decide ((len : Int) > 40) = false := decide_eq_false (by omega)
  have t60' : decide (40 < len) = false := decide_eq_false (by omega)
  clear hT hr hl hb
  go_enter Tryz.func6, Tryz.ntmps6
  go_wp2_with fail
  refine HKN.out.mono ?_
  rintro _ w1 ⟨rfl, hu1⟩
  obtain ⟨W2, hW2⟩ : ∃ W2, W2 = w1.alloc (.cells #[.int .i64 0, .int .i64 0, .int .i64 0, .int .i64 0] 26) := ⟨_, rfl⟩
  have u2 : Up w1 W2 := by rw [hW2]; exact (Up.refl _).alloc _
  have hmet : MetO W2 (some ⟨w1.heap.size, 0, none⟩) 0 0 0 0 := fun p hp => by
    cases hp
    refine ⟨rfl, ⟨?_, ?_, ?_, ?_⟩, fun i => ?_⟩ <;> rw [hW2] <;> go_simp
  have HMET := hide hmet
  have HHK := hide (phooksM_calls (some ⟨w1.heap.size, 0, none⟩) W2)
  have HU2 := hide (hu1.trans u2)
  have HW1 := hide hu1.size
  have hW2s : Hid (W2.heap.size = w1.heap.size + 1) := by unfold Hid; rw [hW2]; simp
  have hW2' := hW2.symm
  clear hu1 u2 hmet hW2 HKN
  dsimp only
  go_wp2_with fail
  clear hW2'
  refine HHK.out.mono ?_
  rintro _ w3 ⟨ha, hc, hl, a', c', l', rfl, -, hf, -, hx, -, -, hu3⟩
  have hin : ∀ g, InM (some ⟨w1.heap.size, 0, none⟩) g → g = w1.heap.size := fun g ⟨p, hp, hg⟩ => by cases hp; exact hg
  obtain ⟨mx, nx, hl0, cw⟩ := pick_cpr (q := 0) (by rw [hf.1]; decide) hx (HT.out.up (HU2.out.trans hu3)) (fun h => by have e := hin _ h; have := World.block_lt_of_cell? w _ HT.out; have := HW1.out; simp at *; omega) (HMET.out.up hu3) (fun g h => by rw [hin g h, hW2s.out]; omega)
  obtain ⟨gb, go, rfl, hcell⟩ := hf.fnH (i := 0) (by decide)
  rw [hl0] at hcell
  have CW := hide cw
  have HU3 := hide (HU2.out.trans hu3)
  have hfl := field_hooks (.slice ha 5 hc) (.slice (some ⟨gb, go, none⟩) 3 c')
  unfold cpF at hcell
  simp only [Nat.add_zero] at hcell
  have HIN := hide hin
  clear hf hx hl0 cw hu3 HHK hin
  dsimp only
  go_wp2_with fail
  refine (onew_calls (InM (some ⟨w1.heap.size, 0, none⟩)) (some ⟨w1.heap.size, 0, none⟩) 0 mx nx false 0 0 0 0 w3 CW.out (by decide) (fun _ h => h) (fun g h => CW.out.met.lt h)).mono ?_
  rintro _ w4 ⟨X, T, rfl, ix4, hT4, hu4⟩
  have HTT : Hid (w.heap.size ≤ T) := Nat.le_trans HU3.out.size hT4
  have HII : Hid (∀ g, XT T (InM (some ⟨w1.heap.size, 0, none⟩)) g → w.heap.size ≤ g) := fun g hg => by
    rcases hg with hg | hg
    · rw [hg]; exact HTT.out
    · rw [HIN.out g hg]; exact HW1.out
  have HI4 : Hid (FaI w1.heap.size mx nx X T w 0 w4) := ⟨⟨[], 0, 0, 0, 0, 0, ix4, FaL.nil, Nat.le_refl _, by decide, by decide⟩, HU3.out.trans hu4⟩
  generalize w1.heap.size = mb at HI4 HII
  clear ix4 hu4 hT4 CW HU3 hcell hfl HIN HMET hW2s HW1 HU2
  dsimp only
  go_wp2_with fail
  go_loopw [9] (fun iv wr => ∃ i : Nat, i ≤ len ∧ iv = .int .i64 i ∧ Hid (FaI mb mx nx X T w i wr)) (fun iv _ => len - (intOf iv).toNat)
  case atStart => exact ⟨0, Nat.zero_le _, rfl, HI4⟩
  case round =>
    obtain ⟨i, hi, rfl, hR⟩ := hrel
    by_cases hlt : i < len
    · have hlt' : (i : Int) < (len : Int) := by omega
      have i0 : (0 : Int) ≤ (i : Int) := by omega
      obtain ⟨v2, hv2⟩ : ∃ v2, v2 = l.getD i 0 := ⟨_, rfl⟩
      have hvb := bounds_i8 HB.out (k := i)
      rw [← hv2] at hvb
      have e1 : IntKind.i64.wrap ((i : Int) + 1) = (i : Int) + 1 := by rw [IntKind.wrap_i64]; omega
      have e2 : IntKind.i64.wrap v2 = v2 := by rw [IntKind.wrap_i64]; omega
      have e3 : IntKind.i64.wrap (i : Int) = (i : Int) := by rw [IntKind.wrap_i64]; omega
      obtain ⟨g, o, ha2, c2⟩ := cell_i8 HR.out HL.out hR.out.up (k := i) hlt
      rw [← hv2] at c2
      subst ha2
      obtain ⟨L, hh, n, c, h, s, ix, rk, hn, hc0, hc1⟩ := hR.out.ix
      have hlen := rk.len
      have HSP := hide (rk.spot v2)
      have HRA := hide (rk.last v2 ((i : Int) + 1) (by omega))
      have IX := hide ix
      have RK := hide rk
      have HUP := hide hR.out.up
      have HLN := hide hlen
      clear ix rk hlen hv2 HI4 hR
      go_wp2_with fail
      refine (num_calls (InM (some ⟨mb, 0, none⟩)) v2 wr (by omega) (by omega) (fun y hy => IX.out.ylt y hy)).mono ?_
      rintro _ w5 ⟨a5, rfl, k5, hu5⟩
      have K5 := hide k5
      have IX5 := hide (IX.out.up hu5)
      have HU5 := hide (HUP.out.trans hu5)
      clear k5 hu5 IX HUP c2
      dsimp only
      go_wp2_with fail
      refine (insert_ok (InM (some ⟨mb, 0, none⟩)) (some ⟨mb, 0, none⟩) 0 mx nx X T false L hh n c 0 h s a5 1 1 [numT v2] ((i : Int) + 1) (gtC L v2) (geC L v2) (geC L v2) w5 IX5.out (by rw [HLN.out]; omega) (by omega) hc0 (by omega) (.inl rfl) K5.out HSP.out HRA.out (by simp) (by simp)).mono ?_
      rintro _ w6 ⟨k6, hh6, n6, x6, hk6, rfl, ix6, hx6, hn6a, hn6b, hc6⟩
      have hb6 := bitsN_le (m := L.length) (by rw [HLN.out]; omega)
      have HR7 : Hid (FaI mb mx nx X T w (i + 1) w6) := ⟨⟨_, hh6, n6, _, _, _, ix6, RK.out.put x6 v2 hx6, by omega, by omega, by omega⟩, ((Chg.of_up HU5.out).trans hc6 (fun _ _ h => h)).up (fun y hy h => by have := HII.out y h; omega)⟩
      clear ix6 hx6 hn6a hn6b hc6 IX5 HU5 K5 HSP HRA RK hk6 hb6
      dsimp only
      go_wp2_with fail
      exact ⟨⟨i + 1, by omega, by first | rfl | congr 1, HR7⟩, by simp [intOf]; omega⟩
    · obtain rfl : i = len := by omega
      have hlt2 : ¬ (i : Int) < (i : Int) := by omega
      obtain ⟨L, hh, n, c, h, s, ix, rk, hn, hc0, hc1⟩ := hR.out.ix
      have hlen := rk.len
      have HUP := hide hR.out.up
      have HLN := hide hlen
      have RK := hide rk
      have IX := hide ix
      have HAL := hide (all_calls (XT T (InM (some ⟨mb, 0, none⟩))) X T hh n L wr ix.x2 ix.tr.tr ix.ke (by rw [hlen]; omega))
      clear ix rk hlen hR HI4
      go_wp2_with fail
      refine HAL.out.mono ?_
      rintro _ w5 ⟨va, L5, rfl, ho5, he5, hk5, hu5⟩
      have WAS : Hid (WasAt wr.heap.size va L L5 w5) := ⟨ho5, he5, fun p hp => (hk5 p hp).less (fun y hy => .inl hy)⟩
      have HB5 : Hid (∀ y, XT T (InM (some ⟨mb, 0, none⟩)) y → y < wr.heap.size) := fun y hy => hy.elim (fun e => by rw [e]; exact IX.out.tr.tr.lt) (fun e => IX.out.ylt y e)
      have IX5 := hide (IX.out.up hu5)
      have HU5 := hide (HUP.out.trans hu5)
      obtain ⟨a5, n5, c5, rfl, -, -⟩ := ho5.sliceN
      clear ho5 he5 hk5 hu5 HAL IX HUP
      dsimp only
      go_wp2_with fail
      obtain ⟨t, ht⟩ : ∃ t, t = at' % 12 + 1 := ⟨_, rfl⟩
      rw [← ht]
      have ht1 : 1 ≤ t ∧ t ≤ 12 := by omega
      have hb1 : bits .and .i64 1 1023 = 1 := by first | decide | rfl
      have hb0 : bits .and .i64 0 1023 = 0 := by first | decide | rfl
      have HB0 := hide hb0
      refine (mset_g mb c 0 h s t 1 w5 (by omega) (IX5.out.cw.met _ rfl).2).mono ?_
      rintro _ w6 ⟨rfl, hm6, hc6⟩
      rw [hb1] at hm6
      have hcM : Chg (InM (some ⟨mb, 0, none⟩)) w5 w6 := hc6.mono (fun y _ e => ⟨_, rfl, e⟩)
      have IX6 := hide (IX5.out.met hcM (c' := 0) (t' := t) (h' := 1) (s' := 0) (fun p hp => by cases hp; exact ⟨rfl, hm6⟩))
      have WAS6 := hide (WAS.out.chg hcM (fun y e => HB5.out y (.inr e)))
      have HU6 : Hid (Up w w6) := ((Chg.of_up HU5.out).trans hcM (fun _ _ h => h)).up (fun y hy h => by have := HII.out y (.inr h); omega)
      have ev : IntKind.i64.wrap v = v := by rw [IntKind.wrap_i64]; omega
      clear hm6 hc6 hcM IX5 WAS HU5 hb1 hb0
      dsimp only
      go_wp2_with fail
      refine (num_calls (InM (some ⟨mb, 0, none⟩)) v w6 (by omega) (by omega) (fun y hy => IX6.out.ylt y hy)).mono ?_
      rintro _ w7 ⟨a7, rfl, k7, hu7⟩
      have K7 := hide k7
      have IX7 := hide (IX6.out.up hu7)
      have WAS7 := hide (WAS6.out.up hu7)
      have HU7 := hide (HU6.out.trans hu7)
      clear k7 hu7 IX6 WAS6 HU6
      dsimp only
      go_wp2_with fail
      refine (insert2_ok (InM (some ⟨mb, 0, none⟩)) mb 0 mx nx X T false L hh n 0 t 1 a7 1 1 [numT v] 99 (gtC L v) (geC L v) (geC L v) w7 IX7.out (by rw [HLN.out]; omega) (by omega) (by decide) (by decide) K7.out (RK.out.spot v) (RK.out.last v 99 (by omega)) (by simp) (by simp)).mono ?_
      rintro _ w8 (⟨k8, hh8, n8, x8, hk8, rfl, ix8, hx8, -, hn8, hc8⟩ | ⟨km, rfl, hc8, hm8⟩)
      · have m3 := ((ix8.cw.met _ rfl).2).1.2.2.2
        have HLEN := hide (olen_calls X T hh8 n8 _ w8 ix8.x2 ix8.tr.tr)
        have hLN : ((insL (x8, [numT v]) L (geC L v)).map (·.1)).length = i + 1 := by rw [List.length_map, (perm_ins _ _ _).length_eq, List.length_cons, HLN.out]
        rw [hLN] at HLEN
        have HU8 : Hid (Up w w8) := ((Chg.of_up HU7.out).trans hc8 (fun _ _ h => h)).up (fun y hy h => by have := HII.out y h; omega)
        have e9 : IntKind.i64.wrap ((i : Int) + 1) = (i : Int) + 1 := by rw [IntKind.wrap_i64]; omega
        clear ix8 hc8 hx8 hk8 hn8 hLN IX7 HU7 WAS7 K7
        dsimp only
        go_wp2_with fail
        refine HLEN.out.mono ?_
        rintro _ w9 ⟨rfl, rfl⟩
        dsimp only
        go_wp2
        go_ret
        exact ⟨by simp, HU8.out⟩
      · have m3 := ((hm8 _ rfl).2).1.2.2.2
        have IX8 := hide (IX7.out.met hc8 hm8)
        have WAS8 := hide (WAS7.out.chg hc8 (fun y e => HB5.out y (.inr e)))
        have HU8 : Hid (Up w w8) := ((Chg.of_up HU7.out).trans hc8 (fun _ _ h => h)).up (fun y hy h => by have := HII.out y (.inr h); omega)
        have HAL := hide (all_calls (XT T (InM (some ⟨mb, 0, none⟩))) X T hh n L w8 IX8.out.x2 IX8.out.tr.tr IX8.out.ke (by rw [HLN.out]; omega))
        unfold markV
        clear hc8 hm8 IX7 HU7 WAS7 K7
        dsimp only
        go_wp2_with fail
        refine HAL.out.mono ?_
        rintro _ w9 ⟨vb, L9, rfl, ho9, he9, hk9, hu9⟩
        have HEN := hide (ents_same (fun _ => False) (fun _ => False) vb (.slice a5 n5 c5) L9 L5 w9 (ho9.rd (fun _ _ h => h)) ((WAS8.out.up hu9).own.rd (fun _ _ h => h)) (fun p hp => (hk9 p hp).k) (fun p hp => ((WAS8.out.up hu9).keys p hp).k) (he9.trans WAS8.out.same.symm) (by have := congrArg List.length he9; simp only [List.length_map] at this; rw [this, HLN.out]; omega))
        have IX9 := hide (IX8.out.up hu9)
        have WAS9 := hide (WAS8.out.up hu9)
        have HU9 := hide (HU8.out.trans hu9)
        clear ho9 he9 hk9 hu9 IX8 WAS8 HU8 HAL m3
        dsimp only
        go_wp2_with fail
        refine HEN.out.mono ?_
        rintro _ w10 ⟨rfl, hu10⟩
        have IX10 := hide (IX9.out.up hu10)
        have WAS10 := hide (WAS9.out.up hu10)
        have HU10 := hide (HU9.out.trans hu10)
        clear hu10 HEN IX9 WAS9 HU9
        dsimp only
        go_wp2_with fail
        refine (mset_g mb t t 1 1 0 0 w10 (by omega) (IX10.out.cw.met _ rfl).2).mono ?_
        rintro _ w11 ⟨rfl, hm11, hc11⟩
        rw [HB0.out] at hm11
        have hcM : Chg (InM (some ⟨mb, 0, none⟩)) w10 w11 := hc11.mono (fun y _ e => ⟨_, rfl, e⟩)
        have IX11 := hide (IX10.out.met hcM (c' := 0) (t' := 0) (h' := 0) (s' := 0) (fun p hp => by cases hp; exact ⟨rfl, hm11⟩))
        have WAS11 := hide (WAS10.out.chg hcM (fun y e => HB5.out y (.inr e)))
        have HU11 : Hid (Up w w11) := ((Chg.of_up HU10.out).trans hcM (fun _ _ h => h)).up (fun y hy h => by have := HII.out y (.inr h); omega)
        clear hm11 hc11 hcM IX10 WAS10 HU10
        dsimp only
        go_wp2_with fail
        refine (num_calls (InM (some ⟨mb, 0, none⟩)) v w11 (by omega) (by omega) (fun y hy => IX11.out.ylt y hy)).mono ?_
        rintro _ w12 ⟨a12, rfl, k12, hu12⟩
        have K12 := hide k12
        have IX12 := hide (IX11.out.up hu12)
        have WAS12 := hide (WAS11.out.up hu12)
        have HU12 := hide (HU11.out.trans hu12)
        clear k12 hu12 IX11 WAS11 HU11
        dsimp only
        go_wp2_with fail
        refine (insert_ok (InM (some ⟨mb, 0, none⟩)) (some ⟨mb, 0, none⟩) 0 mx nx X T false L hh n 0 0 0 0 a12 1 1 [numT v] 99 (gtC L v) (geC L v) (geC L v) w12 IX12.out (by rw [HLN.out]; omega) (by omega) (by decide) (by decide) (.inl rfl) K12.out (RK.out.spot v) (RK.out.last v 99 (by omega)) (by simp) (by simp)).mono ?_
        rintro _ w13 ⟨k13, hh13, n13, x13, hk13, rfl, ix13, hx13, -, hn13, hc13⟩
        have IX13 := hide ix13
        have HX13 := hide hx13
        have WAS13 := hide (WAS12.out.chg hc13 (fun y e => HB5.out y e))
        have HU13 : Hid (Up w w13) := ((Chg.of_up HU12.out).trans hc13 (fun _ _ h => h)).up (fun y hy h => by have := HII.out y h; omega)
        have hgl := geC_le L v
        have hil : (insL (x13, [numT v]) L (geC L v)).length = i + 1 := by rw [(perm_ins _ _ _).length_eq, List.length_cons, HLN.out]
        have hjl : geC L v < (insL (x13, [numT v]) L (geC L v)).length := by rw [hil]; have := HLN.out; omega
        have HER := hide (oeraseAt_ok (InM (some ⟨mb, 0, none⟩)) (some ⟨mb, 0, none⟩) 0 mx nx X T false (insL (x13, [numT v]) L (geC L v)) hh13 n13 (0 + (k13 : Int)) 0 0 0 (geC L v) w13 IX13.out hjl (by rw [hil]; omega) (by omega))
        have hget : (insL (x13, [numT v]) L (geC L v))[geC L v].1 = x13 := by
          have := ins_get (x13, [numT v]) L (geC L v) hgl hjl
          rw [this]
        rw [hget, del_ins _ _ _ hgl] at HER
        unfold encE at HER
        rw [HX13.out] at HER
        obtain ⟨j, hj⟩ : ∃ j, j = geC L v := ⟨_, rfl⟩
        rw [← hj] at HER ⊢
        clear ix13 hx13 hc13 hk13 hget hil hjl hgl hj IX12 WAS12 HU12 K12 IX13 hn13
        dsimp only
        go_wp2_with fail
        refine HER.out.mono ?_
        rintro _ w14 ⟨hh14, n14, rfl, ix14, hn14, hc14⟩
        have WAS14 := hide (WAS13.out.chg hc14 (fun y e => HB5.out y (.inl e)))
        have HU14 : Hid (Up w w14) := ((Chg.of_up HU13.out).trans hc14 (fun _ _ h => h)).up (fun y hy h => by have := HII.out y (.inl h); omega)
        have HAL : Hid (∀ w', Up w14 w' → Calls Tryz.prog 27 #[.pointer (some ⟨X, 0, none⟩)] w' fun e w'' => AllOk L w' e w'') := fun w' hu => all_calls (XT T (InM (some ⟨mb, 0, none⟩))) X T hh14 n14 L w' (ix14.up hu).x2 (ix14.up hu).tr.tr (ix14.up hu).ke (by rw [HLN.out]; omega)
        clear ix14 hn14 hc14 HER WAS13 HU13 HX13
        dsimp only
        go_wp2_with fail
        refine (HAL.out _ (by first | exact Up.refl _ | exact (Up.refl _).alloc _)).mono ?_
        rintro _ w15 ⟨vb, L15, rfl, ho15, he15, hk15, hu15⟩
        have hu15' : Up w14 w15 := by first | exact hu15 | exact ((Up.refl _).alloc _).trans hu15
        have HEN := hide (ents_same (fun _ => False) (fun _ => False) vb (.slice a5 n5 c5) L15 L5 w15 (ho15.rd (fun _ _ h => h)) ((WAS14.out.up hu15').own.rd (fun _ _ h => h)) (fun p hp => (hk15 p hp).k) (fun p hp => ((WAS14.out.up hu15').keys p hp).k) (he15.trans WAS14.out.same.symm) (by have := congrArg List.length he15; simp only [List.length_map] at this; rw [this, HLN.out]; omega))
        have HU15 := hide (HU14.out.trans hu15')
        clear ho15 he15 hk15 hu15 hu15' WAS14 HU14 HAL
        dsimp only
        go_wp2_with fail
        refine HEN.out.mono ?_
        rintro _ w16 ⟨rfl, hu16⟩
        have HU16 := hide (HU15.out.trans hu16)
        clear hu16 HEN HU15
        dsimp only
        go_wp2
        go_ret
        exact ⟨rfl, HU16.out⟩
theorem ordFails_many (a : Option Addr) (len cap : Nat) (v at' : Int) (w : World) (hT : TabE w) (h60 : ¬ len ≤ 40) :
    Calls Tryz.prog 6 #[.slice a len cap, .int .i8 v, .int .u8 at'] w fun e w' => e = .returned (.bool true) ∧ Up w w' := by
  have HKN := hide (known12_calls w hT)
  have t60 : decide ((len : Int) > 40) = true := decide_eq_true (by omega)
  have t60' : decide (40 < len) = true := decide_eq_true (by omega)
  clear hT
  go_enter Tryz.func6, Tryz.ntmps6
  go_wp2_with fail
  refine HKN.out.mono ?_
  rintro _ w1 ⟨rfl, hu1⟩
  have HU := hide hu1
  clear hu1 HKN
  dsimp only
  go_wp2
  go_ret
  exact ⟨rfl, HU.out⟩
end Go.Proofs.YtnokokhbcfkifaaGreatDoor

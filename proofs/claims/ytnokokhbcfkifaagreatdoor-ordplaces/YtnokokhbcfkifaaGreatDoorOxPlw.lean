/-
  OrdPlaces of rialtolaw12, as its text runs.
-/
import Derived.Test.YtnokokhbcfkifaaGreatDoorOxPlx
import Derived.Test.YtnokokhbcfkifaaGreatDoorOxAlm
import Derived.Deep.CutRange
import Derived.Deep.RegionLaw
import Derived.Deep.RegionHeld3
import Derived.BigQuiet
namespace Go.Proofs.YtnokokhbcfkifaaGreatDoor
open Go.ChangeShapes Go.WideShapes Go.ChangeAt Go.RowKit
set_option linter.unusedVariables false
set_option maxRecDepth 100000
attribute [local go_sem ↓] Go.wp_at_zero Go.wp_at_succ

theorem KeyC.less {C D : Nat → Prop} {w : World} {a : Option Addr} {n c : Nat} {m : List VT} (h : KeyC C w a n c m) (hd : ∀ y, D y → C y) : KeyC D w a n c m := ⟨h.k, fun g hg hD => h.far g hg (hd g hD), h.lt, h.cap, h.top⟩
theorem elemN : ElemT (α := Int) Tryz.prog 82 3 (Value.int .i64) (.int .i64 0) 8 where
  ht := Tryz.underlying82
  hi := by kernel_rfl
  hb := by decide
  one := fun _ => rfl
  zc := rfl
  zo := rfl
theorem step_append_rowN {α : Type} {P : Program} {t e : TypeId} {enc : α → Value} {z : Value} {bytes : Nat} (T : ElemT P t e enc z bytes) {X : Nat → Prop} {w : World} {base : Nat} {ops : Array Oper} {o : Oper} {a : Act} {K : Act → World → Prop} {Q : Exit → Act → World → Prop} {E : Prop}
    (hg : o.guard = none) (s x : Operand) (hop : o.op = .call { callee := .builtin .append, args := #[s, x], argTypes := #[t, t] }) (v u : Value) (l m : List α) (hd : a.eval s = v) (hx : a.eval x = u)
    (hown : Own e enc w base v l) (hbase : base ≤ w.heap.size) (hr : Rd enc X w u m) (hlen : l.length + m.length ≤ 10000000)
    (hK : ∀ v' w', Own e enc w' base v' (l ++ m) → w.grownBy w' v.ownBlock → (v'.ownBlock = v.ownBlock ∨ v'.ownBlock = some w.heap.size) → K (a.put o.dst v') w') :
    if Region.wanted o (yielded ops a.tmps) = true then Oper.wp P o a w K Q else E := by
  obtain ⟨v', w', hrun, h2, h3, h4⟩ := run_append_rd T w base v u l m o.type hown hr hlen hbase
  exact step_append_run hg s x t hop v u hd hx hrun (hK v' w' h2 h3 h4)
theorem step_append_rowM {α : Type} {P : Program} {t e : TypeId} {cs : α → List Value} {z z0 z1 : Value} {bytes : Nat} (T : ElemV P t e cs z z0 z1 bytes) {X : Nat → Prop} {w : World} {base : Nat} {ops : Array Oper} {o : Oper} {a : Act} {K : Act → World → Prop} {Q : Exit → Act → World → Prop} {E : Prop}
    (hg : o.guard = none) (s x : Operand) (hop : o.op = .call { callee := .builtin .append, args := #[s, x], argTypes := #[t, t] }) (v u : Value) (l m : List α) (hd : a.eval s = v) (hx : a.eval x = u)
    (hown : OwnV e cs w base v l) (hbase : base ≤ w.heap.size) (hr : RdV cs X w u m) (hlen : l.length + m.length ≤ 10000000)
    (hK : ∀ v' w', OwnV e cs w' base v' (l ++ m) → w.grownBy w' v.ownBlock → (v'.ownBlock = v.ownBlock ∨ v'.ownBlock = some w.heap.size) → K (a.put o.dst v') w') :
    if Region.wanted o (yielded ops a.tmps) = true then Oper.wp P o a w K Q else E := by
  obtain ⟨v', w', hrun, h2, h3, h4⟩ := run_append_rdV T w base v u l m o.type hown hr hlen hbase
  exact step_append_run hg s x t hop v u hd hx hrun (hK v' w' h2 h3 h4)
theorem rdN_one {X : Nat → Prop} {w : World} {g : Nat} {y : Int} (hX : ¬ X g) (h : w.cell? ⟨g, 0, none⟩ = some (.int .i64 y)) : Rd (Value.int .i64) X w (.slice (some ⟨g, 0, none⟩) 1 1) [y] := by
  refine ⟨some ⟨g, 0, none⟩, 1, rfl, Nat.le_refl _, by unfold maxLen; omega, .inr ⟨g, 0, rfl, hX, fun j u hj => ?_⟩⟩
  cases j with
  | zero => simp at hj; subst hj; exact h
  | succ j => simp at hj
theorem rdM_one {X : Nat → Prop} {w : World} {g : Nat} {y : ET} (hX : ¬ X g) (h0 : w.cell? ⟨g, 0, none⟩ = some (.slice y.a y.n y.c)) (h1 : w.cell? ⟨g, 1, none⟩ = some (.int .i64 y.id)) : RdV eC X w (.slice (some ⟨g, 0, none⟩) 1 1) [y] := by
  refine ⟨some ⟨g, 0, none⟩, 1, rfl, Nat.le_refl _, by unfold maxLen; omega, .inr ⟨g, 0, rfl, ⟨hX, World.block_lt_of_cell? w _ h0⟩, fun j u hj => ?_⟩⟩
  match j with
  | 0 => simp [eC] at hj; subst hj; exact h0
  | 1 => simp [eC] at hj; subst hj; exact h1
  | j + 2 => simp [eC] at hj
theorem cell_u8 {X : Nat → Prop} {w wr : World} {a : Option Addr} {len cap : Nat} {l : List Int} (hr : Rd (Value.int .u8) X w (.slice a len cap) l) (hl : l.length = len) (hu : Up w wr) {k : Nat} (hk : k < len) : ∃ g o, a = some ⟨g, o, none⟩ ∧ wr.cell? ⟨g, o + k, none⟩ = some (.int .u8 (l.getD k 0)) := by
  obtain ⟨g, o, h1, h2⟩ := hr.get (i := k) (by omega)
  refine ⟨g, o, h1, ?_⟩
  have e : l.getD k 0 = l[k]'(by omega) := by rw [List.getD_eq_getElem?_getD, List.getElem?_eq_getElem (by omega)]; rfl
  rw [e]
  exact hu.cell h2
theorem bounds_u8 {l : List Int} (hb : ∀ x ∈ l, 0 ≤ x ∧ x ≤ 255) {k : Nat} : 0 ≤ l.getD k 0 ∧ l.getD k 0 ≤ 255 := by
  rcases Nat.lt_or_ge k l.length with h | h
  · have e : l.getD k 0 = l[k] := by rw [List.getD_eq_getElem?_getD, List.getElem?_eq_getElem h]; rfl
    rw [e]
    exact hb _ (List.getElem_mem h)
  · rw [List.getD_eq_getElem?_getD, List.getElem?_eq_none h]; decide
set_option maxHeartbeats 16000000 in
theorem ordPlaces_runs (a : Option Addr) (len cap : Nat) (l : List Int) (b : Option Addr) (olen ocap : Nat) (out : List Int) (w : World) (hT : TabE w) (hl : l.length = len) (hr : Rd (Value.int .i8) (fun _ => False) w (.slice a len cap) l) (hb : ∀ x ∈ l, -128 ≤ x ∧ x ≤ 127) (hol : out.length = olen) (hor : Rd (Value.int .u8) (fun _ => False) w (.slice b olen ocap) out) (hob : ∀ x ∈ out, 0 ≤ x ∧ x ≤ 255) (h40 : len ≤ 40) (ho40 : olen ≤ 40) :
    Calls Tryz.prog 7 #[.slice a len cap, .slice b olen ocap] w fun e w' => e = .returned (.bool true) ∧ Up w w' := by
  have HOR := hide hor
  have HOL := hide hol
  have HOB := hide hob
  have o40 : decide ((olen : Int) > 40) = false := decide_eq_false (by omega)
  have o40' : decide (40 < olen) = false := decide_eq_false (by omega)
  clear hor hol hob
  have HT := hide hT
  have HKN := hide (known12_calls w hT)
  have HR := hide hr
  have HL := hide hl
  have HB := hide hb
  have t60 : decide ((len : Int) > 40) = false := decide_eq_false (by omega)
  have t60' : decide (40 < len) = false := decide_eq_false (by omega)
  clear hT hr hl hb
  go_enter Tryz.func7, Tryz.ntmps7
  go_wp2_with fail
  refine HKN.out.mono ?_
  rintro _ w1 ⟨rfl, hu1⟩
  obtain ⟨W2, hW2⟩ : ∃ W2, W2 = w1.alloc (.cells #[.int .i64 0, .int .i64 0, .int .i64 0, .int .i64 0] 26) := ⟨_, rfl⟩
  have u2 : Up w1 W2 := by rw [hW2]; exact (Up.refl _).alloc _
  have hmet : MetO W2 (some ⟨w1.heap.size, 0, none⟩) 0 0 0 0 := fun p hp => by
    cases hp
    refine ⟨rfl, ⟨?_, ?_, ?_, ?_⟩, fun i => ?_⟩ <;> rw [hW2] <;> go_simp
  have HMET := hide hmet
  have HHK := hide (phooksM_calls (some ⟨w1.heap.size, 0, none⟩) W2)
  have HU2 := hide (hu1.trans u2)
  have HW1 := hide hu1.size
  have hW2s : Hid (W2.heap.size = w1.heap.size + 1) := by unfold Hid; rw [hW2]; simp
  have hW2' := hW2.symm
  clear hu1 u2 hmet hW2 HKN
  dsimp only
  go_wp2_with fail
  clear hW2'
  refine HHK.out.mono ?_
  rintro _ w3 ⟨ha, hc, hl, a', c', l', rfl, -, hf, -, hx, -, -, hu3⟩
  have hin : ∀ g, InM (some ⟨w1.heap.size, 0, none⟩) g → g = w1.heap.size := fun g ⟨p, hp, hg⟩ => by cases hp; exact hg
  obtain ⟨mx, nx, hl0, cw⟩ := pick_cpr (q := 2) (by rw [hf.1]; decide) hx (HT.out.up (HU2.out.trans hu3)) (fun h => by have e := hin _ h; have := World.block_lt_of_cell? w _ HT.out; have := HW1.out; simp at *; omega) (HMET.out.up hu3) (fun g h => by rw [hin g h, hW2s.out]; omega)
  obtain ⟨gb, go, rfl, hcell⟩ := hf.fnH (i := 2) (by decide)
  rw [hl0] at hcell
  have CW := hide cw
  have HU3 := hide (HU2.out.trans hu3)
  have hfl := field_hooks (.slice ha 5 hc) (.slice (some ⟨gb, go, none⟩) 3 c')
  unfold cpF at hcell
  have HIN := hide hin
  clear hf hx hl0 cw hu3 HHK hin
  dsimp only
  go_wp2_with fail
  refine (onew_calls (InM (some ⟨w1.heap.size, 0, none⟩)) (some ⟨w1.heap.size, 0, none⟩) 2 mx nx false 0 0 0 0 w3 CW.out (by decide) (fun _ h => h) (fun g h => CW.out.met.lt h)).mono ?_
  rintro _ w4 ⟨X, T, rfl, ix4, hT4, hu4⟩
  have HTT : Hid (w.heap.size ≤ T) := Nat.le_trans HU3.out.size hT4
  have HII : Hid (∀ g, XT T (InM (some ⟨w1.heap.size, 0, none⟩)) g → w.heap.size ≤ g) := fun g hg => by
    rcases hg with hg | hg
    · rw [hg]; exact HTT.out
    · rw [HIN.out g hg]; exact HW1.out
  have HI4 : Hid (RkI (some ⟨w1.heap.size, 0, none⟩) mx nx X T l w 0 0 w4) := ⟨⟨[], 0, 0, 0, 0, 0, ix4, RkL.nil l, Nat.le_refl _, by decide, by decide⟩, HU3.out.trans hu4⟩
  have HIN2 : Hid (∀ g, InM (some ⟨w1.heap.size, 0, none⟩) g → g = w1.heap.size) := hide (fun g ⟨p, hp, hg⟩ => by cases hp; exact hg)
  generalize w1.heap.size = mb at HI4 HII HIN2
  clear ix4 hu4 hT4 CW HU3 hcell hfl HIN HMET hW2s HW1 HU2
  dsimp only
  go_wp2_with fail
  go_loopw [7] (fun iv wr => ∃ i : Nat, i ≤ len ∧ iv = .int .i64 i ∧ Hid (RkI (some ⟨mb, 0, none⟩) mx nx X T l w i (200 * i) wr)) (fun iv _ => len - (intOf iv).toNat)
  case atStart => exact ⟨0, Nat.zero_le _, rfl, HI4⟩
  case round =>
    obtain ⟨k, hi, rfl, hR⟩ := hrel
    by_cases hlt : k < len
    · have hlt' : (k : Int) < (len : Int) := by omega
      have k0 : (0 : Int) ≤ (k : Int) := by omega
      obtain ⟨v, hv⟩ : ∃ v, v = l.getD k 0 := ⟨_, rfl⟩
      have hvb := bounds_i8 HB.out (k := k)
      rw [← hv] at hvb
      have e1 : IntKind.i64.wrap ((k : Int) + 1) = (k : Int) + 1 := by rw [IntKind.wrap_i64]; omega
      have e4 : IntKind.i64.wrap v = v := by rw [IntKind.wrap_i64]; omega
      replace hv := hide hv
      obtain ⟨g, o, ha2, c2⟩ := cell_i8 HR.out HL.out hR.out.up (k := k) hlt
      rw [← hv.out] at c2
      subst ha2
      obtain ⟨L, hh, n, c, h, s, ix, rk, hn, hc0, hc1⟩ := hR.out.ix
      obtain ⟨A, hA2⟩ : ∃ A, A = (dOf l k).countP (fun p => decide (p.1 ≤ v)) := ⟨_, rfl⟩
      have hlen := rk.len
      have hsp := rk.spot v
      have hra := rk.last v
      rw [← hA2] at hsp hra
      have HSP := hide hsp
      have HRA := hide hra
      have HA2 := hide hA2
      have IX := hide ix
      have RK := hide rk
      have HUP := hide hR.out.up
      have HLN := hide hlen
      clear hsp hra ix rk hlen hA2 HI4 hR
      go_wp2_with fail
      refine (num_calls (InM (some ⟨mb, 0, none⟩)) v wr (by omega) (by omega) (fun y hy => IX.out.ylt y hy)).mono ?_
      rintro _ w5 ⟨a5, rfl, k5, hu5⟩
      have K5 := hide k5
      have IX5 := hide (IX.out.up hu5)
      have HU5 := hide (HUP.out.trans hu5)
      clear k5 hu5 IX HUP c2
      dsimp only
      go_wp2_with fail
      refine (insert_ok (InM (some ⟨mb, 0, none⟩)) (some ⟨mb, 0, none⟩) 2 mx nx X T false L hh n c 0 h s a5 1 1 [numT v] ((k : Int) + 1) ((dOf l k).countP (fun p => decide (p.1 < v))) A A w5 IX5.out (by rw [HLN.out]; omega) (by omega) hc0 (by omega) (.inl rfl) K5.out HSP.out HRA.out (by simp) rfl).mono ?_
      rintro _ w6 ⟨k6, hh6, n6, x6, hk6, rfl, ix6, hx6, hn6a, hn6b, hc6⟩
      have HR6 : Hid (RkI (some ⟨mb, 0, none⟩) mx nx X T l w (k + 1) (200 * (k + 1)) w6) := by
        have hb6 := bitsN_le (m := L.length) (by rw [HLN.out]; omega)
        refine ⟨⟨_, hh6, n6, c + k6, h, s, ix6, ?_, by omega, by omega, by push_cast; omega⟩, ((Chg.of_up HU5.out).trans hc6 (fun _ _ h => h)).up (fun y hy h => by have := HII.out y h; omega)⟩
        have := RK.out.put x6 hx6
        rw [← hv.out, ← HA2.out] at this
        exact this
      clear ix6 hk6 hx6 hn6a hn6b hc6 IX5 HU5 K5 RK HSP HRA
      dsimp only
      go_wp2_with fail
      exact ⟨⟨k + 1, by omega, by first | rfl | congr 1, HR6⟩, by simp [intOf]; omega⟩
    · obtain rfl : k = len := by omega
      have hlt2 : ¬ (k : Int) < (k : Int) := by omega
      obtain ⟨L, hh, n, c, h, s, ix, rk, hn, hc0, hc1⟩ := hR.out.ix
      have hlen := rk.len
      have HUP := hide hR.out.up
      have HLN := hide hlen
      have RK := hide rk
      have IX := hide ix
      have HAL := hide (all_calls (XT T (InM (some ⟨mb, 0, none⟩))) X T hh n L wr ix.x2 ix.tr.tr ix.ke (by rw [hlen]; omega))
      clear ix rk hlen hR HI4
      go_wp2_with fail
      refine HAL.out.mono ?_
      rintro _ w5 ⟨va, L5, rfl, ho5, he5, hk5, hu5⟩
      have HB5 : Hid (∀ y, XT T (InM (some ⟨mb, 0, none⟩)) y → y < wr.heap.size) := fun y hy => hy.elim (fun e => by rw [e]; exact IX.out.tr.tr.lt) (fun e => IX.out.ylt y e)
      have IX5 := hide (IX.out.up hu5)
      have HU5 := hide (HUP.out.trans hu5)
      obtain ⟨a5, n5, c5, rfl, -, -⟩ := ho5.sliceN
      have HO5 := hide ho5
      have HE5 := hide he5
      have HK5 := hide hk5
      clear ho5 he5 hk5 hu5 HAL IX HUP
      dsimp only
      go_wp2_with fail
      have hb0 : bits .and .i64 0 1023 = 0 := by first | decide | rfl
      refine (mset_g mb c 0 h s 0 0 w5 (by omega) (IX5.out.cw.met _ rfl).2).mono ?_
      rintro _ w6 ⟨rfl, hm6, hc6⟩
      rw [hb0] at hm6
      have hcM : Chg (InM (some ⟨mb, 0, none⟩)) w5 w6 := hc6.mono (fun y _ e => ⟨_, rfl, e⟩)
      have hcX : Chg (XT T (InM (some ⟨mb, 0, none⟩))) w5 w6 := hcM.mono (fun y _ e => .inr e)
      have IX6 := hide (IX5.out.met hcM (c' := 0) (t' := 0) (h' := 0) (s' := 0) (fun p hp => by cases hp; exact ⟨rfl, hm6⟩))
      have HP6 : Hid (PlB mb mx nx X T w6.heap.size w (.slice a5 n5 c5) L5 L [] [] [] (.slice none 0 0) (.slice none 0 0) 760 w6) := hide (by
        have a1 := World.block_lt_of_cell? w6 _ IX6.out.cw.k0
        have a2 := World.block_lt_of_cell? w6 _ IX6.out.cw.k1
        have a3 := World.block_lt_of_cell? w6 _ IX6.out.cw.tab
        have a4 := IX6.out.ylt mb ⟨_, rfl, rfl⟩
        have a5' := IX6.out.tr.tr.lt
        simp only at a1 a2 a3
        have hup6 : Up w w6 := ((Chg.of_up HU5.out).trans hcM (fun _ _ h => h)).up (fun y hy h => by have := HII.out y (.inr h); omega)
        exact ⟨⟨InM (some ⟨mb, 0, none⟩), hh, n, IX6.out, by omega, fun y hy => HII.out y (.inr hy), nofun, nofun, nofun, fun p hp => ((HK5.out p hp).less (fun y hy => .inl (HB5.out y hy))).chg hcX, (HO5.out.rd (fun g hg e => by have := (HO5.out.lt g hg).1; have := HB5.out g e; omega)).chg hcX⟩, Own.nil _ _ _ _, OwnV.nil _ _ _ _, hup6, a4, a1, a2, a3, hup6.size, Nat.le_refl _, HTT.out, a5'⟩)
      have HI0 : Hid (L5.map idv = L.map idv ∧ ((L.map idv).map (·.1)).Nodup) := hide ⟨HE5.out, RK.out.ids⟩
      have HLK : Hid (L.length ≤ 40) := hide (by rw [HLN.out]; omega)
      generalize w6.heap.size = Bb at HP6
      clear hm6 hc6 hcM hcX IX5 HU5 HO5 HE5 HK5 HB5 IX6 RK hb0
      dsimp only
      go_wp2_with fail
      obtain ⟨I0, hI0⟩ : ∃ I0, I0 = L.map idv := ⟨_, rfl⟩
      have HND : Hid ((I0.map (·.1)).Nodup ∧ L5.map idv = I0 ∧ I0.length ≤ 40) := hide ⟨by rw [hI0]; exact HI0.out.2, by rw [hI0]; exact HI0.out.1, by rw [hI0, List.length_map]; exact HLK.out⟩
      have HG0 : Hid (GoneR I0 [] (L.map idv) ∧ ([] : List EP).map idv = ([] : List (Nat × IV)).reverse.map (·.2)) := hide ⟨hI0.symm, rfl⟩
      have HLL : Hid (L.length ≤ 40) := HLK
      clear hI0 HI0 HLK
      go_loopw [11, 12, 13] (fun v11 v12 v13 wr => ∃ (k : Nat) (P : List (Nat × IV)) (L : List EP) (G : List EP), k ≤ olen ∧ v13 = .int .i64 k ∧ P.length = k ∧ Hid (PlB mb mx nx X T Bb w (.slice a5 n5 c5) L5 L (P.reverse.map (fun p => (p.1 : Int))) G G v11 v12 (760 + 19 * k) wr) ∧ Hid (GoneR I0 P (L.map idv) ∧ G.map idv = P.reverse.map (·.2))) (fun _ _ v13 _ => olen - (intOf v13).toNat)
      case atStart => exact ⟨0, [], L, [], Nat.zero_le _, rfl, rfl, HP6, HG0⟩
      case round =>
        clear HP6 HG0
        obtain ⟨j, P, L, G, hj, rfl, hPl, hP, hG⟩ := hrel
        have j0 : (0 : Int) ≤ (j : Int) := by omega
        have HPL := hide hPl
        clear hPl
        have hlk : L.length ≤ 40 := by have := (gone_sub hG.out.1).length_le; rw [List.length_map] at this; have := HND.out.2.2; omega
        obtain ⟨n, hn⟩ : ∃ n, n = L.length := ⟨_, rfl⟩
        have HN := hide hn
        have hn40 : n ≤ 40 := by omega
        have HLN2 : Hid (∀ w', Up wr w' → Calls Tryz.prog 25 #[.pointer (some ⟨X, 0, none⟩)] w' fun e w'' => e = .returned (.int .i64 n) ∧ w'' = w') := hide (fun w' hu => by rw [HN.out]; exact pl_len (hP.out.upw hu))
        clear hlk hn
        go_upto_region 18 with fail
        obtain ⟨bb, hbb⟩ : ∃ bb : Bool, bb = true ↔ (j < olen ∧ 0 < n) := ⟨decide _, decide_eq_true_iff⟩
        have HBBB := hide hbb
        go_cut [73] from 65 to 107 (fun v wx => v = .bool bb ∧ wx = wr)
        case first =>
          by_cases hjo : j < olen
          · have j1 : (j : Int) < (olen : Int) := by omega
            by_cases hn0 : 0 < n
            · obtain rfl : bb = true := hbb.2 ⟨hjo, hn0⟩
              have n1 : decide ((n : Int) > 0) = true := decide_eq_true (by omega)
              have n2 : decide (0 < n) = true := decide_eq_true hn0
              clear hbb hn0
              go_wp2_with fail
              refine (HLN2.out _ (Up.refl _)).mono ?_
              rintro _ wx ⟨rfl, hwx⟩
              obtain rfl : wr = wx := hwx.symm
              dsimp only
              go_wp2
              go_meet
              exact ⟨rfl, rfl⟩
            · obtain rfl : bb = false := by
                cases bb
                · rfl
                · exact absurd (hbb.1 rfl).2 hn0
              have n1 : decide ((n : Int) > 0) = false := decide_eq_false (by omega)
              have n2 : decide (0 < n) = false := decide_eq_false hn0
              clear hbb hn0
              go_wp2_with fail
              refine (HLN2.out _ (Up.refl _)).mono ?_
              rintro _ wx ⟨rfl, hwx⟩
              obtain rfl : wr = wx := hwx.symm
              dsimp only
              go_wp2
              go_meet
              exact ⟨rfl, rfl⟩
          · obtain rfl : bb = false := by
              cases bb
              · rfl
              · exact absurd (hbb.1 rfl).1 hjo
            have j1 : ¬ (j : Int) < (olen : Int) := by omega
            clear hbb
            go_wp2
            go_meet
            exact ⟨rfl, rfl⟩
        case rest =>
        obtain ⟨rfl, rfl⟩ := hcut
        clear hbb
        cases bb
        · clear HBBB HLN2 HN hn40
          obtain ⟨a11, n11, c11, rfl, hn11, -⟩ := hP.out.at_.sliceN
          obtain ⟨a12, n12, c12, rfl, hn12, -⟩ := hP.out.go.sliceN
          have hj40 : j ≤ 40 := by omega
          have hGl : G.length = j := by have h1 := congrArg List.length hG.out.2; simp at h1; rw [h1]; exact HPL.out
          have HN11 : Hid (n11 = j) := hide (by rw [hn11.out]; simp; exact HPL.out)
          have HN12 : Hid (n12 = j) := hide (by rw [hn12.out]; simp; exact hGl)
          obtain rfl : n11 = j := HN11.out
          obtain rfl : n12 = n11 := HN12.out
          have HP0 : Hid (PlB mb mx nx X T Bb w (.slice a5 n5 c5) L5 L (P.reverse.map (fun p => (p.1 : Int))) G G (.slice a11 n12 c11) (.slice a12 n12 c12) (760 + 19 * n12 + 19 * (n12 - n12)) wc) := hide (by rw [Nat.sub_self]; exact hP.out)
          have HG1 : Hid (GoneR I0 P (L.map idv) ∧ ∃ S, P = S ++ P) := hide ⟨hG.out.1, [], rfl⟩
          have HGG : Hid (G.map idv = P.reverse.map (·.2)) := hide hG.out.2
          clear hP hG hn11 hn12 HN11 HN12 hGl
          go_wp2_with fail
          go_loopw [19] (fun v19 wr => ∃ (m : Nat) (P' : List (Nat × IV)) (L' : List EP), v19 = .int .i64 ((m : Int) - 1) ∧ m ≤ n12 ∧ P'.length = m ∧ Hid (PlB mb mx nx X T Bb w (.slice a5 n5 c5) L5 L' (P.reverse.map (fun p => (p.1 : Int))) G G (.slice a11 n12 c11) (.slice a12 n12 c12) (760 + 19 * n12 + 19 * (n12 - m)) wr) ∧ Hid (GoneR I0 P' (L'.map idv) ∧ ∃ S, P = S ++ P')) (fun v19 _ => (intOf v19 + 1).toNat)
          case atStart => exact ⟨n12, P, L, by first | rfl | (congr 1; rw [IntKind.wrap_i64]; omega) | simp [wrap64] , Nat.le_refl _, HPL.out, HP0, HG1⟩
          case round =>
            clear HP0 HG1
            obtain ⟨m, P', L', rfl, hm, hPl, hP, hG⟩ := hrel
            have hlk : L'.length ≤ 40 := by have := (gone_sub hG.out.1).length_le; rw [List.length_map] at this; have := HND.out.2.2; omega
            have HLK := hide hlk
            clear hlk
            cases m with
            | zero =>
              obtain rfl : P' = [] := List.length_eq_zero_iff.1 hPl
              have HI0 : Hid (L'.map idv = I0) := hide hG.out.1
              have t1 : ¬ (((0 : Nat) : Int) - 1 ≥ 0) := by decide
              have t2 : decide ((((0 : Nat) : Int) - 1) ≥ 0) = false := by decide
              have HLL2 := hide (pl_len hP.out)
              have HER : Hid (∀ w', Up wr w' → Calls Tryz.prog 20 #[.pointer (some ⟨X, 0, none⟩), .int .i64 (L'.length : Int)] w' fun e w'' => e = .returned (.tuple #[.agg #[.slice none 0 0, .int .i64 0], .int .i64 73]) ∧ Up w' w'') := hide (fun w' hu => pl_len_not (hP.out.upw hu) _ (.inr (Int.le_refl _)))
              go_wp2_with fail
              refine HLL2.out.mono ?_
              rintro _ w3 ⟨rfl, hw3⟩
              obtain rfl : wr = w3 := hw3.symm
              dsimp only
              go_wp2_with fail
              refine (HER.out _ (Up.refl _)).mono ?_
              rintro _ w4 ⟨rfl, hu4⟩
              obtain ⟨W5, hW5⟩ : ∃ W5, W5 = w4.alloc (.cells #[.slice none 0 0, .int .i64 0] 51) := ⟨_, rfl⟩
              have HP5 := hide (hP.out.upw (hu4.trans (show Up w4 W5 by rw [hW5]; exact (Up.refl _).alloc _)))
              have HAL := hide (pl_all HP5.out (by have := HLK.out; omega))
              have HW5 := hide hW5
              clear hu4 HER HLL2 hP hW5
              dsimp only
              go_upto_region 34 with fail
              rw [← HW5.out]
              go_wp2_with fail
              refine HAL.out.mono ?_
              rintro _ w6 ⟨vb, L6, rfl, ho6, he6, hk6, hu6⟩
              have HP6 := hide (HP5.out.upw hu6)
              have HEN := hide (ents_same (fun _ => False) (fun _ => False) vb (.slice a5 n5 c5) L6 L5 w6 (ho6.rd (fun _ _ h => h)) HP6.out.was.1 (fun p hp => (hk6 p hp).k) HP6.out.was.2 (he6.trans (HI0.out.trans HND.out.2.1.symm)) (by have h1 := congrArg List.length he6; simp only [List.length_map] at h1; have := HLK.out; omega))
              clear ho6 he6 hk6 hu6 HP5 HAL HW5
              dsimp only
              go_wp2_with fail
              refine HEN.out.mono ?_
              rintro _ w7 ⟨rfl, hu7⟩
              have HP7 := hide (HP6.out.upw hu7)
              have cm := HP7.out.meter
              have HIN := hide (pl_ins_not HP7.out (by have := HLK.out; omega))
              clear hu7 HP6 HEN
              dsimp only
              go_wp2_with fail
              refine HIN.out.mono ?_
              rintro _ w8 ⟨rfl, hu8⟩
              have HU8 := hide (HP7.out.up.trans hu8)
              clear hu8 HIN HP7 cm
              dsimp only
              go_wp2
              go_ret
              exact ⟨rfl, HU8.out⟩
            | succ m =>
              obtain ⟨pe, P'', rfl⟩ : ∃ pe P'', P' = pe :: P'' := by
                cases P' with
                | nil => simp at hPl
                | cons a b => exact ⟨a, b, rfl⟩
              obtain ⟨p, e⟩ := pe
              have hPm : P''.length = m := by simpa using hPl
              obtain ⟨⟨I', hg1, hg2, hg3⟩, S, hS⟩ := hG.out
              obtain ⟨hA, d, hd, hde⟩ := rows_last hS HGG.out
              rw [hPm] at hA hd
              obtain ⟨hm1, hAe⟩ := List.getElem?_eq_some_iff.1 hA
              obtain ⟨hm2, hde2⟩ := List.getElem?_eq_some_iff.1 hd
              obtain ⟨g11, o11, rfl, r1⟩ := hP.out.at_.rd (X := fun _ => False) (fun _ _ h => h) |>.get (i := m) hm1
              rw [hAe] at r1
              have hm2' : m < (G.map (·.1)).length := by simpa using hm2
              obtain ⟨g12, o12, rfl, r2⟩ := (hP.out.go.rd (X := fun _ => False) (fun _ _ h => h)).get (i := m) hm2'
              have r3 := r2 0 _ rfl
              have r4 := r2 1 _ rfl
              rw [Nat.add_zero] at r3
              rw [← Nat.add_assoc] at r4
              have ed : (G.map (·.1))[m] = d.1 := by rw [List.getElem_map, hde2]
              rw [ed] at r3 r4
              have hpL : p ≤ L'.length := by
                have h1 := (List.getElem?_eq_some_iff.1 hg2).1
                have h2 := congrArg List.length hg3
                rw [List.length_map] at h2
                unfold delL at h2
                simp at h2
                omega
              have hT1 : g11 ≠ T := fun e => by have h1 := (hP.out.at_.lt g11 rfl).1; have h2 := hP.out.far.2.2.2.2.2.2.2; omega
              have hT2 : g12 ≠ T := fun e => by have h1 := (hP.out.go.lt g12 rfl).1; have h2 := hP.out.far.2.2.2.2.2.2.2; omega
              have HC : Hid (∀ w', Up wr w' → w'.cell? ⟨g11, o11 + m, none⟩ = some (.int .i64 p) ∧ w'.cell? ⟨g12, o12 + m * 2, none⟩ = some (.slice d.1.a d.1.n d.1.c) ∧ w'.cell? ⟨g12, o12 + m * 2 + 1, none⟩ = some (.int .i64 d.1.id)) := hide (fun w' hu => ⟨hu.cell r1, hu.cell r3, hu.cell r4⟩)
              have HINS : Hid (∀ w', Up wr w' → Calls Tryz.prog 21 #[.pointer (some ⟨X, 0, none⟩), .int .i64 p, .agg #[.slice d.1.a d.1.n d.1.c, .int .i64 d.1.id]] w' fun e w'' => e = .returned (.int .i64 0) ∧ ∃ L2, Hid (PlB mb mx nx X T Bb w (.slice a5 n5 c5) L5 L2 (P.reverse.map (fun p => (p.1 : Int))) G G (.slice (some ⟨g11, o11, none⟩) n12 c11) (.slice (some ⟨g12, o12, none⟩) n12 c12) (760 + 19 * n12 + 19 * (n12 - m)) w'') ∧ Hid (GoneR I0 P'' (L2.map idv) ∧ ∃ S, P = S ++ P'') ∧ (w''.cell? ⟨g11, o11 + m, none⟩ = some (.int .i64 p) ∧ w''.cell? ⟨g12, o12 + m * 2, none⟩ = some (.slice d.1.a d.1.n d.1.c) ∧ w''.cell? ⟨g12, o12 + m * 2 + 1, none⟩ = some (.int .i64 d.1.id))) := hide (fun w' hu => by
                refine (pl_insert (hP.out.upw hu) (List.mem_of_getElem? hd) hpL (by have := HLK.out; omega) (by omega)).mono ?_
                rintro e' w2 ⟨rfl, L2, q1, q2, q3⟩
                refine ⟨rfl, L2, ?_, ⟨?_, S ++ [(p, e)], by rw [hS]; simp⟩, q3.cell (hu.cell r1) (fun e => hT1 e), q3.cell (hu.cell r3) (fun e => hT2 e), q3.cell (hu.cell r4) (fun e => hT2 e)⟩
                · unfold Hid
                  rw [show 760 + 19 * n12 + 19 * (n12 - m) = 760 + 19 * n12 + 19 * (n12 - (m + 1)) + 19 by omega]
                  exact q2
                · rw [q1, hg3, hde, ins_del hg2]
                  exact hg1)
              have em : (((m + 1 : Nat) : Int) - 1) = (m : Int) := by omega
              rw [em]
              have m0 : (0 : Int) ≤ (m : Int) := by omega
              have mn : (m : Int) < (n12 : Int) := by omega
              have t1 : decide ((m : Int) ≥ 0) = true := decide_eq_true (by omega)
              have ekm : IntKind.i64.wrap (m : Int) = (m : Int) := by rw [IntKind.wrap_i64]; omega
              have ekw : wrap64 ((m : Int) - 1) = (m : Int) - 1 := by rw [wrap64]; omega
              have HPM := hide hPm
              clear hg1 hg2 hg3 hS hA hd hde hm1 hAe hm2 hde2 r1 r2 r3 r4 ed hpL hP hG hm2' hPl hPm em hT1 hT2
              go_upto_region 31 with fail
              refine wp_region_noPanic ?_
              go_region_held3 (fun w' => w'.cell? ⟨g11, o11 + m, none⟩ = some (.int .i64 p) ∧ w'.cell? ⟨g12, o12 + m * 2, none⟩ = some (.slice d.1.a d.1.n d.1.c) ∧ w'.cell? ⟨g12, o12 + m * 2 + 1, none⟩ = some (.int .i64 d.1.id))
                (first | (refine HC7.out _ ?_; (repeat' (with_reducible first | assumption | exact Up.refl _ | apply Up.alloc | apply Up.drew)); done) | (refine HC.out _ ?_; (repeat' (with_reducible first | assumption | exact Up.refl _ | apply Up.alloc | apply Up.drew)); done))
                (first
                  | (go_at_call 21; refine (HINS.out _ (by repeat' (with_reducible first | assumption | exact Up.refl _ | apply Up.alloc | apply Up.drew))).mono ?_; rintro _ w7 ⟨rfl, L2, hp7, hg7, hc7⟩; have HC7 : Hid (∀ w', Up w7 w' → w'.cell? ⟨g11, o11 + m, none⟩ = some (.int .i64 p) ∧ w'.cell? ⟨g12, o12 + m * 2, none⟩ = some (.slice d.1.a d.1.n d.1.c) ∧ w'.cell? ⟨g12, o12 + m * 2 + 1, none⟩ = some (.int .i64 d.1.id)) := hide (fun w' hu => ⟨hu.cell hc7.1, hu.cell hc7.2.1, hu.cell hc7.2.2⟩); clear hc7))
              all_goals
                have HR7 := hide hg7
                have HQ7 : Hid (∀ w', Up w7 w' → Hid (PlB mb mx nx X T Bb w (.slice a5 n5 c5) L5 L2 (P.reverse.map (fun p => (p.1 : Int))) G G (.slice (some ⟨g11, o11, none⟩) n12 c11) (.slice (some ⟨g12, o12, none⟩) n12 c12) (760 + 19 * n12 + 19 * (n12 - m)) w')) := hide (fun w' hu => hide (hp7.out.upw hu))
                refine NoPanic.normal ?_
                clear hp7 hg7 ekm t1
                go_wp2
                go_roundw
                case rel => exact ⟨m, P'', L2, by simp, by omega, HPM.out, HQ7.out _ (by repeat' (with_reducible first | assumption | exact Up.refl _ | apply Up.alloc | apply Up.drew)), HR7.out⟩
                case measure => first | (simp [intOf]; done) | (simp [intOf]; omega)
        · obtain ⟨hjo, hn0⟩ := HBBB.out.1 rfl
          clear HBBB
          have j1 : (j : Int) < (olen : Int) := by omega
          obtain ⟨y, hy⟩ : ∃ y, y = out.getD j 0 := ⟨_, rfl⟩
          have hyb := bounds_u8 HOB.out (k := j)
          rw [← hy] at hyb
          obtain ⟨g, o, ha2, c2⟩ := cell_u8 HOR.out HOL.out hP.out.up (k := j) hjo
          rw [← hy] at c2
          subst ha2
          obtain ⟨yn, rfl⟩ : ∃ yn : Nat, y = yn := ⟨y.toNat, by omega⟩
          obtain ⟨p, hp⟩ : ∃ p, p = yn % n := ⟨_, rfl⟩
          have hpn : p < n := by rw [hp]; exact Nat.mod_lt _ hn0
          have et : Int.tmod (yn : Int) (n : Int) = (p : Int) := by rw [hp]; exact (Int.ofNat_tmod yn n)
          have en0 : ¬ (n : Int) = 0 := by omega
          have en0' : ((n : Int) == 0) = false := by simp; omega
          have ey : IntKind.i64.wrap (yn : Int) = (yn : Int) := by rw [IntKind.wrap_i64]; omega
          have ep : IntKind.i64.wrap (p : Int) = (p : Int) := by rw [IntKind.wrap_i64]; omega
          have ej : IntKind.i64.wrap (j : Int) = (j : Int) := by rw [IntKind.wrap_i64]; omega
          clear hy hp
          go_upto_region 20 with fail
          go_quiet ((go_at_call 25; exact Calls.quiet_of_same (HLN2.out _ ((Up.refl _).drewN _))))
          obtain ⟨W1, hW1⟩ : ∃ W1, W1 = wc.drewN nq := ⟨_, rfl⟩
          rw [← hW1]
          have HP1 := hide (hP.out.upw (show Up wc W1 by rw [hW1]; exact (Up.refl _).drewN _))
          clear hW1 hP HLN2 c2
          obtain ⟨a11, n11, c11, rfl, -, -⟩ := HP1.out.at_.sliceN
          obtain ⟨a12, n12, c12, rfl, -, -⟩ := HP1.out.go.sliceN
          have hpL : p < L.length := by rw [← HN.out]; exact hpn
          have HER := hide (pl_erase HP1.out hpL (by have := HN.out; omega) (by omega))
          have HIDV : Hid ((L.map idv)[p]? = some (idv L[p])) := hide (by rw [List.getElem?_map, List.getElem?_eq_getElem hpL]; rfl)
          obtain ⟨d, hd⟩ : ∃ d, d = L[p] := ⟨_, rfl⟩
          rw [← hd] at HER HIDV
          obtain ⟨x, hx⟩ : ∃ x, x = d.1 := ⟨_, rfl⟩
          rw [← hx] at HER
          unfold encE at HER
          have HX := hide hx
          have HPN := hide hpL
          clear hd hx hpL
          go_wp2_with fail
          refine HER.out.mono ?_
          rintro _ w2 ⟨rfl, hp2⟩
          obtain ⟨W3, hW3⟩ : ∃ W3, W3 = w2.alloc (.cells #[.slice x.a x.n x.c, .int .i64 x.id] 51) := ⟨_, rfl⟩
          obtain ⟨Be, hBe⟩ : ∃ Be, Be = w2.heap.size := ⟨_, rfl⟩
          have HX3 : Hid (PlX mb mx nx X T Bb Be w (.slice a5 n5 c5) L5 (delL L p) (P.reverse.map (fun p => (p.1 : Int))) G (G ++ [d]) (.slice a11 n11 c11) (.slice a12 n12 c12) (760 + 19 * j + 19) x W3) := hide ⟨hp2.upw (by rw [hW3]; exact (Up.refl _).alloc _), by rw [hW3, hBe]; go_simp, by rw [hW3, hBe]; go_simp, fun g hg => by have := (hp2.at_.lt g hg).2; omega, fun g hg => by have := (hp2.go.lt g hg).2; omega⟩
          have HR11 : Hid (∀ g, (Value.slice a11 n11 c11).ownBlock = some g → g < W3.heap.size) := hide (fun g hg => (HX3.out.b.at_.lt g hg).2)
          have HR12 : Hid (∀ g, (Value.slice a12 n12 c12).ownBlock = some g → g < W3.heap.size) := hide (fun g hg => (HX3.out.b.go.lt g hg).2)
          have HW3 := hide hW3
          have HBE := hide hBe
          clear hp2 HER HP1 hW3 hBe
          dsimp only
          go_upto_region 24 with fail
          rw [← HW3.out, ← HBE.out]
          clear HW3 HBE
          have hbA : Hid ((P.reverse.map (fun p => (p.1 : Int))).length + [(p : Int)].length ≤ 10000000) := hide (by have := HPL.out; simp; omega)
          have hbG : Hid ((G.map (·.1)).length + [x].length ≤ 10000000) := hide (by have h1 := congrArg List.length hG.out.2; have := HPL.out; simp at h1; simp; omega)
          have HC3 : Hid (∀ w', Up W3 w' → w'.cell? ⟨Be, 0, none⟩ = some (.slice x.a x.n x.c) ∧ w'.cell? ⟨Be, 1, none⟩ = some (.int .i64 x.id)) := hide (fun w' hu => ⟨hu.cell HX3.out.c0, hu.cell HX3.out.c1⟩)
          have HGM : Hid ((G ++ [d]).map (·.1) = G.map (·.1) ++ [x]) := hide (by simp [HX.out])
          go_cut [11, 12] from 65 to 107 (fun v u wx => Hid (PlX mb mx nx X T Bb Be w (.slice a5 n5 c5) L5 (delL L p) (P.reverse.map (fun p => (p.1 : Int)) ++ [(p : Int)]) (G ++ [d]) (G ++ [d]) v u (760 + 19 * j + 19) x wx))
          case first =>
            refine wp_region_noPanic ?_
            go_region_held3 (fun w' => w'.cell? ⟨Be, 0, none⟩ = some (.slice x.a x.n x.c) ∧ w'.cell? ⟨Be, 1, none⟩ = some (.int .i64 x.id))
              (first | (refine HCA.out _ ?_; (repeat' (with_reducible first | assumption | exact Up.refl _ | apply Up.alloc | apply Up.drew)); done) | (refine HCG.out _ ?_; (repeat' (with_reducible first | assumption | exact Up.refl _ | apply Up.alloc | apply Up.drew)); done) | (refine HC3.out _ ?_; (repeat' (with_reducible first | assumption | exact Up.refl _ | apply Up.alloc | apply Up.drew)); done))
              (first
                | (refine step_append_rowN elemN (X := fun _ => False) (base := Bb) rfl _ _ rfl _ _ (P.reverse.map (fun p => (p.1 : Int))) [(p : Int)] rfl rfl (PlX.upw HXG.out (by repeat' (with_reducible first | assumption | exact Up.refl _ | apply Up.alloc | apply Up.drew))).b.at_ (PlX.upw HXG.out (by repeat' (with_reducible first | assumption | exact Up.refl _ | apply Up.alloc | apply Up.drew))).b.far.2.2.2.2.2.1 (rdN_one (fun h => h) (by first | (go_simp; done) | exact HKG.out.cell (by go_simp) (fun e => by have := HR12.out _ e; simp at this; try omega))) hbA.out ?_; intro v7 w7 ho7 hg7 hb7; have HKA := hide (grown_chgR hg7); have HXA := hide ((PlX.upw HXG.out (by repeat' (with_reducible first | assumption | exact Up.refl _ | apply Up.alloc | apply Up.drew))).at_grow ho7 hg7 hb7); have HCA : Hid (∀ w', Up w7 w' → w'.cell? ⟨Be, 0, none⟩ = some (.slice x.a x.n x.c) ∧ w'.cell? ⟨Be, 1, none⟩ = some (.int .i64 x.id)) := hide (fun w' hu => ⟨hu.cell HXA.out.c0, hu.cell HXA.out.c1⟩); clear ho7 hg7 hb7)
                | (refine step_append_rowN elemN (X := fun _ => False) (base := Bb) rfl _ _ rfl _ _ (P.reverse.map (fun p => (p.1 : Int))) [(p : Int)] rfl rfl (PlX.upw HX3.out (by repeat' (with_reducible first | assumption | exact Up.refl _ | apply Up.alloc | apply Up.drew))).b.at_ (PlX.upw HX3.out (by repeat' (with_reducible first | assumption | exact Up.refl _ | apply Up.alloc | apply Up.drew))).b.far.2.2.2.2.2.1 (rdN_one (fun h => h) (by first | (go_simp; done) | exact HKG.out.cell (by go_simp) (fun e => by have := HR12.out _ e; simp at this; try omega))) hbA.out ?_; intro v7 w7 ho7 hg7 hb7; have HKA := hide (grown_chgR hg7); have HXA := hide ((PlX.upw HX3.out (by repeat' (with_reducible first | assumption | exact Up.refl _ | apply Up.alloc | apply Up.drew))).at_grow ho7 hg7 hb7); have HCA : Hid (∀ w', Up w7 w' → w'.cell? ⟨Be, 0, none⟩ = some (.slice x.a x.n x.c) ∧ w'.cell? ⟨Be, 1, none⟩ = some (.int .i64 x.id)) := hide (fun w' hu => ⟨hu.cell HXA.out.c0, hu.cell HXA.out.c1⟩); clear ho7 hg7 hb7)
                | (refine step_append_rowM elemE (X := fun _ => False) (base := Bb) rfl _ _ rfl _ _ (G.map (·.1)) [x] rfl rfl (PlX.upw HXA.out (by repeat' (with_reducible first | assumption | exact Up.refl _ | apply Up.alloc | apply Up.drew))).b.go (PlX.upw HXA.out (by repeat' (with_reducible first | assumption | exact Up.refl _ | apply Up.alloc | apply Up.drew))).b.far.2.2.2.2.2.1 (rdM_one (fun h => h) (by first | (go_simp; done) | exact HKA.out.cell (by go_simp) (fun e => by have := HR11.out _ e; simp at this; try omega)) (by first | (go_simp; done) | exact HKA.out.cell (by go_simp) (fun e => by have := HR11.out _ e; simp at this; try omega))) hbG.out ?_; intro v8 w8 ho8 hg8 hb8; have HKG := hide (grown_chgR hg8); rw [← HGM.out] at ho8; have HXG := hide ((PlX.upw HXA.out (by repeat' (with_reducible first | assumption | exact Up.refl _ | apply Up.alloc | apply Up.drew))).go_grow ho8 hg8 hb8); have HCG : Hid (∀ w', Up w8 w' → w'.cell? ⟨Be, 0, none⟩ = some (.slice x.a x.n x.c) ∧ w'.cell? ⟨Be, 1, none⟩ = some (.int .i64 x.id)) := hide (fun w' hu => ⟨hu.cell HXG.out.c0, hu.cell HXG.out.c1⟩); clear ho8 hg8 hb8)
                | (refine step_append_rowM elemE (X := fun _ => False) (base := Bb) rfl _ _ rfl _ _ (G.map (·.1)) [x] rfl rfl (PlX.upw HX3.out (by repeat' (with_reducible first | assumption | exact Up.refl _ | apply Up.alloc | apply Up.drew))).b.go (PlX.upw HX3.out (by repeat' (with_reducible first | assumption | exact Up.refl _ | apply Up.alloc | apply Up.drew))).b.far.2.2.2.2.2.1 (rdM_one (fun h => h) (by first | (go_simp; done) | exact HKA.out.cell (by go_simp) (fun e => by have := HR11.out _ e; simp at this; try omega)) (by first | (go_simp; done) | exact HKA.out.cell (by go_simp) (fun e => by have := HR11.out _ e; simp at this; try omega))) hbG.out ?_; intro v8 w8 ho8 hg8 hb8; have HKG := hide (grown_chgR hg8); rw [← HGM.out] at ho8; have HXG := hide ((PlX.upw HX3.out (by repeat' (with_reducible first | assumption | exact Up.refl _ | apply Up.alloc | apply Up.drew))).go_grow ho8 hg8 hb8); have HCG : Hid (∀ w', Up w8 w' → w'.cell? ⟨Be, 0, none⟩ = some (.slice x.a x.n x.c) ∧ w'.cell? ⟨Be, 1, none⟩ = some (.int .i64 x.id)) := hide (fun w' hu => ⟨hu.cell HXG.out.c0, hu.cell HXG.out.c1⟩); clear ho8 hg8 hb8))
            all_goals
              refine NoPanic.normal ?_
              go_wp2
              go_meet
              first
                | (refine PlX.upw HXG.out ?_; (repeat' (with_reducible first | assumption | exact Up.refl _ | apply Up.alloc | apply Up.drew)); done)
                | (refine PlX.upw HXA.out ?_; (repeat' (with_reducible first | assumption | exact Up.refl _ | apply Up.alloc | apply Up.drew)); done)
          case rest =>
          have HXF := hide hcut.out
          have hids := gone_id HIDV.out (List.Nodup.sublist ((gone_sub hG.out.1).map _) HND.out.1)
          rw [← delL_idv] at hids
          have hxid : (idv d).1 = x.id := by rw [HX.out]; rfl
          rw [hxid] at hids
          have HPC := hide (pl_place HXF.out.b (id := x.id) hids (by have h1 := (gone_sub hG.out.1).length_le; rw [List.length_map] at h1; have := HND.out.2.2; unfold delL; simp; omega))
          have c0 := HXF.out.c0
          have c1 := HXF.out.c1
          have HREL : Hid (∀ w', Up wc w' → Hid (PlB mb mx nx X T Bb w (.slice a5 n5 c5) L5 (delL L p) (((p, idv d) :: P).reverse.map (fun p => (p.1 : Int))) (G ++ [d]) (G ++ [d]) u11 u12 (760 + 19 * (j + 1)) w') ∧ Hid (GoneR I0 ((p, idv d) :: P) ((delL L p).map idv) ∧ (G ++ [d]).map idv = ((p, idv d) :: P).reverse.map (·.2))) := hide (fun w' hu => by
            refine ⟨?_, ⟨L.map idv, hG.out.1, HIDV.out, delL_idv L p⟩, by simp [hG.out.2]⟩
            have eA : ((p, idv d) :: P).reverse.map (fun p => (p.1 : Int)) = P.reverse.map (fun p => (p.1 : Int)) ++ [(p : Int)] := by simp
            unfold Hid
            rw [eA, show 760 + 19 * (j + 1) = 760 + 19 * j + 19 by omega]
            exact HXF.out.b.upw hu)
          have ej1 : wrap64 ((j : Int) + 1) = (j : Int) + 1 := by rw [wrap64]; omega
          clear hids hxid hcut
          go_wp2_with fail
          refine HPC.out.mono ?_
          rintro _ w9 ⟨rfl, hu9⟩
          have HR9 := hide (HREL.out _ hu9)
          clear hu9 c0 c1 HPC HREL et en0 en0' ey ep ej hyb hpn
          dsimp only
          go_wp2
          go_roundw
          case rel => exact ⟨j + 1, (p, idv d) :: P, delL L p, G ++ [d], by omega, by simp, by simp [HPL.out], HR9.out.1, HR9.out.2⟩
          case measure => simp [intOf]; omega
theorem ordPlaces_many (a : Option Addr) (len cap : Nat) (b : Option Addr) (olen ocap : Nat) (w : World) (hT : TabE w) (h40 : ¬ (len ≤ 40 ∧ olen ≤ 40)) :
    Calls Tryz.prog 7 #[.slice a len cap, .slice b olen ocap] w fun e w' => e = .returned (.bool true) ∧ Up w w' := by
  have HKN := hide (known12_calls w hT)
  clear hT
  by_cases h1 : len ≤ 40
  · have t60 : decide ((len : Int) > 40) = false := decide_eq_false (by omega)
    have t60' : decide (40 < len) = false := decide_eq_false (by omega)
    have o60 : decide ((olen : Int) > 40) = true := decide_eq_true (by omega)
    have o60' : decide (40 < olen) = true := decide_eq_true (by omega)
    go_enter Tryz.func7, Tryz.ntmps7
    go_wp2_with fail
    refine HKN.out.mono ?_
    rintro _ w1 ⟨rfl, hu1⟩
    have HU := hide hu1
    clear hu1 HKN
    dsimp only
    go_wp2
    go_ret
    exact ⟨rfl, HU.out⟩
  · have t60 : decide ((len : Int) > 40) = true := decide_eq_true (by omega)
    have t60' : decide (40 < len) = true := decide_eq_true (by omega)
    go_enter Tryz.func7, Tryz.ntmps7
    go_wp2_with fail
    refine HKN.out.mono ?_
    rintro _ w1 ⟨rfl, hu1⟩
    have HU := hide hu1
    clear hu1 HKN
    dsimp only
    go_wp2
    go_ret
    exact ⟨rfl, HU.out⟩
end Go.Proofs.YtnokokhbcfkifaaGreatDoor

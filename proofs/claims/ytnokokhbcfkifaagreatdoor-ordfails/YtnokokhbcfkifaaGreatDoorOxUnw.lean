/-
  OrdUnique of rialtolaw12, as its text runs.
-/
import Derived.Test.YtnokokhbcfkifaaGreatDoorOxUnk
import Derived.Test.YtnokokhbcfkifaaGreatDoorOxTwi
import Derived.Test.YtnokokhbcfkifaaGreatDoorOxRnw
namespace Go.Proofs.YtnokokhbcfkifaaGreatDoor
open Go.ChangeShapes Go.WideShapes Go.ChangeAt Go.RowKit
set_option linter.unusedVariables false
set_option maxRecDepth 100000
attribute [local go_sem ↓] Go.wp_at_zero Go.wp_at_succ

theorem num_fits {n : Int} (h1 : -9223372036854775808 ≤ n) (h2 : n ≤ 9223372036854775807) : Fits (numT n) :=
  ⟨show IntKind.i64.min ≤ (1 : Int) by decide, show (1 : Int) ≤ IntKind.i64.max by decide, show IntKind.i64.min ≤ n by simpa [IntKind.min, IntKind.bits, IntKind.signed] using h1, show n ≤ IntKind.i64.max by simpa [IntKind.max, IntKind.bits, IntKind.signed] using h2, by simp [numT, maxLen, ByteArray.size], by simp [numT, whole]⟩
set_option maxHeartbeats 4000000 in
theorem num_owned (n : Int) (w : World) :
    Calls Tryz.prog 30 #[.int .i64 n] w fun e w' => ∃ g, e = .returned (.slice (some ⟨g, 0, none⟩) 1 1) ∧ OwnZ w' w.heap.size (.slice (some ⟨g, 0, none⟩) 1 1) [numT n] ∧ Up w w' := by
  go_enter Tryz.func30, Tryz.ntmps30
  go_wp2
  go_ret
  exact ⟨w.heap.size, rfl, ⟨rfl, .inr ⟨w.heap.size, 1, _, rfl, Nat.le_refl _, heap_alloc_new _ _, Nat.le_refl _, by decide, rfl, rfl⟩⟩, (Up.refl _).alloc _⟩
/-- A row of numbers that a call owns is a key. -/
theorem ownZ_key {C : Nat → Prop} {w : World} {base n : Nat} {v : Value} {l : List VT} (h : OwnZ w base v l) (hn : l.length = n) (h12 : n ≤ 12) (h0 : 0 < n) (hf : ∀ i, Fits (l.getD i zeroT)) (hs : ∀ i, (l.getD i zeroT).2.2.1.size ≤ 200) (hC : ∀ y, C y → y < base) : ∃ a cap, v = .slice a n cap ∧ KeyC C w a n cap l := by
  subst hn
  have h1 := h
  rcases h.2 with ⟨h2, h3⟩ | ⟨g, cap, cur, rfl, hb, hg, hc, hm, hsz, ht⟩
  · rw [h3] at h0; exact absurd h0 (Nat.lt_irrefl _)
  · refine ⟨_, cap, rfl, ⟨h12, ⟨rfl, hf, .inr ⟨g, 0, rfl, fun i hi => ?_⟩⟩, hs⟩, fun y hy hCy => ?_, fun y hy => by obtain ⟨o, ho⟩ := hy; cases ho; exact (h1.lt _ rfl).2, hc, hm⟩
    · have key : ∀ j, j < 4 → w.cell? ⟨g, 0 + i * 4 + j, none⟩ = (cellsT (l.getD i zeroT))[j]? := fun j hj => by
        rw [Nat.zero_add, World.ownsRow.cellAt h1 (i * 4 + j) (by omega)]
        exact flat_get l i j hi hj
      exact ⟨key 0 (by decide), key 1 (by decide), key 2 (by decide), key 3 (by decide)⟩
    · obtain ⟨o, ho⟩ := hy
      cases ho
      have := hC _ hCy
      omega
theorem olen_calls (X T hh n : Nat) (xs : List ET) (w : World) (x2 : w.cell? ⟨X, 2, none⟩ = some (.pointer (some ⟨T, 0, none⟩))) (t : TrE w T xs hh n) :
    Calls Tryz.prog 25 #[.pointer (some ⟨X, 0, none⟩)] w fun e w' => e = .returned (.int .i64 xs.length) ∧ w' = w := by
  have HT := hide (tlenE_calls T hh n xs w t)
  clear t
  go_enter Tryz.func25, Tryz.ntmps25
  go_wp2_with fail
  refine HT.out.mono ?_
  rintro _ w1 ⟨rfl, rfl⟩
  dsimp only
  go_wp2
  go_ret
  exact ⟨rfl, rfl⟩
theorem who_zero : Tryz.zeroCells74 = Array.replicate 256 (.int .i64 0) := by kernel_rfl
/-- The table of names in memory. -/
structure WhoAt (WB : Nat) (wf : Nat → Int) (w : World) : Prop where
  cell : ∀ b, b < 256 → w.cell? ⟨WB, b, none⟩ = some (.int .i64 (wf b))
  free : ∀ b, w.frozen? ⟨WB, b, none⟩ = false
theorem WhoAt.lt {WB : Nat} {wf : Nat → Int} {w : World} (h : WhoAt WB wf w) : WB < w.heap.size := World.block_lt_of_cell? w _ (h.cell 0 (by decide))
theorem WhoAt.chg {WB : Nat} {wf : Nat → Int} {C : Nat → Prop} {w w' : World} (h : WhoAt WB wf w) (hc : Chg C w w') (hn : ¬ C WB) : WhoAt WB wf w' := ⟨fun b hb => hc.cell (h.cell b hb) hn, fun b => (hc.frozen (p := ⟨WB, b, none⟩) h.lt hn).trans (h.free b)⟩
theorem WhoAt.up {WB : Nat} {wf : Nat → Int} {w w' : World} (h : WhoAt WB wf w) (hu : Up w w') : WhoAt WB wf w' := h.chg (Chg.of_up (C := fun _ => False) hu) (fun h => h)
theorem WhoAt.set {WB : Nat} {wf : Nat → Int} {w : World} (h : WhoAt WB wf w) (b0 : Nat) (v : Int) : WhoAt WB (fun b => if b = b0 then v else wf b) (w.setCell ⟨WB, b0, none⟩ (.int .i64 v)) := by
  refine ⟨fun b hb => ?_, fun b => by rw [World.frozen?_setCell]; exact h.free b⟩
  by_cases e : b = b0
  · subst e
    rw [if_pos rfl]
    exact World.cell?_setCell_same _ _ _ (h.cell b hb)
  · rw [if_neg e]
    exact (World.cell?_setCell_other _ _ _ _ (by intro h; cases h; exact e rfl)).trans (h.cell b hb)
/-- What holds from round to round. -/
structure UqI (mx nx X T WB : Nat) (w : World) (i N : Nat) (wf : Nat → Int) (wr : World) : Prop where
  ix : ∃ L hh n, IxW (fun y => False ∨ y = WB) none 1 mx nx X T true L hh n 0 0 0 0 wr ∧ UqL L ∧ WhoL L wf i ∧ L.length = N ∧ L.length ≤ i ∧ n ≤ 19 * i
  who : WhoAt WB wf wr
  up : Up w wr
set_option maxHeartbeats 8000000 in
theorem ordUnique_runs (a : Option Addr) (len cap : Nat) (l : List Int) (more : Bool) (w : World) (hT : TabE w) (hl : l.length = len) (hr : Rd (Value.int .i8) (fun _ => False) w (.slice a len cap) l) (hb : ∀ x ∈ l, -128 ≤ x ∧ x ≤ 127) (h60 : len ≤ 60) :
    Calls Tryz.prog 5 #[.slice a len cap, .bool more] w fun e w' => e = .returned (.bool true) ∧ Up w w' := by
  have HT := hide hT
  have HKN := hide (known12_calls w hT)
  have HR := hide hr
  have HL := hide hl
  have HB := hide hb
  have t60 : decide ((len : Int) > 60) = false := decide_eq_false (by omega)
  have t60' : decide (60 < len) = false := decide_eq_false (by omega)
  clear hT hr hl hb
  go_enter Tryz.func5, Tryz.ntmps5
  go_wp2_with fail
  refine HKN.out.mono ?_
  rintro _ w1 ⟨rfl, hu1⟩
  have HHK := hide (phooksM_calls none w1)
  have HU2 := hide hu1
  clear hu1 HKN
  dsimp only
  go_wp2_with fail
  refine HHK.out.mono ?_
  rintro _ w3 ⟨ha, hc, hl, a', c', l', rfl, -, hf, -, hx, -, -, hu3⟩
  obtain ⟨mx, nx, hl0, cw⟩ := pick_cpr (c := 0) (t := 0) (h := 0) (s := 0) (q := 1) (by rw [hf.1]; decide) hx (HT.out.up (HU2.out.trans hu3)) (not_none _) (met_none _ _ _ _ _) (fun g h => absurd h (not_none g))
  obtain ⟨gb, go, rfl, hcell⟩ := hf.fnH (i := 1) (by decide)
  rw [hl0] at hcell
  have CW := hide cw
  have HU3 := hide (HU2.out.trans hu3)
  have hfl := field_hooks (.slice ha 5 hc) (.slice (some ⟨gb, go, none⟩) 3 c')
  unfold cpF at hcell
  clear hf hx hl0 cw hu3 HHK
  dsimp only
  go_wp2_with fail
  refine (onew_calls (fun _ => False) none 1 mx nx true 0 0 0 0 w3 CW.out (by decide) (fun g h => not_none g h) (fun g h => h.elim)).mono ?_
  rintro _ w4 ⟨X, T, rfl, ix4, hT4, hu4⟩
  have HTT : Hid (w.heap.size ≤ T) := Nat.le_trans HU3.out.size hT4
  have HU4 := hide (HU3.out.trans hu4)
  have IX4 := hide ix4
  clear ix4 hu4 hT4 CW HU3 hcell hfl HU2
  dsimp only
  go_wp2_with fail
  obtain ⟨W5, hW5⟩ : ∃ W5, W5 = w4.alloc (.cells Tryz.zeroCells74 74) := ⟨_, rfl⟩
  rw [← hW5]
  obtain ⟨WB, hWB⟩ : ∃ WB, WB = w4.heap.size := ⟨_, rfl⟩
  rw [← hWB]
  have u5 : Up w4 W5 := by rw [hW5]; exact (Up.refl _).alloc _
  have hwho : WhoAt WB (fun _ => 0) W5 := by
    rw [hW5, hWB, who_zero]
    refine ⟨fun b hb => ?_, fun b => by simp⟩
    rw [cell_of (heap_alloc_new _ _)]
    simp [hb]
  have HI5 : Hid (UqI mx nx X T WB w 0 0 (fun _ => 0) W5) := by
    refine ⟨⟨[], 0, 0, IX4.out.wide0 u5 (fun y hy => ?_), UqL.nil, WhoL.nil, rfl, Nat.le_refl _, Nat.le_refl _⟩, hwho, HU4.out.trans u5⟩
    have hy' : y = WB := hy
    have := hwho.lt
    omega
  have HWW : Hid (w.heap.size ≤ WB) := by unfold Hid; rw [hWB]; exact HU4.out.size
  have HWN : Hid (mx ≠ WB ∧ nx ≠ WB ∧ 0 ≠ WB) := by
    have a1 := World.block_lt_of_cell? w4 _ IX4.out.cw.k0
    have a2 := World.block_lt_of_cell? w4 _ IX4.out.cw.k1
    have a3 := World.block_lt_of_cell? w4 _ IX4.out.cw.tab
    simp only at a1 a2 a3
    refine ⟨by omega, by omega, fun e => ?_⟩
    rw [e] at a3
    omega
  clear IX4 HU4 hW5 hWB u5 hwho
  go_loopw [7, 8] (fun nv iv wr => ∃ (i N : Nat) (wf : Nat → Int), i ≤ len ∧ N ≤ i ∧ nv = .int .i64 N ∧ iv = .int .i64 i ∧ Hid (UqI mx nx X T WB w i N wf wr)) (fun _ iv _ => len - (intOf iv).toNat)
  case atStart => exact ⟨0, 0, _, Nat.zero_le _, Nat.le_refl _, rfl, rfl, HI5⟩
  case round =>
    obtain ⟨i, N, wf, hi, hN, rfl, rfl, hR⟩ := hrel
    by_cases hlt : i < len
    · have hlt' : (i : Int) < (len : Int) := by omega
      have i0 : (0 : Int) ≤ (i : Int) := by omega
      obtain ⟨v, hv⟩ : ∃ v, v = l.getD i 0 := ⟨_, rfl⟩
      have hvb := bounds_i8 HB.out (k := i)
      rw [← hv] at hvb
      have e1 : IntKind.i64.wrap ((i : Int) + 1) = (i : Int) + 1 := by rw [IntKind.wrap_i64]; omega
      have e2 : IntKind.i64.wrap v = v := by rw [IntKind.wrap_i64]; omega
      have e3 : IntKind.i64.wrap (i : Int) = (i : Int) := by rw [IntKind.wrap_i64]; omega
      have e4 : IntKind.i64.wrap ((N : Int) + 1) = (N : Int) + 1 := by rw [IntKind.wrap_i64]; omega
      obtain ⟨g, o, ha2, c2⟩ := cell_i8 HR.out HL.out hR.out.up (k := i) hlt
      have hcell : Hid (∀ w', Up w w' → w'.cell? ⟨g, o + i, none⟩ = some (.int .i8 v)) := fun w' hu => by
        obtain ⟨g', o', h1, h2⟩ := cell_i8 HR.out HL.out hu (k := i) hlt
        rw [ha2] at h1
        cases h1
        rw [hv]
        exact h2
      rw [← hv] at c2
      subst ha2
      clear hv
      go_wp2_with fail
      refine (num_owned v wr).mono ?_
      rintro _ w4 ⟨g4, rfl, ow4, hu4⟩
      have OW4 := hide ow4
      have HU4 := hide hu4
      clear ow4 hu4 c2 HI5
      dsimp only
      cases more with
      | false =>
        obtain ⟨w5, rfl⟩ : ∃ w5, w5 = w4 := ⟨_, rfl⟩
        obtain ⟨a5, hk5⟩ : ∃ a5, KeyC (InM none) w5 a5 1 1 [numT v] ∧ a5 = some ⟨g4, 0, none⟩ := by
          obtain ⟨a, cap, h1, h2⟩ := ownZ_key (C := InM none) OW4.out rfl (by simp) (by simp) (fun i => by
            cases i with
            | zero => exact num_fits (by omega) (by omega)
            | succ i => simpa using fits_zero) (fun i => by
            cases i with
            | zero => simp [numT, ByteArray.size]
            | succ i => simp [zeroT]) (fun y hy => absurd hy (not_none y))
          cases h1
          exact ⟨_, h2, rfl⟩
        obtain ⟨hkey, rfl⟩ := hk5
        have KEY := hide hkey
        have HU5 := HU4
        clear hkey OW4 HU4
        obtain ⟨a5, ha5⟩ : ∃ a5, (some ⟨g4, 0, none⟩ : Option Addr) = a5 := ⟨_, rfl⟩
        rw [ha5] at KEY ⊢
        clear ha5
        obtain ⟨L, hh, n, ix, uq, wh, hLN, hLi, hn⟩ := hR.out.ix
        have IX5 := hide (ix.up HU5.out)
        have UQ := hide uq
        have WH := hide wh
        have HL2 := hide hLN
        have WHO5 := hide (hR.out.who.up HU5.out)
        have HUP5 := hide (hR.out.up.trans HU5.out)
        have hwl := u8_lt v
        have e5 : IntKind.u8.wrap v = ((u8 v : Nat) : Int) := by unfold u8; simp [IntKind.wrap, IntKind.bits, IntKind.signed]; omega
        have e6 : (0 : Int) ≤ ((u8 v : Nat) : Int) := by omega
        have e7 : ((u8 v : Nat) : Int) < 256 := by omega
        obtain ⟨b, hbb⟩ : ∃ b, b = u8 v := ⟨_, rfl⟩
        rw [← hbb] at e5 e6 e7 hwl
        replace hbb := hide hbb
        clear ix uq wh hLN hR HU5
        by_cases hz : wf b = 0
        · have hno : ∀ p ∈ L, (vOf p).1 ≠ v := fun p hp e => by
            have h1 := WH.out.has p hp
            rw [e, ← hbb.out, hz] at h1
            have := WH.out.ids p hp
            omega
          have HNO := hide hno
          clear hno
          go_wp2_with fail
          refine (insert_ok (fun y => False ∨ y = WB) none 1 mx nx X T true L hh n 0 0 0 0 a5 1 1 (numT v :: []) ((i : Int) + 1) (ltC L v) (ltC L v) (ltC L v) w5 IX5.out (by omega) (by omega) (by decide) (by decide) (.inl rfl) KEY.out (UQ.out.spot_no v _ HNO.out) (rank_same _ _ _) (by simp) (by simp)).mono ?_
          rintro _ w6 ⟨k6, hh6, n6, x6, hk6, rfl, ix6, hx6, hn6a, hn6b, hc6⟩
          have hWBn : ¬ XT T (InM none) WB := fun e => e.elim (fun e => IX5.out.aT (.inr e.symm)) (fun e => not_none _ e)
          have WHO6 := hide (WHO5.out.chg hc6 hWBn)
          have HU6 : Hid (Up w w6) := ((Chg.of_up HUP5.out).trans hc6 (fun _ _ h => h)).up (fun y hy h => by
            rcases h with h | h
            · have := HTT.out; omega
            · exact not_none _ h)
          have IX6 := hide ix6.any
          have HX6 := hide hx6
          have c3 := hcell.out w6 HU6.out
          have c4 := WHO6.out.cell b hwl
          rw [hz] at c4
          have f4 := WHO6.out.free b
          have HR7 : Hid (UqI mx nx X T WB w (i + 1) (N + 1) (fun b' => if b' = b then (i : Int) + 1 else wf b') (w6.setCell ⟨WB, b, none⟩ (.int .i64 ((i : Int) + 1)))) := by
            have s1 : Chg (fun y => y = WB) w6 (w6.setCell ⟨WB, b, none⟩ (.int .i64 ((i : Int) + 1))) := (Chg.refl _ w6).set (C := fun y => y = WB) (p := ⟨WB, b, none⟩) (fun _ => rfl) _
            refine ⟨⟨_, hh6, n6, IX6.out.other s1 (fun y hy => .inr hy) (fun g hg => absurd hg (not_none g)) (fun e => HWN.out.1 e) (fun e => HWN.out.2.1 e) (fun e => HWN.out.2.2 e), UQ.out.put x6 v _ HNO.out, ?_, ?_, ?_, by omega⟩, WHO6.out.set b _, (Chg.of_up (C := fun y => y = WB) HU6.out).trans s1 (fun _ _ h => h) |>.up (fun y hy e => by have := HWW.out; have e' : y = WB := e; omega)⟩
            · have := WH.out.put x6 v [] (ltC L v) hvb HNO.out HX6.out
              rw [← hbb.out] at this
              exact this
            · rw [(perm_ins _ _ _).length_eq, List.length_cons, HL2.out]
            · rw [(perm_ins _ _ _).length_eq, List.length_cons]; omega
          clear ix6 hk6 hx6 hn6a hn6b hc6 IX5 WHO5 HUP5 hWBn IX6 WHO6 HU6
          dsimp only
          go_wp2_with fail
          exact ⟨⟨i + 1, N + 1, _, by omega, by omega, by first | rfl | congr 1, by first | rfl | congr 1, HR7⟩, by simp [intOf]; omega⟩
        · obtain ⟨pe, hpe, hpv⟩ := WH.out.non v hvb (by rw [← hbb.out]; exact hz)
          obtain ⟨j0, hj0, rfl⟩ := List.getElem_of_mem hpe
          have hidj := WH.out.ids _ hpe
          have hwho := WH.out.has _ hpe
          rw [hpv, ← hbb.out] at hwho
          have e0 : L.getD j0 (zeroET, []) = L[j0] := by rw [List.getD_eq_getElem?_getD, List.getElem?_eq_getElem hj0]; rfl
          have HRK : Hid (RankAt L j0 (j0 + 1) ((i : Int) + 1) (j0 + 1)) := ⟨by omega, Nat.le_refl _, fun j h1 h2 => by
            obtain rfl : j = j0 := by omega
            rw [e0]
            show (vOf L[j]).2 < _
            omega, fun j h1 h2 => by omega⟩
          have HSP := hide (UQ.out.spot_yes v [] j0 hj0 hpv)
          have eid : (L.getD j0 (zeroET, [])).1.id = wf b := by rw [e0, hwho]; rfl
          have EID := hide eid
          clear hidj hwho e0 eid hpe hpv
          go_wp2_with fail
          refine (insert_twice (fun y => False ∨ y = WB) none 1 mx nx X T L hh n 0 0 0 0 a5 1 1 (numT v :: []) ((i : Int) + 1) j0 (j0 + 1) (j0 + 1) w5 IX5.out (by omega) (by omega) (by decide) (by decide) (.inl rfl) KEY.out HSP.out HRK.out (by simp) (by omega)).mono ?_
          rintro _ w6 ⟨k6, tb, hk6, rfl, htw, hc6, hm6⟩
          rw [EID.out] at htw
          have HTW := hide htw
          have IX6 := hide (IX5.out.met hc6 hm6).any
          have WHO6 := hide (WHO5.out.chg hc6 (not_none _))
          have HU6 : Hid (Up w w6) := ((Chg.of_up HUP5.out).trans hc6 (fun _ _ h => h)).up (fun y hy h => not_none _ h)
          have c3 := hcell.out w6 HU6.out
          have c4 := WHO6.out.cell b hwl
          have t9 : (wf b == 0) = false := by rw [beq_eq_false_iff_ne]; exact hz
          have t9' : (wf b != 0) = true := by rw [bne_iff_ne]; exact hz
          have HCL : Hid (∀ w', Up w6 w' → Calls Tryz.prog 22 #[.iface 98 (.pointer (some ⟨tb, 0, none⟩))] w' fun e w'' => e = .returned (.int .i64 80) ∧ Up w' w'') := fun w' hu => class_twice tb w' (HT.out.up (HU6.out.trans hu))
          have HWO : Hid (∀ w', Up w6 w' → Calls Tryz.prog 23 #[.iface 98 (.pointer (some ⟨tb, 0, none⟩))] w' fun e w'' => e = .returned (.int .i64 (wf b)) ∧ Up w' w'') := fun w' hu => who_twice tb (wf b) w' (HT.out.up (HU6.out.trans hu)) (hu.cell HTW.out)
          have HRF : Hid (∀ w', Up w6 w' → UqI mx nx X T WB w (i + 1) N wf w') := fun w' hu => ⟨⟨L, hh, n, IX6.out.up hu, UQ.out, WH.out.more, HL2.out, by omega, by omega⟩, WHO6.out.up hu, HU6.out.trans hu⟩
          clear hk6 hc6 hm6 IX5 WHO5 HUP5 IX6 WHO6 htw
          dsimp only
          go_wp2_with fail
          refine region_up (by kernel_rfl) (by kernel_rfl) ?_
          repeat (first
            | go_big_quiet_skip
            | (go_big_quiet_want; go_big_quiet_op; go_big_quiet_on)
            | (go_big_quiet_want
               apply Exists.intro
               refine ⟨fun w' hw' => ?_, ?_⟩
               (skip
                have c4 := hw'.cell c4
                go_simp
                first
                | done
                | with_reducible rfl
                | (go_at_call 22; exact quiet_call hw' (HCL.out w' hw'))
                | (go_at_call 23; exact quiet_call hw' (HWO.out w' hw')))
               go_big_quiet_on
               try simp only [Act.put, List.setIfInBounds_toArray, List.set_cons_zero, List.set_cons_succ]))
          refine wpQuiet_nil ?_
          intro w7 hw7
          have HR7 := hide (HRF.out w7 hw7)
          clear hw7 HRF HCL HWO c3 c4
          go_wp2_with fail
          exact ⟨⟨i + 1, N, _, by omega, by omega, rfl, by first | rfl | congr 1, HR7⟩, by simp [intOf]; omega⟩
      | true =>
        go_wp2_with fail
        refine (num_owned (i : Int) w4).mono ?_
        rintro _ w6 ⟨g6, rfl, ow6, hu6⟩
        have d : ∀ j, j < 4 → w6.cell? ⟨g6, j, none⟩ = (cellsT (numT (i : Int)))[j]? := fun j hj => by
          have := World.ownsRow.cellAt ow6 j (by simpa using hj)
          rw [this]
          have h2 := flat_get [numT (i : Int)] 0 j (by simp) hj
          simpa using h2
        have d0 : w6.cell? ⟨g6, 0, none⟩ = some (.int .i64 1) := d 0 (by decide)
        have d1 : w6.cell? ⟨g6, 1, none⟩ = some (.int .i64 (i : Int)) := d 1 (by decide)
        have d2 : w6.cell? ⟨g6, 2, none⟩ = some (.string ⟨#[]⟩) := d 2 (by decide)
        have d3 : w6.cell? ⟨g6, 3, none⟩ = some (.float .f64 0) := d 3 (by decide)
        have OW6 := hide (OW4.out.up hu6)
        have HU6 := hide (HU4.out.trans hu6)
        clear d ow6 hu6 OW4 HU4
        dsimp only
        go_wp2_with (at_builtin; refine append_value rfl _ _ rfl wr.heap.size _ [numT v] rfl (OW6.out.up ((Up.refl _).alloc _)) ⟨w6.heap.size, 0, none⟩ 1 1 [numT (i : Int)] rfl rfl (value_new (numT (i : Int))) (by simp) (HU6.out.alloc _).size ?_)
        intro v7 w7 ho7 hg7
        have hu7 : Up wr w7 := Below.grown (HU6.out.alloc _).below hg7 (HU6.out.alloc _).size (fun k hk => (OW6.out.lt k hk).1)
        obtain ⟨a5, cp5, rfl, hkey⟩ := ownZ_key (C := InM none) (n := 2) ho7 rfl (by decide) (by decide) (fun i' => by
            match i' with
            | 0 => exact num_fits (by omega) (by omega)
            | 1 => exact num_fits (by omega) (by omega)
            | i' + 2 => simpa using fits_zero) (fun i' => by
            match i' with
            | 0 => simp [numT, ByteArray.size]
            | 1 => simp [numT, ByteArray.size]
            | i' + 2 => simp [zeroT]) (fun y hy => absurd hy (not_none y))
        obtain ⟨w5, rfl⟩ : ∃ w5, w5 = w7 := ⟨_, rfl⟩
        have KEY : Hid (KeyC (InM none) w5 a5 2 cp5 (numT v :: [numT (i : Int)])) := hkey
        have HU5 := hide hu7
        clear hkey ho7 hg7 hu7 OW6 HU6 d0 d1 d2 d3
        obtain ⟨L, hh, n, ix, uq, wh, hLN, hLi, hn⟩ := hR.out.ix
        have IX5 := hide (ix.up HU5.out)
        have UQ := hide uq
        have WH := hide wh
        have HL2 := hide hLN
        have WHO5 := hide (hR.out.who.up HU5.out)
        have HUP5 := hide (hR.out.up.trans HU5.out)
        have hwl := u8_lt v
        have e5 : IntKind.u8.wrap v = ((u8 v : Nat) : Int) := by unfold u8; simp [IntKind.wrap, IntKind.bits, IntKind.signed]; omega
        have e6 : (0 : Int) ≤ ((u8 v : Nat) : Int) := by omega
        have e7 : ((u8 v : Nat) : Int) < 256 := by omega
        obtain ⟨b, hbb⟩ : ∃ b, b = u8 v := ⟨_, rfl⟩
        rw [← hbb] at e5 e6 e7 hwl
        replace hbb := hide hbb
        clear ix uq wh hLN hR HU5
        by_cases hz : wf b = 0
        · have hno : ∀ p ∈ L, (vOf p).1 ≠ v := fun p hp e => by
            have h1 := WH.out.has p hp
            rw [e, ← hbb.out, hz] at h1
            have := WH.out.ids p hp
            omega
          have HNO := hide hno
          clear hno
          go_wp2_with fail
          refine (insert_ok (fun y => False ∨ y = WB) none 1 mx nx X T true L hh n 0 0 0 0 a5 2 cp5 (numT v :: [numT (i : Int)]) ((i : Int) + 1) (ltC L v) (ltC L v) (ltC L v) w5 IX5.out (by omega) (by omega) (by decide) (by decide) (.inl rfl) KEY.out (UQ.out.spot_no v _ HNO.out) (rank_same _ _ _) (by simp) (by simp)).mono ?_
          rintro _ w6 ⟨k6, hh6, n6, x6, hk6, rfl, ix6, hx6, hn6a, hn6b, hc6⟩
          have hWBn : ¬ XT T (InM none) WB := fun e => e.elim (fun e => IX5.out.aT (.inr e.symm)) (fun e => not_none _ e)
          have WHO6 := hide (WHO5.out.chg hc6 hWBn)
          have HU6 : Hid (Up w w6) := ((Chg.of_up HUP5.out).trans hc6 (fun _ _ h => h)).up (fun y hy h => by
            rcases h with h | h
            · have := HTT.out; omega
            · exact not_none _ h)
          have IX6 := hide ix6.any
          have HX6 := hide hx6
          have c3 := hcell.out w6 HU6.out
          have c4 := WHO6.out.cell b hwl
          rw [hz] at c4
          have f4 := WHO6.out.free b
          have HR7 : Hid (UqI mx nx X T WB w (i + 1) (N + 1) (fun b' => if b' = b then (i : Int) + 1 else wf b') (w6.setCell ⟨WB, b, none⟩ (.int .i64 ((i : Int) + 1)))) := by
            have s1 : Chg (fun y => y = WB) w6 (w6.setCell ⟨WB, b, none⟩ (.int .i64 ((i : Int) + 1))) := (Chg.refl _ w6).set (C := fun y => y = WB) (p := ⟨WB, b, none⟩) (fun _ => rfl) _
            refine ⟨⟨_, hh6, n6, IX6.out.other s1 (fun y hy => .inr hy) (fun g hg => absurd hg (not_none g)) (fun e => HWN.out.1 e) (fun e => HWN.out.2.1 e) (fun e => HWN.out.2.2 e), UQ.out.put x6 v _ HNO.out, ?_, ?_, ?_, by omega⟩, WHO6.out.set b _, (Chg.of_up (C := fun y => y = WB) HU6.out).trans s1 (fun _ _ h => h) |>.up (fun y hy e => by have := HWW.out; have e' : y = WB := e; omega)⟩
            · have := WH.out.put x6 v [numT (i : Int)] (ltC L v) hvb HNO.out HX6.out
              rw [← hbb.out] at this
              exact this
            · rw [(perm_ins _ _ _).length_eq, List.length_cons, HL2.out]
            · rw [(perm_ins _ _ _).length_eq, List.length_cons]; omega
          clear ix6 hk6 hx6 hn6a hn6b hc6 IX5 WHO5 HUP5 hWBn IX6 WHO6 HU6
          dsimp only
          go_wp2_with fail
          exact ⟨⟨i + 1, N + 1, _, by omega, by omega, by first | rfl | congr 1, by first | rfl | congr 1, HR7⟩, by simp [intOf]; omega⟩
        · obtain ⟨pe, hpe, hpv⟩ := WH.out.non v hvb (by rw [← hbb.out]; exact hz)
          obtain ⟨j0, hj0, rfl⟩ := List.getElem_of_mem hpe
          have hidj := WH.out.ids _ hpe
          have hwho := WH.out.has _ hpe
          rw [hpv, ← hbb.out] at hwho
          have e0 : L.getD j0 (zeroET, []) = L[j0] := by rw [List.getD_eq_getElem?_getD, List.getElem?_eq_getElem hj0]; rfl
          have HRK : Hid (RankAt L j0 (j0 + 1) ((i : Int) + 1) (j0 + 1)) := ⟨by omega, Nat.le_refl _, fun j h1 h2 => by
            obtain rfl : j = j0 := by omega
            rw [e0]
            show (vOf L[j]).2 < _
            omega, fun j h1 h2 => by omega⟩
          have HSP := hide (UQ.out.spot_yes v [numT (i : Int)] j0 hj0 hpv)
          have eid : (L.getD j0 (zeroET, [])).1.id = wf b := by rw [e0, hwho]; rfl
          have EID := hide eid
          clear hidj hwho e0 eid hpe hpv
          go_wp2_with fail
          refine (insert_twice (fun y => False ∨ y = WB) none 1 mx nx X T L hh n 0 0 0 0 a5 2 cp5 (numT v :: [numT (i : Int)]) ((i : Int) + 1) j0 (j0 + 1) (j0 + 1) w5 IX5.out (by omega) (by omega) (by decide) (by decide) (.inl rfl) KEY.out HSP.out HRK.out (by simp) (by omega)).mono ?_
          rintro _ w6 ⟨k6, tb, hk6, rfl, htw, hc6, hm6⟩
          rw [EID.out] at htw
          have HTW := hide htw
          have IX6 := hide (IX5.out.met hc6 hm6).any
          have WHO6 := hide (WHO5.out.chg hc6 (not_none _))
          have HU6 : Hid (Up w w6) := ((Chg.of_up HUP5.out).trans hc6 (fun _ _ h => h)).up (fun y hy h => not_none _ h)
          have c3 := hcell.out w6 HU6.out
          have c4 := WHO6.out.cell b hwl
          have t9 : (wf b == 0) = false := by rw [beq_eq_false_iff_ne]; exact hz
          have t9' : (wf b != 0) = true := by rw [bne_iff_ne]; exact hz
          have HCL : Hid (∀ w', Up w6 w' → Calls Tryz.prog 22 #[.iface 98 (.pointer (some ⟨tb, 0, none⟩))] w' fun e w'' => e = .returned (.int .i64 80) ∧ Up w' w'') := fun w' hu => class_twice tb w' (HT.out.up (HU6.out.trans hu))
          have HWO : Hid (∀ w', Up w6 w' → Calls Tryz.prog 23 #[.iface 98 (.pointer (some ⟨tb, 0, none⟩))] w' fun e w'' => e = .returned (.int .i64 (wf b)) ∧ Up w' w'') := fun w' hu => who_twice tb (wf b) w' (HT.out.up (HU6.out.trans hu)) (hu.cell HTW.out)
          have HRF : Hid (∀ w', Up w6 w' → UqI mx nx X T WB w (i + 1) N wf w') := fun w' hu => ⟨⟨L, hh, n, IX6.out.up hu, UQ.out, WH.out.more, HL2.out, by omega, by omega⟩, WHO6.out.up hu, HU6.out.trans hu⟩
          clear hk6 hc6 hm6 IX5 WHO5 HUP5 IX6 WHO6 htw
          dsimp only
          go_wp2_with fail
          refine region_up (by kernel_rfl) (by kernel_rfl) ?_
          repeat (first
            | go_big_quiet_skip
            | (go_big_quiet_want; go_big_quiet_op; go_big_quiet_on)
            | (go_big_quiet_want
               apply Exists.intro
               refine ⟨fun w' hw' => ?_, ?_⟩
               (skip
                have c4 := hw'.cell c4
                go_simp
                first
                | done
                | with_reducible rfl
                | (go_at_call 22; exact quiet_call hw' (HCL.out w' hw'))
                | (go_at_call 23; exact quiet_call hw' (HWO.out w' hw')))
               go_big_quiet_on
               try simp only [Act.put, List.setIfInBounds_toArray, List.set_cons_zero, List.set_cons_succ]))
          refine wpQuiet_nil ?_
          intro w7 hw7
          have HR7 := hide (HRF.out w7 hw7)
          clear hw7 HRF HCL HWO c3 c4
          go_wp2_with fail
          exact ⟨⟨i + 1, N, _, by omega, by omega, rfl, by first | rfl | congr 1, HR7⟩, by simp [intOf]; omega⟩
    · obtain rfl : i = len := by omega
      have hlt2 : ¬ (i : Int) < (i : Int) := by omega
      obtain ⟨L, hh, n, ix, uq, wh, hLN, hLi, hn⟩ := hR.out.ix
      have HLEN := hide (olen_calls X T hh n (L.map (·.1)) wr ix.x2 ix.tr.tr)
      have HUP := hide hR.out.up
      have hLN' : (L.map (·.1)).length = N := by rw [List.length_map]; exact hLN
      rw [hLN'] at HLEN
      clear ix uq wh hLN hR hLN'
      go_wp2_with fail
      refine HLEN.out.mono ?_
      rintro _ w9 ⟨rfl, rfl⟩
      dsimp only
      go_wp2
      go_ret
      exact ⟨by simp, HUP.out⟩
theorem ordUnique_many (a : Option Addr) (len cap : Nat) (more : Bool) (w : World) (hT : TabE w) (h60 : ¬ len ≤ 60) :
    Calls Tryz.prog 5 #[.slice a len cap, .bool more] w fun e w' => e = .returned (.bool true) ∧ Up w w' := by
  have HKN := hide (known12_calls w hT)
  have t60 : decide ((len : Int) > 60) = true := decide_eq_true (by omega)
  have t60' : decide (60 < len) = true := decide_eq_true (by omega)
  clear hT
  go_enter Tryz.func5, Tryz.ntmps5
  go_wp2_with fail
  refine HKN.out.mono ?_
  rintro _ w1 ⟨rfl, hu1⟩
  have HU := hide hu1
  clear hu1 HKN
  dsimp only
  go_wp2
  go_ret
  exact ⟨rfl, HU.out⟩
end Go.Proofs.YtnokokhbcfkifaaGreatDoor

/-
  UndoDoes, whole.
-/
import Derived.Test.YtobalfckdknbdaaDoorUdKnw
import Derived.Test.YtobalfckdknbdaaDoorUdDsi
import Derived.Test.YtobalfckdknbdaaDoorKeyErr
import Derived.Deep.RegionHeld3
import Derived.Deep.RegionLaw
namespace Go.Proofs.YtobalfckdknbdaaDoor
open Go.ChangeShapes Go.WideShapes Go.ChangeAt Go.RowKit
set_option linter.unusedVariables false
set_option maxRecDepth 20000
attribute [local go_sem ↓] Go.wp_at_zero Go.wp_at_succ

theorem up_of_chg {C : Nat → Prop} {w a b : World} (h : Up w a) (hc : Chg C a b) (hC : ∀ x, C x → w.heap.size ≤ x) : Up w b :=
  ((Chg.of_up (C := C) h).trans hc (fun _ _ h => h)).up (fun x hx h => by have := hC x h; omega)

/-- got's beginning: nothing in it. -/
theorem ds_start (n0 T : Nat) (w : World) (t : TypeId) (hl : LogAt T [] w) (hn : n0 ≤ T) : DsI n0 T w.heap.size [] [] (w.alloc (.cells #[.slice none 0 0] t)) := by
  have hT := hl.old.1
  have hua : Up w (w.alloc (.cells #[.slice none 0 0] t)) := (Up.refl _).alloc _
  have hs : (w.alloc (.cells #[.slice none 0 0] t)).heap.size = w.heap.size + 1 := by simp
  refine ⟨hl.up hua, rfl, fun p hp => (by cases hp), by go_simp, by simp, Own.nil _ _ _ _, fun g hg => (by cases hg), fun k hk => (by cases hk), by omega, ?_, by omega⟩
  rintro y (e | e | ⟨k, hk, e⟩)
  · omega
  · omega
  · cases hk

set_option maxHeartbeats 16000000 in
theorem undoDoes_all (a b how : Int) (w : World) (hT : TabE w) (ha : 0 ≤ a ∧ a ≤ 255) (hb : 0 ≤ b ∧ b ≤ 255) :
    Calls Tryd.prog 3 #[.int .u8 a, .int .u8 b, .int .i64 how] w fun e w' => e = .returned (.bool true) ∧ Up w w' := by
  have hmf : ∀ (fn : Fn) (first cap : Array Value) (w : World), (Instr.makeFunc fn first cap).run Tryd.prog w = .ok (.func fn first cap) w := fun _ _ _ _ => rfl
  obtain ⟨A, rfl⟩ : ∃ k : Nat, a = (k : Int) := ⟨a.toNat, by omega⟩
  obtain ⟨D, rfl⟩ : ∃ k : Nat, b = (k : Int) := ⟨b.toNat, by omega⟩
  obtain ⟨x, hx⟩ : ∃ k : Nat, k = A % 10 := ⟨_, rfl⟩
  obtain ⟨y, hy⟩ : ∃ k : Nat, k = D % 10 := ⟨_, rfl⟩
  have ex : (A : Int) % 10 = (x : Int) := by omega
  have ey : (D : Int) % 10 = (y : Int) := by omega
  have x10 : x < 10 := by omega
  have y10 : y < 10 := by omega
  have HT := hide hT
  clear hx hy hT
  go_enter Tryd.func3, Tryd.ntmps3
  go_wp2_with fail
  have u1 : Up w (w.alloc (.cells #[.int .i64 how] 3)) := (Up.refl _).alloc _
  have ch : (w.alloc (.cells #[.int .i64 how] 3)).cell? ⟨w.heap.size, 0, none⟩ = some (.int .i64 how) := by go_simp
  obtain ⟨bh, hbh⟩ : ∃ k, k = w.heap.size := ⟨_, rfl⟩
  generalize w.alloc (.cells #[.int .i64 how] 3) = W0 at *
  rw [← hbh] at ch ⊢
  have HBH := hide hbh
  clear hbh
  refine (known16_calls W0).mono ?_
  rintro _ w1 ⟨rfl, hu1⟩
  replace ch := hu1.cell ch
  have HU1 := hide (u1.trans hu1)
  have hbT : bh < w1.heap.size := World.block_lt_of_cell? w1 ⟨bh, 0, none⟩ ch
  clear u1 hu1
  dsimp only
  go_wp2_with fail
  refine (udNew_calls w1).mono ?_
  rintro _ w2 ⟨rfl, hl2, hu2⟩
  have hT2 : w1.heap.size < w2.heap.size := hl2.old.1
  have hwT : w.heap.size ≤ w1.heap.size := HU1.out.size
  replace ch := hu2.cell ch
  have HU2 := hide (HU1.out.trans hu2)
  generalize hTT : w1.heap.size = T at hl2 hT2 hwT hbT ⊢
  have HL2 := hide (⟨hl2, hT2, hwT, hbT⟩ : _ ∧ _ ∧ _ ∧ _)
  clear hl2 hT2 hwT hbT hu2 HU1 hTT
  dsimp only
  go_wp2_with fail
  have hW3 : ((w2.alloc (.cells #[.pointer (some ⟨T, 0, none⟩)] 23)).alloc (.cells #[.int .i64 (y : Int)] 3)).heap.size = w2.heap.size + 1 + 1 := by simp
  have u3 : Up w2 ((w2.alloc (.cells #[.pointer (some ⟨T, 0, none⟩)] 23)).alloc (.cells #[.int .i64 (y : Int)] 3)) := ((Up.refl _).alloc _).alloc _
  have cl : ((w2.alloc (.cells #[.pointer (some ⟨T, 0, none⟩)] 23)).alloc (.cells #[.int .i64 (y : Int)] 3)).cell? ⟨w2.heap.size, 0, none⟩ = some (.pointer (some ⟨T, 0, none⟩)) := by go_simp
  have cb : ((w2.alloc (.cells #[.pointer (some ⟨T, 0, none⟩)] 23)).alloc (.cells #[.int .i64 (y : Int)] 3)).cell? ⟨w2.heap.size + 1, 0, none⟩ = some (.int .i64 (y : Int)) := by go_simp
  generalize (w2.alloc (.cells #[.pointer (some ⟨T, 0, none⟩)] 23)).alloc (.cells #[.int .i64 (y : Int)] 3) = W3 at *
  have hS := ds_start w.heap.size T W3 25 (HL2.out.1.up u3) HL2.out.2.2.1
  have u4 : Up W3 (W3.alloc (.cells #[.slice none 0 0] 25)) := (Up.refl _).alloc _
  replace cl := u4.cell cl
  replace cb := u4.cell cb
  replace ch := u4.cell (u3.cell ch)
  have HU4 := hide ((HU2.out.trans u3).trans u4)
  rw [hW3] at hS
  generalize W3.alloc (.cells #[.slice none 0 0] 25) = W4 at *
  generalize hbl : w2.heap.size = bl at *
  generalize hbb : bl + 1 = bb at *
  generalize hG : bb + 1 = G at *
  have hne : bb ≠ T ∧ bl ≠ T ∧ bh ≠ T := by have := HL2.out; omega
  have HS := hide (⟨hS, cb, cl, ch, hne⟩ : _ ∧ _ ∧ _ ∧ _ ∧ _)
  have HLW : Hid (w.heap.size ≤ T ∧ w.heap.size ≤ G ∧ bb ≠ G ∧ bl ≠ G ∧ bh ≠ G) := hide (by have := HL2.out; omega)
  clear hS cb cl ch hne u3 u4 hW3 hbl hbb hG HL2 HU2 HBH ex ey ha hb
  go_loopw [11] (fun iv wr => ∃ (i : Nat) (l : List Bk) (xs : List Int), iv = .int .i64 i ∧ i ≤ x ∧ Hid (DsI w.heap.size T G l xs wr ∧ l.length = i ∧ Chg (fun z => z = T) W4 wr)) (fun iv _ => x - (intOf iv).toNat)
  case atStart => exact ⟨0, [], [], rfl, Nat.zero_le _, hide ⟨HS.out.1, rfl, Chg.refl _ _⟩⟩
  case round =>
    obtain ⟨i, l, xs, rfl, hi, hd⟩ := hrel
    have cl := hd.out.2.2.cell (p := ⟨bl, 0, none⟩) HS.out.2.2.1 HS.out.2.2.2.2.2.1
    by_cases hlt : i < x
    · have k1 : (i : Int) < (x : Int) := by omega
      have ei : IntKind.i64.wrap ((i : Int) + 1) = (i : Int) + 1 := by rw [IntKind.wrap_i64]; omega
      go_wp2_with fail
      go_at_call 6
      refine (hd.out.1.add1 (by have := hd.out.2.1; omega)).mono ?_
      rintro _ w5 ⟨rfl, hc5, k, h5⟩
      have hd5 := hide (⟨h5, by rw [List.length_cons, hd.out.2.1], hd.out.2.2.trans hc5 (fun _ _ e => e)⟩ : DsI w.heap.size T G (k :: l) (-1 :: xs) w5 ∧ (k :: l).length = i + 1 ∧ Chg (fun z => z = T) W4 w5)
      clear hd hc5 h5
      dsimp only
      go_wp2
      go_roundw
      case rel => exact ⟨i + 1, k :: l, -1 :: xs, by simp, by omega, hd5⟩
      case measure => simp [intOf]; omega
    · obtain rfl : i = x := by omega
      have k1 : ¬ (i : Int) < (i : Int) := by omega
      have hh4 : 0 ≤ how % 4 ∧ how % 4 ≤ 3 := by omega
      obtain ⟨hh, hhe⟩ : ∃ k, k = how % 4 := ⟨_, rfl⟩
      rw [← hhe] at hh4
      have cb := hd.out.2.2.cell (p := ⟨bb, 0, none⟩) HS.out.2.1 HS.out.2.2.2.2.1
      have ch := hd.out.2.2.cell (p := ⟨bh, 0, none⟩) HS.out.2.2.2.1 HS.out.2.2.2.2.2.2
      have hbe : bits .and .i64 how 3 = hh := (bits3 how).trans hhe.symm
      have hDS := hide (⟨hbe, hd.out.1, by omega, by have := hd.out.2.1; omega, cb, cl, ch, HS.out.2.2.2.2⟩ : DsS wr w.heap.size T G bb bl bh l xs y how hh)
      have hUr : Hid (Up w wr) := hide (up_of_chg HU4.out hd.out.2.2 (fun z hz => by have := HLW.out.1; omega))
      have hl : Hid (l.length = i) := hide hd.out.2.1
      clear hd cb ch hhe HS HU4 hi hlt
      have e4 : hh = 0 ∨ hh = 3 ∨ hh = 1 ∨ hh = 2 := by omega
      clear hh4
      rcases e4 with rfl | rfl | rfl | rfl
      · go_wp2_with fail
        refine (hDS.out.does_ok (by decide) (by decide)).mono ?_
        rintro _ E ⟨rfl, p, hE, hpl, -, hcE⟩
        have cb := hcE.cell (p := ⟨bb, 0, none⟩) hDS.out.cb hDS.out.ne.1
        have clE := hcE.cell (p := ⟨bl, 0, none⟩) hDS.out.cl hDS.out.ne.2.1
        have ch := hcE.cell (p := ⟨bh, 0, none⟩) hDS.out.ch hDS.out.ne.2.2
        have cG := hE.r.cg
        have hUE : Hid (Up w E) := hide (up_of_chg hUr.out hcE (fun z hz => by have := HLW.out.1; omega))
        have hlen : (((p ++ l).length : Nat) : Int) = (i : Int) + (y : Int) := by
          have := hl.out
          rw [List.length_append, hpl]
          omega
        have HLN : Hid (∀ n, Calls Tryd.prog 11 #[.pointer (some ⟨T, 0, none⟩)] (E.drewN n) fun e w'' => e = .returned (.int .i64 ((i : Int) + (y : Int))) ∧ w'' = E.drewN n) := hide (fun n => by
          have h := udLen_calls T (p ++ l) (E.drewN n) (hE.up ((Up.refl E).drewN n)).log
          rw [hlen] at h
          exact h)
        have ew : wrap64 ((i : Int) + (y : Int)) = (i : Int) + (y : Int) := IntWalk.wrap64_in _ (by omega)
        have ew' : IntKind.i64.wrap ((i : Int) + (y : Int)) = (i : Int) + (y : Int) := by rw [IntKind.wrap_i64]; omega
        clear hDS hE hcE hpl hlen cl
        dsimp only
        go_wp2_with fail
        go_quiet ((go_at_call 11; exact Calls.quiet_of_same (HLN.out _)))
        go_wp2
        go_ret
        exact ⟨rfl, hUE.out.drewN _⟩
      · go_wp2_with fail
        refine (hDS.out.does_ok (by decide) (by decide)).mono ?_
        rintro _ E ⟨rfl, p, hE, hpl, -, hcE⟩
        have cb := hcE.cell (p := ⟨bb, 0, none⟩) hDS.out.cb hDS.out.ne.1
        have clE := hcE.cell (p := ⟨bl, 0, none⟩) hDS.out.cl hDS.out.ne.2.1
        have ch := hcE.cell (p := ⟨bh, 0, none⟩) hDS.out.ch hDS.out.ne.2.2
        have cG := hE.r.cg
        have hUE : Hid (Up w E) := hide (up_of_chg hUr.out hcE (fun z hz => by have := HLW.out.1; omega))
        have hlen : (((p ++ l).length : Nat) : Int) = (i : Int) + (y : Int) := by
          have := hl.out
          rw [List.length_append, hpl]
          omega
        have HLN : Hid (∀ n, Calls Tryd.prog 11 #[.pointer (some ⟨T, 0, none⟩)] (E.drewN n) fun e w'' => e = .returned (.int .i64 ((i : Int) + (y : Int))) ∧ w'' = E.drewN n) := hide (fun n => by
          have h := udLen_calls T (p ++ l) (E.drewN n) (hE.up ((Up.refl E).drewN n)).log
          rw [hlen] at h
          exact h)
        have ew : wrap64 ((i : Int) + (y : Int)) = (i : Int) + (y : Int) := IntWalk.wrap64_in _ (by omega)
        have ew' : IntKind.i64.wrap ((i : Int) + (y : Int)) = (i : Int) + (y : Int) := by rw [IntKind.wrap_i64]; omega
        clear hDS hE hcE hpl hlen cl
        dsimp only
        go_wp2_with fail
        go_quiet ((go_at_call 11; exact Calls.quiet_of_same (HLN.out _)))
        go_wp2
        go_ret
        exact ⟨rfl, hUE.out.drewN _⟩
      · go_wp2_with fail
        refine (hDS.out.does_err rfl).mono ?_
        rintro _ E ⟨rfl, vg, hlF, hrF, hcE, -⟩
        have cbF := hcE.cell (p := ⟨bb, 0, none⟩) hDS.out.cb (fun e => e.elim hDS.out.ne.1 HLW.out.2.2.1)
        have clF := hcE.cell (p := ⟨bl, 0, none⟩) hDS.out.cl (fun e => e.elim hDS.out.ne.2.1 HLW.out.2.2.2.1)
        have chF := hcE.cell (p := ⟨bh, 0, none⟩) hDS.out.ch (fun e => e.elim hDS.out.ne.2.2 HLW.out.2.2.2.2)
        have hUF : Hid (Up w E) := hide (up_of_chg hUr.out hcE (fun z hz => by have := HLW.out; omega))
        clear hDS hcE cl
        have hCL := hide (class_num 70 E (HT.out.up hUF.out))
        dsimp only
        go_wp2_with fail
        go_at_call 12
        refine hCL.out.mono ?_
        rintro _ F ⟨rfl, huF⟩
        replace cbF := huF.cell cbF
        replace clF := huF.cell clF
        replace chF := huF.cell chF
        replace hUF := hide (hUF.out.trans huF)
        replace hlF := hlF.up huF
        replace hrF := hrF.up huF
        clear hCL huF
        have hog := hrF.og
        obtain ⟨ag, cg, rfl, -⟩ := hog.slice
        rw [downN_len] at hrF hog
        have cG := hrF.cg
        have hRD := hide (hog.rd (X := fun _ => False) (fun _ _ h => h))
        have hLN := hide (fun w' (hu : Up F w') => udLen_calls T l w' (hlF.up hu))
        have e1 : wrap64 ((y : Int) - 1) = (y : Int) - 1 := IntWalk.wrap64_in _ (by omega)
        clear hrF hog hlF
        dsimp only
        go_wp2_with fail
        go_loopw [14] (fun iv w9 => ∃ j : Nat, iv = .int .i64 j ∧ j ≤ y ∧ Hid (Up F w9)) (fun iv _ => y - (intOf iv).toNat)
        case atStart => exact ⟨0, rfl, Nat.zero_le _, Up.refl _⟩
        case round =>
          obtain ⟨j, rfl, hj, hu9⟩ := hrel
          have cG9 := hu9.out.cell cG
          have cb9 := hu9.out.cell cbF
          by_cases hjy : j < y
          · have k2 : (j : Int) < (y : Int) := by omega
            have k0 : (0 : Int) ≤ (j : Int) := by omega
            have ej : IntKind.i64.wrap ((j : Int) + 1) = (j : Int) + 1 := by rw [IntKind.wrap_i64]; omega
            have hjl : j < (downN y).length := by rw [downN_len]; exact hjy
            obtain ⟨g9, o9, rfl, y9⟩ := (hRD.out.up hu9.out).get (i := j) hjl
            rw [downN_at y j hjl] at y9
            have e2 : wrap64 ((y : Int) - 1 - (j : Int)) = (y : Int) - 1 - (j : Int) := IntWalk.wrap64_in _ (by omega)
            have hU9 := hide (fun n => hu9.out.drewN n)
            clear hjl hu9
            go_wp2_with fail
            go_quiet (fail)
            go_wp2
            go_roundw
            case rel => exact ⟨j + 1, by simp, by omega, hU9.out _⟩
            case measure => simp [intOf]; omega
          · obtain rfl : j = y := by omega
            have k2 : ¬ (j : Int) < (j : Int) := by omega
            have cl9 := hu9.out.cell clF
            have hLL := hide (hLN.out _ hu9.out)
            rw [hl.out] at hLL
            have HUZ := hide (hUF.out.trans hu9.out)
            clear hu9
            go_wp2_with (go_at_call 11; refine hLL.out.mono ?_; rintro _ wm ⟨rfl, hwm⟩; obtain rfl : wr = wm := hwm.symm)
            go_ret
            exact ⟨rfl, HUZ.out⟩
      · go_wp2_with fail
        refine (hDS.out.does_pan rfl).mono ?_
        rintro _ F ⟨rfl, vg, hlF, hrF, hcE, -⟩
        have cbF := hcE.cell (p := ⟨bb, 0, none⟩) hDS.out.cb (fun e => e.elim hDS.out.ne.1 HLW.out.2.2.1)
        have clF := hcE.cell (p := ⟨bl, 0, none⟩) hDS.out.cl (fun e => e.elim hDS.out.ne.2.1 HLW.out.2.2.2.1)
        have chF := hcE.cell (p := ⟨bh, 0, none⟩) hDS.out.ch (fun e => e.elim hDS.out.ne.2.2 HLW.out.2.2.2.2)
        have hUF : Hid (Up w F) := hide (up_of_chg hUr.out hcE (fun z hz => by have := HLW.out; omega))
        clear hDS hcE cl
        have hog := hrF.og
        obtain ⟨ag, cg, rfl, -⟩ := hog.slice
        rw [downN_len] at hrF hog
        have cG := hrF.cg
        have hRD := hide (hog.rd (X := fun _ => False) (fun _ _ h => h))
        have hLN := hide (fun w' (hu : Up F w') => udLen_calls T l w' (hlF.up hu))
        have e1 : wrap64 ((y : Int) - 1) = (y : Int) - 1 := IntWalk.wrap64_in _ (by omega)
        clear hrF hog hlF
        dsimp only
        go_wp2_with fail
        go_loopw [14] (fun iv w9 => ∃ j : Nat, iv = .int .i64 j ∧ j ≤ y ∧ Hid (Up F w9)) (fun iv _ => y - (intOf iv).toNat)
        case atStart => exact ⟨0, rfl, Nat.zero_le _, Up.refl _⟩
        case round =>
          obtain ⟨j, rfl, hj, hu9⟩ := hrel
          have cG9 := hu9.out.cell cG
          have cb9 := hu9.out.cell cbF
          by_cases hjy : j < y
          · have k2 : (j : Int) < (y : Int) := by omega
            have k0 : (0 : Int) ≤ (j : Int) := by omega
            have ej : IntKind.i64.wrap ((j : Int) + 1) = (j : Int) + 1 := by rw [IntKind.wrap_i64]; omega
            have hjl : j < (downN y).length := by rw [downN_len]; exact hjy
            obtain ⟨g9, o9, rfl, y9⟩ := (hRD.out.up hu9.out).get (i := j) hjl
            rw [downN_at y j hjl] at y9
            have e2 : wrap64 ((y : Int) - 1 - (j : Int)) = (y : Int) - 1 - (j : Int) := IntWalk.wrap64_in _ (by omega)
            have hU9 := hide (fun n => hu9.out.drewN n)
            clear hjl hu9
            go_wp2_with fail
            go_quiet (fail)
            go_wp2
            go_roundw
            case rel => exact ⟨j + 1, by simp, by omega, hU9.out _⟩
            case measure => simp [intOf]; omega
          · obtain rfl : j = y := by omega
            have k2 : ¬ (j : Int) < (j : Int) := by omega
            have cl9 := hu9.out.cell clF
            have hLL := hide (hLN.out _ hu9.out)
            rw [hl.out] at hLL
            have HUZ := hide (hUF.out.trans hu9.out)
            clear hu9
            go_wp2_with (go_at_call 11; refine hLL.out.mono ?_; rintro _ wm ⟨rfl, hwm⟩; obtain rfl : wr = wm := hwm.symm)
            go_ret
            exact ⟨rfl, HUZ.out⟩

end Go.Proofs.YtobalfckdknbdaaDoor

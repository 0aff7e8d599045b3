/-
  ordidx's spotOf and Insert where the comparator may strike, as their texts run.
-/
import Derived.Test.YtnokokhbcfkifaaGreatDoorOxSe2
import Derived.Test.YtnokokhbcfkifaaGreatDoorOxIxG
import Derived.Test.YtnokokhbcfkifaaGreatDoorOxCopG
namespace Go.Proofs.YtnokokhbcfkifaaGreatDoor
open Go.ChangeShapes Go.WideShapes Go.ChangeAt Go.RowKit
set_option linter.unusedVariables false
set_option maxRecDepth 100000
attribute [local go_sem ↓] Go.wp_at_zero Go.wp_at_succ

/-- spotOf, where the comparator strikes. -/
def SpotHit (mp : Option Addr) (t h : Int) (w : World) (e : Ending) (w' : World) : Prop := ∃ k : Nat, e = .returned (.tuple #[spotV 0 0 0 false, markV k]) ∧ Chg (InM mp) w w' ∧ MetO w' mp t t h 1
set_option maxHeartbeats 4000000 in
theorem spotOf2_ok (Y : Nat → Prop) (mb q mx nx X T : Nat) (u : Bool) (L : List EP) (hh n : Nat) (c t h : Int) (ka : Option Addr) (kn kc : Nat) (m : List VT) (id : Int) (p p' r : Nat) (w : World) (i : IxW Y (some ⟨mb, 0, none⟩) q mx nx X T u L hh n c t h 0 w) (hL : L.length ≤ 100000) (hc0 : 0 ≤ c) (hc1 : c ≤ 800) (kk : KeyC (InM (some ⟨mb, 0, none⟩)) w ka kn kc m) (hs : Spot q L m p p') (hr : RankAt L p p' id r) :
    Calls Tryz.prog 37 #[.pointer (some ⟨X, 0, none⟩), .slice ka kn kc, .int .i64 id] w fun e w' => SpotOk (some ⟨mb, 0, none⟩) c t h 0 L.length p p' r (decide (r < p' ∧ (L.getD r (zeroET, [])).1.id = id)) w e w' ∨ SpotHit (some ⟨mb, 0, none⟩) t h w e w' := by
  obtain ⟨bb, hbb⟩ : ∃ bb, bb = decide (r < p' ∧ (L.getD r (zeroET, [])).1.id = id) := ⟨_, rfl⟩
  rw [← hbb]
  replace hbb := hide hbb
  unfold SpotOk spotV
  obtain ⟨W1, hW1⟩ : ∃ W1, W1 = ((w.alloc (.cells #[.pointer (some ⟨X, 0, none⟩)] 27)).alloc (.cells #[.int .i64 id] 2)).alloc (.cells #[.int .i64 0, .int .i64 0, .int .i64 0, .bool false] 95) := ⟨_, rfl⟩
  have u1 : Up w W1 := by rw [hW1]; exact (((Up.refl _).alloc _).alloc _).alloc _
  have b0 : W1.cell? ⟨w.heap.size, 0, none⟩ = some (.pointer (some ⟨X, 0, none⟩)) := by rw [hW1]; go_simp
  have b1 : W1.cell? ⟨w.heap.size + 1, 0, none⟩ = some (.int .i64 id) := by rw [hW1]; go_simp
  have r0 : W1.cell? ⟨w.heap.size + 1 + 1, 0, none⟩ = some (.int .i64 0) := by rw [hW1]; go_simp
  have r1 : W1.cell? ⟨w.heap.size + 1 + 1, 1, none⟩ = some (.int .i64 0) := by rw [hW1]; go_simp
  have r2 : W1.cell? ⟨w.heap.size + 1 + 1, 2, none⟩ = some (.int .i64 0) := by rw [hW1]; go_simp
  have r3 : W1.cell? ⟨w.heap.size + 1 + 1, 3, none⟩ = some (.bool false) := by rw [hW1]; go_simp
  have fr : ∀ z, W1.frozen? ⟨w.heap.size + 1 + 1, z, none⟩ = false := fun z => by rw [hW1]; go_simp
  have hW1s : W1.heap.size = w.heap.size + 1 + 1 + 1 := by rw [hW1]; simp
  have far : ∀ z, w.heap.size ≤ z → ¬ InM (some ⟨mb, 0, none⟩) z := fun z hz h => by have := i.ylt _ h; omega
  have HFIND := hide (ofind2_ok Y mb q mx nx X T u L hh n c t h ka kn kc m p p' W1 (i.up u1) hL hc0 hc1 (kk.up u1) hs)
  have HI := hide i
  have HS := hide hs
  have HR := hide hr
  have HU1 := hide u1
  have HFAR := hide far
  have FR := hide fr
  have hW1' := hW1.symm
  clear i hs hr u1 far fr hW1 kk
  go_enter Tryz.func37, Tryz.ntmps37
  go_wp2_with fail
  clear hW1'
  refine HFIND.out.mono ?_
  rintro _ w2 (⟨k2, hk2, rfl, hc2, hm2⟩ | ⟨km, rfl, hc2, hm2⟩)
  rotate_left
  · have q0' := hc2.cell r0 (HFAR.out (w.heap.size + 1 + 1) (by omega))
    have q1' := hc2.cell r1 (HFAR.out (w.heap.size + 1 + 1) (by omega))
    have q2' := hc2.cell r2 (HFAR.out (w.heap.size + 1 + 1) (by omega))
    have q3' := hc2.cell r3 (HFAR.out (w.heap.size + 1 + 1) (by omega))
    have RF : ∀ z, w2.frozen? ⟨w.heap.size + 1 + 1, z, none⟩ = false := fun z => (hc2.frozen (p := ⟨w.heap.size + 1 + 1, z, none⟩) (show w.heap.size + 1 + 1 < W1.heap.size by omega) (HFAR.out (w.heap.size + 1 + 1) (by omega))).trans (FR.out z)
    obtain ⟨V0, hV0⟩ : ∃ V0, V0 = w2.alloc (.cells #[.int .i64 0] 3) := ⟨_, rfl⟩
    have uV0 : Up w2 V0 := by rw [hV0]; exact (Up.refl _).alloc _
    have v0 : V0.cell? ⟨w2.heap.size, 0, none⟩ = some (.int .i64 0) := by rw [hV0]; go_simp
    have vf : V0.frozen? ⟨w2.heap.size, 0, none⟩ = false := by rw [hV0]; go_simp
    obtain ⟨V, hV⟩ : ∃ V, V = V0.setCell ⟨w2.heap.size, 0, none⟩ (.int .i64 0) := ⟨_, rfl⟩
    have uV : Up w2 V := by rw [hV]; exact up_of_chg_new uV0 ((Chg.refl _ V0).set (C := fun y => y = w2.heap.size) (p := ⟨w2.heap.size, 0, none⟩) (fun _ => rfl) _) (Nat.le_refl _)
    have hRl : w.heap.size + 1 + 1 < w2.heap.size := by have := hc2.size; omega
    replace q0' := uV.cell q0'
    replace q1' := uV.cell q1'
    replace q2' := uV.cell q2'
    replace q3' := uV.cell q3'
    have RV : ∀ z, V.frozen? ⟨w.heap.size + 1 + 1, z, none⟩ = false := fun z => (uV.frozen (p := ⟨w.heap.size + 1 + 1, z, none⟩) hRl).trans (RF z)
    have f0 := RV 0
    have f1 := RV 1
    have f2 := RV 2
    have f3 := RV 3
    have hV' := hV.symm
    have hV0' := hV0.symm
    replace hc2 := hc2.andUp uV
    replace hm2 := hm2.up uV
    clear hV uV hV0 uV0
    obtain ⟨W4, hW4⟩ : ∃ W4, W4 = (((V.setCell ⟨w.heap.size + 1 + 1, 0, none⟩ (.int .i64 0)).setCell ⟨w.heap.size + 1 + 1, 1, none⟩ (.int .i64 0)).setCell ⟨w.heap.size + 1 + 1, 2, none⟩ (.int .i64 0)).setCell ⟨w.heap.size + 1 + 1, 3, none⟩ (.bool false) := ⟨_, rfl⟩
    have s1 : Chg (fun y => y = w.heap.size + 1 + 1) V W4 := by
      rw [hW4]
      exact ((((Chg.refl (fun y => y = w.heap.size + 1 + 1) V).set (C := fun y => y = w.heap.size + 1 + 1) (p := ⟨w.heap.size + 1 + 1, 0, none⟩) (fun _ => rfl) _).set (C := fun y => y = w.heap.size + 1 + 1) (p := ⟨w.heap.size + 1 + 1, 1, none⟩) (fun _ => rfl) _).set (C := fun y => y = w.heap.size + 1 + 1) (p := ⟨w.heap.size + 1 + 1, 2, none⟩) (fun _ => rfl) _).set (C := fun y => y = w.heap.size + 1 + 1) (p := ⟨w.heap.size + 1 + 1, 3, none⟩) (fun _ => rfl) _
    have k0 : W4.cell? ⟨w.heap.size + 1 + 1, 0, none⟩ = some (.int .i64 0) := by rw [hW4]; go_simp
    have k1 : W4.cell? ⟨w.heap.size + 1 + 1, 1, none⟩ = some (.int .i64 0) := by rw [hW4]; go_simp
    have k2' : W4.cell? ⟨w.heap.size + 1 + 1, 2, none⟩ = some (.int .i64 0) := by rw [hW4]; go_simp
    have k3 : W4.cell? ⟨w.heap.size + 1 + 1, 3, none⟩ = some (.bool false) := by rw [hW4]; go_simp
    have HF := hide (show Chg (InM (some ⟨mb, 0, none⟩)) w W4 ∧ MetO W4 (some ⟨mb, 0, none⟩) t t h 1 from ⟨((Chg.of_up HU1.out).trans hc2 (fun _ _ h => h)).trans s1 (fun y hy e => by have e' : y = w.heap.size + 1 + 1 := e; omega), hm2.chg s1 (fun g hg e => HFAR.out g (by have e' : g = w.heap.size + 1 + 1 := e; omega) hg)⟩)
    have hW4' := hW4.symm
    unfold markV
    clear hW4 s1 hc2 hm2 RF RV HFIND
    dsimp only
    go_wp2_with fail
    exact bodyPost_ret (v := .tuple #[.agg #[.int .i64 0, .int .i64 0, .int .i64 0, .bool false], .iface 147 (.pointer (some ⟨km, 0, none⟩))]) (by simp [results, Tryz.results37, go_sem, k0, k1, k2', k3]) rfl (.inr ⟨km, rfl, HF.out⟩)
  have HC2 := hide hc2
  have HM2 := hide hm2
  have HK2 := hide hk2
  have d0 := hc2.cell b0 (HFAR.out w.heap.size (Nat.le_refl _))
  have d1 := hc2.cell b1 (HFAR.out (w.heap.size + 1) (by omega))
  have R0 := hide (hc2.cell r0 (HFAR.out (w.heap.size + 1 + 1) (by omega)))
  have R1 := hide (hc2.cell r1 (HFAR.out (w.heap.size + 1 + 1) (by omega)))
  have R2 := hide (hc2.cell r2 (HFAR.out (w.heap.size + 1 + 1) (by omega)))
  have R3 := hide (hc2.cell r3 (HFAR.out (w.heap.size + 1 + 1) (by omega)))
  have RF : Hid (∀ z, w2.frozen? ⟨w.heap.size + 1 + 1, z, none⟩ = false) := fun z => (hc2.frozen (p := ⟨w.heap.size + 1 + 1, z, none⟩) (show w.heap.size + 1 + 1 < W1.heap.size by omega) (HFAR.out (w.heap.size + 1 + 1) (by omega))).trans (FR.out z)
  have hw2s : Hid (w.heap.size + 1 + 1 < w2.heap.size) := by have := hc2.size; unfold Hid; omega
  clear hc2 hm2 hk2 b0 b1 HFIND r0 r1 r2 r3 FR
  dsimp only
  go_wp2_with fail
  obtain ⟨W3, hW3⟩ : ∃ W3, W3 = w2.alloc (.cells #[.int .i64 (p : Int)] 3) := ⟨_, rfl⟩
  have u3 : Up w2 W3 := by rw [hW3]; exact (Up.refl _).alloc _
  have p3 : W3.cell? ⟨w2.heap.size, 0, none⟩ = some (.int .i64 (p : Int)) := by rw [hW3]; go_simp
  rw [← hW3]
  clear hW3
  have hcw : Chg (InM (some ⟨mb, 0, none⟩)) w W3 := ((Chg.of_up HU1.out).trans HC2.out (fun _ _ h => h)).andUp u3
  have hm3 : MetO W3 (some ⟨mb, 0, none⟩) (c + k2) t h 0 := HM2.out.up u3
  have ix3 := HI.out.met hcw hm3
  have q0 := u3.cell d0
  have q1 := u3.cell d1
  have hsr : ∀ w', Up W3 w' → Calls Tryz.prog 56 #[.int .i64 ((p' - p : Nat) : Int), .func (.func 57) #[] #[.pointer (some ⟨w.heap.size, 0, none⟩), .pointer (some ⟨w2.heap.size, 0, none⟩), .pointer (some ⟨w.heap.size + 1, 0, none⟩)]] w' fun e w'' => e = .returned (.int .i64 ((r - p : Nat) : Int)) ∧ Up w' w'' := fun w' hw' => by
    have hle := HS.out.le
    have htop := HS.out.top
    have hlo := HR.out.lo
    have hhi := HR.out.hi
    refine (sortSearch_calls 57 _ (p' - p) (r - p) _ (fun _ x => Up w' x) w' (by omega) (enters_of Tryz.func57 (by kernel_rfl) rfl) (spot1_calls X T hh n L p p' id w.heap.size w2.heap.size (w.heap.size + 1) w' (hw'.cell ix3.x2) (ix3.tr.tr.up hw') hL htop hle (hw'.cell q0) (hw'.cell p3) (hw'.cell q1)) (by omega) (fun j hj => decide_eq_false (by have := HR.out.less (p + j) (by omega) (by omega); omega)) (fun j hj hj2 => decide_eq_true (HR.out.more (p + j) (by omega) (by omega))) (Up.refl _)).mono ?_
    rintro _ w'' ⟨k, rfl, hu, -⟩
    exact ⟨rfl, hu⟩
  have HSR := hide hsr
  have HC3 := hide hcw
  have HM3 := hide hm3
  have IX3 := hide ix3
  have hle := HS.out.le
  have htop := HS.out.top
  have hrlo := HR.out.lo
  have hrhi := HR.out.hi
  have e1 : IntKind.i64.wrap ((p' : Int) - (p : Int)) = ((p' - p : Nat) : Int) := by rw [IntKind.wrap_i64]; omega
  have e2 : IntKind.i64.wrap ((p : Int) + ((r - p : Nat) : Int)) = (r : Int) := by rw [IntKind.wrap_i64]; omega
  have HU3 := hide u3
  clear hsr hcw hm3 ix3 u3
  refine region_up (by kernel_rfl) (by kernel_rfl) ?_
  repeat (first
    | go_big_quiet_skip
    | (go_big_quiet_want; go_big_quiet_op; go_big_quiet_on)
    | (go_big_quiet_want
       apply Exists.intro
       refine ⟨fun w' hw' => ?_, ?_⟩
       (skip
        have q0 := hw'.cell q0
        have q1 := hw'.cell q1
        have p3 := hw'.cell p3
        go_simp
        first
        | done
        | with_reducible rfl
        | (go_at_call 56; exact quiet_call hw' (HSR.out w' hw')))
       go_big_quiet_on
       try simp only [Act.put, List.setIfInBounds_toArray, List.set_cons_zero, List.set_cons_succ]))
  refine wpQuiet_nil ?_
  intro w4 hw4
  have HU4 := hide hw4
  replace q0 := hw4.cell q0
  replace q1 := hw4.cell q1
  replace p3 := hw4.cell p3
  clear hw4 HSR
  go_wp2_with fail
  have U24 : Up w2 w4 := HU3.out.trans HU4.out
  have HKK : Hid (∀ w', Up w4 w' → (Up w4 w' ∧ w'.cell? ⟨w.heap.size, 0, none⟩ = some (.pointer (some ⟨X, 0, none⟩)) ∧ w'.cell? ⟨w.heap.size + 1, 0, none⟩ = some (.int .i64 id) ∧ w'.cell? ⟨w2.heap.size, 0, none⟩ = some (.int .i64 (p : Int)) ∧ w'.cell? ⟨w.heap.size + 1 + 1, 0, none⟩ = some (.int .i64 0) ∧ w'.cell? ⟨w.heap.size + 1 + 1, 1, none⟩ = some (.int .i64 0) ∧ w'.cell? ⟨w.heap.size + 1 + 1, 2, none⟩ = some (.int .i64 0) ∧ w'.cell? ⟨w.heap.size + 1 + 1, 3, none⟩ = some (.bool false) ∧ w'.frozen? ⟨w.heap.size + 1 + 1, 0, none⟩ = false ∧ w'.frozen? ⟨w.heap.size + 1 + 1, 1, none⟩ = false ∧ w'.frozen? ⟨w.heap.size + 1 + 1, 2, none⟩ = false ∧ w'.frozen? ⟨w.heap.size + 1 + 1, 3, none⟩ = false)) := fun w' hw => by
    have hz : ∀ z, w'.frozen? ⟨w.heap.size + 1 + 1, z, none⟩ = false := fun z => ((U24.trans hw).frozen (p := ⟨w.heap.size + 1 + 1, z, none⟩) hw2s.out).trans (RF.out z)
    exact ⟨hw, hw.cell q0, hw.cell q1, hw.cell p3, (U24.trans hw).cell R0.out, (U24.trans hw).cell R1.out, (U24.trans hw).cell R2.out, (U24.trans hw).cell R3.out, hz 0, hz 1, hz 2, hz 3⟩
  have HFIN : Hid (∀ w5 b, Up w4 w5 → (∀ y0 y1 y2 y3, w5.cell? ⟨w.heap.size + 1 + 1, 0, none⟩ = some y0 → w5.cell? ⟨w.heap.size + 1 + 1, 1, none⟩ = some y1 → w5.cell? ⟨w.heap.size + 1 + 1, 2, none⟩ = some y2 → w5.cell? ⟨w.heap.size + 1 + 1, 3, none⟩ = some y3 → True) → Chg (InM (some ⟨mb, 0, none⟩)) w ((((w5.setCell ⟨w.heap.size + 1 + 1, 0, none⟩ (.int .i64 p)).setCell ⟨w.heap.size + 1 + 1, 1, none⟩ (.int .i64 p')).setCell ⟨w.heap.size + 1 + 1, 2, none⟩ (.int .i64 r)).setCell ⟨w.heap.size + 1 + 1, 3, none⟩ (.bool b)) ∧ MetO ((((w5.setCell ⟨w.heap.size + 1 + 1, 0, none⟩ (.int .i64 p)).setCell ⟨w.heap.size + 1 + 1, 1, none⟩ (.int .i64 p')).setCell ⟨w.heap.size + 1 + 1, 2, none⟩ (.int .i64 r)).setCell ⟨w.heap.size + 1 + 1, 3, none⟩ (.bool b)) (some ⟨mb, 0, none⟩) (c + k2) t h 0) := fun w5 b h5 _ => by
    have s1 : Chg (fun y => y = w.heap.size + 1 + 1) w5 ((((w5.setCell ⟨w.heap.size + 1 + 1, 0, none⟩ (.int .i64 p)).setCell ⟨w.heap.size + 1 + 1, 1, none⟩ (.int .i64 p')).setCell ⟨w.heap.size + 1 + 1, 2, none⟩ (.int .i64 r)).setCell ⟨w.heap.size + 1 + 1, 3, none⟩ (.bool b)) :=
      ((((Chg.refl (fun y => y = w.heap.size + 1 + 1) w5).set (C := fun y => y = w.heap.size + 1 + 1) (p := ⟨w.heap.size + 1 + 1, 0, none⟩) (fun _ => rfl) _).set (C := fun y => y = w.heap.size + 1 + 1) (p := ⟨w.heap.size + 1 + 1, 1, none⟩) (fun _ => rfl) _).set (C := fun y => y = w.heap.size + 1 + 1) (p := ⟨w.heap.size + 1 + 1, 2, none⟩) (fun _ => rfl) _).set (C := fun y => y = w.heap.size + 1 + 1) (p := ⟨w.heap.size + 1 + 1, 3, none⟩) (fun _ => rfl) _
    refine ⟨((HC3.out.andUp HU4.out).andUp h5).trans s1 (fun y hy e => by have e' : y = w.heap.size + 1 + 1 := e; omega), ((HM3.out.up HU4.out).up h5).chg s1 (fun g hg e => ?_)⟩
    exact HFAR.out g (by have e' : g = w.heap.size + 1 + 1 := e; omega) hg
  clear U24
  by_cases hrp : r < p'
  · have HID : Hid (∀ w', Up w4 w' → Calls Tryz.prog 38 #[.pointer (some ⟨X, 0, none⟩), .int .i64 (r : Int)] w' fun e w'' => e = .returned (.int .i64 (L.getD r (zeroET, [])).1.id) ∧ Up w' w'') := fun w' hw' => by
      have := idAt_calls X T hh n (L.map (·.1)) r w' ((HU4.out.trans hw').cell IX3.out.x2) (IX3.out.tr.tr.up (HU4.out.trans hw')) (by simp; omega) (by simpa using hL)
      rwa [map_getD] at this
    obtain ⟨v, hv⟩ : ∃ v, v = (L.getD r (zeroET, [])).1.id := ⟨_, rfl⟩
    rw [← hv] at HID
    have hb : Hid ((v == id) = bb) := by
      unfold Hid
      rw [hbb.out, ← hv, Bool.eq_iff_iff]; simp [hrp]
    have t1 : decide ((r : Int) < (p' : Int)) = true := decide_eq_true (by omega)
    clear hv
    have HST : Hid (∀ w5 b, Chg (fun y => y = w.heap.size + 1 + 1) w4 w5 → Chg (fun y => y = w.heap.size + 1 + 1) w4 ((((w5.setCell ⟨w.heap.size + 1 + 1, 0, none⟩ (.int .i64 p)).setCell ⟨w.heap.size + 1 + 1, 1, none⟩ (.int .i64 p')).setCell ⟨w.heap.size + 1 + 1, 2, none⟩ (.int .i64 r)).setCell ⟨w.heap.size + 1 + 1, 3, none⟩ (.bool b))) := fun w5 b h5 =>
      (((h5.set (C := fun y => y = w.heap.size + 1 + 1) (p := ⟨w.heap.size + 1 + 1, 0, none⟩) (fun _ => rfl) _).set (C := fun y => y = w.heap.size + 1 + 1) (p := ⟨w.heap.size + 1 + 1, 1, none⟩) (fun _ => rfl) _).set (C := fun y => y = w.heap.size + 1 + 1) (p := ⟨w.heap.size + 1 + 1, 2, none⟩) (fun _ => rfl) _).set (C := fun y => y = w.heap.size + 1 + 1) (p := ⟨w.heap.size + 1 + 1, 3, none⟩) (fun _ => rfl) _
    have HKS : Hid (∀ w', Chg (fun y => y = w.heap.size + 1 + 1) w4 w' → (Chg (fun y => y = w.heap.size + 1 + 1) w4 w' ∧ w'.cell? ⟨w.heap.size, 0, none⟩ = some (.pointer (some ⟨X, 0, none⟩)) ∧ w'.cell? ⟨w.heap.size + 1, 0, none⟩ = some (.int .i64 id) ∧ w'.cell? ⟨w2.heap.size, 0, none⟩ = some (.int .i64 (p : Int)))) := fun w' hw => ⟨hw, hw.cell q0 (fun e => by have e' : w.heap.size = w.heap.size + 1 + 1 := e; omega), hw.cell q1 (fun e => by have e' : w.heap.size + 1 = w.heap.size + 1 + 1 := e; omega), hw.cell p3 (fun e => by have e' : w2.heap.size = w.heap.size + 1 + 1 := e; have := hw2s.out; omega)⟩
    have tok1 : True := trivial
    go_region_held3 (fun w' => Chg (fun y => y = w.heap.size + 1 + 1) w4 w' ∧ w'.cell? ⟨w.heap.size, 0, none⟩ = some (.pointer (some ⟨X, 0, none⟩)) ∧ w'.cell? ⟨w.heap.size + 1, 0, none⟩ = some (.int .i64 id) ∧ w'.cell? ⟨w2.heap.size, 0, none⟩ = some (.int .i64 (p : Int))) (exact HKS.out _ (by repeat' (with_reducible first | assumption | exact Chg.refl _ _ | apply Chg.alloc | apply Chg.drew | exact HST.out _ _ (by with_reducible assumption))))
      (first
        | (clear tok1; go_at_call 38; refine (HID.out _ (by repeat' (with_reducible first | assumption | exact Up.refl _ | apply Up.alloc | apply Up.drew))).mono ?_; rintro _ w5 ⟨rfl, hu5⟩; have hv5 : Up w4 w5 := Up.trans (by repeat' (with_reducible first | assumption | exact Up.refl _ | apply Up.alloc | apply Up.drew)) hu5; have hx5 : Chg (fun y => y = w.heap.size + 1 + 1) w4 w5 := Chg.of_up hv5; obtain ⟨-, -, -, -, r0, r1, r2, r3, f0, f1, f2, f3⟩ := HKK.out w5 hv5; clear hu5))
    all_goals
      have HV5 := hide (HFIN.out w5 (v == id) hv5 (fun _ _ _ _ _ _ _ _ => trivial))
      clear hv5 hx5
      go_wp2
      have k0 : ((((w5.setCell ⟨w.heap.size + 1 + 1, 0, none⟩ (.int .i64 p)).setCell ⟨w.heap.size + 1 + 1, 1, none⟩ (.int .i64 p')).setCell ⟨w.heap.size + 1 + 1, 2, none⟩ (.int .i64 r)).setCell ⟨w.heap.size + 1 + 1, 3, none⟩ (.bool (v == id))).cell? ⟨w.heap.size + 1 + 1, 0, none⟩ = some (.int .i64 p) := by go_simp
      have k1 : ((((w5.setCell ⟨w.heap.size + 1 + 1, 0, none⟩ (.int .i64 p)).setCell ⟨w.heap.size + 1 + 1, 1, none⟩ (.int .i64 p')).setCell ⟨w.heap.size + 1 + 1, 2, none⟩ (.int .i64 r)).setCell ⟨w.heap.size + 1 + 1, 3, none⟩ (.bool (v == id))).cell? ⟨w.heap.size + 1 + 1, 1, none⟩ = some (.int .i64 p') := by go_simp
      have k2' : ((((w5.setCell ⟨w.heap.size + 1 + 1, 0, none⟩ (.int .i64 p)).setCell ⟨w.heap.size + 1 + 1, 1, none⟩ (.int .i64 p')).setCell ⟨w.heap.size + 1 + 1, 2, none⟩ (.int .i64 r)).setCell ⟨w.heap.size + 1 + 1, 3, none⟩ (.bool (v == id))).cell? ⟨w.heap.size + 1 + 1, 2, none⟩ = some (.int .i64 r) := by go_simp
      have k3 : ((((w5.setCell ⟨w.heap.size + 1 + 1, 0, none⟩ (.int .i64 p)).setCell ⟨w.heap.size + 1 + 1, 1, none⟩ (.int .i64 p')).setCell ⟨w.heap.size + 1 + 1, 2, none⟩ (.int .i64 r)).setCell ⟨w.heap.size + 1 + 1, 3, none⟩ (.bool (v == id))).cell? ⟨w.heap.size + 1 + 1, 3, none⟩ = some (.bool (v == id)) := by go_simp
      refine bodyPost_ret (v := .tuple #[.agg #[.int .i64 p, .int .i64 p', .int .i64 r, .bool (v == id)], .nilIface]) (by simp [results, Tryz.results37, go_sem, k0, k1, k2', k3]) rfl (.inl ⟨k2, HK2.out, by rw [hb.out], HV5.out.1, HV5.out.2⟩)
  · have t1 : decide ((r : Int) < (p' : Int)) = false := decide_eq_false (by omega)
    have hb : Hid (false = bb) := by
      unfold Hid
      rw [hbb.out, Bool.eq_iff_iff]; simp [hrp]
    obtain ⟨hz, y0, y1, y2, r0, r1, r2, r3, f0, f1, f2, f3⟩ := HKK.out w4 (Up.refl _)
    clear hz
    go_region
    all_goals
      have k0 : ((((w4.setCell ⟨w.heap.size + 1 + 1, 0, none⟩ (.int .i64 p)).setCell ⟨w.heap.size + 1 + 1, 1, none⟩ (.int .i64 p')).setCell ⟨w.heap.size + 1 + 1, 2, none⟩ (.int .i64 r)).setCell ⟨w.heap.size + 1 + 1, 3, none⟩ (.bool false)).cell? ⟨w.heap.size + 1 + 1, 0, none⟩ = some (.int .i64 p) := by go_simp
      have k1 : ((((w4.setCell ⟨w.heap.size + 1 + 1, 0, none⟩ (.int .i64 p)).setCell ⟨w.heap.size + 1 + 1, 1, none⟩ (.int .i64 p')).setCell ⟨w.heap.size + 1 + 1, 2, none⟩ (.int .i64 r)).setCell ⟨w.heap.size + 1 + 1, 3, none⟩ (.bool false)).cell? ⟨w.heap.size + 1 + 1, 1, none⟩ = some (.int .i64 p') := by go_simp
      have k2' : ((((w4.setCell ⟨w.heap.size + 1 + 1, 0, none⟩ (.int .i64 p)).setCell ⟨w.heap.size + 1 + 1, 1, none⟩ (.int .i64 p')).setCell ⟨w.heap.size + 1 + 1, 2, none⟩ (.int .i64 r)).setCell ⟨w.heap.size + 1 + 1, 3, none⟩ (.bool false)).cell? ⟨w.heap.size + 1 + 1, 2, none⟩ = some (.int .i64 r) := by go_simp
      have k3 : ((((w4.setCell ⟨w.heap.size + 1 + 1, 0, none⟩ (.int .i64 p)).setCell ⟨w.heap.size + 1 + 1, 1, none⟩ (.int .i64 p')).setCell ⟨w.heap.size + 1 + 1, 2, none⟩ (.int .i64 r)).setCell ⟨w.heap.size + 1 + 1, 3, none⟩ (.bool false)).cell? ⟨w.heap.size + 1 + 1, 3, none⟩ = some (.bool false) := by go_simp
      have HV5 := hide (HFIN.out w4 false (Up.refl _) (fun _ _ _ _ _ _ _ _ => trivial))
      go_wp2
      refine bodyPost_ret (v := .tuple #[.agg #[.int .i64 p, .int .i64 p', .int .i64 r, .bool false], .nilIface]) (by simp [results, Tryz.results37, go_sem, k0, k1, k2', k3]) rfl (.inl ⟨k2, HK2.out, by rw [hb.out], ?_, ?_⟩)
      · exact HV5.out.1.andUp (Up.refl _).drew
      · exact HV5.out.2.up (Up.refl _).drew
end Go.Proofs.YtnokokhbcfkifaaGreatDoor

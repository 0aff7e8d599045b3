/-
  ordidx's Insert of a key that is there, in a unique index, as its text runs.
-/
import Derived.Test.YtnokokhbcfkifaaGreatDoorOxCopG
import Derived.Test.YtnokokhbcfkifaaGreatDoorErrTwi
namespace Go.Proofs.YtnokokhbcfkifaaGreatDoor
open Go.ChangeShapes Go.WideShapes Go.ChangeAt Go.RowKit
set_option linter.unusedVariables false
set_option maxRecDepth 100000
attribute [local go_sem ↓] Go.wp_at_zero Go.wp_at_succ

set_option maxHeartbeats 4000000 in
theorem insert_twice (Y : Nat → Prop) (mp : Option Addr) (q mx nx X T : Nat) (L : List EP) (hh n : Nat) (c t h s : Int) (ka : Option Addr) (kn kc : Nat) (m : List VT) (id : Int) (p p' r : Nat) (w : World) (i : IxW Y mp q mx nx X T true L hh n c t h s w) (hL : L.length ≤ 100000) (hn : n ≤ 9000000) (hc0 : 0 ≤ c) (hc1 : c ≤ 800000) (ht : t = 0 ∨ t ≤ c) (kk : KeyC (InM mp) w ka kn kc m) (hs : Spot q L m p p') (hr : RankAt L p p' id r)
    (hnot : decide (r < p' ∧ (L.getD r (zeroET, [])).1.id = id) = false) (hlt : p < p') :
    Calls Tryz.prog 15 #[.pointer (some ⟨X, 0, none⟩), .slice ka kn kc, .int .i64 id] w fun e w' => ∃ (k b : Nat), k ≤ 2 * bitsN L.length ∧ e = .returned (.tuple #[.int .i64 0, .iface 98 (.pointer (some ⟨b, 0, none⟩))]) ∧ TwiceAt w' b (L.getD p (zeroET, [])).1.id ∧ Chg (InM mp) w w' ∧ MetO w' mp (c + k) t h s := by
  have hsp := spotOf_ok Y mp q mx nx X T true L hh n c t h s ka kn kc m id p p' r w i hL hc0 hc1 ht kk hs hr
  rw [hnot] at hsp
  unfold SpotOk spotV at hsp
  have HSP := hide hsp
  have HI := hide i
  have HS := hide hs
  have HR := hide hr
  have HK := hide kk
  clear hsp i hs hr kk hnot
  go_enter Tryz.func15, Tryz.ntmps15
  go_wp2_with fail
  refine HSP.out.mono ?_
  rintro _ w1 ⟨k1, hk1, rfl, hc1', hm1⟩
  have ix1 := HI.out.met hc1' hm1
  obtain ⟨W2, hW2⟩ : ∃ W2, W2 = w1.alloc (.cells #[.int .i64 (p : Int), .int .i64 (p' : Int), .int .i64 (r : Int), .bool false] 95) := ⟨_, rfl⟩
  have u2 : Up w1 W2 := by rw [hW2]; exact (Up.refl _).alloc _
  have s0 : W2.cell? ⟨w1.heap.size, 0, none⟩ = some (.int .i64 (p : Int)) := by rw [hW2]; go_simp
  have s1 : W2.cell? ⟨w1.heap.size, 1, none⟩ = some (.int .i64 (p' : Int)) := by rw [hW2]; go_simp
  have s2 : W2.cell? ⟨w1.heap.size, 2, none⟩ = some (.int .i64 (r : Int)) := by rw [hW2]; go_simp
  have s3 : W2.cell? ⟨w1.heap.size, 3, none⟩ = some (.bool false) := by rw [hW2]; go_simp
  have f3 : W2.frozen? ⟨w1.heap.size, 3, none⟩ = false := by rw [hW2]; go_simp
  have hW2' := hW2.symm
  obtain ⟨W3, hW3⟩ : ∃ W3, W3 = W2.setCell ⟨w1.heap.size, 3, none⟩ (.bool false) := ⟨_, rfl⟩
  have c3 : Chg (fun y => y = w1.heap.size) W2 W3 := by rw [hW3]; exact (Chg.refl _ W2).set (C := fun y => y = w1.heap.size) (p := ⟨w1.heap.size, 3, none⟩) (fun _ => rfl) _
  have u3 : Up w1 W3 := up_of_chg_new u2 c3 (Nat.le_refl _)
  have z0 : W3.cell? ⟨w1.heap.size, 0, none⟩ = some (.int .i64 (p : Int)) := by rw [hW3]; exact (World.cell?_setCell_other _ _ _ _ (by intro e; cases e)).trans s0
  have z1 : W3.cell? ⟨w1.heap.size, 1, none⟩ = some (.int .i64 (p' : Int)) := by rw [hW3]; exact (World.cell?_setCell_other _ _ _ _ (by intro e; cases e)).trans s1
  have z2 : W3.cell? ⟨w1.heap.size, 2, none⟩ = some (.int .i64 (r : Int)) := by rw [hW3]; exact (World.cell?_setCell_other _ _ _ _ (by intro e; cases e)).trans s2
  have z3 : W3.cell? ⟨w1.heap.size, 3, none⟩ = some (.bool false) := by rw [hW3]; exact World.cell?_setCell_same _ _ _ s3
  have hW3' := hW3.symm
  have ix3 := ix1.up u3
  have x0 := ix3.x0
  have x2 := ix3.x2
  have HC3 := hide (hc1'.andUp u3)
  have IX3 := hide ix3
  have HK1 := hide hk1
  have HKEY := hide ((HK.out.chg hc1').up u3)
  have IXT : Hid (T < w1.heap.size) := ix1.tr.tr.lt
  have hWl : w1.heap.size < W3.heap.size := by rw [hW3, hW2]; simp
  have HM1 := hide (hm1.up u3)
  have t2 : decide ((p : Int) < (p' : Int)) = true := decide_eq_true (by omega)
  have t3 : decide (p < p') = true := decide_eq_true hlt
  have HID : Hid (∀ w', Up W3 w' → Calls Tryz.prog 38 #[.pointer (some ⟨X, 0, none⟩), .int .i64 (p : Int)] w' fun e w'' => e = .returned (.int .i64 (L.getD p (zeroET, [])).1.id) ∧ Up w' w'') := fun w' hw' => by
    have := idAt_calls X T hh n (L.map (·.1)) p w' (hw'.cell x2) (ix3.tr.tr.up hw') (by have := HS.out.top; simp; omega) (by simpa using hL)
    rwa [map_getD] at this
  clear hc1' hm1 hk1 ix1 HSP u2 u3 c3 ix3 hW2 hW3
  dsimp only
  go_wp2_with fail
  refine (HID.out W3 (Up.refl _)).mono ?_
  rintro _ w4 ⟨rfl, hu4⟩
  obtain ⟨vid, hvid⟩ : ∃ vid, vid = (L.getD p (zeroET, [])).1.id := ⟨_, rfl⟩
  rw [← hvid]
  replace hvid := hide hvid
  obtain ⟨W5, hW5⟩ : ∃ W5, W5 = w4.alloc (.cells #[.string ⟨#[]⟩, .int .i64 vid] 101) := ⟨_, rfl⟩
  have u5 : Up w4 W5 := by rw [hW5]; exact (Up.refl _).alloc _
  have k5 : W5.cell? ⟨w4.heap.size, 1, none⟩ = some (.int .i64 vid) := by rw [hW5]; go_simp
  have HF := hide (show Chg (InM mp) w W5 ∧ MetO W5 mp (c + k1) t h s from ⟨HC3.out.andUp (hu4.trans u5), HM1.out.up (hu4.trans u5)⟩)
  have hW5' := hW5.symm
  have K5 := hide k5
  clear hu4 u5 hW5 HID k5
  dsimp only
  go_wp2
  go_ret2
  exact ⟨k1, w4.heap.size, HK1.out, rfl, by rw [← hvid.out]; exact K5.out, HF.out⟩
end Go.Proofs.YtnokokhbcfkifaaGreatDoor

/-
  ordidx's Insert where the comparator may strike, as its text runs.
-/
import Derived.Test.YtnokokhbcfkifaaGreatDoorOxSp2
namespace Go.Proofs.YtnokokhbcfkifaaGreatDoor
open Go.ChangeShapes Go.WideShapes Go.ChangeAt Go.RowKit
set_option linter.unusedVariables false
set_option maxRecDepth 100000
attribute [local go_sem ↓] Go.wp_at_zero Go.wp_at_succ

/-- Insert, where the comparator strikes: its error is told, nothing is changed. -/
def InsHit (mp : Option Addr) (t h : Int) (w : World) (e : Ending) (w' : World) : Prop := ∃ k : Nat, e = .returned (.tuple #[.int .i64 0, markV k]) ∧ Chg (InM mp) w w' ∧ MetO w' mp t t h 1
set_option maxHeartbeats 4000000 in
theorem insert2_ok (Y : Nat → Prop) (mb q mx nx X T : Nat) (u : Bool) (L : List EP) (hh n : Nat) (c t h : Int) (ka : Option Addr) (kn kc : Nat) (m : List VT) (id : Int) (p p' r : Nat) (w : World) (i : IxW Y (some ⟨mb, 0, none⟩) q mx nx X T u L hh n c t h 0 w) (hL : L.length ≤ 100000) (hn : n ≤ 9000000) (hc0 : 0 ≤ c) (hc1 : c ≤ 800) (kk : KeyC (InM (some ⟨mb, 0, none⟩)) w ka kn kc m) (hs : Spot q L m p p') (hr : RankAt L p p' id r)
    (hnot : decide (r < p' ∧ (L.getD r (zeroET, [])).1.id = id) = false) (hu : (u && decide (p < p')) = false) :
    Calls Tryz.prog 15 #[.pointer (some ⟨X, 0, none⟩), .slice ka kn kc, .int .i64 id] w fun e w' => InsOk Y (some ⟨mb, 0, none⟩) q mx nx X T u L hh n c t h 0 m id r w e w' ∨ InsHit (some ⟨mb, 0, none⟩) t h w e w' := by
  have hsp := spotOf2_ok Y mb q mx nx X T u L hh n c t h ka kn kc m id p p' r w i hL hc0 hc1 kk hs hr
  rw [hnot] at hsp
  unfold SpotOk SpotHit spotV at hsp
  have HSP := hide hsp
  have HI := hide i
  have HS := hide hs
  have HR := hide hr
  have HK := hide kk
  clear hsp i hs hr kk hnot
  go_enter Tryz.func15, Tryz.ntmps15
  go_wp2_with fail
  refine HSP.out.mono ?_
  rintro _ w1 (⟨k1, hk1, rfl, hc1', hm1⟩ | ⟨km, rfl, hc1', hm1⟩)
  rotate_left
  · obtain ⟨V0, hV0⟩ : ∃ V0, V0 = w1.alloc (.cells #[.int .i64 0, .int .i64 0, .int .i64 0, .bool false] 95) := ⟨_, rfl⟩
    have uV0 : Up w1 V0 := by rw [hV0]; exact (Up.refl _).alloc _
    have v0 : V0.cell? ⟨w1.heap.size, 0, none⟩ = some (.int .i64 0) := by rw [hV0]; go_simp
    have v1 : V0.cell? ⟨w1.heap.size, 1, none⟩ = some (.int .i64 0) := by rw [hV0]; go_simp
    have v2 : V0.cell? ⟨w1.heap.size, 2, none⟩ = some (.int .i64 0) := by rw [hV0]; go_simp
    have v3 : V0.cell? ⟨w1.heap.size, 3, none⟩ = some (.bool false) := by rw [hV0]; go_simp
    have f0 : V0.frozen? ⟨w1.heap.size, 0, none⟩ = false := by rw [hV0]; go_simp
    have f1 : V0.frozen? ⟨w1.heap.size, 1, none⟩ = false := by rw [hV0]; go_simp
    have f2 : V0.frozen? ⟨w1.heap.size, 2, none⟩ = false := by rw [hV0]; go_simp
    have f3 : V0.frozen? ⟨w1.heap.size, 3, none⟩ = false := by rw [hV0]; go_simp
    obtain ⟨V, hV⟩ : ∃ V, V = (((V0.setCell ⟨w1.heap.size, 0, none⟩ (.int .i64 0)).setCell ⟨w1.heap.size, 1, none⟩ (.int .i64 0)).setCell ⟨w1.heap.size, 2, none⟩ (.int .i64 0)).setCell ⟨w1.heap.size, 3, none⟩ (.bool false) := ⟨_, rfl⟩
    have uV : Up w1 V := by
      rw [hV]
      exact up_of_chg_new uV0 (((((Chg.refl (fun y => y = w1.heap.size) V0).set (C := fun y => y = w1.heap.size) (p := ⟨w1.heap.size, 0, none⟩) (fun _ => rfl) _).set (C := fun y => y = w1.heap.size) (p := ⟨w1.heap.size, 1, none⟩) (fun _ => rfl) _).set (C := fun y => y = w1.heap.size) (p := ⟨w1.heap.size, 2, none⟩) (fun _ => rfl) _).set (C := fun y => y = w1.heap.size) (p := ⟨w1.heap.size, 3, none⟩) (fun _ => rfl) _) (Nat.le_refl _)
    have HF := hide (show Chg (InM (some ⟨mb, 0, none⟩)) w V ∧ MetO V (some ⟨mb, 0, none⟩) t t h 1 from ⟨hc1'.andUp uV, hm1.up uV⟩)
    have hV' := hV.symm
    have hV0' := hV0.symm
    unfold markV
    clear hV hV0 uV uV0 hc1' hm1 HSP
    dsimp only
    go_wp2
    go_ret2
    exact .inr ⟨km, rfl, HF.out⟩
  have ix1 := HI.out.met hc1' hm1
  obtain ⟨W2, hW2⟩ : ∃ W2, W2 = w1.alloc (.cells #[.int .i64 (p : Int), .int .i64 (p' : Int), .int .i64 (r : Int), .bool false] 95) := ⟨_, rfl⟩
  have u2 : Up w1 W2 := by rw [hW2]; exact (Up.refl _).alloc _
  have s0 : W2.cell? ⟨w1.heap.size, 0, none⟩ = some (.int .i64 (p : Int)) := by rw [hW2]; go_simp
  have s1 : W2.cell? ⟨w1.heap.size, 1, none⟩ = some (.int .i64 (p' : Int)) := by rw [hW2]; go_simp
  have s2 : W2.cell? ⟨w1.heap.size, 2, none⟩ = some (.int .i64 (r : Int)) := by rw [hW2]; go_simp
  have s3 : W2.cell? ⟨w1.heap.size, 3, none⟩ = some (.bool false) := by rw [hW2]; go_simp
  have f3 : W2.frozen? ⟨w1.heap.size, 3, none⟩ = false := by rw [hW2]; go_simp
  have hW2' := hW2.symm
  obtain ⟨W3, hW3⟩ : ∃ W3, W3 = W2.setCell ⟨w1.heap.size, 3, none⟩ (.bool false) := ⟨_, rfl⟩
  have c3 : Chg (fun y => y = w1.heap.size) W2 W3 := by rw [hW3]; exact (Chg.refl _ W2).set (C := fun y => y = w1.heap.size) (p := ⟨w1.heap.size, 3, none⟩) (fun _ => rfl) _
  have u3 : Up w1 W3 := up_of_chg_new u2 c3 (Nat.le_refl _)
  have z0 : W3.cell? ⟨w1.heap.size, 0, none⟩ = some (.int .i64 (p : Int)) := by rw [hW3]; exact (World.cell?_setCell_other _ _ _ _ (by intro e; cases e)).trans s0
  have z1 : W3.cell? ⟨w1.heap.size, 1, none⟩ = some (.int .i64 (p' : Int)) := by rw [hW3]; exact (World.cell?_setCell_other _ _ _ _ (by intro e; cases e)).trans s1
  have z2 : W3.cell? ⟨w1.heap.size, 2, none⟩ = some (.int .i64 (r : Int)) := by rw [hW3]; exact (World.cell?_setCell_other _ _ _ _ (by intro e; cases e)).trans s2
  have z3 : W3.cell? ⟨w1.heap.size, 3, none⟩ = some (.bool false) := by rw [hW3]; exact World.cell?_setCell_same _ _ _ s3
  have hW3' := hW3.symm
  have ix3 := ix1.up u3
  have x0 := ix3.x0
  have x2 := ix3.x2
  have HC3 := hide (hc1'.andUp u3)
  have IX3 := hide ix3
  have HK1 := hide hk1
  have HKEY := hide ((HK.out.chg hc1').up u3)
  have IXT : Hid (T < w1.heap.size) := ix1.tr.tr.lt
  have hWl : w1.heap.size < W3.heap.size := by rw [hW3, hW2]; simp
  have t1 : u = true → ¬ p < p' := fun hut => by
    rw [hut, Bool.true_and] at hu
    exact of_decide_eq_false hu
  clear hc1' hm1 hk1 ix1 HSP hu u2 u3 c3 ix3 hW2 hW3
  dsimp only
  cases u with
  | true =>
    have t2 : decide ((p : Int) < (p' : Int)) = false := decide_eq_false (by have := t1 rfl; omega)
    have t3 : decide (p < p') = false := decide_eq_false (t1 rfl)
    clear t1
    go_wp2_with fail
    clear hW2' hW3'
    have HCOP : Hid (∀ w', Up W3 w' → Calls Tryz.prog 40 #[.agg #[.slice ka kn kc, .int .i64 id]] w' fun e w'' => ∃ a', e = .returned (.agg #[.slice a' kn kn, .int .i64 id]) ∧ (NewRow w'.heap.size w'' a' kn m ∧ (∀ g, RowB a' g → w'.heap.size ≤ g ∧ g < w''.heap.size)) ∧ Up w' w'') := fun w' hw' => (oxcopy_calls ka kn kc id m w' HKEY.out.k.few (HKEY.out.k.up hw').vals HKEY.out.k.sh).mono (fun _ _ ⟨a', h1, h2, h3, h4⟩ => ⟨a', h1, ⟨h2, h3⟩, h4⟩)
    have HINS : Hid (∀ (w5 w' : World) (a5 : Option Addr), Up W3 w5 → Up w5 w' → Calls Tryz.prog 39 #[.pointer (some ⟨T, 0, none⟩), .int .i64 (r : Int), .agg #[.slice a5 kn kn, .int .i64 id]] w' fun e w'' => e = .returned (.int .i64 0) ∧ TrDoneM Y T n hh (insL ⟨a5, kn, kn, id⟩ (L.map (·.1)) r) w5 w'') := fun w5 w' a5 h5 h' => by
      have i5 := IX3.out.up (h5.trans h')
      refine (insertAtM_ok Y T hh n r ⟨a5, kn, kn, id⟩ (L.map (·.1)) w' i5.aT i5.yl i5.tr (by have := HR.out.hi; have := HS.out.top; simp; omega) (by simpa using hL) (by omega)).mono ?_
      rintro _ w'' ⟨rfl, h1, k, h2, h3, h4, h6⟩
      exact ⟨rfl, h1, k, h2, h3, h4, (Chg.of_up h').trans h6 (fun _ _ h => h)⟩
    have hTl : T < w1.heap.size := IXT.out
    have HKS : Hid (∀ w', Chg (fun y => y = T) W3 w' → (Chg (fun y => y = T) W3 w' ∧ w'.cell? ⟨X, 2, none⟩ = some (.pointer (some ⟨T, 0, none⟩)) ∧ w'.cell? ⟨w1.heap.size, 2, none⟩ = some (.int .i64 (r : Int)))) := fun w' hw => ⟨hw, hw.cell x2 (fun e => IX3.out.aX (.inl e)), hw.cell z2 (fun e => by have e' : w1.heap.size = T := e; omega)⟩
    have tok1 : True := trivial
    have tok2 : True := trivial
    go_region_held3 (fun w' => Chg (fun y => y = T) W3 w' ∧ w'.cell? ⟨X, 2, none⟩ = some (.pointer (some ⟨T, 0, none⟩)) ∧ w'.cell? ⟨w1.heap.size, 2, none⟩ = some (.int .i64 (r : Int))) (exact HKS.out _ (by repeat' (with_reducible first | assumption | exact Chg.refl _ _ | apply Chg.alloc | apply Chg.drew)))
      (first
        | (clear tok1; go_at_call 40; refine (HCOP.out _ (by repeat' (with_reducible first | assumption | exact Up.refl _ | apply Up.alloc | apply Up.drew))).mono ?_; rintro _ w5 ⟨a5, rfl, hn5, hu5⟩; have hv5 : Up W3 w5 := Up.trans (by repeat' (with_reducible first | assumption | exact Up.refl _ | apply Up.alloc | apply Up.drew)) hu5; have hx5 : Chg (fun y => y = T) W3 w5 := Chg.of_up hv5; replace hn5 := hide (newKey_low hn5 (Up.size (w := W3) (by repeat' (with_reducible first | assumption | exact Up.refl _ | apply Up.alloc | apply Up.drew)))); clear hu5)
        | (clear tok2; go_at_call 39; refine (HINS.out w5 _ a5 hv5 (by repeat' (with_reducible first | assumption | exact Up.refl _ | apply Up.alloc | apply Up.drew))).mono ?_; rintro _ w6 ⟨rfl, hd6⟩; have hx6 : Chg (fun y => y = T) W3 w6 := hx5.trans hd6.chg (fun _ _ h => h); have y2 := hx6.cell z2 (fun e => by have e' : w1.heap.size = T := e; omega); replace hd6 := hide hd6))
    all_goals
      have HV5 := hide hv5
      have HX6 := hide hx6
      clear hv5 hx5 hx6
      go_wp2_with fail
      go_ret2
      obtain ⟨hh', k, ht6, hk61, hk62, hc6⟩ := hd6.out
      have hh8 := IX3.out.tr.tr.hle (by simpa using hL)
      refine .inl ⟨k1, hh', n + k, ⟨a5, kn, kn, id⟩, HK1.out, rfl, (IX3.out.up HV5.out).tree hc6 (by rw [insL_map]; exact ht6) (fun y hy => ?_), rfl, by omega, by omega, ?_⟩
      · rcases mem_insL hy with rfl | hy
        · exact hn5.out.1.keyC hn5.out.2 HKEY.out.k.few HKEY.out.k.sh (fun y hy => by
            rcases hy with rfl | hy
            · exact Nat.lt_trans hTl hWl
            · exact IX3.out.yl y hy)
        · exact (IX3.out.ke y hy).up HV5.out
      · exact (HC3.out.mono (D := XT T (InM (some ⟨mb, 0, none⟩))) (fun _ _ h => .inr h)).trans HX6.out (fun _ _ h => .inl h)
  | false =>
    clear t1
    go_wp2_with fail
    clear hW2' hW3'
    have HCOP : Hid (∀ w', Up W3 w' → Calls Tryz.prog 40 #[.agg #[.slice ka kn kc, .int .i64 id]] w' fun e w'' => ∃ a', e = .returned (.agg #[.slice a' kn kn, .int .i64 id]) ∧ (NewRow w'.heap.size w'' a' kn m ∧ (∀ g, RowB a' g → w'.heap.size ≤ g ∧ g < w''.heap.size)) ∧ Up w' w'') := fun w' hw' => (oxcopy_calls ka kn kc id m w' HKEY.out.k.few (HKEY.out.k.up hw').vals HKEY.out.k.sh).mono (fun _ _ ⟨a', h1, h2, h3, h4⟩ => ⟨a', h1, ⟨h2, h3⟩, h4⟩)
    have HINS : Hid (∀ (w5 w' : World) (a5 : Option Addr), Up W3 w5 → Up w5 w' → Calls Tryz.prog 39 #[.pointer (some ⟨T, 0, none⟩), .int .i64 (r : Int), .agg #[.slice a5 kn kn, .int .i64 id]] w' fun e w'' => e = .returned (.int .i64 0) ∧ TrDoneM Y T n hh (insL ⟨a5, kn, kn, id⟩ (L.map (·.1)) r) w5 w'') := fun w5 w' a5 h5 h' => by
      have i5 := IX3.out.up (h5.trans h')
      refine (insertAtM_ok Y T hh n r ⟨a5, kn, kn, id⟩ (L.map (·.1)) w' i5.aT i5.yl i5.tr (by have := HR.out.hi; have := HS.out.top; simp; omega) (by simpa using hL) (by omega)).mono ?_
      rintro _ w'' ⟨rfl, h1, k, h2, h3, h4, h6⟩
      exact ⟨rfl, h1, k, h2, h3, h4, (Chg.of_up h').trans h6 (fun _ _ h => h)⟩
    have hTl : T < w1.heap.size := IXT.out
    have HKS : Hid (∀ w', Chg (fun y => y = T) W3 w' → (Chg (fun y => y = T) W3 w' ∧ w'.cell? ⟨X, 2, none⟩ = some (.pointer (some ⟨T, 0, none⟩)) ∧ w'.cell? ⟨w1.heap.size, 2, none⟩ = some (.int .i64 (r : Int)))) := fun w' hw => ⟨hw, hw.cell x2 (fun e => IX3.out.aX (.inl e)), hw.cell z2 (fun e => by have e' : w1.heap.size = T := e; omega)⟩
    have tok1 : True := trivial
    have tok2 : True := trivial
    go_region_held3 (fun w' => Chg (fun y => y = T) W3 w' ∧ w'.cell? ⟨X, 2, none⟩ = some (.pointer (some ⟨T, 0, none⟩)) ∧ w'.cell? ⟨w1.heap.size, 2, none⟩ = some (.int .i64 (r : Int))) (exact HKS.out _ (by repeat' (with_reducible first | assumption | exact Chg.refl _ _ | apply Chg.alloc | apply Chg.drew)))
      (first
        | (clear tok1; go_at_call 40; refine (HCOP.out _ (by repeat' (with_reducible first | assumption | exact Up.refl _ | apply Up.alloc | apply Up.drew))).mono ?_; rintro _ w5 ⟨a5, rfl, hn5, hu5⟩; have hv5 : Up W3 w5 := Up.trans (by repeat' (with_reducible first | assumption | exact Up.refl _ | apply Up.alloc | apply Up.drew)) hu5; have hx5 : Chg (fun y => y = T) W3 w5 := Chg.of_up hv5; replace hn5 := hide (newKey_low hn5 (Up.size (w := W3) (by repeat' (with_reducible first | assumption | exact Up.refl _ | apply Up.alloc | apply Up.drew)))); clear hu5)
        | (clear tok2; go_at_call 39; refine (HINS.out w5 _ a5 hv5 (by repeat' (with_reducible first | assumption | exact Up.refl _ | apply Up.alloc | apply Up.drew))).mono ?_; rintro _ w6 ⟨rfl, hd6⟩; have hx6 : Chg (fun y => y = T) W3 w6 := hx5.trans hd6.chg (fun _ _ h => h); have y2 := hx6.cell z2 (fun e => by have e' : w1.heap.size = T := e; omega); replace hd6 := hide hd6))
    all_goals
      have HV5 := hide hv5
      have HX6 := hide hx6
      clear hv5 hx5 hx6
      go_wp2_with fail
      go_ret2
      obtain ⟨hh', k, ht6, hk61, hk62, hc6⟩ := hd6.out
      have hh8 := IX3.out.tr.tr.hle (by simpa using hL)
      refine .inl ⟨k1, hh', n + k, ⟨a5, kn, kn, id⟩, HK1.out, rfl, (IX3.out.up HV5.out).tree hc6 (by rw [insL_map]; exact ht6) (fun y hy => ?_), rfl, by omega, by omega, ?_⟩
      · rcases mem_insL hy with rfl | hy
        · exact hn5.out.1.keyC hn5.out.2 HKEY.out.k.few HKEY.out.k.sh (fun y hy => by
            rcases hy with rfl | hy
            · exact Nat.lt_trans hTl hWl
            · exact IX3.out.yl y hy)
        · exact (IX3.out.ke y hy).up HV5.out
      · exact (HC3.out.mono (D := XT T (InM (some ⟨mb, 0, none⟩))) (fun _ _ h => .inr h)).trans HX6.out (fun _ _ h => .inl h)
end Go.Proofs.YtnokokhbcfkifaaGreatDoor

/-
  joined, halves, nodes of a counted tree of whole numbers, as their text runs.
-/
import Derived.Test.YtcaccbjolgjmkaaTrWrI
namespace Go.Proofs.Ytcaccbjolgjmkaa
open Go.ChangeShapes Go.WideShapes Go.ChangeAt Go.RowKit
set_option linter.unusedVariables false
set_option maxRecDepth 100000
attribute [local go_sem ↓] Go.wp_at_zero Go.wp_at_succ

set_option maxHeartbeats 2000000 in
theorem joinedI_walk (X : Nat → Prop) (ve vb ue ub : Value) (xs ys : List Int) (ks js : List Nat) (w : World) (h1 : Rd (Value.int .i64) X w ve xs) (h2 : Rd (Value.int .i64) X w ue ys) (h3 : Rd pE X w vb ks) (h4 : Rd pE X w ub js) (hx : xs.length + ys.length ≤ 1000000) (hk : ks.length + js.length ≤ 1000000) :
    Calls Try.prog 60 #[.agg #[ve, vb], .agg #[ue, ub]] w fun e w' => ∃ v u, e = .returned (.agg #[v, u]) ∧ Own 3 (Value.int .i64) w' w.heap.size v (xs ++ ys) ∧ Own 61 pE w' w.heap.size u (ks ++ js) ∧ Up w w' := by
  obtain ⟨a1, n1, c1, rfl, -, -⟩ := h1.sliceN
  obtain ⟨a2, n2, c2, rfl, -, -⟩ := h2.sliceN
  obtain ⟨a3, n3, c3, rfl, -, -⟩ := h3.sliceN
  obtain ⟨a4, n4, c4, rfl, -, -⟩ := h4.sliceN
  have H1 := hide h1
  have H2 := hide h2
  have H3 := hide h3
  have H4 := hide h4
  clear h1 h2 h3 h4
  obtain ⟨W, hW⟩ : ∃ W, W = ((w.alloc (.cells #[.slice a1 n1 c1, .slice a3 n3 c3] 64)).alloc (.cells #[.slice a2 n2 c2, .slice a4 n4 c4] 64)).alloc (.cells #[.slice none 0 0, .slice none 0 0] 64) := ⟨_, rfl⟩
  have uW : Hid (Up w W) := by rw [hW]; exact (((Up.refl _).alloc _).alloc _).alloc _
  have l0 : W.cell? ⟨w.heap.size, 0, none⟩ = some (.slice a1 n1 c1) := by rw [hW]; go_simp
  have l1 : W.cell? ⟨w.heap.size, 1, none⟩ = some (.slice a3 n3 c3) := by rw [hW]; go_simp
  have r0 : W.cell? ⟨w.heap.size + 1, 0, none⟩ = some (.slice a2 n2 c2) := by rw [hW]; go_simp
  have r1 : W.cell? ⟨w.heap.size + 1, 1, none⟩ = some (.slice a4 n4 c4) := by rw [hW]; go_simp
  have s0 : W.cell? ⟨w.heap.size + 1 + 1, 0, none⟩ = some (.slice none 0 0) := by rw [hW]; go_simp
  have s1 : W.cell? ⟨w.heap.size + 1 + 1, 1, none⟩ = some (.slice none 0 0) := by rw [hW]; go_simp
  have f0 : W.frozen? ⟨w.heap.size + 1 + 1, 0, none⟩ = false := by rw [hW]; go_simp
  have f1 : W.frozen? ⟨w.heap.size + 1 + 1, 1, none⟩ = false := by rw [hW]; go_simp
  have hWs : w.heap.size + 1 + 1 < W.heap.size := by rw [hW]; simp
  have hWs1 : w.heap.size < W.heap.size := by omega
  have hWs2 : w.heap.size + 1 < W.heap.size := by omega
  have hW' := hW.symm
  clear hW
  go_enter Try.func60, Try.ntmps60
  go_wp2_with fail
  clear hW'
  have HK : Hid (∀ w', RB [w.heap.size + 1 + 1] W w' → RB [w.heap.size + 1 + 1] W w' ∧ w'.cell? ⟨w.heap.size, 0, none⟩ = some (.slice a1 n1 c1) ∧ w'.cell? ⟨w.heap.size, 1, none⟩ = some (.slice a3 n3 c3) ∧ w'.cell? ⟨w.heap.size + 1, 0, none⟩ = some (.slice a2 n2 c2) ∧ w'.cell? ⟨w.heap.size + 1, 1, none⟩ = some (.slice a4 n4 c4)) :=
    fun w' h => ⟨h, h.cell l0 (by simp; omega), h.cell l1 (by simp; omega), h.cell r0 (by simp), h.cell r1 (by simp)⟩
  have hk0 : RB [w.heap.size + 1 + 1] W W := ⟨Chg.refl _ _, fun r hr => by obtain rfl := List.mem_singleton.1 hr; exact ⟨by rw [s0]; rfl, by rw [s1]; rfl, f0, f1⟩⟩
  have HB : Hid (∀ w', RB [w.heap.size + 1 + 1] W w' → Up w w') := fun w' h => h.below uW.out (fun r hr => by obtain rfl := List.mem_singleton.1 hr; omega)
  clear l0 l1 r0 r1 s0 s1 f0 f1
  go_region_held3 (fun w' => RB [w.heap.size + 1 + 1] W w' ∧ w'.cell? ⟨w.heap.size, 0, none⟩ = some (.slice a1 n1 c1) ∧ w'.cell? ⟨w.heap.size, 1, none⟩ = some (.slice a3 n3 c3) ∧ w'.cell? ⟨w.heap.size + 1, 0, none⟩ = some (.slice a2 n2 c2) ∧ w'.cell? ⟨w.heap.size + 1, 1, none⟩ = some (.slice a4 n4 c4)) (exact HK.out _ (by repeat' (with_reducible first | assumption | apply RB.alloc | apply RB.drew | exact RB.set (RB.set (by with_reducible assumption) (by simp) _) (by simp) _)))
    (first
      | (go_at_call 72; refine (concatI_two _ (.slice a1 n1 c1) (.slice a2 n2 c2) xs ys X _ (by go_simp) (by go_simp) (H1.out.up (HB.out _ (by repeat' (with_reducible first | assumption | apply RB.alloc | apply RB.drew | exact RB.set (RB.set (by with_reducible assumption) (by simp) _) (by simp) _)))) (H2.out.up (HB.out _ (by repeat' (with_reducible first | assumption | apply RB.alloc | apply RB.drew | exact RB.set (RB.set (by with_reducible assumption) (by simp) _) (by simp) _)))) hx).mono ?_; rintro _ w5 ⟨v5, rfl, ho5, hu5⟩; have hk5 : RB [w.heap.size + 1 + 1] W w5 := RB.up (by repeat' (with_reducible first | assumption | apply RB.alloc | apply RB.drew | exact RB.set (RB.set (by with_reducible assumption) (by simp) _) (by simp) _)) hu5; obtain ⟨a5, n5, c5, rfl, -, -⟩ := ho5.sliceN; replace ho5 := hide (Own.base ho5 (RB.chg (by repeat' (with_reducible first | assumption | apply RB.alloc | apply RB.drew | exact RB.set (RB.set (by with_reducible assumption) (by simp) _) (by simp) _))).size))
      | (go_at_call 61; refine (concatPI_two _ (.slice a3 n3 c3) (.slice a4 n4 c4) ks js X _ (by first | (go_simp; done) | exact hu5.cell (by go_simp)) (by first | (go_simp; done) | exact hu5.cell (by go_simp)) (H3.out.up (HB.out _ (by repeat' (with_reducible first | assumption | apply RB.alloc | apply RB.drew | exact RB.set (RB.set (by with_reducible assumption) (by simp) _) (by simp) _)))) (H4.out.up (HB.out _ (by repeat' (with_reducible first | assumption | apply RB.alloc | apply RB.drew | exact RB.set (RB.set (by with_reducible assumption) (by simp) _) (by simp) _)))) hk).mono ?_; rintro _ w6 ⟨v6, rfl, ho6, hu6⟩; have hk6 : RB [w.heap.size + 1 + 1] W w6 := RB.up (by repeat' (with_reducible first | assumption | apply RB.alloc | apply RB.drew | exact RB.set (RB.set (by with_reducible assumption) (by simp) _) (by simp) _)) hu6; have hj6 : Up w5 w6 := Up.trans (by repeat' (with_reducible first | assumption | exact Up.refl _ | apply Up.alloc | apply Up.drew)) hu6; obtain ⟨a6, n6, c6, rfl, -, -⟩ := ho6.sliceN; replace ho6 := hide (Own.base ho6 (RB.chg (by repeat' (with_reducible first | assumption | apply RB.alloc | apply RB.drew | exact RB.set (RB.set (by with_reducible assumption) (by simp) _) (by simp) _))).size); clear hu6; have hb6 := hk6.box (w.heap.size + 1 + 1) (by simp); obtain ⟨x0, g0⟩ := Option.isSome_iff_exists.1 hb6.1; obtain ⟨x1, g1⟩ := Option.isSome_iff_exists.1 hb6.2.1; have g2 := hb6.2.2.1; have g3 := hb6.2.2.2; clear hb6))
  all_goals
    have k0 : ((w6.setCell ⟨w.heap.size + 1 + 1, 0, none⟩ (.slice a5 n5 c5)).setCell ⟨w.heap.size + 1 + 1, 1, none⟩ (.slice a6 n6 c6)).cell? ⟨w.heap.size + 1 + 1, 0, none⟩ = some (.slice a5 n5 c5) := by
      rw [World.cell?_setCell_other _ _ _ _ (by intro e; cases e)]; exact World.cell?_setCell_same _ _ _ g0
    have k1 : ((w6.setCell ⟨w.heap.size + 1 + 1, 0, none⟩ (.slice a5 n5 c5)).setCell ⟨w.heap.size + 1 + 1, 1, none⟩ (.slice a6 n6 c6)).cell? ⟨w.heap.size + 1 + 1, 1, none⟩ = some (.slice a6 n6 c6) :=
      World.cell?_setCell_same _ _ _ (u := x1) (by rw [World.cell?_setCell_other _ _ _ _ (by intro e; cases e)]; exact g1)
    have hF := hide (RB.set (RB.set hk6 (p := ⟨w.heap.size + 1 + 1, 0, none⟩) (by simp) (.slice a5 n5 c5)) (p := ⟨w.heap.size + 1 + 1, 1, none⟩) (by simp) (.slice a6 n6 c6))
    have hY := hide (((Chg.refl (fun y => y = w.heap.size + 1 + 1) w6).set (C := fun y => y = w.heap.size + 1 + 1) (p := ⟨w.heap.size + 1 + 1, 0, none⟩) (fun _ => rfl) (.slice a5 n5 c5)).set (C := fun y => y = w.heap.size + 1 + 1) (p := ⟨w.heap.size + 1 + 1, 1, none⟩) (fun _ => rfl) (.slice a6 n6 c6))
    have hJ := hide hj6
    clear hk5 hk6 g0 g1 g2 g3 hk0 hj6
    generalize (w6.setCell ⟨w.heap.size + 1 + 1, 0, none⟩ (.slice a5 n5 c5)).setCell ⟨w.heap.size + 1 + 1, 1, none⟩ (.slice a6 n6 c6) = Y at *
    go_wp2
    refine bodyPost_ret (v := .agg #[.slice a5 n5 c5, .slice a6 n6 c6]) (by simp [results, Try.results60, go_sem, k0, k1]) rfl ⟨_, _, rfl, ?_, ?_, HB.out _ hF.out⟩
    · exact ((ho5.out.up hJ.out).chg hY.out (fun g hg e => by have := (ho5.out.lt g hg).1; omega)).base uW.out.size
    · exact (ho6.out.chg hY.out (fun g hg e => by have := (ho6.out.lt g hg).1; omega)).base uW.out.size
end Go.Proofs.Ytcaccbjolgjmkaa

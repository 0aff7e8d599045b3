/-
  halves and nodes of a counted tree of whole numbers, as their text runs.
-/
import Derived.Test.YtcaccbjolgjmkaaTrJnI
namespace Go.Proofs.Ytcaccbjolgjmkaa
open Go.ChangeShapes Go.WideShapes Go.ChangeAt Go.RowKit
set_option linter.unusedVariables false
set_option maxRecDepth 100000
attribute [local go_sem ↓] Go.wp_at_zero Go.wp_at_succ

set_option maxHeartbeats 4000000 in
theorem halvesI_walk (X : Nat → Prop) (ve vb : Value) (xs : List Int) (ks : List Nat) (w : World) (h1 : Rd (Value.int .i64) X w ve xs) (h3 : Rd pE X w vb ks) (hx : xs.length ≤ 1000000) (hk : ks.length ≤ 1000000) :
    Calls Try.prog 63 #[.agg #[ve, vb]] w fun e w' => ∃ v1 u1 v2 u2, e = .returned (.tuple #[.agg #[v1, u1], .agg #[v2, u2]]) ∧ Own 3 (Value.int .i64) w' w.heap.size v1 (xs.take (xs.length / 2)) ∧ Own 61 pE w' w.heap.size u1 (ks.take (ks.length / 2)) ∧ Own 3 (Value.int .i64) w' w.heap.size v2 (xs.drop (xs.length / 2)) ∧ Own 61 pE w' w.heap.size u2 (ks.drop (ks.length / 2)) ∧ Up w w' := by
  obtain ⟨a1, n1, c1, rfl, e1, e1c⟩ := h1.sliceN
  obtain ⟨a3, n3, c3, rfl, e3, e3c⟩ := h3.sliceN
  have H1 := hide h1
  have H3 := hide h3
  clear h1 h3
  obtain ⟨W, hW⟩ : ∃ W, W = ((w.alloc (.cells #[.slice a1 n1 c1, .slice a3 n3 c3] 64)).alloc (.cells #[.slice none 0 0, .slice none 0 0] 64)).alloc (.cells #[.slice none 0 0, .slice none 0 0] 64) := ⟨_, rfl⟩
  have uW : Hid (Up w W) := by rw [hW]; exact (((Up.refl _).alloc _).alloc _).alloc _
  have l0 : W.cell? ⟨w.heap.size, 0, none⟩ = some (.slice a1 n1 c1) := by rw [hW]; go_simp
  have l1 : W.cell? ⟨w.heap.size, 1, none⟩ = some (.slice a3 n3 c3) := by rw [hW]; go_simp
  have hk0 : RB [w.heap.size + 1, w.heap.size + 1 + 1] W W := ⟨Chg.refl _ _, fun r hr => by
    rw [hW]
    rcases List.mem_cons.1 hr with rfl | hr
    · exact ⟨by go_simp, by go_simp, by go_simp, by go_simp⟩
    · obtain rfl := List.mem_singleton.1 hr
      exact ⟨by go_simp, by go_simp, by go_simp, by go_simp⟩⟩
  have hWs : w.heap.size + 1 + 1 < W.heap.size := by rw [hW]; simp
  have hWs1 : w.heap.size < W.heap.size := by omega
  have hWs2 : w.heap.size + 1 < W.heap.size := by omega
  have hW' := hW.symm
  clear hW
  obtain ⟨m1, hm1⟩ : ∃ m, m = n1 / 2 := ⟨_, rfl⟩
  obtain ⟨m3, hm3⟩ : ∃ m, m = n3 / 2 := ⟨_, rfl⟩
  have hm1' : n1 / 2 = m1 := hm1.symm
  have hm3' : n3 / 2 = m3 := hm3.symm
  have q1 : (n1 : Int) / 2 = (m1 : Int) := by omega
  have q3 : (n3 : Int) / 2 = (m3 : Int) := by omega
  have q1' : (n1 : Int).tdiv 2 = (m1 : Int) := by rw [Int.tdiv_eq_ediv_of_nonneg (by omega)]; exact q1
  have q3' : (n3 : Int).tdiv 2 = (m3 : Int) := by rw [Int.tdiv_eq_ediv_of_nonneg (by omega)]; exact q3
  have b1 : (0 : Int) ≤ (m1 : Int) := by omega
  have b2 : (m1 : Int) ≤ (n1 : Int) := by omega
  have b3 : (m1 : Int) ≤ (c1 : Int) := by have := e1c.out; omega
  have b4 : (0 : Int) ≤ (m3 : Int) := by omega
  have b5 : (m3 : Int) ≤ (n3 : Int) := by omega
  have b6 : (m3 : Int) ≤ (c3 : Int) := by have := e3c.out; omega
  replace hm1 := hide hm1
  replace hm3 := hide hm3
  have HK : Hid (∀ w', RB [w.heap.size + 1, w.heap.size + 1 + 1] W w' → RB [w.heap.size + 1, w.heap.size + 1 + 1] W w' ∧ w'.cell? ⟨w.heap.size, 0, none⟩ = some (.slice a1 n1 c1) ∧ w'.cell? ⟨w.heap.size, 1, none⟩ = some (.slice a3 n3 c3)) :=
    fun w' h => ⟨h, h.cell l0 (by simp; omega), h.cell l1 (by simp; omega)⟩
  have HB : Hid (∀ w', RB [w.heap.size + 1, w.heap.size + 1 + 1] W w' → Up w w') := fun w' h => h.below uW.out (fun r hr => by
    rcases List.mem_cons.1 hr with rfl | hr
    · omega
    · obtain rfl := List.mem_singleton.1 hr; omega)
  go_enter Try.func63, Try.ntmps63
  go_wp2_with fail
  clear hW'
  go_quiet (fail)
  go_wp2_with fail
  have ew1 : wrap64 (m1 : Int) = (m1 : Int) := wrap64_id _ (by have := e1.out; omega)
  have ew3 : wrap64 (m3 : Int) = (m3 : Int) := wrap64_id _ (by have := e3.out; omega)
  rw [ew1, ew3]
  have hk1 : RB [w.heap.size + 1, w.heap.size + 1 + 1] W (W.drewN nq) := hk0.up ((Up.refl W).drewN nq)
  clear l0 l1 hk0 ew1 ew3 q1 q1' q3 q3' hm1' hm3'
  generalize W.drewN nq = W2 at *
  obtain ⟨A1, hA1⟩ : ∃ A, (if c1 = m1 then a1 else Option.map (fun x => x.add m1) a1) = A := ⟨_, rfl⟩
  obtain ⟨A3, hA3⟩ : ∃ A, (if c3 = m3 then a3 else Option.map (fun x => x.add m3) a3) = A := ⟨_, rfl⟩
  have HD1 : Hid (Rd (Value.int .i64) X w (.slice A1 (n1 - m1) (c1 - m1)) (xs.drop m1)) := by
    have := H1.out.drop (m := m1) (by omega)
    rw [Nat.mul_one, hA1] at this
    exact this
  have HD3 : Hid (Rd pE X w (.slice A3 (n3 - m3) (c3 - m3)) (ks.drop m3)) := by
    have := H3.out.drop (m := m3) (by omega)
    rw [Nat.mul_one, hA3] at this
    exact this
  have tok1 : True := trivial
  have tok2 : True := trivial
  have tok3 : True := trivial
  have tok4 : True := trivial
  go_region_held3 (fun w' => RB [w.heap.size + 1, w.heap.size + 1 + 1] W w' ∧ w'.cell? ⟨w.heap.size, 0, none⟩ = some (.slice a1 n1 c1) ∧ w'.cell? ⟨w.heap.size, 1, none⟩ = some (.slice a3 n3 c3)) (exact HK.out _ (by repeat' (with_reducible first | assumption | apply RB.alloc | apply RB.drew | exact RB.set (RB.set (by with_reducible assumption) (by simp) _) (by simp) _ | exact RB.set (RB.set (RB.set (RB.set (by with_reducible assumption) (by simp) _) (by simp) _) (by simp) _) (by simp) _)))
    (first
      | (clear tok1; go_at_call 58; refine (cloneI_calls _ (xs.take m1) X _ (Rd.take (H1.out.up (HB.out _ (by repeat' (with_reducible first | assumption | apply RB.alloc | apply RB.drew | exact RB.set (RB.set (by with_reducible assumption) (by simp) _) (by simp) _ | exact RB.set (RB.set (RB.set (RB.set (by with_reducible assumption) (by simp) _) (by simp) _) (by simp) _) (by simp) _)))) (by omega)) (by simp; omega)).mono ?_; rintro _ w5 ⟨v5, rfl, ho5, hu5⟩; have hk5 : RB [w.heap.size + 1, w.heap.size + 1 + 1] W w5 := RB.up (by repeat' (with_reducible first | assumption | apply RB.alloc | apply RB.drew | exact RB.set (RB.set (by with_reducible assumption) (by simp) _) (by simp) _ | exact RB.set (RB.set (RB.set (RB.set (by with_reducible assumption) (by simp) _) (by simp) _) (by simp) _) (by simp) _)) hu5; obtain ⟨a5, n5, d5, rfl, -, -⟩ := ho5.sliceN; replace ho5 := hide (Own.base ho5 (RB.chg (by repeat' (with_reducible first | assumption | apply RB.alloc | apply RB.drew | exact RB.set (RB.set (by with_reducible assumption) (by simp) _) (by simp) _ | exact RB.set (RB.set (RB.set (RB.set (by with_reducible assumption) (by simp) _) (by simp) _) (by simp) _) (by simp) _))).size); clear hu5)
      | (clear tok2; go_at_call 74; refine (clonePI_calls _ (ks.take m3) X _ (Rd.take (H3.out.up (HB.out _ (by repeat' (with_reducible first | assumption | apply RB.alloc | apply RB.drew | exact RB.set (RB.set (by with_reducible assumption) (by simp) _) (by simp) _ | exact RB.set (RB.set (RB.set (RB.set (by with_reducible assumption) (by simp) _) (by simp) _) (by simp) _) (by simp) _)))) (by omega)) (by simp; omega)).mono ?_; rintro _ w6 ⟨v6, rfl, ho6, hu6⟩; have hk6 : RB [w.heap.size + 1, w.heap.size + 1 + 1] W w6 := RB.up (by repeat' (with_reducible first | assumption | apply RB.alloc | apply RB.drew | exact RB.set (RB.set (by with_reducible assumption) (by simp) _) (by simp) _ | exact RB.set (RB.set (RB.set (RB.set (by with_reducible assumption) (by simp) _) (by simp) _) (by simp) _) (by simp) _)) hu6; obtain ⟨a6, n6, d6, rfl, -, -⟩ := ho6.sliceN; replace ho6 := hide (Own.base ho6 (RB.chg (by repeat' (with_reducible first | assumption | apply RB.alloc | apply RB.drew | exact RB.set (RB.set (by with_reducible assumption) (by simp) _) (by simp) _ | exact RB.set (RB.set (RB.set (RB.set (by with_reducible assumption) (by simp) _) (by simp) _) (by simp) _) (by simp) _))).size); have hj6 : Up w5 w6 := Up.trans (by repeat' (with_reducible first | assumption | exact Up.refl _ | apply Up.alloc | apply Up.drew)) hu6; clear hu6)
      | (clear tok3; go_at_call 58; refine (cloneI_calls _ (xs.drop m1) X _ (HD1.out.up (HB.out _ (by repeat' (with_reducible first | assumption | apply RB.alloc | apply RB.drew | exact RB.set (RB.set (by with_reducible assumption) (by simp) _) (by simp) _ | exact RB.set (RB.set (RB.set (RB.set (by with_reducible assumption) (by simp) _) (by simp) _) (by simp) _) (by simp) _)))) (by simp; omega)).mono ?_; rintro _ w7 ⟨v7, rfl, ho7, hu7⟩; have hk7 : RB [w.heap.size + 1, w.heap.size + 1 + 1] W w7 := RB.up (by repeat' (with_reducible first | assumption | apply RB.alloc | apply RB.drew | exact RB.set (RB.set (by with_reducible assumption) (by simp) _) (by simp) _ | exact RB.set (RB.set (RB.set (RB.set (by with_reducible assumption) (by simp) _) (by simp) _) (by simp) _) (by simp) _)) hu7; obtain ⟨a7, n7, d7, rfl, -, -⟩ := ho7.sliceN; replace ho7 := hide (Own.base ho7 (RB.chg (by repeat' (with_reducible first | assumption | apply RB.alloc | apply RB.drew | exact RB.set (RB.set (by with_reducible assumption) (by simp) _) (by simp) _ | exact RB.set (RB.set (RB.set (RB.set (by with_reducible assumption) (by simp) _) (by simp) _) (by simp) _) (by simp) _))).size); have hj7 : Up w6 w7 := Up.trans (by repeat' (with_reducible first | assumption | exact Up.refl _ | apply Up.alloc | apply Up.drew)) hu7; clear hu7)
      | (clear tok4; go_at_call 74; refine (clonePI_calls _ (ks.drop m3) X _ (HD3.out.up (HB.out _ (by repeat' (with_reducible first | assumption | apply RB.alloc | apply RB.drew | exact RB.set (RB.set (by with_reducible assumption) (by simp) _) (by simp) _ | exact RB.set (RB.set (RB.set (RB.set (by with_reducible assumption) (by simp) _) (by simp) _) (by simp) _) (by simp) _)))) (by simp; omega)).mono ?_; rintro _ w8 ⟨v8, rfl, ho8, hu8⟩; have hk8 : RB [w.heap.size + 1, w.heap.size + 1 + 1] W w8 := RB.up (by repeat' (with_reducible first | assumption | apply RB.alloc | apply RB.drew | exact RB.set (RB.set (by with_reducible assumption) (by simp) _) (by simp) _ | exact RB.set (RB.set (RB.set (RB.set (by with_reducible assumption) (by simp) _) (by simp) _) (by simp) _) (by simp) _)) hu8; obtain ⟨a8, n8, d8, rfl, -, -⟩ := ho8.sliceN; replace ho8 := hide (Own.base ho8 (RB.chg (by repeat' (with_reducible first | assumption | apply RB.alloc | apply RB.drew | exact RB.set (RB.set (by with_reducible assumption) (by simp) _) (by simp) _ | exact RB.set (RB.set (RB.set (RB.set (by with_reducible assumption) (by simp) _) (by simp) _) (by simp) _) (by simp) _))).size); have hj8 : Up w7 w8 := Up.trans (by repeat' (with_reducible first | assumption | exact Up.refl _ | apply Up.alloc | apply Up.drew)) hu8; clear hu8; have hb8 := hk8.box (w.heap.size + 1) (by simp); obtain ⟨x0, g0⟩ := Option.isSome_iff_exists.1 hb8.1; obtain ⟨x1, g1⟩ := Option.isSome_iff_exists.1 hb8.2.1; have g2 := hb8.2.2.1; have g3 := hb8.2.2.2; clear hb8; have hb9 := hk8.box (w.heap.size + 1 + 1) (by simp); obtain ⟨x2, g4⟩ := Option.isSome_iff_exists.1 hb9.1; obtain ⟨x3, g5⟩ := Option.isSome_iff_exists.1 hb9.2.1; have g6 := hb9.2.2.1; have g7 := hb9.2.2.2; clear hb9))
  all_goals
    change Exit.then _ _ _ _ (set2 (set2 w8 (w.heap.size + 1) (.slice a5 n5 d5) (.slice a6 n6 d6)) (w.heap.size + 1 + 1) (.slice a7 n7 d7) (.slice a8 n8 d8))
    have s1 := set2_chg w8 (w.heap.size + 1) (.slice a5 n5 d5) (.slice a6 n6 d6)
    have s2 := set2_chg (set2 w8 (w.heap.size + 1) (.slice a5 n5 d5) (.slice a6 n6 d6)) (w.heap.size + 1 + 1) (.slice a7 n7 d7) (.slice a8 n8 d8)
    have k0 := s2.cell (set2_c0 (x := .slice a5 n5 d5) (y := .slice a6 n6 d6) g0) (by simp)
    have k1 := s2.cell (set2_c1 (x := .slice a5 n5 d5) (y := .slice a6 n6 d6) g1) (by simp)
    have k2 := set2_c0 (x := .slice a7 n7 d7) (y := .slice a8 n8 d8) (s1.cell g4 (by simp))
    have k3 := set2_c1 (x := .slice a7 n7 d7) (y := .slice a8 n8 d8) (s1.cell g5 (by simp))
    have hF := hide ((hk8.set2 (R := w.heap.size + 1) (by simp) (.slice a5 n5 d5) (.slice a6 n6 d6)).set2 (R := w.heap.size + 1 + 1) (by simp) (.slice a7 n7 d7) (.slice a8 n8 d8))
    have hY := hide ((s1.mono (D := fun y => y = w.heap.size + 1 ∨ y = w.heap.size + 1 + 1) (fun _ _ h => .inl h)).trans s2 (fun _ _ h => .inr h))
    have hJ6 := hide hj6
    have hJ7 := hide hj7
    have hJ8 := hide hj8
    clear hk5 hk6 hk7 hk8 g0 g1 g2 g3 g4 g5 g6 g7 hj6 hj7 hj8 s1 s2
    generalize set2 (set2 w8 (w.heap.size + 1) (.slice a5 n5 d5) (.slice a6 n6 d6)) (w.heap.size + 1 + 1) (.slice a7 n7 d7) (.slice a8 n8 d8) = Y at *
    go_wp2
    refine bodyPost_ret (v := .tuple #[.agg #[.slice a5 n5 d5, .slice a6 n6 d6], .agg #[.slice a7 n7 d7, .slice a8 n8 d8]]) (by simp [results, Try.results63, go_sem, k0, k1, k2, k3]) rfl ⟨_, _, _, _, rfl, ?_, ?_, ?_, ?_, HB.out _ hF.out⟩
    · rw [← e1.out, ← hm1.out]
      exact ((ho5.out.up (hJ6.out.trans (hJ7.out.trans hJ8.out))).chg hY.out (fun g hg e => by have := (ho5.out.lt g hg).1; omega)).base uW.out.size
    · rw [← e3.out, ← hm3.out]
      exact ((ho6.out.up (hJ7.out.trans hJ8.out)).chg hY.out (fun g hg e => by have := (ho6.out.lt g hg).1; omega)).base uW.out.size
    · rw [← e1.out, ← hm1.out]
      exact ((ho7.out.up hJ8.out).chg hY.out (fun g hg e => by have := (ho7.out.lt g hg).1; omega)).base uW.out.size
    · rw [← e3.out, ← hm3.out]
      exact (ho8.out.chg hY.out (fun g hg e => by have := (ho8.out.lt g hg).1; omega)).base uW.out.size
end Go.Proofs.Ytcaccbjolgjmkaa

/-
  Put of rialtoref18, as its text runs.
-/
import Derived.Test.YtbnkddnjfkagkaaPyPut
namespace Go.Proofs.Ytbnkddnjfkagkaa
open Go.ChangeShapes Go.WideShapes Go.ChangeAt Go.RowKit
set_option linter.unusedVariables false
set_option maxRecDepth 100000
attribute [local go_sem ↓] Go.wp_at_zero Go.wp_at_succ

theorem put_none (v : Value) (zs : List Int) (id t : Int) (X : Nat → Prop) (w : World) (h : Rd (Value.int .i64) X w v zs) (hx : zs.length ≤ 100000) (hid : id ∉ zs) :
    Calls Try.prog 33 #[v, .int .i64 id, .int .i64 t] w fun e w' => e = .returned (.tuple #[v, .int .i64 71]) ∧ w' = w := by
  have HF := hide (findR_calls v zs id X w h hx)
  rw [fdI_no hid] at HF
  obtain ⟨a, n, c, rfl, -, -⟩ := h.sliceN
  clear h hx hid
  go_enter Try.func33, Try.ntmps33
  go_wp2_with (go_at_call 44; refine HF.out.mono ?_; rintro _ w1 ⟨rfl, hw1⟩; subst hw1)
  go_ret2
  exact ⟨rfl, rfl⟩
theorem put_not (v : Value) (zs : List Int) (id t : Int) (X : Nat → Prop) (w : World) (h : Rd (Value.int .i64) X w v zs) (hx : zs.length ≤ 100000) (hid : id ∈ zs) (ht : ¬ (0 ≤ t ∧ t < (zs.length : Int))) :
    Calls Try.prog 33 #[v, .int .i64 id, .int .i64 t] w fun e w' => e = .returned (.tuple #[v, .int .i64 73]) ∧ w' = w := by
  have HF := hide (findR_calls v zs id X w h hx)
  obtain ⟨p, hp⟩ : ∃ p : Nat, fdI zs id = p := ⟨zs.idxOf id, by unfold fdI; rw [if_pos hid]⟩
  rw [hp] at HF
  obtain ⟨a, n, c, rfl, hn, -⟩ := h.sliceN
  rw [← hn.out] at ht
  have d0 : decide ((p : Int) < 0) = false := decide_eq_false (by omega)
  have d0' : ¬ ((p : Int) < 0) := by omega
  clear h hx hid hp hn
  by_cases h0 : t < 0
  · have d1 : decide (t < 0) = true := decide_eq_true h0
    clear ht
    go_enter Try.func33, Try.ntmps33
    go_wp2_with (go_at_call 44; refine HF.out.mono ?_; rintro _ w1 ⟨rfl, hw1⟩; subst hw1)
    go_ret2
    exact ⟨rfl, rfl⟩
  · have d1 : decide (t < 0) = false := decide_eq_false h0
    have d2 : decide (t ≥ (n : Int)) = true := decide_eq_true (by omega)
    have d2' : decide ((n : Int) ≤ t) = true := decide_eq_true (by omega)
    have d3 : (n : Int) ≤ t := by omega
    clear ht
    go_enter Try.func33, Try.ntmps33
    go_wp2_with (go_at_call 44; refine HF.out.mono ?_; rintro _ w1 ⟨rfl, hw1⟩; subst hw1)
    go_ret2
    exact ⟨rfl, rfl⟩
set_option maxHeartbeats 4000000 in
theorem put_ok (v : Value) (zs : List Int) (id : Int) (k t : Nat) (X : Nat → Prop) (w : World) (h : Rd (Value.int .i64) X w v zs) (hx : zs.length ≤ 100000) (hnd : zs.Nodup) (hid : zs[k]? = some id) (ht : t < zs.length) :
    Calls Try.prog 33 #[v, .int .i64 id, .int .i64 t] w fun e w' => ∃ v', e = .returned (.tuple #[v', .int .i64 0]) ∧ Own 2 (Value.int .i64) w' w.heap.size v' (insL id (delL zs k) t) ∧ Up w w' := by
  have HF := hide (findR_calls v zs id X w h hx)
  rw [fdI_yes hnd hid] at HF
  have HW := hide (without_calls v zs id X w h hx)
  rw [filter_del hnd hid] at HW
  have hkl := (List.getElem?_eq_some_iff.1 hid).1
  have hdl := delL_len zs k hkl
  obtain ⟨a, n, c, rfl, hn, -⟩ := h.sliceN
  have hn6 : n ≤ 100000 := by rw [hn.out]; exact hx
  have htn : t < n := by rw [hn.out]; exact ht
  obtain ⟨ys, hys⟩ : ∃ ys, ys = delL zs k := ⟨_, rfl⟩
  rw [← hys] at HW ⊢
  have hyl : Hid (ys.length + 1 = n) := by unfold Hid; rw [hys, hn.out]; exact hdl
  have d0 : decide ((k : Int) < 0) = false := decide_eq_false (by omega)
  have d0' : ¬ ((k : Int) < 0) := by omega
  have d1 : decide ((t : Int) < 0) = false := decide_eq_false (by omega)
  have d2 : decide ((t : Int) ≥ (n : Int)) = false := decide_eq_false (by omega)
  have d2' : decide ((n : Int) ≤ (t : Int)) = false := decide_eq_false (by omega)
  have d3 : ¬ (n : Int) ≤ (t : Int) := by omega
  have t0 : (0 : Int) ≤ (t : Int) := by omega
  clear h hx hid hnd ht hn hys hkl hdl
  go_enter Try.func33, Try.ntmps33
  go_wp2_with (go_at_call 44; refine HF.out.mono ?_; rintro _ w1 ⟨rfl, hw1⟩; subst hw1)
  refine HW.out.mono ?_
  rintro _ w1 ⟨v1, rfl, ho1, hu1⟩
  obtain ⟨a1, n1, c1, rfl, hn1, hc1⟩ := ho1.sliceN
  have HR1 : Hid (Rd (Value.int .i64) (fun _ => False) w1 (.slice a1 n1 c1) ys) := Own.rd ho1 (fun _ _ h => h)
  have HU1 := hide hu1
  have htn1 : t ≤ n1 := by have := hyl.out; rw [hn1.out]; omega
  have htc1 : t ≤ c1 := by have := hc1.out; omega
  have hnc1 : n1 ≤ c1 := hc1.out
  have HN1 : Hid (n1 ≤ 100000) := by have := hyl.out; rw [hn1.out]; show _ ≤ _; omega
  have HRT := hide (HR1.out.take htn1)
  have HRD := hide (HR1.out.drop1 htn1)
  have htl : (ys.take t).length = t := by rw [List.length_take, ← hn1.out]; omega
  have HTL : Hid ((ys.take t).length ≤ 100000 ∧ (ys.drop t).length ≤ 100000) := ⟨by have := HN1.out; omega, by rw [List.length_drop, ← hn1.out]; have := HN1.out; omega⟩
  have tn1 : (t : Int) ≤ (n1 : Int) := by omega
  have tc1 : (t : Int) ≤ (c1 : Int) := by omega
  have nc1 : (n1 : Int) ≤ (c1 : Int) := by omega
  clear ho1 hu1 hn1 hc1 htl
  dsimp only
  go_wp2_with (at_builtin; refine append_rd elemL rfl _ _ rfl w1.heap.size _ _ [] (ys.take t) rfl rfl (Own.nil _ _ _ _) HRT.out (by have := HTL.out.1; simp only [List.length_nil]; omega) (Nat.le_refl _) ?_)
  intro v2 w2 ho2 hg2 _
  try rw [List.nil_append] at ho2
  have hu2 := hide (own_below (e := 2) (enc := Value.int .i64) (l := []) (Up.refl w1) (Own.nil _ _ _ _) hg2)
  replace ho2 := hide ho2
  clear hg2
  obtain ⟨a2, n2, c2, rfl, -, -⟩ := ho2.out.sliceN
  --Q1
  go_wp2_with fail
  --Q2
  go_region_law
    (first
      | (refine step_append_one elemL (W := w1) rfl _ _ rfl _ (ys.take t) id _ rfl rfl (by go_simp) (Up.trans hu2.out (by repeat' (with_reducible first | assumption | exact Up.refl _ | apply Up.alloc | apply Up.drew))) (Own.up ho2.out (by repeat' (with_reducible first | assumption | exact Up.refl _ | apply Up.alloc | apply Up.drew))) (by have := HTL.out.1; omega) ?_; intro v5 w5 ho5 hu5)
      | (refine step_append_row elemL (W := w1) rfl _ _ rfl _ _ (ys.take t ++ [id]) (ys.drop t) rfl rfl (by first | assumption | exact Up.trans hu5 (by repeat' (with_reducible first | assumption | exact Up.refl _ | apply Up.alloc | apply Up.drew))) (Own.up ho5 (by repeat' (with_reducible first | assumption | exact Up.refl _ | apply Up.alloc | apply Up.drew))) (Rd.up HRD.out (by first | assumption | exact Up.trans hu5 (by repeat' (with_reducible first | assumption | exact Up.refl _ | apply Up.alloc | apply Up.drew)))) (by have := HTL.out; rw [List.length_append]; simp only [List.length_singleton]; omega) ?_; intro v6 w6 ho6 hu6))
  all_goals
    obtain ⟨a6, n6, c6, rfl, -, -⟩ := ho6.sliceN
    have HO6 := hide ho6
    have HU6 := hide hu6
    clear ho6 hu6 ho5 hu5
    go_wp2
    all_goals
      go_ret2
      refine ⟨_, rfl, ?_, HU1.out.trans HU6.out⟩
      have e : insL id ys t = ys.take t ++ [id] ++ ys.drop t := by unfold insL; simp
      rw [e]
      exact Own.base HO6.out HU1.out.size
end Go.Proofs.Ytbnkddnjfkagkaa

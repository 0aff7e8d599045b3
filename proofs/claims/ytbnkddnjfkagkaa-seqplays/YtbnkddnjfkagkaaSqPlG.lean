/-
  Moved of rialtoref18, as its text runs.
  spliced of rialtolaw13, as its text runs; what a row is when numbers of it are moved, from the first one on, each right ahead of one and the same.
  spliced of rialtolaw13, as its text runs.
-/
import Derived.Test.YtbnkddnjfkagkaaSqSpG
import Derived.Test.YtbnkddnjfkagkaaSqInG
import Derived.BigRegion
namespace Go.Proofs.Ytbnkddnjfkagkaa
open Go.ChangeShapes Go.WideShapes Go.ChangeAt Go.RowKit
set_option linter.unusedVariables false
set_option maxRecDepth 100000
attribute [local go_sem ↓] Go.wp_at_zero Go.wp_at_succ

theorem fdI_mem {l : List Int} {id : Int} (h : id ∈ l) : ∃ p : Nat, fdI l id = p := ⟨l.idxOf id, by unfold fdI; rw [if_pos h]⟩
theorem moved_none (v : Value) (zs : List Int) (id b : Int) (X : Nat → Prop) (w : World) (h : Rd (Value.int .i64) X w v zs) (hx : zs.length ≤ 100000) (hno : id ∉ zs ∨ (b ≠ 0 ∧ b ∉ zs)) :
    Calls Try.prog 16 #[v, .int .i64 id, .int .i64 b] w fun e w' => e = .returned (.tuple #[v, .int .i64 71]) ∧ w' = w := by
  have HF := hide (findR_calls v zs id X w h hx)
  have HG := hide (findR_calls v zs b X w h hx)
  obtain ⟨a, n, c, rfl, -, -⟩ := h.sliceN
  by_cases hid : id ∈ zs
  · obtain ⟨hb, hbz⟩ := hno.resolve_left (fun e => e hid)
    obtain ⟨p, hp⟩ := fdI_mem hid
    rw [hp] at HF
    rw [fdI_no hbz] at HG
    have d0 : decide ((p : Int) < 0) = false := decide_eq_false (by omega)
    have d0' : ¬ ((p : Int) < 0) := by omega
    have d1 : (b != 0) = true := by simpa using hb
    clear h hx hno hid hb hbz hp
    go_enter Try.func16, Try.ntmps16
    go_wp2_with fail
    refine HF.out.mono ?_
    rintro _ w1 ⟨rfl, hw1⟩
    subst hw1
    dsimp only
    go_wp2_with fail
    refine HG.out.mono ?_
    rintro _ w1 ⟨rfl, hw1⟩
    subst hw1
    dsimp only
    go_wp2
    go_ret2
    exact ⟨rfl, rfl⟩
  · rw [fdI_no hid] at HF
    clear h hx hno hid HG
    go_enter Try.func16, Try.ntmps16
    go_wp2_with fail
    refine HF.out.mono ?_
    rintro _ w1 ⟨rfl, hw1⟩
    subst hw1
    dsimp only
    go_wp2
    go_ret2
    exact ⟨rfl, rfl⟩
theorem moved_same (v : Value) (zs : List Int) (id : Int) (X : Nat → Prop) (w : World) (h : Rd (Value.int .i64) X w v zs) (hx : zs.length ≤ 100000) (hid : id ∈ zs) (h0 : id ≠ 0) :
    Calls Try.prog 16 #[v, .int .i64 id, .int .i64 id] w fun e w' => e = .returned (.tuple #[v, .int .i64 0]) ∧ w' = w := by
  have HF := hide (findR_calls v zs id X w h hx)
  obtain ⟨a, n, c, rfl, -, -⟩ := h.sliceN
  obtain ⟨p, hp⟩ := fdI_mem hid
  rw [hp] at HF
  have d0 : decide ((p : Int) < 0) = false := decide_eq_false (by omega)
  have d0' : ¬ ((p : Int) < 0) := by omega
  have d1 : (id != 0) = true := by simpa using h0
  have d2 : (id == id) = true := by simp
  clear h hx hid hp h0
  go_enter Try.func16, Try.ntmps16
  go_wp2_with fail
  refine HF.out.mono ?_
  rintro _ w1 ⟨rfl, hw1⟩
  subst hw1
  dsimp only
  go_wp2_with fail
  refine HF.out.mono ?_
  rintro _ w1 ⟨rfl, hw1⟩
  subst hw1
  dsimp only
  go_wp2
  go_ret2
  exact ⟨rfl, rfl⟩
theorem fdI_del {xs : List Int} {a t : Nat} {id b : Int} (hn : xs.Nodup) (ha : xs[a]? = some id) (ht : xs[t]? = some b) (hne : b ≠ id) : fdI (delL xs a) b = (shN a t : Nat) := by
  have hal := (List.getElem?_eq_some_iff.1 ha).1
  refine fdI_yes ((delL_sub xs a).nodup hn) ?_
  rw [delL_get xs hal]
  unfold shN
  by_cases h1 : a < t
  · rw [if_pos h1, if_neg (by omega), show t - 1 + 1 = t by omega]; exact ht
  · have : t ≠ a := fun e => hne (by rw [e, ha] at ht; injection ht with ht; exact ht.symm)
    rw [if_neg h1, if_pos (by omega)]; exact ht
set_option maxHeartbeats 4000000 in
theorem moved_ok (v : Value) (zs : List Int) (id b : Int) (k t : Nat) (X : Nat → Prop) (w : World) (h : Rd (Value.int .i64) X w v zs) (hx : zs.length ≤ 100000) (hnd : zs.Nodup) (hid : zs[k]? = some id) (ht : TgtAt zs b t) (hne : b ≠ id) :
    Calls Try.prog 16 #[v, .int .i64 id, .int .i64 b] w fun e w' => ∃ v', e = .returned (.tuple #[v', .int .i64 0]) ∧ Own 2 (Value.int .i64) w' w.heap.size v' (insL id (delL zs k) (shN k t)) ∧ Up w w' := by
  have HF := hide (findR_calls v zs id X w h hx)
  rw [fdI_yes hnd hid] at HF
  have HG := hide (findR_calls v zs b X w h hx)
  have HW := hide (without_calls v zs id X w h hx)
  rw [filter_del hnd hid] at HW
  have hkl := (List.getElem?_eq_some_iff.1 hid).1
  have hdl := delL_len zs k hkl
  obtain ⟨s, hs⟩ : ∃ s, s = shN k t := ⟨_, rfl⟩
  have hsl : s < zs.length := by rw [hs]; exact shN_lt hkl ht.le
  obtain ⟨a, n, c, rfl, hn, -⟩ := h.sliceN
  have hn6 : n ≤ 100000 := by rw [hn.out]; exact hx
  obtain ⟨ys, hys⟩ : ∃ ys, ys = delL zs k := ⟨_, rfl⟩
  rw [← hys] at HW ⊢
  rw [← hs]
  have hyl : Hid (ys.length + 1 = n) := by unfold Hid; rw [hys, hn.out]; exact hdl
  have hsn : s < n := by rw [hn.out]; exact hsl
  have d0 : decide ((k : Int) < 0) = false := decide_eq_false (by omega)
  have d0' : ¬ ((k : Int) < 0) := by omega
  have dne : (id == b) = false := by simpa using fun e : id = b => hne e.symm
  have hfin : (b = 0 ∧ s = ys.length) ∨ (b ≠ 0 ∧ (∃ p : Nat, fdI zs b = p) ∧ fdI ys b = (s : Int)) := by
    rcases ht with ⟨h1, h2⟩ | ⟨h1, h2⟩
    · refine .inl ⟨h1, ?_⟩
      rw [hs, h2, hys]
      unfold shN
      rw [if_pos hkl]
      omega
    · exact .inr ⟨h1, ⟨t, fdI_yes hnd h2⟩, by rw [hys, hs]; exact fdI_del hnd hid h2 hne⟩
  have tail : ∀ (w1 : World) (a1 : Option Addr) (n1 c1 : Nat), Hid (Rd (Value.int .i64) (fun _ => False) w1 (.slice a1 n1 c1) ys) → True := fun _ _ _ _ _ => trivial
  clear tail h hx hnd hid ht hne hn hys hkl hdl hs hsl
  rcases hfin with ⟨rfl, hsy⟩ | ⟨hb, ⟨p, hp⟩, hfy⟩
  · have HSY := hide hsy
    have b0 : ((0 : Int) != 0) = false := rfl
    clear hsy HG
    go_enter Try.func16, Try.ntmps16
    go_wp2_with fail
    refine HF.out.mono ?_
    rintro _ w1 ⟨rfl, hw1⟩
    subst hw1
    dsimp only
    go_wp2_with fail
    refine HW.out.mono ?_
    rintro _ w1 ⟨v1, rfl, ho1, hu1⟩
    obtain ⟨a1, n1, c1, rfl, hn1, hc1⟩ := ho1.sliceN
    have hsn1 : s = n1 := by rw [HSY.out, hn1.out]
    have HR1 : Hid (Rd (Value.int .i64) (fun _ => False) w1 (.slice a1 n1 c1) ys) := Own.rd ho1 (fun _ _ h => h)
    have HU1 := hide hu1
    have htn1 : s ≤ n1 := by have := hyl.out; rw [hn1.out]; omega
    have htc1 : s ≤ c1 := by have := hc1.out; omega
    have hnc1 : n1 ≤ c1 := hc1.out
    have HN1 : Hid (n1 ≤ 100000) := by have := hyl.out; rw [hn1.out]; show _ ≤ _; omega
    have HRT := hide (HR1.out.take htn1)
    have HRD := hide (HR1.out.drop1 htn1)
    have htl : (ys.take s).length = s := by rw [List.length_take, ← hn1.out]; omega
    have HTL : Hid ((ys.take s).length ≤ 100000 ∧ (ys.drop s).length ≤ 100000) := ⟨by have := HN1.out; omega, by rw [List.length_drop, ← hn1.out]; have := HN1.out; omega⟩
    have t0 : (0 : Int) ≤ (s : Int) := by omega
    have tn1 : (s : Int) ≤ (n1 : Int) := by omega
    have tc1 : (s : Int) ≤ (c1 : Int) := by omega
    have nc1 : (n1 : Int) ≤ (c1 : Int) := by omega
    clear ho1 hu1 hn1 hc1 htl
    subst hsn1
    simp only [Nat.sub_self] at HRD
    dsimp only
    go_wp2_with (at_builtin; refine append_rd elemL rfl _ _ rfl w1.heap.size _ _ [] (ys.take s) rfl rfl (Own.nil _ _ _ _) HRT.out (by have := HTL.out.1; simp only [List.length_nil]; omega) (Nat.le_refl _) ?_)
    intro v2 w2 ho2 hg2 _
    try rw [List.nil_append] at ho2
    have hu2 := hide (own_below (e := 2) (enc := Value.int .i64) (l := []) (Up.refl w1) (Own.nil _ _ _ _) hg2)
    replace ho2 := hide ho2
    clear hg2
    obtain ⟨a2, n2, c2, rfl, -, -⟩ := ho2.out.sliceN
    go_wp2_with fail
    go_region_law
      (first
        | (refine step_append_one elemL (W := w1) rfl _ _ rfl _ (ys.take s) id _ rfl rfl (by go_simp) (Up.trans hu2.out (by repeat' (with_reducible first | assumption | exact Up.refl _ | apply Up.alloc | apply Up.drew))) (Own.up ho2.out (by repeat' (with_reducible first | assumption | exact Up.refl _ | apply Up.alloc | apply Up.drew))) (by have := HTL.out.1; omega) ?_; intro v5 w5 ho5 hu5)
        | (refine step_append_row elemL (W := w1) rfl _ _ rfl _ _ (ys.take s ++ [id]) (ys.drop s) rfl rfl (by first | assumption | exact Up.trans hu5 (by repeat' (with_reducible first | assumption | exact Up.refl _ | apply Up.alloc | apply Up.drew))) (Own.up ho5 (by repeat' (with_reducible first | assumption | exact Up.refl _ | apply Up.alloc | apply Up.drew))) (Rd.up HRD.out (by first | assumption | exact Up.trans hu5 (by repeat' (with_reducible first | assumption | exact Up.refl _ | apply Up.alloc | apply Up.drew)))) (by have := HTL.out; rw [List.length_append]; simp only [List.length_singleton]; omega) ?_; intro v6 w6 ho6 hu6))
    all_goals
      obtain ⟨a6, n6, c6, rfl, -, -⟩ := ho6.sliceN
      have HO6 := hide ho6
      have HU6 := hide hu6
      clear ho6 hu6 ho5 hu5
      go_wp2
      all_goals
        go_ret2
        refine ⟨_, rfl, ?_, HU1.out.trans HU6.out⟩
        have e : insL id ys s = ys.take s ++ [id] ++ ys.drop s := by unfold insL; simp
        rw [e]
        exact Own.base HO6.out HU1.out.size
  · have d1 : (b != 0) = true := by simpa using hb
    have d2 : decide ((p : Int) < 0) = false := decide_eq_false (by omega)
    have d2' : ¬ ((p : Int) < 0) := by omega
    rw [hp] at HG
    have HFY : Hid (∀ (v1 : Value) (w1 : World), Rd (Value.int .i64) (fun _ => False) w1 v1 ys → Calls Try.prog 44 #[v1, .int .i64 b] w1 fun e w' => e = .returned (.int .i64 (s : Int)) ∧ w' = w1) := fun v1 w1 hr => by
      rw [← hfy]
      exact findR_calls v1 ys b _ w1 hr (by have := hyl.out; omega)
    clear hb hp hfy
    go_enter Try.func16, Try.ntmps16
    go_wp2_with fail
    refine HF.out.mono ?_
    rintro _ w1 ⟨rfl, hw1⟩
    subst hw1
    dsimp only
    go_wp2_with fail
    refine HG.out.mono ?_
    rintro _ w1 ⟨rfl, hw1⟩
    subst hw1
    dsimp only
    go_wp2_with fail
    refine HW.out.mono ?_
    rintro _ w1 ⟨v1, rfl, ho1, hu1⟩
    obtain ⟨a1, n1, c1, rfl, hn1, hc1⟩ := ho1.sliceN
    have hff := hide (HFY.out _ w1 (Own.rd ho1 (fun _ _ h => h)))
    clear HFY
    have HR1 : Hid (Rd (Value.int .i64) (fun _ => False) w1 (.slice a1 n1 c1) ys) := Own.rd ho1 (fun _ _ h => h)
    have HU1 := hide hu1
    have htn1 : s ≤ n1 := by have := hyl.out; rw [hn1.out]; omega
    have htc1 : s ≤ c1 := by have := hc1.out; omega
    have hnc1 : n1 ≤ c1 := hc1.out
    have HN1 : Hid (n1 ≤ 100000) := by have := hyl.out; rw [hn1.out]; show _ ≤ _; omega
    have HRT := hide (HR1.out.take htn1)
    have HRD := hide (HR1.out.drop1 htn1)
    have htl : (ys.take s).length = s := by rw [List.length_take, ← hn1.out]; omega
    have HTL : Hid ((ys.take s).length ≤ 100000 ∧ (ys.drop s).length ≤ 100000) := ⟨by have := HN1.out; omega, by rw [List.length_drop, ← hn1.out]; have := HN1.out; omega⟩
    have t0 : (0 : Int) ≤ (s : Int) := by omega
    have tn1 : (s : Int) ≤ (n1 : Int) := by omega
    have tc1 : (s : Int) ≤ (c1 : Int) := by omega
    have nc1 : (n1 : Int) ≤ (c1 : Int) := by omega
    clear ho1 hu1 hn1 hc1 htl
    dsimp only
    go_wp2_with fail
    refine hff.out.mono ?_
    rintro _ w3 ⟨rfl, hw3⟩
    subst hw3
    dsimp only
    go_wp2_with (at_builtin; refine append_rd elemL rfl _ _ rfl w3.heap.size _ _ [] (ys.take s) rfl rfl (Own.nil _ _ _ _) HRT.out (by have := HTL.out.1; simp only [List.length_nil]; omega) (Nat.le_refl _) ?_)
    intro v2 w2 ho2 hg2 _
    try rw [List.nil_append] at ho2
    have hu2 := hide (own_below (e := 2) (enc := Value.int .i64) (l := []) (Up.refl w3) (Own.nil _ _ _ _) hg2)
    replace ho2 := hide ho2
    clear hg2
    obtain ⟨a2, n2, c2, rfl, -, -⟩ := ho2.out.sliceN
    go_wp2_with fail
    go_region_law
      (first
        | (refine step_append_one elemL (W := w3) rfl _ _ rfl _ (ys.take s) id _ rfl rfl (by go_simp) (Up.trans hu2.out (by repeat' (with_reducible first | assumption | exact Up.refl _ | apply Up.alloc | apply Up.drew))) (Own.up ho2.out (by repeat' (with_reducible first | assumption | exact Up.refl _ | apply Up.alloc | apply Up.drew))) (by have := HTL.out.1; omega) ?_; intro v5 w5 ho5 hu5)
        | (refine step_append_row elemL (W := w3) rfl _ _ rfl _ _ (ys.take s ++ [id]) (ys.drop s) rfl rfl (by first | assumption | exact Up.trans hu5 (by repeat' (with_reducible first | assumption | exact Up.refl _ | apply Up.alloc | apply Up.drew))) (Own.up ho5 (by repeat' (with_reducible first | assumption | exact Up.refl _ | apply Up.alloc | apply Up.drew))) (Rd.up HRD.out (by first | assumption | exact Up.trans hu5 (by repeat' (with_reducible first | assumption | exact Up.refl _ | apply Up.alloc | apply Up.drew)))) (by have := HTL.out; rw [List.length_append]; simp only [List.length_singleton]; omega) ?_; intro v6 w6 ho6 hu6))
    all_goals
      obtain ⟨a6, n6, c6, rfl, -, -⟩ := ho6.sliceN
      have HO6 := hide ho6
      have HU6 := hide hu6
      clear ho6 hu6 ho5 hu5
      go_wp2
      all_goals
        go_ret2
        refine ⟨_, rfl, ?_, HU1.out.trans HU6.out⟩
        have e : insL id ys s = ys.take s ++ [id] ++ ys.drop s := by unfold insL; simp
        rw [e]
        exact Own.base HO6.out HU1.out.size
end Go.Proofs.Ytbnkddnjfkagkaa

namespace Go.Proofs.Ytbnkddnjfkagkaa
open Go.ChangeShapes Go.WideShapes Go.ChangeAt Go.RowKit
set_option linter.unusedVariables false
set_option maxRecDepth 100000
attribute [local go_sem ↓] Go.wp_at_zero Go.wp_at_succ

theorem shL_ins {xs : List Int} {a t : Nat} (ha : a < xs.length) : shL xs a t = insL (xs.getD a 0) (delL xs a) (shN a t) := by
  unfold shL
  by_cases h : shN a t = a
  · rw [if_pos h, h, ins_back ha]
  · rw [if_neg h]
theorem moved_calls (v : Value) (zs : List Int) (id b : Int) (a t : Nat) (X : Nat → Prop) (w : World) (h : Rd (Value.int .i64) X w v zs) (hX : ∀ y, X y → y < w.heap.size) (hx : zs.length ≤ 100000) (hnd : zs.Nodup) (hid : zs[a]? = some id) (ht : TgtAt zs b t) (h0 : id ≠ 0) :
    Calls Try.prog 16 #[v, .int .i64 id, .int .i64 b] w fun e w' => ∃ v', e = .returned (.tuple #[v', .int .i64 0]) ∧ Rd (Value.int .i64) X w' v' (shL zs a t) ∧ Up w w' := by
  obtain ⟨hal, hae⟩ := List.getElem?_eq_some_iff.1 hid
  by_cases hne : b = id
  · subst hne
    have hta : t = a := by
      rcases ht with ⟨h1, _⟩ | ⟨_, h2⟩
      · exact absurd h1 h0
      · obtain ⟨h3, h4⟩ := List.getElem?_eq_some_iff.1 h2
        exact nodup_at hnd (h4.trans hae.symm)
    have hsh : shL zs a t = zs := by rw [hta]; unfold shL shN; simp
    refine (moved_same v zs b X w h hx (List.mem_of_getElem? hid) h0).mono ?_
    rintro _ w' ⟨rfl, rfl⟩
    exact ⟨v, rfl, by rw [hsh]; exact h, Up.refl _⟩
  · refine (moved_ok v zs id b a t X w h hx hnd hid ht hne).mono ?_
    rintro _ w' ⟨v', rfl, ho, hu⟩
    refine ⟨v', rfl, ?_, hu⟩
    rw [shL_ins hal, getD_in zs hal, hae]
    exact Own.rd ho (fun g hg e => by have := (Own.lt ho g hg).1; have := hX g e; omega)
theorem offL_snoc {P A : List Int} {z : Int} (hn : A.Nodup) : (offL P A).erase z = offL (P ++ [z]) A := by
  rw [offL_cons hn]
  unfold offL
  exact List.filter_congr (fun x _ => by simp [or_comm])
/-- The row when P have been moved. -/
def frL (A S P : List Int) : List Int := (offL P A ++ P) ++ offL P S
theorem offL_sub (P A : List Int) : (offL P A).Sublist A := by unfold offL; exact List.filter_sublist
theorem frL_nil (A S : List Int) : frL A S [] = A ++ S := by
  have e : ∀ l : List Int, offL [] l = l := fun l => by unfold offL; simp
  unfold frL
  rw [e, e]; simp
theorem frL_nodup {A S P : List Int} (hn : (A ++ S).Nodup) (hP : P.Nodup) : (frL A S P).Nodup := by
  have hd := List.nodup_append.1 hn
  unfold frL
  rw [List.append_assoc, List.nodup_append, List.nodup_append]
  refine ⟨hd.1.filter _, ⟨hP, hd.2.1.filter _, fun a ha b hb e => ?_⟩, fun a ha b hb e => ?_⟩
  · subst e; exact (offL_mem.1 hb).2 ha
  · subst e
    rcases List.mem_append.1 hb with h | h
    · exact (offL_mem.1 ha).2 h
    · exact hd.2.2 a (offL_mem.1 ha).1 a (offL_mem.1 h).1 rfl
theorem frL_mem {A S P : List Int} (hP : ∀ z ∈ P, z ∈ A ++ S) {x : Int} : x ∈ frL A S P ↔ x ∈ A ++ S := by
  unfold frL
  rw [List.mem_append, List.mem_append, offL_mem, offL_mem, List.mem_append]
  constructor
  · rintro ((h | h) | h)
    · exact .inl h.1
    · exact List.mem_append.1 (hP x h)
    · exact .inr h.1
  · intro h
    by_cases hx : x ∈ P
    · exact .inl (.inr hx)
    · rcases h with h | h
      · exact .inl (.inl ⟨h, hx⟩)
      · exact .inr ⟨h, hx⟩
theorem frL_len {A S P : List Int} (hn : (A ++ S).Nodup) (hP : P.Nodup) (hin : ∀ z ∈ P, z ∈ A ++ S) : (frL A S P).length = (A ++ S).length :=
  List.Perm.length_eq ((List.perm_ext_iff_of_nodup (frL_nodup hn hP) hn).2 (fun x => frL_mem hin))
/-- Where b stands, or the end. -/
def EndB (A S : List Int) (b : Int) : Prop := (b = 0 ∧ S = []) ∨ (b ≠ 0 ∧ ∃ S0, S = b :: S0)
theorem endB_of {xs : List Int} {b : Int} {t : Nat} (ht : TgtAt xs b t) : EndB (xs.take t) (xs.drop t) b := by
  rcases ht with ⟨h1, h2⟩ | ⟨h1, h2⟩
  · exact .inl ⟨h1, by rw [h2]; exact List.drop_eq_nil_of_le (Nat.le_refl _)⟩
  · obtain ⟨h3, h4⟩ := List.getElem?_eq_some_iff.1 h2
    exact .inr ⟨h1, xs.drop (t + 1), by rw [← h4, List.getElem_cons_drop]⟩
theorem frL_step {A S P : List Int} {z b : Int} (hn : (A ++ S).Nodup) (hP : (P ++ [z]).Nodup) (hz : z ∈ A ++ S) (hb : b ∉ P ++ [z]) (hin : ∀ y ∈ P, y ∈ A ++ S) (he : EndB A S b) :
    ∃ a t, (frL A S P)[a]? = some z ∧ TgtAt (frL A S P) b t ∧ shL (frL A S P) a t = frL A S (P ++ [z]) := by
  have hd := List.nodup_append.1 hn
  have hP' := List.nodup_append.1 hP
  have hzP : z ∉ P := fun e => hP'.2.2 z e z (by simp) rfl
  have hbP : b ∉ P := fun e => hb (by simp [e])
  have hzm : z ∈ frL A S P := (frL_mem hin).2 hz
  have hlt := List.idxOf_lt_length_of_mem hzm
  have hza : (frL A S P)[(frL A S P).idxOf z]? = some z := by rw [List.getElem?_eq_getElem hlt, List.getElem_idxOf]
  refine ⟨(frL A S P).idxOf z, (offL P A ++ P).length, hza, ?_, ?_⟩
  · rcases he with ⟨h1, h2⟩ | ⟨h1, S0, h2⟩
    · refine .inl ⟨h1, ?_⟩
      unfold frL
      rw [h2]
      simp [offL]
    · refine .inr ⟨h1, ?_⟩
      unfold frL
      rw [List.getElem?_append_right (Nat.le_refl _), Nat.sub_self, h2]
      unfold offL
      rw [List.filter_cons_of_pos (by simpa using hbP)]
      rfl
  · have hfn := frL_nodup hn hP'.1
    obtain ⟨h1, _⟩ := shL_split (A := offL P A ++ P) (S := offL P S) (z := z) (a := (frL A S P).idxOf z) hfn hza
    show shL ((offL P A ++ P) ++ offL P S) _ _ = _
    rw [h1, List.erase_append, offL_snoc hd.2.1]
    unfold frL
    by_cases hzo : z ∈ offL P A
    · rw [if_pos hzo, offL_snoc hd.1]; simp
    · rw [if_neg hzo, List.erase_of_not_mem hzP, ← offL_snoc hd.1, List.erase_of_not_mem hzo]; simp
theorem frL_all {A S zs : List Int} : frL A S zs = offL zs A ++ (zs ++ offL zs S) := by unfold frL; rw [List.append_assoc]
end Go.Proofs.Ytbnkddnjfkagkaa

namespace Go.Proofs.Ytbnkddnjfkagkaa
open Go.ChangeShapes Go.WideShapes Go.ChangeAt Go.RowKit
set_option linter.unusedVariables false
set_option maxRecDepth 100000
attribute [local go_sem ↓] Go.wp_at_zero Go.wp_at_succ

/-- The first test of spliced: b is nowhere. -/
theorem spl_unknown (v u : Value) (xs zs : List Int) (b : Int) (X U : Nat → Prop) (w : World) (h : Rd (Value.int .i64) X w v xs) (hz : Rd (Value.int .i64) U w u zs) (hx : xs.length ≤ 100000) (hb : b ≠ 0 ∧ b ∉ xs) :
    Calls Try.prog 18 #[v, u, .int .i64 b] w fun e w' => e = .returned (.tuple #[v, .int .i64 71]) ∧ Up w w' := by
  have HF := hide (find13_calls v xs b X w h hx)
  rw [fdI_no hb.2] at HF
  have d1 : (b != 0) = true := by simpa using hb.1
  obtain ⟨a, n, c, rfl, -, -⟩ := h.sliceN
  obtain ⟨a2, n2, c2, rfl, -, -⟩ := hz.sliceN
  clear h hz hx hb
  go_enter Try.func18, Try.ntmps18
  go_wp2_with fail
  refine HF.out.mono ?_
  rintro _ w1 ⟨rfl, hw1⟩
  subst hw1
  dsimp only
  go_wp2
  go_ret2
  exact ⟨rfl, Up.refl _⟩
/-- A number that is asked for twice, or is b itself. -/
def BadAt (zs : List Int) (b : Int) (i : Nat) : Prop := ∃ z, zs[i]? = some z ∧ (z ∈ zs.take i ∨ z = b)
theorem bad_of {zs : List Int} {b : Int} (h : b ∈ zs ∨ ¬ zs.Nodup) : ∃ i, i < zs.length ∧ BadAt zs b i := by
  by_cases hb : b ∈ zs
  · obtain ⟨i, hi, he⟩ := List.getElem_of_mem hb
    exact ⟨i, hi, b, by rw [List.getElem?_eq_getElem hi, he], .inr rfl⟩
  · have hn := h.resolve_left hb
    clear h hb
    suffices hs : ∀ (P R : List Int), P.Nodup → ¬ (P ++ R).Nodup → ∃ i, P.length ≤ i ∧ i < (P ++ R).length ∧ BadAt (P ++ R) b i by
      obtain ⟨i, _, h1, h2⟩ := hs [] zs List.nodup_nil hn
      exact ⟨i, h1, h2⟩
    intro P R
    induction R generalizing P with
    | nil => intro hP hn; rw [List.append_nil] at hn; exact absurd hP hn
    | cons z R ih =>
      intro hP hn
      by_cases hz : z ∈ P
      · refine ⟨P.length, Nat.le_refl _, by simp, z, by simp, .inl ?_⟩
        rw [List.take_left]
        exact hz
      · have e : P ++ z :: R = (P ++ [z]) ++ R := by simp
        rw [e] at hn ⊢
        obtain ⟨i, h1, h2, h3⟩ := ih (P ++ [z]) (by rw [List.nodup_append]; exact ⟨hP, by simp, fun a ha c hc hac => by simp at hc; subst hc; subst hac; exact hz ha⟩) hn
        exact ⟨i, by rw [List.length_append] at h1; simp at h1; omega, h2, h3⟩
theorem not_bad {zs : List Int} {b : Int} (hb : b ∉ zs) (hn : zs.Nodup) (i : Nat) : ¬ BadAt zs b i := by
  rintro ⟨z, hz, h | h⟩
  · obtain ⟨hi, he⟩ := List.getElem?_eq_some_iff.1 hz
    obtain ⟨j, hj, hje⟩ := List.getElem_of_mem h
    rw [List.length_take] at hj
    rw [List.getElem_take] at hje
    have := nodup_at hn (hje.trans he.symm)
    omega
  · exact hb (h ▸ List.mem_of_getElem? hz)
/-- Where the second loop ends: what is asked of all that has been looked at. -/
def SpTo (xs zs : List Int) (b : Int) (c : Int) (v : Value) (X : Nat → Prop) (fin : List Int) (w : World) (e : Ending) (w' : World) : Prop :=
  ∃ v', e = .returned (.tuple #[v', .int .i64 c]) ∧ Rd (Value.int .i64) X w' v' fin ∧ Up w w'
/-- What comes to pass: lacks one, has one twice, or all goes well. -/
def SpRes (xs zs : List Int) (b : Int) (A S : List Int) (c : Int) (fin : List Int) : Prop :=
  ((∃ z ∈ zs, z ∉ xs) ∧ c = 71 ∧ fin = xs) ∨ ((∀ z ∈ zs, z ∈ xs) ∧ (b ∈ zs ∨ ¬ zs.Nodup) ∧ c = 72 ∧ fin = xs) ∨ ((∀ z ∈ zs, z ∈ xs) ∧ b ∉ zs ∧ zs.Nodup ∧ c = 0 ∧ fin = frL A S zs)
set_option maxHeartbeats 8000000 in
theorem spl_calls (v u : Value) (xs zs : List Int) (b : Int) (t : Nat) (c : Int) (fin : List Int) (X : Nat → Prop) (w : World) (h : Rd (Value.int .i64) X w v xs) (hX : ∀ y, X y → y < w.heap.size) (hz : Rd (Value.int .i64) (fun _ => False) w u zs) (hx : xs.length ≤ 1000) (hzl : zs.length ≤ 1000) (hnd : xs.Nodup) (ht : TgtAt xs b t) (hz0 : ∀ z ∈ zs, z ≠ 0)
    (hr : SpRes xs zs b (xs.take t) (xs.drop t) c fin) :
    Calls Try.prog 18 #[v, u, .int .i64 b] w fun e w' => SpTo xs zs b c v X fin w e w' := by
  obtain ⟨p, hp⟩ : ∃ p : Nat, (b = 0) ∨ (b ≠ 0 ∧ fdI xs b = p) := by
    rcases ht with ⟨h1, h2⟩ | ⟨h1, h2⟩
    · exact ⟨0, .inl h1⟩
    · exact ⟨t, .inr ⟨h1, fdI_yes hnd h2⟩⟩
  have HB := hide (find13_calls v xs b X w h (by omega))
  obtain ⟨a1, n1, c1, rfl, hn1, -⟩ := h.sliceN
  obtain ⟨a2, n2, c2, rfl, hn2, hn2c⟩ := hz.sliceN
  have HN1 : Hid (n1 = xs.length) := hn1.out
  have HN2 : Hid (n2 = zs.length) := hn2.out
  have hn2l : n2 ≤ 1000 := by rw [hn2.out]; exact hzl
  have HFD : Hid (∀ (w' : World) (z : Int), Up w w' → Calls Try.prog 11 #[.slice a1 n1 c1, .int .i64 z] w' fun e w'' => e = .returned (.int .i64 (fdI xs z)) ∧ w'' = w') := fun w' z hu => find13_calls _ xs z X w' (h.up hu) (by omega)
  have HR := hide h
  have HZ := hide hz
  have HX := hide hX
  have HND := hide hnd
  have HT := hide ht
  have HZ0 := hide hz0
  have HRES := hide hr
  have HXL : Hid (xs.length ≤ 1000) := hx
  clear h hz hX hnd ht hz0 hr hn1 hn2 hx hzl
  have hc2 : Hid (n2 ≤ c2) := hn2c
  clear hn2c
  go_enter Try.func18, Try.ntmps18
  rcases hp with hb0 | ⟨hb0, hpb⟩
  rotate_left
  · have d1 : (b != 0) = true := by simpa using hb0
    have d2 : decide ((p : Int) < 0) = false := decide_eq_false (by omega)
    have d2' : ¬ ((p : Int) < 0) := by omega
    rw [hpb] at HB
    clear hb0 hpb
    go_wp2_with fail
    refine HB.out.mono ?_
    rintro _ w1 ⟨rfl, hw1⟩
    obtain rfl : w = w1 := hw1.symm
    clear HB d2 d2' hw1
    dsimp only
    go_wp2_with fail
    clear d1
    go_loopw [8] (fun iv wr => ∃ i : Nat, i ≤ n2 ∧ iv = .int .i64 i ∧ Hid (Up w wr) ∧ Hid (∀ z ∈ zs.take i, z ∈ xs)) (fun iv _ => n2 - (intOf iv).toNat)
    case atStart => exact ⟨0, Nat.zero_le _, rfl, Up.refl _, fun z hz => by simp at hz⟩
    case round =>
      obtain ⟨i, hi, rfl, hu, hall⟩ := hrel
      by_cases hlt : i < n2
      · have k0 : (0 : Int) ≤ (i : Int) := by omega
        have k1 : (i : Int) < (n2 : Int) := by omega
        have ei : IntKind.i64.wrap ((i : Int) + 1) = (i : Int) + 1 := by rw [IntKind.wrap_i64]; omega
        have hil : i < zs.length := by rw [← HN2.out]; exact hlt
        obtain ⟨z, hz⟩ : ∃ z, zs[i]? = some z := ⟨_, List.getElem?_eq_getElem hil⟩
        have hze := (List.getElem?_eq_some_iff.1 hz).2
        obtain ⟨g2, o2, rfl, hci⟩ := (HZ.out.up hu.out).get (i := i) hil
        rw [hze] at hci
        have HF := hide (HFD.out wr z hu.out)
        by_cases hzx : z ∈ xs
        · obtain ⟨p2, hp2⟩ := fdI_mem hzx
          rw [hp2] at HF
          have d3 : decide ((p2 : Int) < 0) = false := decide_eq_false (by omega)
          have d3' : ¬ ((p2 : Int) < 0) := by omega
          have HAL : Hid (∀ y ∈ zs.take (i + 1), y ∈ xs) := fun y hy => by
            rw [List.take_add_one, hz] at hy
            rcases List.mem_append.1 hy with h | h
            · exact hall.out y h
            · simp at h; rw [h]; exact hzx
          clear hz hze hil hzx hp2 hall
          go_wp2_with fail
          refine HF.out.mono ?_
          rintro _ w1 ⟨rfl, hw1⟩
          obtain rfl : wr = w1 := hw1.symm
          clear hw1
          dsimp only
          go_wp2
          go_roundw
          case rel => exact ⟨i + 1, by omega, by simp, hu, HAL⟩
          case measure => simp [intOf]; omega
        · rw [fdI_no hzx] at HF
          have hcf : c = 71 ∧ fin = xs := by
            rcases HRES.out with h | h | h
            · exact h.2
            · exact absurd (h.1 z (List.mem_of_getElem? hz)) hzx
            · exact absurd (h.1 z (List.mem_of_getElem? hz)) hzx
          have HCF := hide hcf
          clear hz hze hil hzx hall hcf
          go_wp2_with fail
          refine HF.out.mono ?_
          rintro _ w1 ⟨rfl, hw1⟩
          obtain rfl : wr = w1 := hw1.symm
          clear hw1
          dsimp only
          go_wp2
          go_ret2
          exact ⟨_, by rw [HCF.out.1]; rfl, by rw [HCF.out.2]; exact HR.out.up hu.out, hu.out⟩
      · obtain rfl : i = n2 := by omega
        have k1 : ¬ (i : Int) < (i : Int) := by omega
        have hallz : ∀ z ∈ zs, z ∈ xs := fun z hz => hall.out z (by rw [HN2.out, List.take_length]; exact hz)
        have HALL := hide hallz
        have HU0 := hide hu.out
        clear hall hallz hu
        go_wp2_with fail
        --M2
        go_loopw [9] (fun jv wr => ∃ j : Nat, j ≤ i ∧ jv = .int .i64 j ∧ Hid (Up w wr) ∧ Hid (∀ m, m < j → ¬ BadAt zs b m)) (fun jv _ => i - (intOf jv).toNat)
        case atStart => exact ⟨0, Nat.zero_le _, rfl, HU0, fun m hm => absurd hm (Nat.not_lt_zero _)⟩
        case round =>
          obtain ⟨j, hj, rfl, hu, hnb⟩ := hrel
          by_cases hjt : j < i
          · have j0 : (0 : Int) ≤ (j : Int) := by omega
            have j1 : (j : Int) < (i : Int) := by omega
            have j2 : (j : Int) ≤ (i : Int) := by omega
            have hjc : j ≤ c2 := by have := hc2.out; omega
            have j3 : (j : Int) ≤ (c2 : Int) := by omega
            have j4 : (i : Int) ≤ (c2 : Int) := by have := hc2.out; omega
            have ej : IntKind.i64.wrap ((j : Int) + 1) = (j : Int) + 1 := by rw [IntKind.wrap_i64]; omega
            have hjl : j < zs.length := by rw [← HN2.out]; exact hjt
            obtain ⟨z, hz⟩ : ∃ z, zs[j]? = some z := ⟨_, List.getElem?_eq_getElem hjl⟩
            have hze := (List.getElem?_eq_some_iff.1 hz).2
            obtain ⟨g2, o2, he2, hci⟩ := (HZ.out.up hu.out).get (i := j) hjl
            rw [hze] at hci
            subst he2
            have HFT : Hid (∀ q, Calls Try.prog 11 #[.slice (some ⟨g2, o2, none⟩) j c2, .int .i64 z] (wr.drewN q) fun e w' => e = .returned (.int .i64 (fdI (zs.take j) z)) ∧ ∃ m, w' = (wr.drewN q).drewN m) := fun q => (find13_calls _ (zs.take j) z (fun _ => False) (wr.drewN q) ((HZ.out.up (hu.out.drewN q)).take (by omega)) (by rw [List.length_take]; omega)).mono (fun e w' ⟨h1, h2⟩ => ⟨h1, 0, by rw [h2]; rfl⟩)
            have badc : BadAt zs b j → c = 72 ∧ fin = xs := fun hbad => by
              rcases HRES.out with h | h | h
              · obtain ⟨y, hy, hyx⟩ := h.1
                exact absurd (HALL.out y hy) hyx
              · exact h.2.2
              · exact absurd hbad (not_bad h.2.1 h.2.2.1 j)
            by_cases hzt : z ∈ zs.take j
            · obtain ⟨p2, hp2⟩ := fdI_mem hzt
              rw [hp2] at HFT
              have d3 : decide ((p2 : Int) ≥ 0) = true := decide_eq_true (by omega)
              have d3' : decide (0 ≤ (p2 : Int)) = true := decide_eq_true (by omega)
              have HCF := hide (badc ⟨z, hz, .inl hzt⟩)
              clear hz hze hjl hzt hp2 hnb badc
              go_wp2_with fail
              go_quiet ((go_at_call 11; exact Calls.quiet_of (HFT.out _)))
              go_wp2
              go_ret2
              exact ⟨_, by rw [HCF.out.1]; rfl, by rw [HCF.out.2]; exact HR.out.up (hu.out.drewN _), hu.out.drewN _⟩
            · rw [fdI_no hzt] at HFT
              have d3 : decide ((-1 : Int) ≥ 0) = false := decide_eq_false (by omega)
              by_cases hzb : z = b
              · have d4 : (z == b) = true := by simp [hzb]
                have HCF := hide (badc ⟨z, hz, .inr hzb⟩)
                clear hz hze hjl hzt hzb hnb badc
                go_wp2_with fail
                go_quiet ((go_at_call 11; exact Calls.quiet_of (HFT.out _)))
                go_wp2
                go_ret2
                exact ⟨_, by rw [HCF.out.1]; rfl, by rw [HCF.out.2]; exact HR.out.up (hu.out.drewN _), hu.out.drewN _⟩
              · have d4 : (z == b) = false := by simpa using hzb
                have HNB : Hid (∀ m, m < j + 1 → ¬ BadAt zs b m) := fun m hm => by
                  by_cases hmj : m < j
                  · exact hnb.out m hmj
                  · obtain rfl : m = j := by omega
                    rintro ⟨y, hy, h⟩
                    rw [hz] at hy
                    cases hy
                    rcases h with h | h
                    · exact hzt h
                    · exact hzb h
                clear hz hze hjl hzt hzb hnb badc
                go_wp2_with fail
                go_quiet ((go_at_call 11; exact Calls.quiet_of (HFT.out _)))
                have HUQ := hide (hu.out.drewN nq)
                go_wp2
                go_roundw
                case rel => exact ⟨j + 1, by omega, by simp, HUQ, HNB⟩
                case measure => simp [intOf]; omega
          · obtain rfl : j = i := by omega
            have k1 : ¬ (j : Int) < (j : Int) := by omega
            have hok : b ∉ zs ∧ zs.Nodup ∧ c = 0 ∧ fin = frL (xs.take t) (xs.drop t) zs := by
              rcases HRES.out with h | h | h
              · obtain ⟨y, hy, hyx⟩ := h.1
                exact absurd (HALL.out y hy) hyx
              · obtain ⟨m, hm, hb⟩ := bad_of h.2.1
                exact absurd hb (hnb.out m (by rw [HN2.out]; exact hm))
              · exact h.2
            have HOK := hide hok
            have HU1 := hide hu.out
            clear hnb hok hu
            have HR0 : Hid (Rd (Value.int .i64) X wr (.slice a1 n1 c1) (frL (xs.take t) (xs.drop t) (zs.take 0))) := by
              unfold Hid
              rw [List.take_zero, frL_nil, List.take_append_drop]
              exact HR.out.up HU1.out
            go_wp2_with fail
            --M3
            go_loopw [0, 10] (fun mv kv wr => ∃ m : Nat, m ≤ j ∧ kv = .int .i64 m ∧ Hid (Rd (Value.int .i64) X wr mv (frL (xs.take t) (xs.drop t) (zs.take m))) ∧ Hid (Up w wr)) (fun _ kv _ => j - (intOf kv).toNat)
            case atStart => exact ⟨0, Nat.zero_le _, rfl, HR0, HU1⟩
            case round =>
              obtain ⟨m, hm, rfl, hrm, hu⟩ := hrel
              by_cases hmt : m < j
              · have m0 : (0 : Int) ≤ (m : Int) := by omega
                have m1 : (m : Int) < (j : Int) := by omega
                have em : IntKind.i64.wrap ((m : Int) + 1) = (m : Int) + 1 := by rw [IntKind.wrap_i64]; omega
                have hml : m < zs.length := by rw [← HN2.out]; exact hmt
                obtain ⟨z, hz⟩ : ∃ z, zs[m]? = some z := ⟨_, List.getElem?_eq_getElem hml⟩
                have hze := (List.getElem?_eq_some_iff.1 hz).2
                obtain ⟨g2, o2, he2, hci⟩ := (HZ.out.up hu.out).get (i := m) hml
                rw [hze] at hci
                subst he2
                have htk : zs.take (m + 1) = zs.take m ++ [z] := by rw [List.take_add_one, hz]; rfl
                have hnd2 : (xs.take t ++ xs.drop t).Nodup := by rw [List.take_append_drop]; exact HND.out
                have hin2 : ∀ y ∈ zs.take m, y ∈ xs.take t ++ xs.drop t := fun y hy => by rw [List.take_append_drop]; exact HALL.out y (List.mem_of_mem_take hy)
                have hnP : (zs.take m ++ [z]).Nodup := by rw [← htk]; exact (List.take_sublist _ _).nodup HOK.out.2.1
                obtain ⟨a, t', h1, h2, h3⟩ := frL_step hnd2 hnP (by rw [List.take_append_drop]; exact HALL.out z (List.mem_of_getElem? hz)) (fun e => HOK.out.1 (by rw [← htk] at e; exact List.mem_of_mem_take e)) hin2 (endB_of HT.out)
                have hfl := frL_len hnd2 ((List.take_sublist m zs).nodup HOK.out.2.1) hin2
                rw [List.take_append_drop] at hfl
                have HMV := hide (moved_calls _ _ z b a t' X wr hrm.out (fun y hy => Nat.lt_of_lt_of_le (HX.out y hy) hu.out.size) (by have := HXL.out; omega) (frL_nodup hnd2 ((List.take_sublist m zs).nodup HOK.out.2.1)) h1 h2 (HZ0.out z (List.mem_of_getElem? hz)))
                rw [h3, ← htk] at HMV
                obtain ⟨a3, n3, c3, rfl, -, -⟩ := hrm.out.sliceN
                clear hz hze hml htk hnd2 hin2 hnP h1 h2 h3 hfl hrm
                go_wp2_with fail
                refine HMV.out.mono ?_
                rintro _ w1 ⟨v1, rfl, hr1, hu1⟩
                have HR1 := hide hr1
                have HU2 := hide (hu.out.trans hu1)
                obtain ⟨a4, n4, c4, rfl, -, -⟩ := hr1.sliceN
                clear hr1 hu1
                dsimp only
                go_wp2
                go_roundw
                case rel => exact ⟨m + 1, by omega, by simp, HR1, HU2⟩
                case measure => simp [intOf]; omega
              · obtain rfl : m = j := by omega
                have k2 : ¬ (m : Int) < (m : Int) := by omega
                have HRF : Hid (Rd (Value.int .i64) X wr u0 fin) := by
                  have := hrm.out
                  rw [HN2.out, List.take_length, ← HOK.out.2.2.2] at this
                  exact this
                obtain ⟨a4, n4, c4, rfl, -, -⟩ := HRF.out.sliceN
                clear hrm
                go_wp2
                go_ret2
                exact ⟨_, by rw [HOK.out.2.2.1]; rfl, HRF.out, hu.out⟩
  · have d1 : (b != 0) = false := by simp [hb0]
    clear HB hb0
    go_wp2_with fail
    clear d1
    go_loopw [8] (fun iv wr => ∃ i : Nat, i ≤ n2 ∧ iv = .int .i64 i ∧ Hid (Up w wr) ∧ Hid (∀ z ∈ zs.take i, z ∈ xs)) (fun iv _ => n2 - (intOf iv).toNat)
    case atStart => exact ⟨0, Nat.zero_le _, rfl, Up.refl _, fun z hz => by simp at hz⟩
    case round =>
      obtain ⟨i, hi, rfl, hu, hall⟩ := hrel
      by_cases hlt : i < n2
      · have k0 : (0 : Int) ≤ (i : Int) := by omega
        have k1 : (i : Int) < (n2 : Int) := by omega
        have ei : IntKind.i64.wrap ((i : Int) + 1) = (i : Int) + 1 := by rw [IntKind.wrap_i64]; omega
        have hil : i < zs.length := by rw [← HN2.out]; exact hlt
        obtain ⟨z, hz⟩ : ∃ z, zs[i]? = some z := ⟨_, List.getElem?_eq_getElem hil⟩
        have hze := (List.getElem?_eq_some_iff.1 hz).2
        obtain ⟨g2, o2, rfl, hci⟩ := (HZ.out.up hu.out).get (i := i) hil
        rw [hze] at hci
        have HF := hide (HFD.out wr z hu.out)
        by_cases hzx : z ∈ xs
        · obtain ⟨p2, hp2⟩ := fdI_mem hzx
          rw [hp2] at HF
          have d3 : decide ((p2 : Int) < 0) = false := decide_eq_false (by omega)
          have d3' : ¬ ((p2 : Int) < 0) := by omega
          have HAL : Hid (∀ y ∈ zs.take (i + 1), y ∈ xs) := fun y hy => by
            rw [List.take_add_one, hz] at hy
            rcases List.mem_append.1 hy with h | h
            · exact hall.out y h
            · simp at h; rw [h]; exact hzx
          clear hz hze hil hzx hp2 hall
          go_wp2_with fail
          refine HF.out.mono ?_
          rintro _ w1 ⟨rfl, hw1⟩
          obtain rfl : wr = w1 := hw1.symm
          clear hw1
          dsimp only
          go_wp2
          go_roundw
          case rel => exact ⟨i + 1, by omega, by simp, hu, HAL⟩
          case measure => simp [intOf]; omega
        · rw [fdI_no hzx] at HF
          have hcf : c = 71 ∧ fin = xs := by
            rcases HRES.out with h | h | h
            · exact h.2
            · exact absurd (h.1 z (List.mem_of_getElem? hz)) hzx
            · exact absurd (h.1 z (List.mem_of_getElem? hz)) hzx
          have HCF := hide hcf
          clear hz hze hil hzx hall hcf
          go_wp2_with fail
          refine HF.out.mono ?_
          rintro _ w1 ⟨rfl, hw1⟩
          obtain rfl : wr = w1 := hw1.symm
          clear hw1
          dsimp only
          go_wp2
          go_ret2
          exact ⟨_, by rw [HCF.out.1]; rfl, by rw [HCF.out.2]; exact HR.out.up hu.out, hu.out⟩
      · obtain rfl : i = n2 := by omega
        have k1 : ¬ (i : Int) < (i : Int) := by omega
        have hallz : ∀ z ∈ zs, z ∈ xs := fun z hz => hall.out z (by rw [HN2.out, List.take_length]; exact hz)
        have HALL := hide hallz
        have HU0 := hide hu.out
        clear hall hallz hu
        go_wp2_with fail
        --M2
        go_loopw [9] (fun jv wr => ∃ j : Nat, j ≤ i ∧ jv = .int .i64 j ∧ Hid (Up w wr) ∧ Hid (∀ m, m < j → ¬ BadAt zs b m)) (fun jv _ => i - (intOf jv).toNat)
        case atStart => exact ⟨0, Nat.zero_le _, rfl, HU0, fun m hm => absurd hm (Nat.not_lt_zero _)⟩
        case round =>
          obtain ⟨j, hj, rfl, hu, hnb⟩ := hrel
          by_cases hjt : j < i
          · have j0 : (0 : Int) ≤ (j : Int) := by omega
            have j1 : (j : Int) < (i : Int) := by omega
            have j2 : (j : Int) ≤ (i : Int) := by omega
            have hjc : j ≤ c2 := by have := hc2.out; omega
            have j3 : (j : Int) ≤ (c2 : Int) := by omega
            have j4 : (i : Int) ≤ (c2 : Int) := by have := hc2.out; omega
            have ej : IntKind.i64.wrap ((j : Int) + 1) = (j : Int) + 1 := by rw [IntKind.wrap_i64]; omega
            have hjl : j < zs.length := by rw [← HN2.out]; exact hjt
            obtain ⟨z, hz⟩ : ∃ z, zs[j]? = some z := ⟨_, List.getElem?_eq_getElem hjl⟩
            have hze := (List.getElem?_eq_some_iff.1 hz).2
            obtain ⟨g2, o2, he2, hci⟩ := (HZ.out.up hu.out).get (i := j) hjl
            rw [hze] at hci
            subst he2
            have HFT : Hid (∀ q, Calls Try.prog 11 #[.slice (some ⟨g2, o2, none⟩) j c2, .int .i64 z] (wr.drewN q) fun e w' => e = .returned (.int .i64 (fdI (zs.take j) z)) ∧ ∃ m, w' = (wr.drewN q).drewN m) := fun q => (find13_calls _ (zs.take j) z (fun _ => False) (wr.drewN q) ((HZ.out.up (hu.out.drewN q)).take (by omega)) (by rw [List.length_take]; omega)).mono (fun e w' ⟨h1, h2⟩ => ⟨h1, 0, by rw [h2]; rfl⟩)
            have badc : BadAt zs b j → c = 72 ∧ fin = xs := fun hbad => by
              rcases HRES.out with h | h | h
              · obtain ⟨y, hy, hyx⟩ := h.1
                exact absurd (HALL.out y hy) hyx
              · exact h.2.2
              · exact absurd hbad (not_bad h.2.1 h.2.2.1 j)
            by_cases hzt : z ∈ zs.take j
            · obtain ⟨p2, hp2⟩ := fdI_mem hzt
              rw [hp2] at HFT
              have d3 : decide ((p2 : Int) ≥ 0) = true := decide_eq_true (by omega)
              have d3' : decide (0 ≤ (p2 : Int)) = true := decide_eq_true (by omega)
              have HCF := hide (badc ⟨z, hz, .inl hzt⟩)
              clear hz hze hjl hzt hp2 hnb badc
              go_wp2_with fail
              go_quiet ((go_at_call 11; exact Calls.quiet_of (HFT.out _)))
              go_wp2
              go_ret2
              exact ⟨_, by rw [HCF.out.1]; rfl, by rw [HCF.out.2]; exact HR.out.up (hu.out.drewN _), hu.out.drewN _⟩
            · rw [fdI_no hzt] at HFT
              have d3 : decide ((-1 : Int) ≥ 0) = false := decide_eq_false (by omega)
              by_cases hzb : z = b
              · have d4 : (z == b) = true := by simp [hzb]
                have HCF := hide (badc ⟨z, hz, .inr hzb⟩)
                clear hz hze hjl hzt hzb hnb badc
                go_wp2_with fail
                go_quiet ((go_at_call 11; exact Calls.quiet_of (HFT.out _)))
                go_wp2
                go_ret2
                exact ⟨_, by rw [HCF.out.1]; rfl, by rw [HCF.out.2]; exact HR.out.up (hu.out.drewN _), hu.out.drewN _⟩
              · have d4 : (z == b) = false := by simpa using hzb
                have HNB : Hid (∀ m, m < j + 1 → ¬ BadAt zs b m) := fun m hm => by
                  by_cases hmj : m < j
                  · exact hnb.out m hmj
                  · obtain rfl : m = j := by omega
                    rintro ⟨y, hy, h⟩
                    rw [hz] at hy
                    cases hy
                    rcases h with h | h
                    · exact hzt h
                    · exact hzb h
                clear hz hze hjl hzt hzb hnb badc
                go_wp2_with fail
                go_quiet ((go_at_call 11; exact Calls.quiet_of (HFT.out _)))
                have HUQ := hide (hu.out.drewN nq)
                go_wp2
                go_roundw
                case rel => exact ⟨j + 1, by omega, by simp, HUQ, HNB⟩
                case measure => simp [intOf]; omega
          · obtain rfl : j = i := by omega
            have k1 : ¬ (j : Int) < (j : Int) := by omega
            have hok : b ∉ zs ∧ zs.Nodup ∧ c = 0 ∧ fin = frL (xs.take t) (xs.drop t) zs := by
              rcases HRES.out with h | h | h
              · obtain ⟨y, hy, hyx⟩ := h.1
                exact absurd (HALL.out y hy) hyx
              · obtain ⟨m, hm, hb⟩ := bad_of h.2.1
                exact absurd hb (hnb.out m (by rw [HN2.out]; exact hm))
              · exact h.2
            have HOK := hide hok
            have HU1 := hide hu.out
            clear hnb hok hu
            have HR0 : Hid (Rd (Value.int .i64) X wr (.slice a1 n1 c1) (frL (xs.take t) (xs.drop t) (zs.take 0))) := by
              unfold Hid
              rw [List.take_zero, frL_nil, List.take_append_drop]
              exact HR.out.up HU1.out
            go_wp2_with fail
            --M3
            go_loopw [0, 10] (fun mv kv wr => ∃ m : Nat, m ≤ j ∧ kv = .int .i64 m ∧ Hid (Rd (Value.int .i64) X wr mv (frL (xs.take t) (xs.drop t) (zs.take m))) ∧ Hid (Up w wr)) (fun _ kv _ => j - (intOf kv).toNat)
            case atStart => exact ⟨0, Nat.zero_le _, rfl, HR0, HU1⟩
            case round =>
              obtain ⟨m, hm, rfl, hrm, hu⟩ := hrel
              by_cases hmt : m < j
              · have m0 : (0 : Int) ≤ (m : Int) := by omega
                have m1 : (m : Int) < (j : Int) := by omega
                have em : IntKind.i64.wrap ((m : Int) + 1) = (m : Int) + 1 := by rw [IntKind.wrap_i64]; omega
                have hml : m < zs.length := by rw [← HN2.out]; exact hmt
                obtain ⟨z, hz⟩ : ∃ z, zs[m]? = some z := ⟨_, List.getElem?_eq_getElem hml⟩
                have hze := (List.getElem?_eq_some_iff.1 hz).2
                obtain ⟨g2, o2, he2, hci⟩ := (HZ.out.up hu.out).get (i := m) hml
                rw [hze] at hci
                subst he2
                have htk : zs.take (m + 1) = zs.take m ++ [z] := by rw [List.take_add_one, hz]; rfl
                have hnd2 : (xs.take t ++ xs.drop t).Nodup := by rw [List.take_append_drop]; exact HND.out
                have hin2 : ∀ y ∈ zs.take m, y ∈ xs.take t ++ xs.drop t := fun y hy => by rw [List.take_append_drop]; exact HALL.out y (List.mem_of_mem_take hy)
                have hnP : (zs.take m ++ [z]).Nodup := by rw [← htk]; exact (List.take_sublist _ _).nodup HOK.out.2.1
                obtain ⟨a, t', h1, h2, h3⟩ := frL_step hnd2 hnP (by rw [List.take_append_drop]; exact HALL.out z (List.mem_of_getElem? hz)) (fun e => HOK.out.1 (by rw [← htk] at e; exact List.mem_of_mem_take e)) hin2 (endB_of HT.out)
                have hfl := frL_len hnd2 ((List.take_sublist m zs).nodup HOK.out.2.1) hin2
                rw [List.take_append_drop] at hfl
                have HMV := hide (moved_calls _ _ z b a t' X wr hrm.out (fun y hy => Nat.lt_of_lt_of_le (HX.out y hy) hu.out.size) (by have := HXL.out; omega) (frL_nodup hnd2 ((List.take_sublist m zs).nodup HOK.out.2.1)) h1 h2 (HZ0.out z (List.mem_of_getElem? hz)))
                rw [h3, ← htk] at HMV
                obtain ⟨a3, n3, c3, rfl, -, -⟩ := hrm.out.sliceN
                clear hz hze hml htk hnd2 hin2 hnP h1 h2 h3 hfl hrm
                go_wp2_with fail
                refine HMV.out.mono ?_
                rintro _ w1 ⟨v1, rfl, hr1, hu1⟩
                have HR1 := hide hr1
                have HU2 := hide (hu.out.trans hu1)
                obtain ⟨a4, n4, c4, rfl, -, -⟩ := hr1.sliceN
                clear hr1 hu1
                dsimp only
                go_wp2
                go_roundw
                case rel => exact ⟨m + 1, by omega, by simp, HR1, HU2⟩
                case measure => simp [intOf]; omega
              · obtain rfl : m = j := by omega
                have k2 : ¬ (m : Int) < (m : Int) := by omega
                have HRF : Hid (Rd (Value.int .i64) X wr u0 fin) := by
                  have := hrm.out
                  rw [HN2.out, List.take_length, ← HOK.out.2.2.2] at this
                  exact this
                obtain ⟨a4, n4, c4, rfl, -, -⟩ := HRF.out.sliceN
                clear hrm
                go_wp2
                go_ret2
                exact ⟨_, by rw [HOK.out.2.2.1]; rfl, HRF.out, hu.out⟩
end Go.Proofs.Ytbnkddnjfkagkaa

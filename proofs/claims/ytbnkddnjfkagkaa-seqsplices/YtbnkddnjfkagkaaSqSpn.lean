/-
  Splice where it is refused, as its text runs.
-/
import Derived.Test.YtbnkddnjfkagkaaSqSpl
namespace Go.Proofs.Ytbnkddnjfkagkaa
open Go.RowKit Go.Shelf
set_option linter.unusedVariables false
set_option maxRecDepth 100000

variable {Y : Nat → Prop} {p q T M r : Nat} {xs zs : List Int} {h n : Nat} {f : Int → Option Nat} {w w' : World}
set_option maxHeartbeats 4000000 in
theorem splice_unknown (v : Value) (zs : List Int) (b : Int) (ix : SqIx Y q T M xs h n f w) (hr : Rd (Value.int .i64) (TM T M) w v zs) (hwb : wf64 b) (hb : b ≠ 0 ∧ b ∉ xs) (hx : xs.length ≤ 1000) :
    Calls Try.prog 17 #[.pointer (some ⟨q, 0, none⟩), v, .int .i64 b] w fun e w' => e = .returned (.int .i64 71) ∧ Up w w' := by
  obtain ⟨bx, hbx⟩ : ∃ bx, bx = w.heap.size := ⟨_, rfl⟩
  obtain ⟨wa, hwa⟩ : ∃ wa, wa = w.alloc (.cells #[.pointer (some ⟨q, 0, none⟩)] 24) := ⟨_, rfl⟩
  have ua : Up w wa := by rw [hwa]; exact (Up.refl _).alloc _
  have HTG := hide (target_no b (ix.up ua) hwb hb.1 hb.2)
  have HWA := hide hwa
  have HUA := hide ua
  obtain ⟨va, vn, vc, rfl, -, -⟩ := hr.sliceN
  clear hwa hbx ua ix hr hb
  refine (callsIn_wide (n := 6)).1 ?_
  refine callsIn_of_wp_marks Try.func17 rfl trivial ?_ rfl
  simp only [Try.ntmps17, List.size_toArray, List.length_cons, List.length_nil, Nat.reduceAdd, Nat.reduceSub, Array.replicate_succ, Array.replicate_zero, List.push_toArray, List.append_toArray, List.nil_append, List.cons_append]
  gi_wp2_with fail
  rw [← HWA.out]
  refine ⟨trivial, ?_⟩
  refine (callsIn_wide.2 HTG.out).mono ?_
  rintro _ w1 ⟨rfl, hu1⟩
  have HU1 : Hid (Up w (w1.alloc (.cells #[.int .i64 0] 3))) := (HUA.out.trans hu1).trans ((Up.refl _).alloc _)
  clear hu1
  dsimp only
  gi_wp2_with fail
  refine ⟨trivial, ?_⟩
  gi_wp2
  exact ⟨_, results_tmp rfl _ _ _, rfl, HU1.out⟩
set_option maxHeartbeats 4000000 in
theorem splice_lacks (v : Value) (zs : List Int) (b : Int) (t : Nat) (ix : SqIx Y q T M xs h n f w) (hr : Rd (Value.int .i64) (TM T M) w v zs) (hwf : ∀ z ∈ zs, wf64 z) (ht : TgtAt xs b t) (hin : ¬ ∀ z ∈ zs, z ∈ xs) (hx : xs.length ≤ 1000) (hzl : zs.length ≤ 1000) :
    Calls Try.prog 17 #[.pointer (some ⟨q, 0, none⟩), v, .int .i64 b] w fun e w' => e = .returned (.int .i64 71) ∧ Up w w' := by
  obtain ⟨bx, hbx⟩ : ∃ bx, bx = w.heap.size := ⟨_, rfl⟩
  obtain ⟨wa, hwa⟩ : ∃ wa, wa = w.alloc (.cells #[.pointer (some ⟨q, 0, none⟩)] 24) := ⟨_, rfl⟩
  have ua : Up w wa := by rw [hwa]; exact (Up.refl _).alloc _
  have ca : wa.cell? ⟨bx, 0, none⟩ = some (.pointer (some ⟨q, 0, none⟩)) := by rw [hwa, hbx]; go_simp
  have HTG := hide (target_yes b t (ix.up ua) ht hx)
  have HLK : Hid (∀ w', Up w w' → Calls Try.prog 46 #[v, .func (.func 47) #[.pointer (some ⟨q, 0, none⟩)] #[]] w' fun e w'' => e = .returned (.bool true) ∧ w'' = w') := fun w' hu => containsLacks_calls v zs (TM T M) (ix.up hu) (hr.up hu) hwf (by omega) true (by symm; exact decide_eq_true hin)
  have HWA := hide hwa
  have HBX := hide hbx
  have HUA := hide ua
  have HCA := hide ca
  obtain ⟨va, vn, vc, rfl, -, -⟩ := hr.sliceN
  clear hwa hbx ua ca ix hr hwf hin
  refine (callsIn_wide (n := 6)).1 ?_
  refine callsIn_of_wp_marks Try.func17 rfl trivial ?_ rfl
  simp only [Try.ntmps17, List.size_toArray, List.length_cons, List.length_nil, Nat.reduceAdd, Nat.reduceSub, Array.replicate_succ, Array.replicate_zero, List.push_toArray, List.append_toArray, List.nil_append, List.cons_append]
  gi_wp2_with fail
  rw [← HWA.out, ← HBX.out]
  refine ⟨trivial, ?_⟩
  refine (callsIn_wide.2 HTG.out).mono ?_
  rintro _ w1 ⟨rfl, hu1⟩
  have cbl : (w1.alloc (.cells #[.int .i64 t] 3)).cell? ⟨bx, 0, none⟩ = some (.pointer (some ⟨q, 0, none⟩)) := ((Up.refl w1).alloc _).cell (hu1.cell HCA.out)
  have HU1 : Hid (Up w (w1.alloc (.cells #[.int .i64 t] 3))) := (HUA.out.trans hu1).trans ((Up.refl _).alloc _)
  clear hu1
  dsimp only
  gi_wp2_with fail
  refine ⟨trivial, ?_⟩
  refine (callsIn_wide.2 (HLK.out _ HU1.out)).mono ?_
  rintro _ w3 ⟨rfl, hw3⟩
  subst hw3
  dsimp only
  gi_wp2
  exact ⟨_, results_tmp rfl _ _ _, rfl, HU1.out⟩
set_option maxHeartbeats 4000000 in
theorem splice_twice (v : Value) (zs : List Int) (b : Int) (t : Nat) (ix : SqIx Y q T M xs h n f w) (hr : Rd (Value.int .i64) (TM T M) w v zs) (hwf : ∀ z ∈ zs, wf64 z) (ht : TgtAt xs b t) (hin : ∀ z ∈ zs, z ∈ xs) (hb : b ∈ zs ∨ ¬ zs.Nodup) (hx : xs.length ≤ 1000) (hzl : zs.length ≤ 1000) :
    Calls Try.prog 17 #[.pointer (some ⟨q, 0, none⟩), v, .int .i64 b] w fun e w' => e = .returned (.int .i64 72) ∧ Up w w' := by
  obtain ⟨bx, hbx⟩ : ∃ bx, bx = w.heap.size := ⟨_, rfl⟩
  obtain ⟨wa, hwa⟩ : ∃ wa, wa = w.alloc (.cells #[.pointer (some ⟨q, 0, none⟩)] 24) := ⟨_, rfl⟩
  have ua : Up w wa := by rw [hwa]; exact (Up.refl _).alloc _
  have ca : wa.cell? ⟨bx, 0, none⟩ = some (.pointer (some ⟨q, 0, none⟩)) := by rw [hwa, hbx]; go_simp
  have HTG := hide (target_yes b t (ix.up ua) ht hx)
  have HLK : Hid (∀ w', Up w w' → Calls Try.prog 46 #[v, .func (.func 47) #[.pointer (some ⟨q, 0, none⟩)] #[]] w' fun e w'' => e = .returned (.bool false) ∧ w'' = w') := fun w' hu => containsLacks_calls v zs (TM T M) (ix.up hu) (hr.up hu) hwf (by omega) false (by symm; exact decide_eq_false (fun e => e hin))
  have HCN : Hid (∀ c, c = decide (b ∈ zs) → ∀ w', Up w w' → Calls Try.prog 48 #[v, .int .i64 b] w' fun e w'' => e = .returned (.bool c) ∧ w'' = w') := fun c hc w' hu => contains64_calls v zs b (TM T M) w' (hr.up hu) (by omega) c hc
  have HTW : Hid (∀ c, c = decide (¬ zs.Nodup) → ∀ w', Up w w' → Calls Try.prog 49 #[v] w' fun e w'' => e = .returned (.bool c) ∧ Up w' w'') := fun c hc w' hu => hasTwice_calls v zs w' ((hr.up hu).mono (fun _ _ h => h.elim)) hwf (by omega) c hc
  have HWA := hide hwa
  have HBX := hide hbx
  have HUA := hide ua
  have HCA := hide ca
  obtain ⟨va, vn, vc, rfl, -, -⟩ := hr.sliceN
  clear hwa hbx ua ca ix hr hwf hin
  refine (callsIn_wide (n := 6)).1 ?_
  refine callsIn_of_wp_marks Try.func17 rfl trivial ?_ rfl
  simp only [Try.ntmps17, List.size_toArray, List.length_cons, List.length_nil, Nat.reduceAdd, Nat.reduceSub, Array.replicate_succ, Array.replicate_zero, List.push_toArray, List.append_toArray, List.nil_append, List.cons_append]
  gi_wp2_with fail
  rw [← HWA.out, ← HBX.out]
  refine ⟨trivial, ?_⟩
  refine (callsIn_wide.2 HTG.out).mono ?_
  rintro _ w1 ⟨rfl, hu1⟩
  have cbl : (w1.alloc (.cells #[.int .i64 t] 3)).cell? ⟨bx, 0, none⟩ = some (.pointer (some ⟨q, 0, none⟩)) := ((Up.refl w1).alloc _).cell (hu1.cell HCA.out)
  have HU1 : Hid (Up w (w1.alloc (.cells #[.int .i64 t] 3))) := (HUA.out.trans hu1).trans ((Up.refl _).alloc _)
  clear hu1
  dsimp only
  gi_wp2_with fail
  refine ⟨trivial, ?_⟩
  refine (callsIn_wide.2 (HLK.out _ HU1.out)).mono ?_
  rintro _ w3 ⟨rfl, hw3⟩
  subst hw3
  dsimp only
  gi_wp2_with fail
  by_cases hbz : b ∈ zs
  · refine ⟨trivial, ?_⟩
    refine (callsIn_wide.2 (HCN.out true (by symm; exact decide_eq_true hbz) _ HU1.out)).mono ?_
    rintro _ w3 ⟨rfl, hw3⟩
    subst hw3
    clear hb hbz
    dsimp only
    gi_wp2_with fail
    refine ⟨trivial, ?_⟩
    gi_wp2
    exact ⟨_, results_tmp rfl _ _ _, rfl, HU1.out⟩
  · have hnd := hb.resolve_left hbz
    refine ⟨trivial, ?_⟩
    refine (callsIn_wide.2 (HCN.out false (by symm; exact decide_eq_false hbz) _ HU1.out)).mono ?_
    rintro _ w3 ⟨rfl, hw3⟩
    subst hw3
    have HT1 := hide (HTW.out true (by symm; exact decide_eq_true hnd) _ HU1.out)
    clear hb hbz hnd
    dsimp only
    gi_wp2_with fail
    refine ⟨trivial, ?_⟩
    refine (callsIn_wide.2 HT1.out).mono ?_
    rintro _ w4 ⟨rfl, hu4⟩
    have HU4 := hide (HU1.out.trans hu4)
    clear hu4
    dsimp only
    gi_wp2
    exact ⟨_, results_tmp rfl _ _ _, rfl, HU4.out⟩
end Go.Proofs.Ytbnkddnjfkagkaa

/-
  The statements' own helps: known, items, sorted, same (package rialtolaw8); the orders that the statements hand over; as their text runs.
-/
import Derived.Test.YtcemdiloiachlaaHeapFre
import Derived.Test.YtcemdiloiachlaaHeapLstN
namespace Go.Proofs.Ytcemdiloiachlaa
open Go.ChangeShapes Go.WideShapes Go.ChangeAt Go.RowKit
set_option linter.unusedVariables false

theorem before_known : BeforeN 25 (fun x => x) where
  enter _ _ := by kernel_rfl
  asks a b w := by
    unfold askB eValN
    go_enter Try.func25, Try.ntmps25
    go_wp2
    go_ret
    exact ⟨rfl, Up.refl _⟩

theorem in_new3 (w : World) (t : TypeId) : InEN (w.alloc (.cells #[.int .i64 3, .int .i64 1, .int .i64 2] t)) (some ⟨w.heap.size, 0, none⟩) 3 3 [3, 1, 2] := by
  refine ⟨rfl, Nat.le_refl _, by decide, w.heap.size, 0, fun _ => rfl, fun i hi j v hv => ?_⟩
  match i, hi with
  | 0, _ => match j with
    | 0 => simp [eCellsN] at hv; subst hv; go_simp
    | j + 1 => simp [eCellsN] at hv
  | 1, _ => match j with
    | 0 => simp [eCellsN] at hv; subst hv; go_simp
    | j + 1 => simp [eCellsN] at hv
  | 2, _ => match j with
    | 0 => simp [eCellsN] at hv; subst hv; go_simp
    | j + 1 => simp [eCellsN] at hv
  | i + 3, hi => omega

set_option maxRecDepth 20000 in
set_option maxHeartbeats 8000000 in
theorem known_calls (w : World) : Calls Try.prog 8 #[] w fun e w' => e = .returned (.bool true) ∧ Up w w' := by
  go_enter Try.func8, Try.ntmps8
  go_wp2_with fail
  go_at_call 24
  refine (leastN_calls 25 (fun x => x) before_known _ 3 3 2 [3, 1, 2] _ (by decide) (in_new3 w _)).mono ?_
  rintro _ w1 ⟨v, rfl, ho, hu⟩
  replace hu : Hid (Up w w1) := ((Up.refl w).alloc _).trans hu
  replace ho : OwnEN w1 _ v [1, 2] := ho
  obtain ⟨a, c, rfl, hin, _⟩ := ho.inG (z := eZeroN) (fun _ => rfl)
  obtain ⟨_, hc, hcm, blk, off, ha, hx⟩ := hin
  obtain rfl := ha (by decide)
  have x0 := hx 0 (by decide) 0 _ rfl
  have x1 := hx 1 (by decide) 0 _ rfl
  clear hx ha ho
  replace x0 : w1.cell? ⟨blk, off, none⟩ = some (.int .i64 1) := x0
  replace x1 : w1.cell? ⟨blk, off + 1, none⟩ = some (.int .i64 2) := x1
  simp only [List.length_cons, List.length_nil, Nat.zero_add, Nat.reduceAdd] at hc ⊢
  go_wp2_with fail
  go_at_call 16
  refine (newFree_calls w1).mono ?_
  rintro _ w2 ⟨rfl, hs2, hu2, hz2⟩
  obtain ⟨p, hp⟩ : ∃ p, p = w1.heap.size := ⟨_, rfl⟩
  have hblk : blk < p := by rw [hp]; exact World.block_lt_of_cell? w1 ⟨blk, off, none⟩ x0
  have hwp : w.heap.size ≤ p := by rw [hp]; exact hu.out.size
  rw [← hp] at hs2 hz2 ⊢
  replace x0 := hu2.cell x0
  replace x1 := hu2.cell x1
  replace hu : Hid (Up w w2) := hu.out.trans hu2
  replace hs2 := hide hs2
  clear hu2 hp
  go_wp2_with fail
  go_at_call 17
  refine (put_calls p p [] 4 w2 (by decide) hs2.out).mono ?_
  rintro _ w3 ⟨rfl, b3, hs3, hc3, hb3⟩
  have hz3 := hc3.size
  have hb3' : p ≤ b3 := by omega
  replace x0 := hc3.cell x0 (by rintro (h | h) <;> (simp only at h; omega))
  replace x1 := hc3.cell x1 (by rintro (h | h) <;> (simp only at h; omega))
  replace hu : Hid (Up w w3) := hu.out.thenChg hc3 (by rintro x hx (h | h) <;> omega)
  replace hs3 := hide hs3
  clear hc3 hs2 hb3
  go_wp2_with fail
  go_at_call 17
  refine (put_calls p b3 [4] 2 w3 (by decide) hs3.out).mono ?_
  rintro _ w4 ⟨rfl, b4, hs4, hc4, hb4⟩
  have hz4 := hc4.size
  have hb4' : p ≤ b4 := by omega
  replace x0 := hc4.cell x0 (by rintro (h | h) <;> (simp only at h; omega))
  replace x1 := hc4.cell x1 (by rintro (h | h) <;> (simp only at h; omega))
  replace hu : Hid (Up w w4) := hu.out.thenChg hc4 (by rintro x hx (h | h) <;> omega)
  replace hs4 : Hid (StF p b4 w4 [2, 4]) := hs4
  clear hc4 hs3 hb4
  go_wp2_with fail
  go_at_call 18
  refine (take_some p b4 [2, 4] w4 hs4.out (by decide)).mono ?_
  rintro _ w5 ⟨rfl, hs5, hc5⟩
  replace x0 := hc5.cell x0 (by rintro (h | h) <;> (simp only at h; omega))
  replace x1 := hc5.cell x1 (by rintro (h | h) <;> (simp only at h; omega))
  replace hu : Hid (Up w w5) := hu.out.thenChg hc5 (by rintro x hx (h | h) <;> omega)
  replace hs5 : Hid (StF p b4 w5 [4]) := hs5
  clear hc5 hs4
  go_wp2_with fail
  go_at_call 19
  refine (flen_calls p b4 [4] w5 hs5.out).mono ?_
  rintro _ w6 ⟨rfl, hw6⟩
  obtain rfl : w5 = w6 := hw6.symm
  clear hw6
  go_wp2
  go_ret
  exact ⟨rfl, hu.out⟩

end Go.Proofs.Ytcemdiloiachlaa

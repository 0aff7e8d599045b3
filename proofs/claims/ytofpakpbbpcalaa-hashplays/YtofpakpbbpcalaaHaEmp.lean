/-
  All of an index in which nothing stands, as the text runs.
-/
import Derived.Test.YtofpakpbbpcalaaHaMor
import Derived.Test.YtofpakpbbpcalaaHaItr
namespace Go.Proofs.Ytofpakpbbpcalaa
open Go.ChangeShapes Go.WideShapes Go.ChangeAt Go.RowKit
set_option linter.unusedVariables false
set_option maxRecDepth 100000
attribute [local go_sem ↓] Go.wp_at_zero Go.wp_at_succ

set_option maxHeartbeats 4000000 in
theorem len64_zero (w : World) : Calls Try.prog 73 #[.int .u64 0] w fun e w' => (∃ r : Nat, r ≤ 255 ∧ e = .returned (.int .i64 r)) ∧ w' = w := by
  go_enter Try.func73, Try.ntmps73
  go_wp2
  go_ret
  refine ⟨?_, rfl⟩
  have key : ∀ b : UInt8, ∃ r : Nat, r ≤ 255 ∧ Ending.returned (.int .i64 (wrap64 (wrap64 (b.toNat : Int)))) = .returned (.int .i64 r) := fun b => by
    have hb := b.toNat_lt
    have e : wrap64 (b.toNat : Int) = b.toNat := by unfold wrap64; omega
    exact ⟨b.toNat, by omega, by rw [e, e]⟩
  exact key _
theorem len_zero (w : World) : Calls Try.prog 55 #[.int .u64 0] w fun e w' => (∃ r : Nat, r ≤ 255 ∧ e = .returned (.int .i64 r)) ∧ w' = w := by
  go_enter Try.func55, Try.ntmps55
  go_wp2_with fail
  go_at_call 73
  refine (len64_zero w).mono ?_
  rintro _ w9 ⟨⟨r, hr, rfl⟩, hw9⟩
  obtain rfl : w = w9 := hw9.symm
  go_wp2
  go_ret
  exact ⟨⟨r, hr, rfl⟩, rfl⟩
set_option maxHeartbeats 4000000 in
theorem insertion_zero (a : Option Addr) (cap : Nat) (cmp : Value) (w : World) : Calls Try.prog 64 #[.slice a 0 cap, .int .i64 0, .int .i64 0, cmp] w fun e w' => e = .returned (.tuple #[]) ∧ w' = w := by
  go_enter Try.func64, Try.ntmps64
  go_wp2_with fail
  refine wp_loop_rounds 1 ?_
  rw [rounds_succ]
  go_wp2
  go_end0
  exact ⟨rfl, rfl⟩
set_option maxHeartbeats 4000000 in
theorem pdq_zero (a : Option Addr) (cap r : Nat) (cmp : Value) (w : World) : Calls Try.prog 54 #[.slice a 0 cap, .int .i64 0, .int .i64 0, .int .i64 r, cmp] w fun e w' => e = .returned (.tuple #[]) ∧ w' = w := by
  go_enter Try.func54, Try.ntmps54
  go_wp2_with fail
  refine wp_loop_rounds 1 ?_
  rw [rounds_succ]
  go_wp2_with fail
  go_at_call 64
  refine (insertion_zero a cap cmp w).mono ?_
  rintro _ w9 ⟨rfl, hw9⟩
  obtain rfl : w = w9 := hw9.symm
  go_wp2
  (try simp only [Exit.inBlock, Exit.then])
  refine bodyPost_ret (results_none rfl _ _ _) rfl ?_
  exact ⟨rfl, rfl⟩
theorem sort_zero (a : Option Addr) (cap : Nat) (cmp : Value) (w : World) : Calls Try.prog 44 #[.slice a 0 cap, cmp] w fun e w' => e = .returned (.tuple #[]) ∧ w' = w := by
  go_enter Try.func44, Try.ntmps44
  go_wp2_with fail
  go_at_call 55
  refine (len_zero w).mono ?_
  rintro _ w9 ⟨⟨r, hr, rfl⟩, hw9⟩
  obtain rfl : w = w9 := hw9.symm
  go_wp2_with fail
  go_at_call 54
  refine (pdq_zero a cap r _ w).mono ?_
  rintro _ w9 ⟨rfl, hw9⟩
  obtain rfl : w = w9 := hw9.symm
  go_wp2
  go_end0
  exact ⟨rfl, rfl⟩
set_option maxHeartbeats 4000000 in
theorem sorted_zero (Bm M c : Nat) (f : List UInt8 → Option Value) (w : World) (hBm : Bm < w.heap.size) (hm : w.cell? ⟨Bm, 0, none⟩ = some (.map (some M))) (hmap : MapS w M f c) (hc : c ≤ 1000) (hf : ∀ x, f x = none) (cmp : Value) :
    Calls Try.prog 32 #[.func (.func 45) #[] #[.pointer (some ⟨Bm, 0, none⟩)], cmp] w fun e w' => ∃ a cap, e = .returned (.slice a 0 cap) ∧ Up w w' := by
  have hcol := hide (collect_calls Bm M c f w hBm hm hmap hc)
  have HF := hide hf
  clear hm hmap hf
  go_enter Try.func32, Try.ntmps32
  go_wp2_with fail
  go_at_call 43
  refine hcol.out.mono ?_
  rintro _ w1 ⟨v, ks, rfl, hk, ho, hu⟩
  have hks : ks = [] := by
    cases ks with
    | nil => rfl
    | cons x l => have := (hk.2.1 x).1 (by simp); rw [HF.out x] at this; cases this
  subst hks
  obtain ⟨a, cap, rfl⟩ : ∃ a cap, v = .slice a 0 cap := by
    rcases ho.2 with ⟨rfl, _⟩ | ⟨g, cap, cur, rfl, _⟩
    · exact ⟨none, 0, rfl⟩
    · exact ⟨_, _, rfl⟩
  have HU := hide hu
  clear hcol ho hu hk
  go_wp2_with fail
  go_at_call 44
  refine (sort_zero a cap _ w1).mono ?_
  rintro _ w9 ⟨rfl, hw9⟩
  obtain rfl : w1 = w9 := hw9.symm
  go_wp2
  go_ret
  exact ⟨_, _, rfl, HU.out⟩
theorem info_ent : (Try.prog.info? 39).map (fun i => (i.zero, i.size, i.bytes)) = some (some (.agg #[.slice none 0 0, .int .i64 0]), 2, 32) := by kernel_rfl
/-- make([]api.Entry, 0, L). -/
theorem make_ents (L : Nat) (hL : L ≤ 100000) : ∃ Z : Array Value, Z.size = L * 2 ∧ ∀ W : World, (Instr.makeSlice 26 (.int .i64 0) (.int .i64 (L : Int))).run Try.prog W = .ok (.slice (some ⟨W.heap.size, 0, none⟩) 0 L) (W.alloc (.cells Z 39)) := by
  obtain ⟨i0, hi, hz0, hz1, hz2⟩ := info_parts info_ent
  refine ⟨madeCells (Value.agg #[.slice none 0 0, .int .i64 0]).cells (((L : Nat) : Int).toNat * i0.size), by rw [size_madeCells, hz1]; simp, fun W => ?_⟩
  have h := run_make (P := Try.prog) W 26 39 i0 (.agg #[.slice none 0 0, .int .i64 0]) Try.underlying26 hi hz0 .i64 .i64 0 (L : Int) (by omega) (by omega) (by rw [hz2]; omega) (by omega)
  simpa using h

set_option maxHeartbeats 4000000 in
theorem all_zero (p : Nat) (O : Nat → Prop) (u : Bool) (T : Tab) (c : Nat) (w : World) (hi : Idx p O w u T 0 c) (hT : ∀ m, T m = []) (hc : c ≤ 1000) :
    Calls Try.prog 20 #[.pointer (some ⟨p, 0, none⟩)] w fun e w' => ∃ a cap, e = .returned (.slice a 0 cap) ∧ Up w w' := by
  obtain ⟨h0, K, bl, M, f, hC, hG, hO⟩ := hi
  have hf : ∀ x, f x = none := fun x => by
    cases hx : f x with
    | none => rfl
    | some v => obtain ⟨m, h, _⟩ := hG.all x v hx; exact absurd (hT m) h
  have k2 := hC.c2
  have k1 := hC.c1
  have HM := hide hC.map
  have HF := hide hf
  obtain ⟨Z, _, hmk0⟩ := make_ents 0 (by omega)
  have hmk : ∀ W : World, (Instr.makeSlice 26 (.int .i64 0) (.int .i64 0)).run Try.prog W = .ok (.slice (some ⟨W.heap.size, 0, none⟩) 0 0) (W.alloc (.cells Z 39)) := hmk0
  clear hmk0
  clear hC hG hO h0 hf hT
  go_enter Try.func20, Try.ntmps20
  have k1' : (w.alloc (.cells Z 39)).cell? ⟨p, 1, none⟩ = some (.map (some M)) := ((Up.refl w).alloc _).cell k1
  go_wp2_with fail
  go_at_call 33
  refine (values_calls M _).mono ?_
  rintro _ w2 ⟨rfl, hw2⟩
  have hu2 : Up w w2 := by rw [hw2]; exact ((Up.refl w).alloc _).alloc _
  have hB : w.heap.size + 1 < w2.heap.size := by rw [hw2]; simp
  have hbm : w2.cell? ⟨w.heap.size + 1, 0, none⟩ = some (.map (some M)) := by rw [hw2]; go_simp
  have hsz : (w.alloc (.cells Z 39)).heap.size = w.heap.size + 1 := by simp
  have HU2 := hide hu2
  have HB := hide hB
  have HBM := hide hbm
  rw [hsz]
  clear hw2 hu2 hB hbm hsz k1' hmk
  go_wp2_with fail
  go_at_call 32
  refine (sorted_zero (w.heap.size + 1) M c f w2 HB.out HBM.out (HM.out.up HU2.out) hc HF.out _).mono ?_
  rintro _ w3 ⟨a3, c3, rfl, hu3⟩
  have HU3 := hide (HU2.out.trans hu3)
  clear hu3
  go_wp2_with fail
  refine wp_loop_rounds 1 ?_
  rw [rounds_succ]
  go_wp2
  go_ret
  exact ⟨_, _, rfl, HU3.out⟩

end Go.Proofs.Ytofpakpbbpcalaa

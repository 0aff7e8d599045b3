/-
  The landed store's New, as its text runs.
-/
import Derived.Test.YtaodekbpjkcpeaaRowPlc
import Derived.Maps.OwnSet
namespace Go.Proofs.Ytaodekbpjkcpeaa
open Go.ChangeShapes Go.WideShapes Go.ChangeAt Go.RowKit
set_option linter.unusedVariables false
attribute [local go_sem ↓] Go.wp_at_zero Go.wp_at_succ
attribute [local go_sem] run_store_float

theorem info_row : (Try.prog.info? 35).map (fun i => (i.zero, i.size, i.bytes)) = some (some (.agg #[.int .i64 0, .int .i64 0, .slice none 0 0]), 3, 40) := by kernel_rfl
theorem Up.thenChg {C : Nat → Prop} {w w1 w2 : World} (h : Up w w1) (hc : Chg C w1 w2) (hC : ∀ x, x < w.heap.size → ¬ C x) : Up w w2 := ((Chg.of_up (C := C) h).trans hc (fun _ _ h => h)).up hC

/-- A store that has no row: so many of its slots are among the free ones. -/
structure Young (p S M : Nat) (w0 w : World) (n k : Nat) : Prop where
  ex : ∃ b xs, StoC (fun _ => False) p S M b w n 1 0 0 (fun _ => none) xs ∧ xs.Perm ((List.range k).map (fun (i : Nat) => (i : Int))) ∧ w0.heap.size ≤ b
  up : Up w0 w
theorem range_succ_perm (k : Nat) : ((List.range (k + 1)).map (fun (i : Nat) => (i : Int))).Perm ((k : Int) :: (List.range k).map (fun (i : Nat) => (i : Int))) := by
  rw [List.range_succ, List.map_append]
  exact List.perm_append_comm
theorem Young.sto {p S M n : Nat} {w0 w : World} (h : Young p S M w0 w n n) (hn : n ≤ 200) (hp : w0.heap.size ≤ p) (hS : w0.heap.size ≤ S) (hM : w0.heap.size ≤ M) : ∃ O, Sto p O w n 1 0 (fun _ => none) 0 ∧ ∀ x, O x → w0.heap.size ≤ x := by
  obtain ⟨⟨b, xs, h1, h2, h3⟩, hu⟩ := h
  refine ⟨fun x => False ∨ core p S M b x, ⟨fun x hx => h1.lt x hx, _, S, M, b, _, xs, h1, fun x s hx => (by cases hx), ⟨?_, hn, ?_, fun s hs => ?_, fun x => (by simp), fun x s hx => (by cases hx), fun x y s hx => (by cases hx), fun x d hx => (by cases hx), (by decide)⟩, fun x hx => hx⟩, fun x hx => ?_⟩
  · rw [h2.length_eq]; simp
  · refine h2.nodup_iff.2 ?_
    refine List.Pairwise.map _ ?_ (List.nodup_range (n := n))
    intro a b h e
    exact h (by omega)
  · obtain ⟨i, hi, rfl⟩ := List.mem_map.1 (h2.mem_iff.1 hs)
    have := List.mem_range.1 hi
    omega
  · rcases hx with hx | rfl | rfl | rfl | rfl
    · exact hx.elim
    · exact hp
    · exact hS
    · exact hM
    · exact h3

set_option maxRecDepth 20000 in
set_option maxHeartbeats 8000000 in
theorem new_calls (k : Int) (w : World) :
    Calls Try.prog 10 #[.int .i64 k] w fun e w' => ∃ p O, e = .returned (.pointer (some ⟨p, 0, none⟩)) ∧ w.heap.size ≤ p ∧ Sto p O w' (roomN k) 1 0 (fun _ => none) 0 ∧ Up w w' ∧ ∀ x, O x → w.heap.size ≤ x := by
  have hn := roomN_le k
  generalize hroom : roomN k = n at *
  have hrc : ∀ W, Calls Try.prog 33 #[.int .i64 k] W fun e w' => e = .returned (.int .i64 n) ∧ w' = W := by intro W; rw [← hroom]; exact room_calls k W
  clear hroom
  have HRC := hide hrc
  clear hrc
  obtain ⟨i0, hi, hz0, hz1, hz2⟩ := info_parts info_row
  obtain ⟨Mc, hM⟩ : ∃ M, M = madeCells (Value.agg #[.int .i64 0, .int .i64 0, .slice none 0 0]).cells (((n : Nat) : Int).toNat * i0.size) := ⟨_, rfl⟩
  have hMs : Mc.size = n * 3 := by rw [hM, size_madeCells, hz1]; simp
  have hmk : ∀ W : World, (Instr.makeSlice 39 (.int .i64 (n : Int)) (.int .i64 (n : Int))).run Try.prog W = .ok (.slice (some ⟨W.heap.size, 0, none⟩) n n) (W.alloc (.cells Mc 35)) := fun W => by
    have h := run_make (P := Try.prog) W 39 35 i0 (.agg #[.int .i64 0, .int .i64 0, .slice none 0 0]) Try.underlying39 hi hz0 .i64 .i64 (n : Int) (n : Int) (by omega) (by omega) (by rw [hz2]; omega) (by omega)
    rw [← hM] at h
    simpa using h
  clear hM hi hz0 hz1 hz2
  have hmm := @run_makeMap Try.prog
  go_enter Try.func10, Try.ntmps10
  go_wp2_with (go_at_call 33; refine (HRC.out _).mono ?_; rintro _ w9 ⟨rfl, hw9⟩; obtain rfl : w = w9 := hw9.symm)
  clear hmk hmm HRC hw9
  have hy0 : Hid (Young (w.heap.size + 1 + 1) w.heap.size (w.heap.size + 1) w (((w.alloc (Obj.cells Mc 35)).alloc (Obj.map #[] 0)).alloc (Obj.cells #[Value.slice (some { block := w.heap.size, off := 0 }) n n, Value.map (some (w.heap.size + 1)), Value.slice none 0 0, Value.int IntKind.i64 1, Value.int IntKind.i64 0] 76)) n 0) := by
    refine ⟨⟨w.heap.size + 1 + 1, [], ⟨⟨⟨.slice none 0 0, by go_simp, OwnG.nil _ _ _ _ _, fun g hg => by cases hg⟩, fun _ _ => rfl, fun o => by go_simp, by simp⟩, by go_simp, by go_simp, by go_simp, by go_simp, fun o => ?_, fun o ho => ⟨Mc[o]'(by omega), ?_⟩, ?_, fun x hx => ?_, fun x hx => hx.elim, by omega, by omega, by omega, by omega, by omega⟩, List.Perm.refl _, by omega⟩, (((Up.refl w).alloc _).alloc _).alloc _⟩
    · first | go_simp | simp [World.frozen?]
    · exact (((Up.refl _).alloc _).alloc _).cell (by simp [hMs, ho])
    · have h1 := MapAt.made (w.alloc (Obj.cells Mc 35))
      have h2 := h1.chg (Chg.of_up (C := fun _ => False) ((Up.refl _).alloc (Obj.cells #[Value.slice (some { block := w.heap.size, off := 0 }) n n, Value.map (some (w.heap.size + 1)), Value.slice none 0 0, Value.int IntKind.i64 1, Value.int IntKind.i64 0] 76))) (fun h => h)
      simpa using h2
    · rcases hx with hx | rfl | rfl | rfl | rfl
      · exact hx.elim
      all_goals simp
      all_goals omega
  generalize hp : w.heap.size + 1 + 1 = p at *
  generalize hMq : w.heap.size + 1 = M at *
  have hpl : Hid (w.heap.size ≤ p) := by show _ ≤ _; omega
  have hMl : Hid (w.heap.size ≤ M) := by show _ ≤ _; omega
  generalize hW0 : (((w.alloc (Obj.cells Mc 35)).alloc (Obj.map #[] 0)).alloc (Obj.cells #[Value.slice (some { block := w.heap.size, off := 0 }) n n, Value.map (some M), Value.slice none 0 0, Value.int IntKind.i64 1, Value.int IntKind.i64 0] 76)) = W0 at *
  clear hW0 hp hMq hMs
  go_loopw [16] (fun i wr => ∃ j : Nat, j ≤ n ∧ i = .int .i64 j ∧ Young p w.heap.size M w wr n j) (fun i _ => n - (intOf i).toNat)
  case atStart => exact ⟨0, Nat.zero_le _, rfl, hy0.out⟩
  case round =>
    clear hy0
    obtain ⟨j, hj, rfl, hy⟩ := hrel
    replace hy := hide hy
    by_cases hlt : j < n
    · have t3 : decide ((j : Int) < n) = true := decide_eq_true (by omega)
      obtain ⟨b, xs, h1, h2, h3⟩ := hy.out.ex
      have hxs : xs.length < 100000 := by rw [h2.length_eq]; simp; omega
      have H1 := hide h1
      have H2 := hide h2
      clear h1 h2
      go_wp2_with fail
      go_at_call 34
      refine (hpush_calls _ p b xs j wr hxs H1.out.free).mono ?_
      rintro _ w6 ⟨rfl, b', hf6, hc6, hb6⟩
      have hl6 : 0 < (pushL 0 ahN xs (j : Int)).length := by rw [pushL_length]; omega
      have hz : Hid (Young p w.heap.size M w w6 n (j + 1)) := by
        refine ⟨⟨b', _, H1.out.refree hf6 hc6 (hb6.imp id (fun h => ⟨h, hl6⟩)), ((pushL_perm 0 ahN xs (j : Int)).trans (H2.out.cons _)).trans (range_succ_perm j).symm, ?_⟩, hy.out.up.thenChg hc6 (fun x hx e => ?_)⟩
        · rcases hb6 with rfl | h
          · exact h3
          · exact Nat.le_trans hy.out.up.size h
        · have := hpl.out
          rcases e with e | e <;> omega
      clear hf6 hc6 hb6 hl6
      go_wp2
      go_roundw
      case rel => exact ⟨j + 1, by omega, by go_num, hz.out⟩
      case measure => simp [intOf]; omega
    · obtain rfl : j = n := by omega
      have t3 : decide ((j : Int) < j) = false := decide_eq_false (by omega)
      go_wp2
      go_ret
      obtain ⟨O, h1, h2⟩ := hy.out.sto hn hpl.out (Nat.le_refl _) hMl.out
      exact ⟨p, O, rfl, hpl.out, h1, hy.out.up, h2⟩

end Go.Proofs.Ytaodekbpjkcpeaa

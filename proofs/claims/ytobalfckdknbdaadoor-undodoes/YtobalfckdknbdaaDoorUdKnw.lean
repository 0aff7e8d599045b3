/-
  Backs that write one variable alone; what known answers.
-/
import Derived.Test.YtobalfckdknbdaaDoorUdLog
namespace Go.Proofs.YtobalfckdknbdaaDoor
open Go.RowKit
set_option linter.unusedVariables false
set_option maxRecDepth 20000
attribute [local go_sem ↓] Go.wp_at_zero Go.wp_at_succ

/-- Back, where each step writes the variable B alone: what stands in B goes by the steps that are left (V). -/
structure BoxJ (T B : Nat) (V : List Bk → Value) (w0 : World) (r : List Bk) (w : World) : Prop where
  at' : w.cell? ⟨B, 0, none⟩ = some (V r)
  free : w.frozen? ⟨B, 0, none⟩ = false
  apart : ∀ k ∈ r, k.blk ≠ B
  chg : Chg (fun y => y = T ∨ y = B) w0 w
  size : w.heap.size = w0.heap.size

theorem udBack_box (T B : Nat) (l : List Bk) (m : Nat) (V : List Bk → Value) (w : World) (h : LogAt T l w) (hm : m ≤ l.length) (hTB : B ≠ T) (hB : w.cell? ⟨B, 0, none⟩ = some (V l)) (hf : w.frozen? ⟨B, 0, none⟩ = false) (ha : ∀ k ∈ l, k.blk ≠ B)
    (hE : ∀ k ∈ l, ∀ w', (callFunc k.fn k.cap).run Tryd.prog w' = .ok (.enter k.fn k.cap) w')
    (hS : ∀ k r W, (∃ p, l = p ++ k :: r) → m ≤ r.length → W.cell? ⟨B, 0, none⟩ = some (V (k :: r)) → W.frozen? ⟨B, 0, none⟩ = false → Calls Tryd.prog k.fn k.cap W fun e W' => e = .returned (.tuple #[]) ∧ W' = W.setCell ⟨B, 0, none⟩ (V r)) :
    Calls Tryd.prog 16 #[.pointer (some ⟨T, 0, none⟩), .int .i64 m] w fun e w' => e = .returned (.bool true) ∧ LogAt T (l.drop (l.length - m)) w' ∧ BoxJ T B V w (l.drop (l.length - m)) w' := by
  refine udBack_ok T l m (BoxJ T B V w) w h hm hE ?_ ?_ ⟨hB, hf, ha, Chg.refl _ _, rfl⟩
  · intro r W W' hj hc hs
    have hBW : B < W.heap.size := World.block_lt_of_cell? W ⟨B, 0, none⟩ hj.at'
    exact ⟨hc.cell (p := ⟨B, 0, none⟩) hj.at' hTB, (hc.frozen (p := ⟨B, 0, none⟩) hBW hTB).trans hj.free, hj.apart, hj.chg.trans hc (fun _ _ h => .inl h), hs.trans hj.size⟩
  · intro k r W hp hmr hl hj
    refine (hS k r W hp hmr hj.at' hj.free).mono ?_
    rintro _ W' ⟨rfl, rfl⟩
    have hc : Chg (fun y => y = B) W (W.setCell ⟨B, 0, none⟩ (V r)) := Chg.chT (Chg.refl _ W) 0 _
    refine ⟨rfl, hl.chg hc (fun e => hTB e.symm) (fun q hq => hj.apart q (List.mem_cons_of_mem _ hq)), ⟨World.cell?_setCell_same _ _ _ hj.at', by simpa using hj.free, fun q hq => hj.apart q (List.mem_cons_of_mem _ hq), hj.chg.trans hc (fun _ _ h => .inr h), by simpa using hj.size⟩⟩

theorem known_a (B : Nat) (w : World) (h : w.cell? ⟨B, 0, none⟩ = some (.string ⟨#[98]⟩)) (hf : w.frozen? ⟨B, 0, none⟩ = false) :
    Calls Tryd.prog 13 #[.pointer (some ⟨B, 0, none⟩)] w fun e w' => e = .returned (.tuple #[]) ∧ w' = w.setCell ⟨B, 0, none⟩ (.string ⟨#[98, 97]⟩) := by
  go_enter Tryd.func13, Tryd.ntmps13
  go_wp2
  go_end0
  exact ⟨rfl, rfl⟩
theorem known_b (B : Nat) (w : World) (h : w.cell? ⟨B, 0, none⟩ = some (.string ⟨#[]⟩)) (hf : w.frozen? ⟨B, 0, none⟩ = false) :
    Calls Tryd.prog 14 #[.pointer (some ⟨B, 0, none⟩)] w fun e w' => e = .returned (.tuple #[]) ∧ w' = w.setCell ⟨B, 0, none⟩ (.string ⟨#[98]⟩) := by
  go_enter Tryd.func14, Tryd.ntmps14
  go_wp2
  go_end0
  exact ⟨rfl, rfl⟩

/-- What stands in s while known's log is taken back. -/
def knV (r : List Bk) : Value := match r with
  | [] => .string ⟨#[98, 97]⟩
  | [_] => .string ⟨#[98]⟩
  | _ => .string ⟨#[]⟩

set_option maxHeartbeats 4000000 in
theorem known16_calls (w : World) : Calls Tryd.prog 4 #[] w fun e w' => e = .returned (.bool true) ∧ Up w w' := by
  have hmf : ∀ (fn : Fn) (first cap : Array Value) (w : World), (Instr.makeFunc fn first cap).run Tryd.prog w = .ok (.func fn first cap) w := fun _ _ _ _ => rfl
  go_enter Tryd.func4, Tryd.ntmps4
  go_wp2_with fail
  go_at_call 5
  refine (udNew_calls w).mono ?_
  rintro _ w1 ⟨rfl, hl1, hu1⟩
  have hTsz : w.heap.size < w1.heap.size := hl1.old.1
  generalize hT : w.heap.size = T at hl1 hTsz ⊢
  have HL1 := hide hl1
  clear hl1
  go_wp2_with fail
  generalize hB : w1.heap.size = B at *
  have hTB : ¬ B = T := by omega
  have hWB : (w1.alloc (.cells #[.string ⟨#[]⟩] 9)).cell? ⟨B, 0, none⟩ = some (.string ⟨#[]⟩) := by rw [← hB]; go_simp
  have hWf : (w1.alloc (.cells #[.string ⟨#[]⟩] 9)).frozen? ⟨B, 0, none⟩ = false := by rw [← hB]; simp
  have hWu : Up w (w1.alloc (.cells #[.string ⟨#[]⟩] 9)) := hu1.alloc _
  have hWl : LogAt T [] (w1.alloc (.cells #[.string ⟨#[]⟩] 9)) := HL1.out.up ((Up.refl _).alloc _)
  have HU0 : Hid (w.heap.size ≤ T ∧ w.heap.size ≤ B) := hide ⟨by omega, by omega⟩
  generalize w1.alloc (.cells #[.string ⟨#[]⟩] 9) = W at *
  have HW := hide (⟨hWB, hWf, hWu, hWl⟩ : _ ∧ _ ∧ _ ∧ _)
  clear hu1 hWB hWf hWu hWl HL1 hB hT hTsz
  go_at_call 6
  refine (udAdd_calls T [] _ _ W HW.out.2.2.2 (by simp)).mono ?_
  rintro _ w2 ⟨rfl, hl2, hc2, hs2⟩
  have HL2 := hide (⟨hl2, hc2, hs2⟩ : _ ∧ _ ∧ _)
  clear hl2 hc2 hs2
  go_wp2_with fail
  go_at_call 6
  refine (udAdd_calls T _ _ _ w2 HL2.out.1 (by simp)).mono ?_
  rintro _ w3 ⟨rfl, hl3, hc3, hs3⟩
  have hBW : B < W.heap.size := World.block_lt_of_cell? W ⟨B, 0, none⟩ HW.out.1
  have hB2 := HL2.out.2.1.cell (p := ⟨B, 0, none⟩) HW.out.1 hTB
  have hB3 := hc3.cell (p := ⟨B, 0, none⟩) hB2 hTB
  have hf3 : w3.frozen? ⟨B, 0, none⟩ = false := (hc3.frozen (p := ⟨B, 0, none⟩) (World.block_lt_of_cell? _ _ hB2) hTB).trans ((HL2.out.2.1.frozen (p := ⟨B, 0, none⟩) hBW hTB).trans HW.out.2.1)
  have hback := udBack_box T B _ 0 knV w3 hl3 (Nat.zero_le _) hTB hB3 hf3 (by
      intro k hk
      have h1 : w2.heap.size = W.heap.size + 1 := HL2.out.2.2
      rcases List.mem_cons.1 hk with rfl | hk
      · show ¬ w2.heap.size = B; omega
      · rcases List.mem_cons.1 hk with rfl | hk
        · show ¬ W.heap.size = B; omega
        · cases hk) (by
      intro k hk w'
      rcases List.mem_cons.1 hk with rfl | hk
      · rfl
      · rcases List.mem_cons.1 hk with rfl | hk
        · rfl
        · cases hk) (by
      rintro k r W' ⟨p, hp⟩ _ hc hfz
      match p, hp with
      | [], hp =>
        simp only [List.nil_append, List.cons.injEq] at hp
        obtain ⟨rfl, rfl⟩ := hp
        exact known_b B W' hc hfz
      | [q], hp =>
        simp only [List.cons_append, List.nil_append, List.cons.injEq] at hp
        obtain ⟨rfl, rfl, rfl⟩ := hp
        exact known_a B W' hc hfz
      | q :: q' :: p, hp => simp at hp)
  have HL3 := hide hl3
  have HB := hide hback
  have HC3 := hide hc3
  clear hl3 hback hB3 hf3 hB2 hc3
  go_wp2_with (go_at_call 15; refine (udMark_calls T _ w3 HL3.out).mono ?_; rintro _ wm ⟨rfl, hwm⟩; obtain rfl : w3 = wm := hwm.symm)
  go_at_call 16
  refine HB.out.mono ?_
  rintro _ w4 ⟨rfl, hl4, hj4⟩
  have hc4 : w4.cell? ⟨B, 0, none⟩ = some (.string ⟨#[98, 97]⟩) := hj4.at'
  have HL4 : Hid (LogAt T [] w4) := hide hl4
  have HU : Hid (Up w w4) := hide (by
    have h1 := HL2.out.2.1
    have h2 := HC3.out
    have h3 := hj4.chg
    have hsz := HW.out.2.2.1.size
    have a1 : Chg (fun y => y = T ∨ y = B) W w4 := ((h1.mono (fun _ _ h => Or.inl h)).trans h2 (fun _ _ h => .inl h)).trans h3 (fun _ _ h => h)
    exact ((Chg.of_up (C := fun y => y = T ∨ y = B) HW.out.2.2.1).trans a1 (fun _ _ h => h)).up (fun x hx h => by have := HU0.out; omega))
  clear hl4 hj4 HB
  have hnot := udBack_not T [] 1 w4 HL4.out (by decide)
  have hlen := udLen_calls T [] w4 HL4.out
  have HN := hide hnot
  have HLN := hide hlen
  clear hnot hlen
  dsimp only
  go_wp2_with (first | (go_at_call 11; refine HLN.out.mono ?_; rintro _ wm ⟨rfl, hwm⟩; obtain rfl : w4 = wm := hwm.symm) | (go_at_call 16; refine HN.out.mono ?_; rintro _ wm ⟨rfl, hwm⟩; obtain rfl : w4 = wm := hwm.symm))
  go_ret
  exact ⟨rfl, HU.out⟩

end Go.Proofs.YtobalfckdknbdaaDoor

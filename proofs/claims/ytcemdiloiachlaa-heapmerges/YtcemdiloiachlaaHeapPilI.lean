/-
  Heaps of runs of items: what the landed methods Len, Less, Swap, Pop of them do, as their text runs; such a heap is one that container/heap can be handed.
-/
import Derived.Test.YtcemdiloiachlaaHeapRunI
import Derived.Test.YtcemdiloiachlaaHeapCells
namespace Go.Proofs.Ytcemdiloiachlaa
open Go.ChangeShapes Go.WideShapes Go.ChangeAt Go.RowKit
set_option linter.unusedVariables false
attribute [local go_sem] run_store_func

abbrev StI := St (E := ETI) RowOkI
theorem rowI (C : Nat → Prop) (w w' : World) (r : RunM ETI) (h : RowOkI w r) (hc : Chg C w w') (hn : ¬ C r.blk) : RowOkI w' r := h.chg hc hn
theorem methI_len0 (p : Nat) (w : World) : (method 214 81 (.pointer (some ⟨p, 0, none⟩)) "Len").run Try.prog w = (do let v ← load ⟨p, 0, none⟩; pure (51, v) : Sem (FuncId × Value)).run Try.prog w := by kernel_rfl
theorem methI_less0 (p : Nat) (w : World) : (method 214 81 (.pointer (some ⟨p, 0, none⟩)) "Less").run Try.prog w = (do let v ← load ⟨p, 0, none⟩; pure (52, v) : Sem (FuncId × Value)).run Try.prog w := by kernel_rfl
theorem methI_swap0 (p : Nat) (w : World) : (method 214 81 (.pointer (some ⟨p, 0, none⟩)) "Swap").run Try.prog w = (do let v ← load ⟨p, 0, none⟩; pure (53, v) : Sem (FuncId × Value)).run Try.prog w := by kernel_rfl
theorem methI_pop (p : Nat) (w : World) : (method 214 81 (.pointer (some ⟨p, 0, none⟩)) "Pop").run Try.prog w = .ok (69, .pointer (some ⟨p, 0, none⟩)) w := by kernel_rfl
theorem methI_ahead (v : Value) (w : World) : (method 214 60 v "rialto/heaps.ahead").run Try.prog w = .ok (54, v) w := by kernel_rfl
theorem methI_len (p n c : Nat) (a : Option Addr) (w : World) (h : w.cell? ⟨p, 0, none⟩ = some (.slice a n c)) : Meth 81 (.pointer (some ⟨p, 0, none⟩)) "Len" w 51 (.slice a n c) :=
  ⟨by rw [methI_len0]; simp [go_sem, h], fun _ _ => by kernel_rfl⟩
theorem methI_less (p n c : Nat) (a : Option Addr) (w : World) (h : w.cell? ⟨p, 0, none⟩ = some (.slice a n c)) : Meth 81 (.pointer (some ⟨p, 0, none⟩)) "Less" w 52 (.slice a n c) :=
  ⟨by rw [methI_less0]; simp [go_sem, h], fun _ _ => by kernel_rfl⟩
theorem methI_swap (p n c : Nat) (a : Option Addr) (w : World) (h : w.cell? ⟨p, 0, none⟩ = some (.slice a n c)) : Meth 81 (.pointer (some ⟨p, 0, none⟩)) "Swap" w 53 (.slice a n c) :=
  ⟨by rw [methI_swap0]; simp [go_sem, h], fun _ _ => by kernel_rfl⟩

theorem lenI_calls (a : Option Addr) (n c : Nat) (w : World) : Calls Try.prog 51 #[.slice a n c] w fun e w' => e = .returned (.int .i64 n) ∧ w' = w := by
  go_enter Try.func51, Try.ntmps51
  go_wp2
  go_ret
  exact ⟨rfl, rfl⟩

set_option maxRecDepth 20000 in
set_option maxHeartbeats 8000000 in
theorem lessI_calls (fb : FuncId) (rk : ETI → Int) (hB : BeforeI fb rk) (b i j n cap : Nat) (r s : RunM ETI) (w : World) (hi : i < n) (hj : j < n) (hn : n ≤ cap) (hc : n ≤ 1000000 ∧ cap ≤ maxLen)
    (hr : RunAt fb w b i r) (hs : RunAt fb w b j s) (or : RowOkI w r) (os : RowOkI w s) (r0 : 0 < r.rest.length) (s0 : 0 < s.rest.length) :
    Calls Try.prog 52 #[.slice (some ⟨b, 0, none⟩) n cap, .int .i64 i, .int .i64 j] w fun e w' => e = .returned (.bool (aheadM rk eZeroI r s)) ∧ Up w w' := by
  obtain ⟨a0, a1, a2⟩ := hr
  obtain ⟨b0, b1, b2⟩ := hs
  unfold restV at a0 b0
  have OR := hide or
  have OS := hide os
  have HB := hide hB
  have R0 := hide r0
  have S0 := hide s0
  clear or os hB r0 s0
  have hm := methI_ahead
  go_enter Try.func52, Try.ntmps52
  go_wp2_with fail
  refine region_up (by kernel_rfl) (by kernel_rfl) ?_
  repeat (first
    | go_big_quiet_skip
    | (go_big_quiet_want; go_big_quiet_op; go_big_quiet_on)
    | (go_big_quiet_want
       apply Exists.intro
       refine ⟨fun w' hw' => ?_, ?_⟩
       (skip
        have a0 := hw'.cell a0
        have a1 := hw'.cell a1
        have a2 := hw'.cell a2
        have b0 := hw'.cell b0
        have b1 := hw'.cell b1
        have b2 := hw'.cell b2
        go_simp
        first
        | done
        | with_reducible rfl
        | (go_at_call 54; exact quiet_call hw' (aheadI_calls fb rk HB.out r s _ R0.out S0.out (OR.out.up hw') (OS.out.up hw')))
       )
       go_big_quiet_on
       try simp only [Act.put, List.setIfInBounds_toArray, List.set_cons_zero, List.set_cons_succ]))
  intro w2 hu2
  go_wp2
  go_ret
  exact ⟨rfl, hu2⟩

set_option maxRecDepth 20000 in
set_option maxHeartbeats 8000000 in
theorem swapI_ne (fb : FuncId) (b i j n cap : Nat) (r s : RunM ETI) (w : World) (hij : ¬ i = j) (hi : i < n) (hj : j < n) (hn : n ≤ cap) (hc : n ≤ 1000000 ∧ cap ≤ maxLen)
    (hr : RunAt fb w b i r) (hs : RunAt fb w b j s) (hf : ∀ o, w.frozen? ⟨b, o, none⟩ = false) :
    Calls Try.prog 53 #[.slice (some ⟨b, 0, none⟩) n cap, .int .i64 i, .int .i64 j] w fun e w' => e = .returned (.tuple #[]) ∧ w' = (set3 (set3 w b (i * 3) (restV s) (.int .i64 s.list) (.func (.func fb) #[] #[])) b (j * 3) (restV r) (.int .i64 r.list) (.func (.func fb) #[] #[])).drew := by
  obtain ⟨a0, a1, a2⟩ := hr
  obtain ⟨b0, b1, b2⟩ := hs
  unfold restV at a0 b0
  have g0 := hf (i * 3)
  have g1 := hf (i * 3 + 1)
  have g2 := hf (i * 3 + 2)
  have g3 := hf (j * 3)
  have g4 := hf (j * 3 + 1)
  have g5 := hf (j * 3 + 2)
  clear hf
  go_enter Try.func53, Try.ntmps53
  go_wp2
  go_region
  all_goals (go_end0; refine ⟨rfl, ?_⟩; unfold set3 restV; with_reducible rfl)

set_option maxRecDepth 20000 in
set_option maxHeartbeats 8000000 in
theorem swapI_same (fb : FuncId) (b n cap : Nat) (r : RunM ETI) (w : World) (hi : 0 < n) (hn : n ≤ cap) (hc : n ≤ 1000000 ∧ cap ≤ maxLen)
    (hr : RunAt fb w b 0 r) (hf : ∀ o, w.frozen? ⟨b, o, none⟩ = false) :
    Calls Try.prog 53 #[.slice (some ⟨b, 0, none⟩) n cap, .int .i64 0, .int .i64 0] w fun e w' => e = .returned (.tuple #[]) ∧ w' = (set3 (set3 w b 0 (restV r) (.int .i64 r.list) (.func (.func fb) #[] #[])) b 0 (restV r) (.int .i64 r.list) (.func (.func fb) #[] #[])).drew := by
  obtain ⟨a0, a1, a2⟩ := hr
  unfold restV at a0
  rw [Nat.zero_mul] at a0 a1 a2
  have g0 := hf 0
  have g1 := hf 1
  have g2 := hf 2
  clear hf
  go_enter Try.func53, Try.ntmps53
  go_wp2
  go_region
  all_goals (go_end0; refine ⟨rfl, ?_⟩; unfold set3 restV; with_reducible rfl)

set_option maxRecDepth 20000 in
set_option maxHeartbeats 8000000 in
theorem popI_calls (fb : FuncId) (p b n cap : Nat) (xs : List (RunM ETI)) (w : World) (hN : xs.length = n + 1) (h : StI fb p b cap w xs) :
    Calls Try.prog 69 #[.pointer (some ⟨p, 0, none⟩)] w fun e w' => (∃ x, e = .returned x) ∧ StI fb p b cap w' (xs.take n) ∧ Chg (PB p b) w w' := by
  have hlt := h.lt (by omega)
  obtain ⟨a, hc, ha⟩ := h.cell
  obtain rfl := ha (by omega)
  obtain ⟨a0, a1, a2⟩ := h.runs n (by omega)
  have hfp := h.frozenP
  have hcap := h.small.1
  have hlen := h.len
  rw [hN] at hc hlen hcap
  have H := hide h
  have HN := hide hN
  unfold restV at a0
  clear h ha hN
  obtain ⟨r, hr⟩ : ∃ r, r = xs.getD n zeroM := ⟨_, rfl⟩
  rw [← hr] at a0 a1
  clear hr
  have hne : ¬ p = b := by have h1 := HN.out; have h2 := H.out.ne (by omega); omega
  have hne2 : ¬ p = w.heap.size := by omega
  have hne3 : ¬ b = w.heap.size := by omega
  go_enter Try.func69, Try.ntmps69
  go_wp2
  go_ret
  obtain ⟨h1, h2⟩ := H.out.cut rowI HN.out _ _ rfl
  exact ⟨⟨_, rfl⟩, h1, h2⟩

/-- Such a heap can be handed to container/heap. -/
theorem pileI (fb : FuncId) (rk : ETI → Int) (hB : BeforeI fb rk) (p b cap : Nat) : Pile zeroM (aheadM rk eZeroI) (fun r => 0 < r.rest.length) 81 (.pointer (some ⟨p, 0, none⟩)) (PB p b) (StI fb p b cap) where
  len w xs h := by
    obtain ⟨a, hc, _⟩ := h.cell
    exact ⟨_, _, methI_len p _ _ _ w hc, lenI_calls _ _ _ w⟩
  less w xs i j h hi hj oi oj := by
    obtain ⟨a, hc, ha⟩ := h.cell
    obtain rfl := ha (by omega)
    exact ⟨_, _, methI_less p _ _ _ w hc, lessI_calls fb rk hB b i j _ _ _ _ w hi hj h.len h.small (h.runs i hi) (h.runs j hj) (h.rows i hi).1 (h.rows j hj).1 oi oj⟩
  swap w xs i j h hi hj hij := by
    obtain ⟨a, hc, ha⟩ := h.cell
    obtain rfl := ha (by omega)
    refine ⟨_, _, methI_swap p _ _ _ w hc, ?_⟩
    rcases hij with hij | ⟨rfl, rfl⟩
    · refine (swapI_ne fb b i j _ _ _ _ w hij hi hj h.len h.small (h.runs i hi) (h.runs j hj) (h.frozenB (by omega))).mono ?_
      rintro e w' ⟨h1, h2⟩
      exact ⟨h1, h.swapped rowI hi hj w' h2⟩
    · refine (swapI_same fb b _ _ _ w hi h.len h.small (h.runs 0 hi) (h.frozenB hi)).mono ?_
      rintro e w' ⟨h1, h2⟩
      exact ⟨h1, h.swapped rowI hi hj w' (by rw [Nat.zero_mul]; exact h2)⟩
  up w w' xs h hu := h.up rowI hu
  small w xs h := h.small.1
theorem poppedI (fb : FuncId) (p b cap : Nat) (w : World) (ys : List (RunM ETI)) (h : StI fb p b cap w ys) (h0 : 0 < ys.length) :
    ∃ f r, Meth 81 (.pointer (some ⟨p, 0, none⟩)) "Pop" w f r ∧ Calls Try.prog f #[r] w fun e w' => (∃ x, e = .returned x) ∧ StI fb p b cap w' (ys.take (ys.length - 1)) ∧ Chg (PB p b) w w' := by
  obtain ⟨n, hn⟩ : ∃ n, ys.length = n + 1 := ⟨ys.length - 1, by omega⟩
  rw [show ys.length - 1 = n by omega]
  exact ⟨_, _, ⟨methI_pop p w, fun _ _ => by kernel_rfl⟩, popI_calls fb p b n cap ys w hn h⟩

end Go.Proofs.Ytcemdiloiachlaa

/-
  The library's choosePivot at a row of slots.
-/
import Derived.Test.YtmbniakobhaomaaBySrV
namespace Go.Proofs.Ytmbniakobhaomaa
open Go.ChangeShapes Go.WideShapes Go.ChangeAt Go.RowKit
open Go.Sort (swp order2 median medianAdjacent choosePivot Hint)
set_option linter.unusedVariables false

def hintN : Hint → Int
  | .unknown => 0
  | .increasing => 1
  | .decreasing => 2
def hintOf (s : Nat) : Hint := if s = 0 then .increasing else if s = 12 then .decreasing else .unknown
theorem CntW.start {W0 wr : World} {g n : Nat} {ok : Int → Prop} {d : Array Int} (h : SrtB W0 g ok n d wr) (hg : g < W0.heap.size) (t : TypeId) : CntW W0 g ok n d wr.heap.size 0 (wr.alloc (.cells #[.int .i64 0] t)) := by
  have hsz := h.chg.size
  have hu : Up wr (wr.alloc (.cells #[.int .i64 0] t)) := (Up.refl _).alloc _
  refine ⟨⟨h.size, h.ok, h.chg.alloc _, fun i hi => hu.cell (h.cell i hi), fun i hi => ?_⟩, by simp, by simp, hsz, by omega⟩
  rw [hu.frozen (p := ⟨g, i, none⟩) (by show g < _; omega)]
  exact h.froz i hi

set_option maxRecDepth 20000 in
set_option maxHeartbeats 16000000 in
theorem choose_calls (g cap n a L : Nat) (W0 : World) (ok : Int → Prop) (d : Array Int) (w : World) (hs : SrtB W0 g ok n d w) (hg : g < W0.heap.size) (hL : 12 < L) (hb : a + L ≤ n) (hn : n ≤ 100000) :
    Calls Try.prog 61 #[.slice (some ⟨g, 0, none⟩) n cap, .int .i64 a, .int .i64 ((a + L : Nat) : Int)] w fun e w' => e = .returned (.tuple #[.int .i64 (choosePivot ltB d a (a + L)).1, .int .i64 (hintN (choosePivot ltB d a (a + L)).2)]) ∧ SrtB W0 g ok n d w' := by
  --P0
  have HS := hide hs
  clear hs
  have hc1 : choosePivot ltB d a (a + L) = if L ≥ 50 then ((median ltB d (medianAdjacent ltB d (a + L / 4) 0).1 (medianAdjacent ltB d (a + L / 4 * 2) (medianAdjacent ltB d (a + L / 4) 0).2).1 (medianAdjacent ltB d (a + L / 4 * 3) (medianAdjacent ltB d (a + L / 4 * 2) (medianAdjacent ltB d (a + L / 4) 0).2).2).1 (medianAdjacent ltB d (a + L / 4 * 3) (medianAdjacent ltB d (a + L / 4 * 2) (medianAdjacent ltB d (a + L / 4) 0).2).2).2).1, hintOf (median ltB d (medianAdjacent ltB d (a + L / 4) 0).1 (medianAdjacent ltB d (a + L / 4 * 2) (medianAdjacent ltB d (a + L / 4) 0).2).1 (medianAdjacent ltB d (a + L / 4 * 3) (medianAdjacent ltB d (a + L / 4 * 2) (medianAdjacent ltB d (a + L / 4) 0).2).2).1 (medianAdjacent ltB d (a + L / 4 * 3) (medianAdjacent ltB d (a + L / 4 * 2) (medianAdjacent ltB d (a + L / 4) 0).2).2).2).2)
      else ((median ltB d (a + L / 4) (a + L / 4 * 2) (a + L / 4 * 3) 0).1, hintOf (median ltB d (a + L / 4) (a + L / 4 * 2) (a + L / 4 * 3) 0).2) := by
    unfold choosePivot hintOf
    simp only [Nat.add_sub_cancel_left, Nat.mul_one]
    rw [if_pos (by omega)]
    by_cases h : L ≥ 50
    · simp only [if_pos h]
    · simp only [if_neg h]
  --P1
  rw [hc1]
  clear hc1
  obtain ⟨Q, hQ⟩ : ∃ Q, Q = L / 4 := ⟨_, rfl⟩
  rw [← hQ]
  have hQ1 : 4 * Q ≤ L := by omega
  have hQ2 : 3 ≤ Q := by omega
  have hQz2 : (L : Int) / 4 = Q := by omega
  have hQz : (L : Int).tdiv 4 = Q := by rw [Int.tdiv_eq_ediv_of_nonneg (by omega)]; omega
  obtain ⟨b, hbL⟩ : ∃ b, b = a + L := ⟨_, rfl⟩
  rw [← hbL]
  have eL : ((b : Int) - (a : Int)) = L := by omega
  clear hQ
  have fin : ∀ (m s : Nat) (w9 : World), CntW W0 g ok n d w.heap.size s w9 → True := fun _ _ _ _ => trivial
  clear fin
  have st := hide (CntW.start HS.out hg 3)
  --P2
  by_cases h50 : L ≥ 50
  · rw [if_pos h50]
    have t5 : decide ((L : Int) ≥ 50) = true := decide_eq_true (by omega)
    have t8 : decide ((L : Int) ≥ 8) = true := decide_eq_true (by omega)
    obtain ⟨q1, hq1⟩ : ∃ q1, q1 + 1 = a + Q := ⟨a + Q - 1, by omega⟩
    obtain ⟨q2, hq2⟩ : ∃ q2, q2 + 1 = a + Q * 2 := ⟨a + Q * 2 - 1, by omega⟩
    obtain ⟨q3, hq3⟩ : ∃ q3, q3 + 1 = a + Q * 3 := ⟨a + Q * 3 - 1, by omega⟩
    have c1 := hide (medianAdj_calls g cap n q1 w.heap.size 0 W0 ok d _ st.out (by omega) hn (by omega))
    rw [hq1] at c1
    generalize medianAdjacent ltB d (a + Q) 0 = m1 at *
    obtain ⟨m1, s1⟩ := m1
    have c2 : Hid (∀ w', s1 ≤ 990 → CntW W0 g ok n d w.heap.size s1 w' → _) := fun w' h9 h => medianAdj_calls g cap n q2 w.heap.size s1 W0 ok d w' h (by omega) hn h9
    rw [hq2] at c2
    simp only at c1 c2 ⊢
    generalize medianAdjacent ltB d (a + Q * 2) s1 = m2 at *
    obtain ⟨m2, s2⟩ := m2
    have c3 : Hid (∀ w', s2 ≤ 990 → CntW W0 g ok n d w.heap.size s2 w' → _) := fun w' h9 h => medianAdj_calls g cap n q3 w.heap.size s2 W0 ok d w' h (by omega) hn h9
    rw [hq3] at c3
    simp only at c2 c3 ⊢
    generalize medianAdjacent ltB d (a + Q * 3) s2 = m3 at *
    obtain ⟨m3, s3⟩ := m3
    have c4 : Hid (∀ w', m1 < n → m2 < n → m3 < n → s3 ≤ 990 → CntW W0 g ok n d w.heap.size s3 w' → _) := fun w' h6 h7 h8 h9 h => median_calls g cap n m1 m2 m3 w.heap.size s3 W0 ok d w' h h6 h7 h8 hn h9
    simp only at c3 c4 ⊢
    generalize median ltB d m1 m2 m3 s3 = m4 at *
    obtain ⟨m4, s4⟩ := m4
    simp only at c4 ⊢
    rw [show ((a + Q : Nat) : Int) = (a : Int) + Q by omega] at c1
    rw [show ((a + Q * 2 : Nat) : Int) = (a : Int) + Q * 2 by omega] at c2
    rw [show ((a + Q * 3 : Nat) : Int) = (a : Int) + Q * 3 by omega] at c3
    clear HS st hbL hq1 hq2 hq3
    --Q1
    go_enter Try.func61, Try.ntmps61
    go_wp2_with fail
    go_at_call 73
    refine c1.out.mono ?_
    rintro _ w1 ⟨rfl, h1, b1, d1⟩
    have H1 := hide h1
    clear h1 c1
    go_wp2_with fail
    go_at_call 73
    refine (c2.out w1 (by omega) H1.out).mono ?_
    rintro _ w2 ⟨rfl, h2, b2, d2⟩
    have H2 := hide h2
    clear h2 c2 H1
    go_wp2_with fail
    go_at_call 73
    refine (c3.out w2 (by omega) H2.out).mono ?_
    rintro _ w3 ⟨rfl, h3, b3, d3⟩
    have H3 := hide h3
    clear h3 c3 H2
    go_wp2_with fail
    go_at_call 74
    refine (c4.out w3 b1 b2 b3 (by omega) H3.out).mono ?_
    rintro _ w4 ⟨rfl, h4, b4, d4⟩
    have cc := h4.cnt
    have H1 := hide h4
    clear h4 c4 H3
    --Q2
    by_cases s0 : s4 = 0
    · subst s0
      go_wp2
      go_ret2
      exact ⟨rfl, H1.out.srt⟩
    · by_cases s42 : s4 = 12
      · subst s42
        go_wp2
        go_ret2
        exact ⟨rfl, H1.out.srt⟩
      · have hh : Hid (hintN (hintOf s4) = 0) := by
          show _ = _
          unfold hintOf
          rw [if_neg s0, if_neg s42]
          rfl
        have u1 : ((s4 : Int) == 0) = false := by simp; omega
        have u2 : ((s4 : Int) == 12) = false := by simp; omega
        go_wp2
        go_ret2
        exact ⟨by show Ending.returned (.tuple #[.int .i64 m4, .int .i64 0]) = _; rw [hh.out], H1.out.srt⟩
  · rw [if_neg h50]
    have t5 : decide ((L : Int) ≥ 50) = false := decide_eq_false (by omega)
    have t8 : decide ((L : Int) ≥ 8) = true := decide_eq_true (by omega)
    have c1 := hide (median_calls g cap n (a + Q) (a + Q * 2) (a + Q * 3) w.heap.size 0 W0 ok d _ st.out (by omega) (by omega) (by omega) hn (by omega))
    generalize median ltB d (a + Q) (a + Q * 2) (a + Q * 3) 0 = m1 at *
    obtain ⟨m1, s1⟩ := m1
    simp only at c1 ⊢
    rw [show ((a + Q : Nat) : Int) = (a : Int) + Q by omega, show ((a + Q * 2 : Nat) : Int) = (a : Int) + Q * 2 by omega, show ((a + Q * 3 : Nat) : Int) = (a : Int) + Q * 3 by omega] at c1
    --P3
    clear HS st hbL
    go_enter Try.func61, Try.ntmps61
    go_wp2_with fail
    go_at_call 74
    --P4
    refine c1.out.mono ?_
    rintro _ w1 ⟨rfl, h1, h2, h3⟩
    have cc := h1.cnt
    have H1 := hide h1
    clear h1 c1
    --P5
    by_cases s0 : s1 = 0
    · subst s0
      go_wp2
      go_ret2
      exact ⟨rfl, H1.out.srt⟩
    · by_cases s12 : s1 = 12
      · subst s12
        go_wp2
        go_ret2
        exact ⟨rfl, H1.out.srt⟩
      · have hh : Hid (hintN (hintOf s1) = 0) := by
          show _ = _
          unfold hintOf
          rw [if_neg s0, if_neg s12]
          rfl
        have u1 : ((s1 : Int) == 0) = false := by simp; omega
        have u2 : ((s1 : Int) == 12) = false := by simp; omega
        go_wp2
        go_ret2
        exact ⟨by show Ending.returned (.tuple #[.int .i64 m1, .int .i64 0]) = _; rw [hh.out], H1.out.srt⟩

end Go.Proofs.Ytmbniakobhaomaa

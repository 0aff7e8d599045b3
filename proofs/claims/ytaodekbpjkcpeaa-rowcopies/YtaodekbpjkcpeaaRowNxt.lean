/-
  The landed store's SetNext, and the greatest number that it looks for, as their text runs.
-/
import Derived.Test.YtaodekbpjkcpeaaRowEra
import Derived.Test.YtaodekbpjkcpeaaRowNew
import Derived.Maps.RangeWalk
namespace Go.Proofs.Ytaodekbpjkcpeaa
open Go.ChangeShapes Go.WideShapes Go.ChangeAt Go.RowKit Go.Maps
set_option linter.unusedVariables false
attribute [local go_sem ↓] Go.wp_at_zero Go.wp_at_succ
attribute [local go_sem] run_store_float

theorem up_grown {w w0 w' : World} {r : Nat} (h : Up w w0) (hg : w0.grownBy w' (some r)) (hr : w.heap.size ≤ r) : Up w w' :=
  h.thenChg (C := fun y => y = r) ⟨⟨hg.os, hg.tape, hg.output, hg.size, fun k hk => absurd hk (Nat.not_lt_zero k)⟩, fun y hy hn => hg.block y hy (fun e => hn (Option.some.inj e))⟩ (fun x hx (e : x = r) => by omega)
theorem up_grown0 {w w' : World} (hg : w.grownBy w' none) : Up w w' := ⟨hg.os, hg.tape, hg.output, hg.size, fun y hy => hg.block y hy (by simp)⟩

/-- The greatest of those that have come. -/
def GreatR (f : Int → Option Nat) (left : Lit → Bool) (g : Int) : Prop := (∀ x s, f x = some s → left (.int .i64 x) = false → x ≤ g) ∧ (g = 0 ∨ ∃ s, f g = some s) ∧ 0 ≤ g

set_option maxRecDepth 100000 in
set_option maxHeartbeats 8000000 in
theorem greatest_calls (p n cnt : Nat) (O : Nat → Prop) (next wr : Int) (R : Int → Option RD) (w : World) (h : Sto p O w n next wr R cnt) :
    Calls Try.prog 45 #[.pointer (some ⟨p, 0, none⟩)] w fun e w' => ∃ g, e = .returned (.int .i64 g) ∧ (∀ x d, R x = some d → x ≤ g) ∧ (g = 0 ∨ ∃ d, R g = some d) ∧ Up w w' := by
  obtain ⟨h0, V, S, M, b, f, xs, h1, h2, h3, h4⟩ := h
  have c1 := h1.c1
  obtain ⟨D, hown, hsz, hat⟩ := h1.map
  have hpos : Hid (∀ x s, f x = some s → 1 ≤ x) := fun x s hx => by obtain ⟨d, hd, _⟩ := h2 x s hx; exact (h3.ids x d hd).1
  have hR : Hid (∀ g, (∀ x s, f x = some s → x ≤ g) → (g = 0 ∨ ∃ s, f g = some s) → (∀ x d, R x = some d → x ≤ g) ∧ (g = 0 ∨ ∃ d, R g = some d)) := fun g q1 q2 => by
    refine ⟨fun x d hx => ?_, q2.imp id (fun ⟨s, hs⟩ => by obtain ⟨d, hd, _⟩ := h2 g s hs; exact ⟨d, hd⟩)⟩
    cases hf : f x with
    | none => rw [(h3.non x).1 hf] at hx; cases hx
    | some s => exact q1 x s hf
  have HAT := hide hat
  clear h0 h1 h2 h3 h4 hsz hat
  go_enter Try.func45, Try.ntmps45
  go_wp2_with (first
    | (at_range; refine wpList_range_own _ rfl _ 70 rfl 2 3 law64 Try.underlying70 _ M cnt _ rfl hown ?_; intro w0 hrg0 hg0 hs0)
    | go_in)
  go_frame
  have HU0 := hide (up_grown0 hg0)
  have HRG := hide hrg0
  clear hg0 hs0 hrg0
  go_loopw [3] (fun u wr => ∃ (left : Lit → Bool) (c : Nat) (g : Int), wr.ranges Try.prog 2 (plainElem Try.prog 3) M w.heap.size cnt D left c ∧ .int .i64 g = u ∧ Hid (GreatR f left g) ∧ Hid (Up w wr))
    (fun _ wr => wr.rangeLeft M w.heap.size)
  case atStart => exact ⟨_, _, 0, HRG.out, rfl, ⟨fun x s hx hl => (by rw [(HAT.out x).1, hx] at hl; cases hl), .inl rfl, Int.le_refl _⟩, HU0.out⟩
  case round =>
    clear HRG HU0
    obtain ⟨left, c, g, hrg, rfl, hG, hu⟩ := hrel
    go_wp2_with (first
      | (at_next; refine wpList_next_ranges_ii _ rfl _ rfl 2 3 .i64 .i64 law64 Try.underlying2 Try.underlying3 M w.heap.size cnt _ _ _ rfl hrg ?_ ?_)
      | go_in)
    · intro _ hl0
      go_wp2
      go_ret
      obtain ⟨q1, q2⟩ := hR.out g (fun x s hx => hG.out.1 x s hx (hl0 _)) hG.out.2.1
      exact ⟨g, rfl, q1, q2, hu.out⟩
    · intro x y w1 c1' hwx hwc hlx hax hrg1 hlt hg1 hs1 hen
      have hfx : ∃ s, f x = some s := by
        have h5 := (HAT.out x).1
        rw [has_true_of_atKey hax] at h5
        cases hf : f x with
        | none => rw [hf] at h5; cases h5
        | some s => exact ⟨s, rfl⟩
      have HF := hide hfx
      have HU1 := hide (up_grown hu.out hg1 (Nat.le_refl _))
      have HRG1 := hide hrg1
      have HEQ := hide (show w1.rangeLeft M w.heap.size < wr.rangeLeft M w.heap.size by rw [hrg1.left_eq, hrg.left_eq]; exact hlt)
      clear hs1 hg1 hrg1 hlt hfx hwx hwc hax hrg
      go_wp2
      go_roundw
      case rel =>
        refine ⟨_, _, max g x, HRG1.out, rfl, ⟨fun z s hz hl => ?_, ?_, ?_⟩, HU1.out⟩
        · by_cases e : z = x
          · omega
          · have hne : Lit.int .i64 z ≠ Lit.int .i64 x := fun q => e (by cases q; rfl)
            simp only [sameKey_ne hne] at hl
            have := hG.out.1 z s hz (by simpa using hl)
            omega
        · by_cases e : g ≤ x
          · rw [Int.max_eq_right e]; exact .inr HF.out
          · rw [Int.max_eq_left (by omega)]; exact hG.out.2.1
        · have := hG.out.2.2
          omega
      case measure => exact HEQ.out

set_option maxRecDepth 20000 in
set_option maxHeartbeats 8000000 in
theorem setNext_out (p n cnt : Nat) (O : Nat → Prop) (next wr x : Int) (R : Int → Option RD) (w : World) (h : Sto p O w n next wr R cnt) (hx : x < 1 ∨ 4611686018427387904 < x ∨ ∃ y d, R y = some d ∧ x ≤ y) :
    Calls Try.prog 25 #[.pointer (some ⟨p, 0, none⟩), .int .i64 x] w fun e w' => e = .returned (.int .i64 72) ∧ Up w w' := by
  have H := hide h
  clear h
  by_cases h1 : x < 1
  · have t1 : decide (x < 1) = true := decide_eq_true h1
    clear hx
    go_enter Try.func25, Try.ntmps25
    go_wp2
    go_ret
    exact ⟨rfl, Up.refl _⟩
  · have t1 : decide (x < 1) = false := decide_eq_false h1
    by_cases h2 : 4611686018427387904 < x
    · have t2 : decide (x > 4611686018427387904) = true := decide_eq_true h2
      clear hx
      go_enter Try.func25, Try.ntmps25
      go_wp2
      go_ret
      exact ⟨rfl, Up.refl _⟩
    · have t2 : decide (x > 4611686018427387904) = false := decide_eq_false h2
      have hy : ∃ y d, R y = some d ∧ x ≤ y := by
        rcases hx with hx | hx | hx
        · exact absurd hx h1
        · exact absurd hx h2
        · exact hx
      have HY := hide hy
      clear hx hy
      go_enter Try.func25, Try.ntmps25
      go_wp2_with fail
      go_at_call 45
      refine (greatest_calls p n cnt O next wr R w H.out).mono ?_
      rintro _ w1 ⟨g, rfl, hg1, hg2, hu⟩
      have t3 : decide (x ≤ g) = true := decide_eq_true (by obtain ⟨y, d, q1, q2⟩ := HY.out; have := hg1 y d q1; omega)
      have HU := hide hu
      clear hg1 hg2 hu
      go_wp2
      go_ret
      exact ⟨rfl, HU.out⟩

set_option maxRecDepth 20000 in
set_option maxHeartbeats 8000000 in
theorem setNext_ok (p n cnt : Nat) (O : Nat → Prop) (next wr x : Int) (R : Int → Option RD) (w : World) (h : Sto p O w n next wr R cnt) (h1 : 1 ≤ x) (h2 : x ≤ 4611686018427387904) (h3 : ∀ y d, R y = some d → y < x) :
    Calls Try.prog 25 #[.pointer (some ⟨p, 0, none⟩), .int .i64 x] w fun e w' => e = .returned (.int .i64 0) ∧ Sto p O w' n x wr R cnt ∧ Chg O w w' := by
  have t1 : decide (x < 1) = false := decide_eq_false (by omega)
  have t2 : decide (x > 4611686018427387904) = false := decide_eq_false (by omega)
  have H := hide h
  have H3 := hide h3
  clear h h3
  go_enter Try.func25, Try.ntmps25
  go_wp2_with fail
  go_at_call 45
  refine (greatest_calls p n cnt O next wr R w H.out).mono ?_
  rintro _ w1 ⟨g, rfl, hg1, hg2, hu⟩
  have t3 : decide (x ≤ g) = false := decide_eq_false (by
    rcases hg2 with rfl | ⟨d, hd⟩
    · omega
    · have := H3.out g d hd; omega)
  have hs1 := H.out.up hu
  obtain ⟨c3, f3⟩ := hs1.next
  obtain ⟨q1, q2⟩ := hs1.renext x (fun y d hy => H3.out y d hy) (by omega)
  have Q1 := hide q1
  have Q2 := hide ((Chg.of_up (C := O) hu).trans q2 (fun _ _ h => h))
  clear hg1 hg2 hu hs1 q1 q2
  go_wp2
  go_ret
  exact ⟨rfl, Q1.out, Q2.out⟩

end Go.Proofs.Ytaodekbpjkcpeaa

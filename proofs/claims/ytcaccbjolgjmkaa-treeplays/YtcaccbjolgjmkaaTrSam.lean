/-
  same of rialtolaw11, as its text runs: of two rows with the same numbers it tells true.
-/
import Derived.Test.YtcaccbjolgjmkaaTrSli
namespace Go.Proofs.Ytcaccbjolgjmkaa
open Go.ChangeShapes Go.WideShapes Go.ChangeAt Go.RowKit
set_option linter.unusedVariables false
set_option maxRecDepth 100000
attribute [local go_sem ↓] Go.wp_at_zero Go.wp_at_succ

set_option maxHeartbeats 4000000 in
theorem same11_calls (X Y : Nat → Prop) (v u : Value) (l : List Int) (w : World) (h1 : Rd (Value.int .i64) X w v l) (h2 : Rd (Value.int .i64) Y w u l) (hl : l.length ≤ 1000000) :
    Calls Try.prog 15 #[v, u] w fun e w' => e = .returned (.bool true) ∧ Up w w' := by
  obtain ⟨a1, n1, c1, rfl, hn1, -⟩ := h1.sliceN
  obtain ⟨a2, n2, c2, rfl, hn2, -⟩ := h2.sliceN
  obtain rfl : n1 = n2 := by rw [hn1.out, hn2.out]
  have H1 := hide h1
  have H2 := hide h2
  have hn6 : n1 ≤ 1000000 := by rw [hn1.out]; exact hl
  have HN : Hid (n1 = l.length) := hn1
  clear h1 h2 hl hn1 hn2
  go_enter Try.func15, Try.ntmps15
  go_wp2_with fail
  go_loopw [5] (fun iv wr => ∃ i : Nat, i ≤ n1 ∧ iv = .int .i64 i ∧ Hid (Up w wr)) (fun iv _ => n1 - (intOf iv).toNat)
  case atStart => exact ⟨0, Nat.zero_le _, rfl, Up.refl _⟩
  case round =>
    obtain ⟨i, hi, rfl, hu⟩ := hrel
    by_cases hlt : i < n1
    · have hlt' : (i : Int) < (n1 : Int) := by omega
      have i0 : (0 : Int) ≤ (i : Int) := by omega
      have hil : i < l.length := by rw [← HN.out]; exact hlt
      obtain ⟨g1, o1, rfl, hg1⟩ := (H1.out.up hu.out).get (i := i) hil
      obtain ⟨g2, o2, rfl, hg2⟩ := (H2.out.up hu.out).get (i := i) hil
      obtain ⟨x, hx, c1', c2'⟩ : ∃ x, x = l[i] ∧ wr.cell? ⟨g1, o1 + i, none⟩ = some (.int .i64 x) ∧ wr.cell? ⟨g2, o2 + i, none⟩ = some (.int .i64 x) := ⟨l[i], rfl, hg1, hg2⟩
      have e1 : IntKind.i64.wrap ((i : Int) + 1) = (i : Int) + 1 := by rw [IntKind.wrap_i64]; omega
      clear hg1 hg2 hx hil
      go_wp2_with fail
      go_quiet (fail)
      have HU5 := hide (hu.out.drewN nq)
      generalize wr.drewN nq = W5 at *
      go_wp2
      go_roundw
      case rel => exact ⟨i + 1, by omega, by first | rfl | congr 1, HU5⟩
      case measure => simp [intOf]; omega
    · obtain rfl : n1 = i := by omega
      have hlt' : ¬ (n1 : Int) < (n1 : Int) := by omega
      go_wp2
      go_ret
      exact ⟨rfl, hu.out⟩
end Go.Proofs.Ytcaccbjolgjmkaa

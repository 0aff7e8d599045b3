/-
  math/bits.Len of small numbers; slices.SortFunc of one slot, as the library's text runs.
-/
import Derived.Test.YtaodekbpjkcpeaaRowAll
namespace Go.Proofs.Ytaodekbpjkcpeaa
open Go.ChangeShapes Go.WideShapes Go.ChangeAt Go.RowKit
set_option linter.unusedVariables false

set_option maxRecDepth 20000 in
set_option maxHeartbeats 4000000 in
theorem len64_calls (x : Nat) (w : World) (hx : x < 256) : Calls Try.prog 75 #[.int .u64 x] w fun e w' => (∃ r : Nat, r ≤ 255 ∧ e = .returned (.int .i64 r)) ∧ w' = w := by
  have t1 : decide ((x : Int) ≥ 4294967296) = false := decide_eq_false (by omega)
  have t2 : decide ((x : Int) ≥ 65536) = false := decide_eq_false (by omega)
  have t3 : decide ((x : Int) ≥ 256) = false := decide_eq_false (by omega)
  go_enter Try.func75, Try.ntmps75
  go_wp2
  go_ret
  refine ⟨?_, rfl⟩
  have key : ∀ b : UInt8, ∃ r : Nat, r ≤ 255 ∧ Ending.returned (.int .i64 (wrap64 (wrap64 (b.toNat : Int)))) = .returned (.int .i64 r) := fun b => by
    have hb := b.toNat_lt
    have e : wrap64 (b.toNat : Int) = b.toNat := by unfold wrap64; omega
    exact ⟨b.toNat, by omega, by rw [e, e]⟩
  exact key _

set_option maxRecDepth 20000 in
set_option maxHeartbeats 4000000 in
theorem len_calls (x : Nat) (w : World) (hx : x < 256) : Calls Try.prog 61 #[.int .u64 x] w fun e w' => (∃ r : Nat, r ≤ 255 ∧ e = .returned (.int .i64 r)) ∧ w' = w := by
  go_enter Try.func61, Try.ntmps61
  go_wp2_with fail
  go_at_call 75
  refine (len64_calls x w hx).mono ?_
  rintro _ w9 ⟨⟨r, hr, rfl⟩, hw9⟩
  obtain rfl : w = w9 := hw9.symm
  go_wp2
  go_ret
  exact ⟨⟨r, hr, rfl⟩, rfl⟩

set_option maxRecDepth 20000 in
set_option maxHeartbeats 4000000 in
theorem insertion_one (a : Option Addr) (n cap : Nat) (hn : n ≤ 1) (cmp : Value) (w : World) : Calls Try.prog 66 #[.slice a n cap, .int .i64 0, .int .i64 n, cmp] w fun e w' => e = .returned (.tuple #[]) ∧ w' = w := by
  have t1 : decide ((1 : Int) < n) = false := decide_eq_false (by omega)
  go_enter Try.func66, Try.ntmps66
  go_wp2_with fail
  refine wp_loop_rounds 1 ?_
  rw [rounds_succ]
  go_wp2
  go_end0
  exact ⟨rfl, rfl⟩

set_option maxRecDepth 20000 in
set_option maxHeartbeats 4000000 in
theorem pdq_one (a : Option Addr) (n cap r : Nat) (hn : n ≤ 1) (cmp : Value) (w : World) : Calls Try.prog 60 #[.slice a n cap, .int .i64 0, .int .i64 n, .int .i64 r, cmp] w fun e w' => e = .returned (.tuple #[]) ∧ w' = w := by
  have t1 : decide ((n : Int) ≤ 12) = true := decide_eq_true (by omega)
  go_enter Try.func60, Try.ntmps60
  go_wp2_with fail
  refine wp_loop_rounds 1 ?_
  rw [rounds_succ]
  go_wp2_with fail
  go_at_call 66
  refine (insertion_one a n cap hn cmp w).mono ?_
  rintro _ w9 ⟨rfl, hw9⟩
  obtain rfl : w = w9 := hw9.symm
  go_wp2
  (try simp only [Exit.inBlock, Exit.then])
  refine bodyPost_ret (results_none rfl _ _ _) rfl ?_
  exact ⟨rfl, rfl⟩

set_option maxRecDepth 20000 in
set_option maxHeartbeats 4000000 in
theorem sort_one (p : Nat) (idOf : Int → Int) (w : World) (base : Nat) (v : Value) (ss : List Int) (hl : ss.length ≤ 1) (ho : OwnI w base v ss) : SortC p idOf w base v ss := by
  unfold SortC
  obtain ⟨a, cap, rfl⟩ := ho.slice
  have hpw : Hid (ss.Pairwise (fun a b => idOf a < idOf b)) := by
    match ss, hl with
    | [], _ => exact List.Pairwise.nil
    | [x], _ => exact List.pairwise_singleton _ _
    | _ :: _ :: _, h => simp at h
  have HO := hide ho
  clear ho
  generalize hN : ss.length = N at *
  have ew : IntKind.u64.wrap (N : Int) = N := by simp [IntKind.wrap, IntKind.bits, IntKind.signed]; omega
  go_enter Try.func53, Try.ntmps53
  go_wp2_with fail
  go_at_call 61
  refine (len_calls N w (by omega)).mono ?_
  rintro _ w9 ⟨⟨r, hr, rfl⟩, hw9⟩
  obtain rfl : w = w9 := hw9.symm
  go_wp2_with fail
  go_at_call 60
  refine (pdq_one a N cap r hl _ w).mono ?_
  rintro _ w9 ⟨rfl, hw9⟩
  obtain rfl : w = w9 := hw9.symm
  go_wp2
  go_end0
  exact ⟨rfl, ss, List.Perm.refl _, hpw.out, HO.out, Chg.refl _ _⟩

end Go.Proofs.Ytaodekbpjkcpeaa

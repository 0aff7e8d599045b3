/-
  For every bool and every row of calls the law HashPlays returns true: a hash index behaves as the row of its entries, all of them told behind each call, keys by their bits; no condition.
-/
import Derived.Test.YtofpakpbbpcalaaRows
import Derived.WalkKit
import Derived.ProofKit
import Derived.OpenShut
import Derived.ShutString
import Derived.ChangeOld
import Derived.Below
import Derived.Carry
import Derived.Test.YtofpakpbbpcalaaHpLaz
namespace Go.Proofs.Ytofpakpbbpcalaa
open Go.ChangeShapes Go.WideShapes Go.ChangeAt Go.RowKit
open Go.ChangeMaps (open_string shut_string)
set_option linter.unusedVariables false


theorem hashPlays_own : ownKnob Try.prog.godebug = none := by kernel_rfl
theorem hashPlays_laidOut : laidOutB Try.prog = true := by kernel_rfl

set_option maxHeartbeats 4000000 in
theorem hashPlays_walk (a0 : Bool) (a1 : Option Addr) (len1 cap1 : Nat) (l1 : List ST) (w : World) (w1 : Steps w w a1 len1 l1) :
    Calls Try.prog 3 #[.bool a0, .slice a1 len1 cap1] w fun e w' => e = .returned (.bool true) ∧ Up w w' := by
  by_cases hn : len1 ≤ 80
  · exact hashPlays_few a0 a1 len1 cap1 l1 w hn w1
  · exact hashPlays_many a0 a1 len1 cap1 w hn

set_option maxRecDepth 100000 in
theorem hashPlays_lifted (os : Os) (started : os.Started) (H : Type) (enc : TypeId × Value → H) :
    ReturnsInHanded {} Try.checked os 3 .any (Rows.hashPlaysSpec.pre6 enc Try.prog Try.f3 Rows.hashPlaysRow.domain false) (Rows.hashPlaysSpec.post enc Try.prog Try.f3 false true false false) := by
  refine returnsInHanded_of_change (C := Try.checked) hashPlays_own started (by kernel_rfl) Try.func3
    (ChangeSpec.witness6 (enc := enc) (C := Try.checked) false ⟨#[], #[.bool false, .slice none 0 0], []⟩ 8 (by kernel_rfl) (by kernel_rfl) (by kernel_rfl) (by kernel_rfl)) ?_
  intro W base args ds gs before hval0 hW hcnd _
  have hval : ∀ (j : Nat) t v, Try.f3.params[j]? = some t → args[j]? = some v → Value.okWide Try.prog W .any base t v := hval0
  have hW' := hW
  obtain ⟨p, q, hA0, hV, rfl, hfz, hnd⟩ := hW
  have hA : DataW.TrodAll enc Try.prog W 0 (fun _ => true) true Try.f3.params.toList args.toList ds p := hA0
  rw [Try.params3] at hA hval
  obtain ⟨v0, vs0, d0, ds0, p0, q0, hargs, rfl, rfl, h0, r0⟩ := trodAll_cons hA
  obtain ⟨v1, vs1, d1, ds1, p1, q1, rfl, rfl, rfl, h1, r1⟩ := trodAll_cons r0
  obtain ⟨rfl, rfl, rfl⟩ := trodAll_nil r1
  obtain rfl : args = #[v0, v1] := by cases args; simp_all
  obtain ⟨rfl, rfl⟩ := trodVars_none hV
  have y0 := h0
  have lt0 : ∀ x ∈ p0, x.block < W.heap.size := by obtain ⟨m, hm⟩ := y0; exact DataW.trod_lt m _ _ _ hm
  have y1 := h1
  have lt1 : ∀ x ∈ p1, x.block < W.heap.size := by obtain ⟨m, hm⟩ := y1; exact DataW.trod_lt m _ _ _ hm
  obtain ⟨a0, rfl, _, _⟩ := open_bool Try.underlying4 (hval 0 4 v0 rfl rfl) h0
  obtain ⟨a1, len1, cap1, rfl⟩ := okWide_slice Try.underlying22 (hval 1 22 v1 rfl rfl)
  obtain ⟨l1, -, -, -, w1⟩ := open_steps h1
  clear hA0 hval0
  refine (hashPlays_walk a0 a1 len1 cap1 l1 W w1).mono fun e W' ⟨he, bel⟩ => ?_
  subst he
  exact ⟨_, rfl, _, _, _, [], _, [], hW', trodAll_mk1 (shut_bool Try.underlying4 _), (trodAll_cons_mk (Below.trod hashPlays_laidOut (by kernel_rfl) (of_decide_eq_true (by kernel_rfl)) y0 bel.below lt0) (trodAll_cons_mk (Below.trod hashPlays_laidOut (by kernel_rfl) (of_decide_eq_true (by kernel_rfl)) y1 bel.below lt1) trodAll_mk0)), rfl, bel.below.frame _, fun h => by cases h⟩

theorem hashPlays_over : Rows.hashPlaysRow.holds Try.pinned (OpenSpec.ofChange Rows.hashPlaysSpec) :=
  OpenClaim.holds_of_wide 3 Try.f3 rfl rfl rfl rfl rfl rfl rfl ⟨rfl, rfl, rfl, rfl, rfl⟩ rfl rfl rfl rfl rfl (by kernel_rfl) Try.func3 (by kernel_rfl)
    (of_decide_eq_true (by kernel_rfl)) (by unfold Func.isWrapper; first | (rw [if_pos (by decide +kernel)]; kernel_rfl) | (rw [if_neg (by decide +kernel)]; exact ⟨rfl, rfl⟩))
    (fun os started H enc _ => hashPlays_lifted os started H enc)

theorem hashPlays_proved : Rows.HashPlaysSaid := hashPlays_over
#print axioms hashPlays_proved
end Go.Proofs.Ytofpakpbbpcalaa

/-
  For every row of strings and every row of small numbers the law TrieGone returns true: what is put in and taken out, in whatever order, leaves nothing but a root; no condition.
-/
import Derived.Test.YtmbniakobhaomaaRows
import Derived.WalkKit
import Derived.ProofKit
import Derived.OpenShut
import Derived.ShutString
import Derived.ChangeOld
import Derived.Below
import Derived.Carry
import Derived.Test.YtmbniakobhaomaaTeGow
import Derived.Test.YtmbniakobhaomaaTgOpn
namespace Go.Proofs.Ytmbniakobhaomaa
open Go.ChangeShapes Go.WideShapes Go.ChangeAt Go.RowKit
open Go.ChangeMaps (open_string shut_string)
set_option linter.unusedVariables false


theorem trieGone_own : ownKnob Try.prog.godebug = none := by kernel_rfl
theorem trieGone_laidOut : laidOutB Try.prog = true := by kernel_rfl

set_option maxHeartbeats 4000000 in
theorem trieGone_walk (a0 : Option Addr) (len0 cap0 : Nat) (l0 : List ByteArray) (a1 : Option Addr) (len1 cap1 : Nat) (l1 : List Int) (w : World) (w0 : l0.length = len0 ∧ Rd Value.string (fun _ => False) w (.slice a0 len0 cap0) l0 ∧ ∀ x ∈ l0, x.size ≤ maxLen) (w1 : l1.length = len1 ∧ Rd (Value.int .u8) (fun _ => False) w (.slice a1 len1 cap1) l1 ∧ ∀ x ∈ l1, 0 ≤ x ∧ x ≤ 255) :
    Calls Try.prog 6 #[.slice a0 len0 cap0, .slice a1 len1 cap1] w fun e w' => e = .returned (.bool true) ∧ Up w w' := by
  by_cases hn : len0 ≤ 30
  · exact trieGone_few a0 len0 cap0 l0 a1 len1 cap1 l1 w w0.1 w0.2.1 w0.2.2 w1.1 w1.2.1 w1.2.2 hn
  · exact trieGone_many a0 len0 cap0 (.slice a1 len1 cap1) w hn

set_option maxRecDepth 100000 in
theorem trieGone_lifted (os : Os) (started : os.Started) (H : Type) (enc : TypeId × Value → H) :
    ReturnsInHanded {} Try.checked os 6 .any (Rows.trieGoneSpec.pre6 enc Try.prog Try.f6 Rows.trieGoneRow.domain false) (Rows.trieGoneSpec.post enc Try.prog Try.f6 false true false false) := by
  refine returnsInHanded_of_change (C := Try.checked) trieGone_own started (by kernel_rfl) Try.func6
    (ChangeSpec.witness6 (enc := enc) (C := Try.checked) false ⟨#[], #[.slice none 0 0, .slice none 0 0], []⟩ 8 (by kernel_rfl) (by kernel_rfl) (by kernel_rfl) (by kernel_rfl)) ?_
  intro W base args ds gs before hval0 hW hcnd _
  have hval : ∀ (j : Nat) t v, Try.f6.params[j]? = some t → args[j]? = some v → Value.okWide Try.prog W .any base t v := hval0
  have hW' := hW
  obtain ⟨p, q, hA0, hV, rfl, hfz, hnd⟩ := hW
  have hA : DataW.TrodAll enc Try.prog W 0 (fun _ => true) true Try.f6.params.toList args.toList ds p := hA0
  rw [Try.params6] at hA hval
  obtain ⟨v0, vs0, d0, ds0, p0, q0, hargs, rfl, rfl, h0, r0⟩ := trodAll_cons hA
  obtain ⟨v1, vs1, d1, ds1, p1, q1, rfl, rfl, rfl, h1, r1⟩ := trodAll_cons r0
  obtain ⟨rfl, rfl, rfl⟩ := trodAll_nil r1
  obtain rfl : args = #[v0, v1] := by cases args; simp_all
  obtain ⟨rfl, rfl⟩ := trodVars_none hV
  have y0 := h0
  have lt0 : ∀ x ∈ p0, x.block < W.heap.size := by obtain ⟨m, hm⟩ := y0; exact DataW.trod_lt m _ _ _ hm
  have y1 := h1
  have lt1 : ∀ x ∈ p1, x.block < W.heap.size := by obtain ⟨m, hm⟩ := y1; exact DataW.trod_lt m _ _ _ hm
  obtain ⟨a0, len0, cap0, rfl⟩ := okWide_slice Try.underlying22 (hval 0 22 v0 rfl rfl)
  obtain ⟨l0, w0⟩ := open_strR h0
  obtain ⟨a1, len1, cap1, rfl⟩ := okWide_slice Try.underlying52 (hval 1 52 v1 rfl rfl)
  obtain ⟨l1, w1⟩ := open_u8R h1
  clear hA0 hval0
  refine (trieGone_walk a0 len0 cap0 l0 a1 len1 cap1 l1 W w0 w1).mono fun e W' ⟨he, bel⟩ => ?_
  subst he
  exact ⟨_, rfl, _, _, _, [], _, [], hW', trodAll_mk1 (shut_bool Try.underlying4 _), (trodAll_cons_mk (Below.trod trieGone_laidOut (by kernel_rfl) (of_decide_eq_true (by kernel_rfl)) y0 bel.below lt0) (trodAll_cons_mk (Below.trod trieGone_laidOut (by kernel_rfl) (of_decide_eq_true (by kernel_rfl)) y1 bel.below lt1) trodAll_mk0)), rfl, bel.below.frame _, fun h => by cases h⟩

theorem trieGone_over : Rows.trieGoneRow.holds Try.pinned (OpenSpec.ofChange Rows.trieGoneSpec) :=
  OpenClaim.holds_of_wide 6 Try.f6 rfl rfl rfl rfl rfl rfl rfl ⟨rfl, rfl, rfl, rfl, rfl⟩ rfl rfl rfl rfl rfl (by kernel_rfl) Try.func6 (by kernel_rfl)
    (of_decide_eq_true (by kernel_rfl)) (by unfold Func.isWrapper; first | (rw [if_pos (by decide +kernel)]; kernel_rfl) | (rw [if_neg (by decide +kernel)]; exact ⟨rfl, rfl⟩))
    (fun os started H enc _ => trieGone_lifted os started H enc)

theorem trieGone_proved : Rows.TrieGoneSaid := trieGone_over
#print axioms trieGone_proved
end Go.Proofs.Ytmbniakobhaomaa

/-
  What the statements' own example answers (known), as its text runs; rows of few bytes in a block of their own.
-/
import Derived.Test.YtlhaohioolagoaaCodeGet
import Derived.Test.YtlhaohioolagoaaCodePutL
import Derived.Test.YtlhaohioolagoaaNewVals
namespace Go.Proofs.Ytlhaohioolagoaa
open Go.ChangeShapes Go.WideShapes Go.ChangeAt Go.RowKit
attribute [local go_sem ↓] Go.wp_at_zero Go.wp_at_succ
attribute [local go_sem] run_store_float

theorem sl_new2 (w : World) (x y : UInt8) (t : TypeId) : Sl (w.alloc (.cells #[.int .u8 (x.toNat : Int), .int .u8 (y.toNat : Int)] t)) (.slice (some ⟨w.heap.size, 0, none⟩) 2 2) [x, y] := by
  refine ⟨_, _, rfl, Nat.le_refl _, by decide, rfl, .inr ⟨_, _, rfl, fun i hi => ?_⟩⟩
  match i, hi with
  | 0, _ => simp
  | 1, _ => simp

theorem known_put : putL [((3 : Int), (0 : Int), (⟨#[97]⟩ : ByteArray), (0 : Nat))] = [3, 97, 0, 1] := by decide +kernel
theorem known_is : [((3 : Int), (0 : Int), (⟨#[97]⟩ : ByteArray), (0 : Nat))].all isB = true := by decide +kernel
theorem known_none : getL [3, 97] = none := by decide +kernel
theorem known_some : (getL [3, 97, 0, 1]).isSome = true := by decide +kernel

/-- What is known of a row that Put wrote. -/
theorem putPost_good {w w' : World} {l : List VT} {no : Int} {e : Ending} (h : PutPost w l no e w') (hl : l.all isB = true) : Up w w' ∧ ∃ v, e = .returned (.tuple #[v, .int .i64 0]) ∧ Own w' w.heap.size v (putL l) := by
  refine ⟨h.1, ?_⟩
  rcases h.2 with ⟨_, h⟩ | ⟨h, _⟩
  · exact h
  · rw [hl] at h; cases h

set_option maxHeartbeats 4000000 in
theorem known_calls (w : World) : Calls Try.prog 8 #[] w fun e w' => e = .returned (.bool true) ∧ Up w w' := by
  go_enter Try.func8, Try.ntmps8
  go_wp2_with fail
  go_at_call 10
  refine (put_calls _ _ _ _ _ (by decide) (vals_new1 w 3 0 ⟨#[97]⟩ 0 _ (by refine ⟨by decide, by decide, by decide, by decide, by decide, by decide⟩))).mono ?_
  intro e1 w1 h1
  obtain ⟨hu1, v1, rfl, ho1⟩ := putPost_good h1 known_is
  rw [known_put] at ho1
  have HU := hide (((Up.refl w).alloc _).trans hu1)
  replace ho1 := hide ho1
  clear h1 hu1
  go_wp2_with fail
  go_at_call 12
  refine (get_calls _ _ _ (by decide) (sl_new2 w1 3 97 _)).mono ?_
  rintro _ w2 ⟨hu2, ⟨m, v, hm, _⟩ | ⟨_, rfl⟩⟩
  · rw [known_none] at hm; cases hm
  have hu12 := ((Up.refl w1).alloc _).trans hu2
  replace ho1 := hide (ho1.out.up hu12)
  replace HU := hide (HU.out.trans hu12)
  have hcv := ho1.out.conv
  have hks := known_some
  clear hu2 hu12
  go_wp2_with fail
  go_at_call 15
  refine (whole_calls _ _ _ (by decide) ho1.out.sl).mono ?_
  rintro _ w3 ⟨rfl, hu3⟩
  replace HU := hide (HU.out.trans hu3)
  clear hu3
  go_wp2
  go_ret
  exact ⟨rfl, HU.out⟩

end Go.Proofs.Ytlhaohioolagoaa

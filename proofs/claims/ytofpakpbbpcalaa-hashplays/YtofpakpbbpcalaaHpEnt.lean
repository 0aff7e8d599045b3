/-
  Two rows of entries that are the same: Entries of the statements' help.
-/
import Derived.Test.YtofpakpbbpcalaaHpFnd
import Derived.Test.YtofpakpbbpcalaaHaHlp
import Derived.Test.YtofpakpbbpcalaaQuietUp
import Derived.BigQuiet
import Derived.Deep.QuietTactic
namespace Go.Proofs.Ytofpakpbbpcalaa
open Go.ChangeShapes Go.WideShapes Go.ChangeAt Go.RowKit
set_option linter.unusedVariables false

set_option maxHeartbeats 4000000 in
theorem ents_calls (a b : Option Addr) (cap cap2 : Nat) (k k2 : List ET) (es : List EN) (O O2 : Nat → Prop) (w : World) (hr : RdE w a k) (he : EntR O w k es) (hr2 : RdE w b k2) (he2 : EntR O2 w k2 es) (hn : k.length ≤ 1000000) :
    Calls Try.prog 19 #[.slice a k.length cap, .slice b k2.length cap2] w fun e w' => e = .returned (.bool true) ∧ Up w w' := by
  have hll : k2.length = k.length := he2.1.trans he.1.symm
  have HR := hide hr
  have HE := hide he
  have HR2 := hide hr2
  have HE2 := hide he2
  have HLL := hide hll
  rw [hll]
  clear hr he hr2 he2 hll
  go_enter Try.func19, Try.ntmps19
  go_wp2_with fail
  go_loopw [5] (fun iu wr => ∃ i : Nat, iu = .int .i64 i ∧ i ≤ k.length ∧ Up w wr) (fun iu _ => k.length - (intOf iu).toNat)
  case atStart => exact ⟨0, rfl, Nat.zero_le _, Up.refl _⟩
  case round =>
    obtain ⟨i, rfl, hi, hu⟩ := hrel
    have HU := hide hu
    clear hu
    by_cases hlt : i < k.length
    · obtain ⟨g, rfl, hcells⟩ : ∃ g, a = some ⟨g, 0, none⟩ ∧ ∀ (i : Nat) (x : ET), k[i]? = some x → EAt w g (i * 2) x := by
        rcases HR.out with h | h
        · rw [h] at hlt; exact absurd hlt (Nat.not_lt_zero i)
        · exact h
      have hlt2 : i < k2.length := by rw [HLL.out]; exact hlt
      obtain ⟨g2, rfl, hcells2⟩ : ∃ g, b = some ⟨g, 0, none⟩ ∧ ∀ (i : Nat) (x : ET), k2[i]? = some x → EAt w g (i * 2) x := by
        rcases HR2.out with h | h
        · rw [h] at hlt2; exact absurd hlt2 (Nat.not_lt_zero i)
        · exact h
      have hx := List.getElem?_eq_getElem hlt
      have hx2 := List.getElem?_eq_getElem hlt2
      have hei : i < es.length := by rw [← HE.out.1]; exact hlt
      have hee := List.getElem?_eq_getElem hei
      generalize k[i] = x at hx
      generalize k2[i] = x2 at hx2
      generalize es[i] = e at hee
      obtain ⟨y0, y1⟩ := hcells i x hx
      obtain ⟨y2, y3⟩ := hcells2 i x2 hx2
      obtain ⟨hid, hxc, hxm, hxv⟩ := HE.out.2 i x e hx hee
      obtain ⟨hid2, hxc2, hxm2, hxv2⟩ := HE2.out.2 i x2 e hx2 hee
      obtain ⟨xa, xn, xc, xi⟩ := x
      obtain ⟨xa2, xn2, xc2, xi2⟩ := x2
      obtain ⟨ek, ei⟩ := e
      simp only at y0 y1 y2 y3 hid hxc hxm hxv hid2 hxc2 hxm2 hxv2
      obtain rfl : xi = ei := hid
      obtain rfl : xi = xi2 := hid2.symm
      replace y0 := HU.out.cell y0
      replace y1 := HU.out.cell y1
      replace y2 := HU.out.cell y2
      replace y3 := HU.out.cell y3
      have hcm : Hid (∀ w', Up wr w' → Calls Try.prog 23 #[.slice xa xn xc, .slice xa2 xn2 xc2] w' fun e w'' => e = .returned (.bool true) ∧ Up w' w'') := fun w' hw => (vals_calls xa xa2 xn xn2 xc xc2 ek ek w' (by omega) (by omega) (hxv.1.up (HU.out.trans hw)) (hxv2.1.up (HU.out.trans hw))).mono (fun e w'' h => ⟨by rw [h.1]; simp, h.2⟩)
      have t1 : decide ((i : Int) < k.length) = true := decide_eq_true (by omega)
      have t2 : (xi != xi) = false := by simp
      have z1 : (i : Int) < k.length := by omega
      have z0 : (0 : Int) ≤ (i : Int) := by omega
      clear hcells hcells2 hx hx2 hee hxv hxv2
      go_wp2_with fail
      refine region_up (by kernel_rfl) (by kernel_rfl) ?_
      repeat (first
        | go_big_quiet_skip
        | (go_big_quiet_want; go_big_quiet_op; go_big_quiet_on)
        | (go_big_quiet_want
           apply Exists.intro
           refine ⟨fun w' hw' => ?_, ?_⟩
           (skip
            have y0 := hw'.cell y0
            have y1 := hw'.cell y1
            have y2 := hw'.cell y2
            have y3 := hw'.cell y3
            go_simp
            first
            | done
            | with_reducible rfl
            | (go_at_call 23; exact quiet_call hw' (hcm.out w' hw')))
           go_big_quiet_on
           try simp only [Act.put, List.setIfInBounds_toArray, List.set_cons_zero, List.set_cons_succ]))
      refine wpQuiet_nil ?_
      intro w6 hw6
      have HU6 := hide (HU.out.trans hw6)
      clear hw6 hcm y0 y1 y2 y3
      go_wp2
      go_roundw
      case rel => exact ⟨i + 1, by go_num, by omega, HU6.out⟩
      case measure => simp [intOf]; omega
    · have t1 : decide ((i : Int) < k.length) = false := decide_eq_false (by omega)
      go_wp2
      go_ret
      exact ⟨rfl, HU.out⟩

end Go.Proofs.Ytofpakpbbpcalaa

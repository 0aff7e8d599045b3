/-
  The library's ordered sort at bytes: which worlds it passes through; the comparison.
-/
import Derived.Test.YtmbniakobhaomaaHaIds
import Derived.Test.YtmbniakobhaomaaQuietUp
import Derived.Sort.AssemblyPlain
import Derived.Deep.QuietTactic
import Derived.BigQuiet
import Derived.BigRegion
namespace Go.Proofs.Ytmbniakobhaomaa
open Go.ChangeShapes Go.WideShapes Go.ChangeAt Go.RowKit
open Go.Sort (swp insInner insOuter)
set_option linter.unusedVariables false

def ltB (x y : Int) : Bool := decide (x < y)
theorem ltB_swo : Go.Sort.SWO ltB := ⟨fun x => by simp [ltB], fun x y z h1 h2 => by simp [ltB] at *; omega, fun x y z h1 h2 => by simp [ltB] at *; omega⟩
theorem nanB_calls (x : Int) (w : World) : Calls Try.prog 75 #[.int .u8 x] w fun e w' => e = .returned (.bool false) ∧ w' = w := by
  go_enter Try.func75, Try.ntmps75
  go_wp2
  go_ret
  exact ⟨by simp, rfl⟩
theorem lessB_calls (x y : Int) (w : World) : Calls Try.prog 64 #[.int .u8 x, .int .u8 y] w fun e w' => e = .returned (.bool (ltB x y)) ∧ ∃ m, w' = w.drewN m := by
  go_enter Try.func64, Try.ntmps64
  go_wp2_with (go_at_call 75; refine (nanB_calls x _).mono ?_; rintro _ _ ⟨rfl, rfl⟩)
  go_ret
  exact ⟨rfl, 0, rfl⟩
/-- A world that the sort passes through. -/
structure SrtB (W0 : World) (g : Nat) (ok : Int → Prop) (n : Nat) (d : Array Int) (wr : World) : Prop where
  size : d.size = n
  ok : ∀ i, i < n → ok d[i]!
  chg : Chg (fun x => x = g) W0 wr
  cell : ∀ i, i < n → wr.cell? ⟨g, i, none⟩ = some (.int .u8 d[i]!)
  froz : ∀ i, i < n → wr.frozen? ⟨g, i, none⟩ = false
theorem swp_size (d : Array Int) (i j : Nat) : (swp d i j).size = d.size := by simp [swp]
theorem swp_at (d : Array Int) {i j k : Nat} (hi : i < d.size) (hj : j < d.size) (hk : k < d.size) : (swp d i j)[k]! = if k = j then d[i]! else if k = i then d[j]! else d[k]! := by
  unfold swp
  simp only [getElem!_def, Array.getElem?_setIfInBounds, Array.size_setIfInBounds]
  by_cases h1 : j = k
  · subst h1; simp [hj]
  · by_cases h2 : i = k
    · subst h2; simp [h1, hi, Ne.symm h1]
    · simp [h1, h2, Ne.symm h1, Ne.symm h2]
theorem SrtB.drewN {W0 wr : World} {g n : Nat} {ok : Int → Prop} {d : Array Int} (h : SrtB W0 g ok n d wr) (q : Nat) : SrtB W0 g ok n d (wr.drewN q) :=
  ⟨h.size, h.ok, h.chg.andUp ((Up.refl _).drewN _), fun i hi => h.cell i hi, fun i hi => h.froz i hi⟩
theorem SrtB.drew {W0 wr : World} {g n : Nat} {ok : Int → Prop} {d : Array Int} (h : SrtB W0 g ok n d wr) : SrtB W0 g ok n d wr.drew := h.drewN 1
theorem SrtB.swap {W0 wr : World} {g n : Nat} {ok : Int → Prop} {d : Array Int} (h : SrtB W0 g ok n d wr) {i j : Nat} (hi : i < n) (hj : j < n) : SrtB W0 g ok n (swp d i j) ((wr.setCell ⟨g, i, none⟩ (.int .u8 d[j]!)).setCell ⟨g, j, none⟩ (.int .u8 d[i]!)) := by
  have hs := h.size
  refine ⟨by rw [swp_size]; exact hs, fun k hk => ?_, (h.chg.set (p := ⟨g, i, none⟩) (fun _ => rfl) _).set (p := ⟨g, j, none⟩) (fun _ => rfl) _, fun k hk => ?_, fun k hk => ?_⟩
  · rw [swp_at d (by omega) (by omega) (by omega)]
    split
    · exact h.ok i hi
    · split
      · exact h.ok j hj
      · exact h.ok k hk
  · rw [swp_at d (by omega) (by omega) (by omega)]
    have c1 : ∃ u, (wr.setCell ⟨g, i, none⟩ (.int .u8 d[j]!)).cell? ⟨g, j, none⟩ = some u := by
      by_cases e : i = j
      · subst e; exact ⟨_, World.cell?_setCell_same _ _ _ (h.cell i hi)⟩
      · exact ⟨_, (World.cell?_setCell_other _ _ _ _ (by intro e'; simp only [Addr.mk.injEq] at e'; omega)).trans (h.cell j hj)⟩
    obtain ⟨u, hu⟩ := c1
    by_cases e1 : k = j
    · subst e1; rw [if_pos rfl]; exact World.cell?_setCell_same _ _ _ hu
    · rw [if_neg e1, World.cell?_setCell_other _ _ _ _ (by intro e'; simp only [Addr.mk.injEq] at e'; omega)]
      by_cases e2 : k = i
      · subst e2; rw [if_pos rfl]; exact World.cell?_setCell_same _ _ _ (h.cell k hk)
      · rw [if_neg e2, World.cell?_setCell_other _ _ _ _ (by intro e'; simp only [Addr.mk.injEq] at e'; omega)]
        exact h.cell k hk
  · rw [World.frozen?_setCell, World.frozen?_setCell]; exact h.froz k hk

end Go.Proofs.Ytmbniakobhaomaa

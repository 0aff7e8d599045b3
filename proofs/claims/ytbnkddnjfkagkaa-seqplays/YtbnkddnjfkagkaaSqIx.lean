/-
  An index over a list with marks (sequences, positions): its own cell and the list. No function of the program.
-/
import Derived.Test.YtbnkddnjfkagkaaPlSw2
namespace Go.Proofs.Ytbnkddnjfkagkaa
open Go.ChangeShapes Go.WideShapes Go.ChangeAt Go.RowKit
set_option linter.unusedVariables false
set_option maxRecDepth 100000
attribute [local go_sem ↓] Go.wp_at_zero Go.wp_at_succ

/-- An index: its block q leads to a list with marks; Y: blocks that others write into. -/
structure SqIx (Y : Nat → Prop) (q T M : Nat) (xs : List Int) (h n : Nat) (f : Int → Option Nat) (w : World) : Prop where
  ex : ∃ p, w.cell? ⟨q, 0, none⟩ = some (.pointer (some ⟨p, 0, none⟩)) ∧ PlIx Y p T M xs h n f w
  qT : q ≠ T
  qM : q ≠ M
  yq : ¬ Y q
variable {Y : Nat → Prop} {p q T M : Nat} {xs zs : List Int} {h n h' n' : Nat} {f f' : Int → Option Nat} {w w' : World}
theorem SqIx.ok (i : SqIx Y q T M xs h n f w) : SqOk xs f := by obtain ⟨_, _, ix⟩ := i.ex; exact ix.ok
theorem SqIx.ltT (i : SqIx Y q T M xs h n f w) : T < w.heap.size := by obtain ⟨_, _, ix⟩ := i.ex; exact ix.tr.tr.lt
theorem SqIx.ltM (i : SqIx Y q T M xs h n f w) : M < w.heap.size := by obtain ⟨_, _, ix⟩ := i.ex; exact ix.mp.lt
theorem SqIx.up (i : SqIx Y q T M xs h n f w) (hu : Up w w') : SqIx Y q T M xs h n f w' := by
  obtain ⟨p, c, ix⟩ := i.ex
  exact ⟨⟨p, hu.cell c, ix.up hu⟩, i.qT, i.qM, i.yq⟩
/-- Something of Y was written into. -/
theorem SqIx.other {C : Nat → Prop} (i : SqIx Y q T M xs h n f w) (hc : Chg C w w') (hC : ∀ y, C y → Y y) : SqIx Y q T M xs h n f w' := by
  obtain ⟨p, c, ix⟩ := i.ex
  exact ⟨⟨p, hc.cell c (fun e => i.yq (hC _ e)), ix.other hc hC⟩, i.qT, i.qM, i.yq⟩
/-- New blocks that others write into. -/
theorem SqIx.wide (i : SqIx Y q T M xs h n f w) (hu : Up w w') {Z : Nat → Prop} (hZ : ∀ y, Z y → w.heap.size ≤ y ∧ y < w'.heap.size) : SqIx (fun y => Y y ∨ Z y) q T M xs h n f w' := by
  obtain ⟨p, c, ix⟩ := i.ex
  refine ⟨⟨p, hu.cell c, ix.wide hu hZ⟩, i.qT, i.qM, fun e => ?_⟩
  rcases e with e | e
  · exact i.yq e
  · have h1 := World.block_lt_of_cell? w _ c
    have h2 := hZ _ e
    have h3 : q < w.heap.size := h1
    omega
/-- Fewer blocks that others write into. -/
theorem SqIx.narrow {Y' : Nat → Prop} (i : SqIx Y q T M xs h n f w) (hY : ∀ y, Y' y → Y y) : SqIx Y' q T M xs h n f w := by
  obtain ⟨p, c, ix⟩ := i.ex
  exact ⟨⟨p, c, ix.narrow hY⟩, i.qT, i.qM, fun e => i.yq (hY _ e)⟩
/-- What a change leaves: at most K nodes more were written. -/
def SqDone (Y : Nat → Prop) (q T M : Nat) (zs : List Int) (n K : Nat) (w w' : World) : Prop := ∃ h' k f', SqIx Y q T M zs h' (n + k) f' w' ∧ k ≤ K ∧ Chg (TM T M) w w'
theorem SqDone.of {K : Nat} (c : w.cell? ⟨q, 0, none⟩ = some (.pointer (some ⟨p, 0, none⟩))) (qT : q ≠ T) (qM : q ≠ M) (yq : ¬ Y q) (d : PlDone Y p T M zs n K w w') : SqDone Y q T M zs n K w w' := by
  obtain ⟨h', k, f', ix, hk, hc⟩ := d
  exact ⟨h', k, f', ⟨⟨p, hc.cell c (fun e => by rcases e with e | e <;> first | exact qT e | exact qM e), ix⟩, qT, qM, yq⟩, hk, hc⟩
theorem SqDone.after {K : Nat} {w0 : World} (hu : Up w0 w) (d : SqDone Y q T M zs n K w w') : SqDone Y q T M zs n K w0 w' := by
  obtain ⟨h', k, f', i, hk, hc⟩ := d
  exact ⟨h', k, f', i, hk, (Chg.of_up (C := TM T M) hu).trans hc (fun _ _ h => h)⟩
theorem SqDone.same {K : Nat} (i : SqIx Y q T M xs h n f w) (hu : Up w w') : SqDone Y q T M xs n K w w' := ⟨h, 0, f, i.up hu, Nat.zero_le _, Chg.of_up hu⟩
theorem insL_last {α : Type} (v : α) (l : List α) : insL v l l.length = l ++ [v] := by
  unfold insL
  rw [List.take_of_length_le (Nat.le_refl _), List.drop_eq_nil_of_le (Nat.le_refl _)]
end Go.Proofs.Ytbnkddnjfkagkaa

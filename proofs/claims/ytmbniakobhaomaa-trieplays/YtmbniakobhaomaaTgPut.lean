/-
  append at a step of a region that draws its order, onto a row of the call's own.
-/
import Derived.Test.YtmbniakobhaomaaTgRow
import Derived.Test.YtmbniakobhaomaaCalls
import Derived.Deep.RegionLaw
namespace Go.Proofs.Ytmbniakobhaomaa
open Go.ChangeShapes Go.WideShapes Go.ChangeAt Go.RowKit
set_option linter.unusedVariables false
set_option maxRecDepth 100000

theorem elemL : ElemT (α := Int) Try.prog 34 2 (Value.int .i64) (.int .i64 0) 8 where
  ht := Try.underlying34
  hi := by kernel_rfl
  hb := by decide
  one := fun _ => rfl
  zc := rfl
  zo := rfl

theorem elemS : ElemT (α := ByteArray) Try.prog 22 9 Value.string (.string ⟨#[]⟩) 16 where
  ht := Try.underlying22
  hi := by kernel_rfl
  hb := by decide
  one := fun _ => rfl
  zc := rfl
  zo := rfl

/-- OwnR grows: a row that a call owns since W. -/
theorem own_below {α : Type} {e : TypeId} {enc : α → Value} {W w w' : World} {v : Value} {l : List α} (hu : Up W w) (ho : OwnR e enc w W.heap.size v l) (hg : w.grownBy w' v.ownBlock) : Up W w' :=
  Below.grown hu.below hg hu.size (fun k hk => (ho.lt k hk).1)
theorem step_append_row {α : Type} {P : Program} {t e : TypeId} {enc : α → Value} {z : Value} {bytes : Nat} (T : ElemT P t e enc z bytes) {X : Nat → Prop} {W w : World} {ops : Array Oper} {o : Oper} {a : Act} {K : Act → World → Prop} {Q : Exit → Act → World → Prop} {E : Prop}
    (hg : o.guard = none) (s x : Operand) (hop : o.op = .call { callee := .builtin .append, args := #[s, x], argTypes := #[t, t] }) (v u : Value) (l m : List α) (hd : a.eval s = v) (hx : a.eval x = u)
    (hu : Up W w) (hown : OwnR e enc w W.heap.size v l) (hr : Rd enc X w u m) (hlen : l.length + m.length ≤ 10000000)
    (hK : ∀ v' w', OwnR e enc w' W.heap.size v' (l ++ m) → Up W w' → K (a.put o.dst v') w') :
    if Region.wanted o (yielded ops a.tmps) = true then Oper.wp P o a w K Q else E := by
  obtain ⟨v', w', hrun, h2, h3, _⟩ := run_append_rd T w W.heap.size v u l m o.type hown hr hlen hu.size
  exact step_append_run hg s x t hop v u hd hx hrun (hK v' w' h2 (own_below hu hown h3))
theorem Rd.drop1 {α : Type} {enc : α → Value} {X : Nat → Prop} {w : World} {a : Option Addr} {n cap : Nat} {l : List α} (h : Rd enc X w (.slice a n cap) l) {m : Nat} (hm : m ≤ n) :
    Rd enc X w (.slice (if cap = m then a else Option.map (fun x => x.add m) a) (n - m) (cap - m)) (l.drop m) := by
  have := h.drop hm
  rw [Nat.mul_one] at this
  exact this
theorem rd_one {α : Type} {enc : α → Value} {X : Nat → Prop} {w : World} {g : Nat} {y : α} (hX : ¬ X g) (h : w.cell? ⟨g, 0, none⟩ = some (enc y)) : Rd enc X w (.slice (some ⟨g, 0, none⟩) 1 1) [y] := by
  refine ⟨some ⟨g, 0, none⟩, 1, rfl, Nat.le_refl _, by unfold maxLen; omega, .inr ⟨g, 0, rfl, hX, fun j u hj => ?_⟩⟩
  cases j with
  | zero => simp at hj; subst hj; exact h
  | succ j => simp at hj
theorem step_append_one {α : Type} {P : Program} {t e : TypeId} {enc : α → Value} {z : Value} {bytes : Nat} (T : ElemT P t e enc z bytes) {W w : World} {ops : Array Oper} {o : Oper} {a : Act} {K : Act → World → Prop} {Q : Exit → Act → World → Prop} {E : Prop}
    (hg : o.guard = none) (s x : Operand) (hop : o.op = .call { callee := .builtin .append, args := #[s, x], argTypes := #[t, t] }) (v : Value) (l : List α) (y : α) (g : Nat) (hd : a.eval s = v) (hx : a.eval x = .slice (some ⟨g, 0, none⟩) 1 1)
    (hnew : w.cell? ⟨g, 0, none⟩ = some (enc y)) (hu : Up W w) (hown : OwnR e enc w W.heap.size v l) (hlen : l.length + 1 ≤ 10000000)
    (hK : ∀ v' w', OwnR e enc w' W.heap.size v' (l ++ [y]) → Up W w' → K (a.put o.dst v') w') :
    if Region.wanted o (yielded ops a.tmps) = true then Oper.wp P o a w K Q else E :=
  step_append_row T (X := fun _ => False) hg s x hop v _ l [y] hd hx hu hown (rd_one (fun h => h) hnew) hlen hK
end Go.Proofs.Ytmbniakobhaomaa

/-
  A region that draws its order, whose operations only read and whose callees only make new memory: one walk, in the order of the text, serves every order. The library's theorem at the class of worlds that only grew; no program is named here.
-/
import Derived.Test.YtnokokhbcfkifaaGreatDoorUps
import Derived.BigQuiet
namespace Go.Proofs.YtnokokhbcfkifaaGreatDoor
open Go.RowKit

theorem quiet_take {P : Program} {ops : Array Oper} {C : World → Prop} {Q : Act → Prop} {a : Act} {o : Oper} {rest : List Oper} (v : Value) (hw : Region.wanted o (yielded ops a.tmps) = true)
    (h : ∀ w, C w → o.quietAt P a C w v) (hn : wpQuiet P ops C Q rest (a.put o.dst v)) : wpQuiet P ops C Q (o :: rest) a := by
  unfold wpQuiet
  rw [if_pos hw]
  exact ⟨v, h, hn⟩

theorem quiet_skip {P : Program} {ops : Array Oper} {C : World → Prop} {Q : Act → Prop} {a : Act} {o : Oper} {rest : List Oper} (hw : Region.wanted o (yielded ops a.tmps) = false)
    (hn : wpQuiet P ops C Q rest (a.put o.dst undef)) : wpQuiet P ops C Q (o :: rest) a := by
  unfold wpQuiet
  rw [if_neg (by rw [hw]; exact Bool.false_ne_true)]
  exact hn

/-- The beginning. -/
theorem region_up {P : Program} {id : Nat} {Q : Exit → Act → World → Prop} {a : Act} {w : World} {l : List Oper} (hm : P.follows .mixedOrders = true) (hB : Region.lexB .any l.toArray = true)
    (h : wpQuiet P l.toArray (Up w) (fun a' => ∀ w', Up w w' → Q .normal a' w') l a) : (Code.region id l.toArray true).wp P Q a w :=
  wp_region_quiet (C := Up w) hm hB (Up.refl w).drew (by simpa using h)

theorem quiet_call {P : Program} {f : FuncId} {args : Array Value} {W w' : World} {v : Value} (hu : Up W w') (h : Calls P f args w' fun e w'' => e = .returned v ∧ Up w' w'') : Calls P f args w' fun e w'' => e = .returned v ∧ Up W w'' :=
  h.mono fun _ _ ⟨he, h2⟩ => ⟨he, hu.trans h2⟩
theorem quiet_call_same {P : Program} {f : FuncId} {args : Array Value} {W w' : World} {v : Value} (hu : Up W w') (h : Calls P f args w' fun e w'' => e = .returned v ∧ w'' = w') : Calls P f args w' fun e w'' => e = .returned v ∧ Up W w'' :=
  h.mono fun _ _ ⟨he, h2⟩ => ⟨he, h2 ▸ hu⟩

end Go.Proofs.YtnokokhbcfkifaaGreatDoor

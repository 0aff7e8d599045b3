/-
  Boxes of values, and where a closure stands behind user code.
-/
import Derived.Test.YtnokokhbcfkifaaGreatDoorHookAns
namespace Go.Proofs.YtnokokhbcfkifaaGreatDoor
open Go.ChangeShapes Go.WideShapes Go.ChangeAt Go.RowKit
set_option linter.unusedVariables false
attribute [local go_sem ↓] Go.wp_at_zero Go.wp_at_succ
attribute [local go_sem] run_store_float

/-- A value's box. -/
def Box (w : World) (b : Nat) (v : VT) : Prop := At w b 0 v ∧ ∀ i, w.frozen? ⟨b, i, none⟩ = false
theorem Box.chg {C : Nat → Prop} {w w' : World} {b : Nat} {v : VT} (h : Box w b v) (hc : Chg C w w') (hn : ¬ C b) : Box w' b v :=
  ⟨⟨hc.cell h.1.1 hn, hc.cell h.1.2.1 hn, hc.cell h.1.2.2.1 hn, hc.cell h.1.2.2.2 hn⟩, fun i => (hc.frozen (p := ⟨b, i, none⟩) (World.block_lt_of_cell? w ⟨b, 0, none⟩ h.1.1) hn).trans (h.2 i)⟩
theorem Box.up {w w' : World} {b : Nat} {v : VT} (h : Box w b v) (hu : Up w w') : Box w' b v := h.chg (C := fun _ => False) (Chg.of_up hu) id
theorem Box.new (w : World) (v : VT) (t : TypeId) : Box (w.alloc (.cells #[.int .i64 v.1, .int .i64 v.2.1, .string v.2.2.1, .float .f64 v.2.2.2] t)) w.heap.size v :=
  ⟨⟨by go_simp, by go_simp, by go_simp, by go_simp⟩, fun i => by simp⟩
theorem Box.set {w : World} {b : Nat} {v : VT} (h : Box w b v) (k z : Int) (t : ByteArray) (f : Nat) : Box ((((w.setCell ⟨b, 0, none⟩ (.int .i64 k)).setCell ⟨b, 1, none⟩ (.int .i64 z)).setCell ⟨b, 2, none⟩ (.string t)).setCell ⟨b, 3, none⟩ (.float .f64 f)) b (k, z, t, f) := by
  obtain ⟨⟨h0, h1, h2, h3⟩, hf⟩ := h
  replace h0 : w.cell? ⟨b, 0, none⟩ = some (.int .i64 v.1) := h0
  replace h1 : w.cell? ⟨b, 1, none⟩ = some (.int .i64 v.2.1) := h1
  replace h2 : w.cell? ⟨b, 2, none⟩ = some (.string v.2.2.1) := h2
  replace h3 : w.cell? ⟨b, 3, none⟩ = some (.float .f64 v.2.2.2) := h3
  exact ⟨⟨by go_simp, by go_simp, by go_simp, by go_simp⟩, fun i => by simp only [World.frozen?_setCell]; exact hf i⟩
theorem Box.other {w : World} {b c : Nat} {v : VT} (h : Box w b v) (hc : ¬ b = c) (v0 v1 v2 v3 : Value) : Box ((((w.setCell ⟨c, 0, none⟩ v0).setCell ⟨c, 1, none⟩ v1).setCell ⟨c, 2, none⟩ v2).setCell ⟨c, 3, none⟩ v3) b v :=
  h.chg (chg_set4 w c v0 v1 v2 v3) hc

theorem Vals.chg {C : Nat → Prop} {w w' : World} {a : Option Addr} {n : Nat} {l : List VT} (h : Vals w a n l) (hc : Chg C w w') (ha : ∀ b, RowB a b → ¬ C b) : Vals w' a n l := by
  refine ⟨h.1, h.2.1, ?_⟩
  rcases h.2.2 with h0 | ⟨b, o, rfl, hx⟩
  · exact .inl h0
  · refine .inr ⟨b, o, rfl, fun i hi => ?_⟩
    have hn := ha b ⟨o, rfl⟩
    exact ⟨hc.cell (hx i hi).1 hn, hc.cell (hx i hi).2.1 hn, hc.cell (hx i hi).2.2.1 hn, hc.cell (hx i hi).2.2.2 hn⟩

/-- Where the closure stands behind user code: what it told lies in a box; the result's box is as it was. -/
structure PX (C : Nat → Prop) (S : World → World → Prop) (y : World) (u : VT) (X : World) (v : Nat) : Prop where
  box : Box X v u
  ne : ¬ v = y.heap.size
  res : Box X y.heap.size (0, 0, ⟨#[]⟩, 0)
  chg : Chg C y X
  tab : TabE X
  left : ∃ x x', Up y x ∧ S x x' ∧ y.heap.size < x.heap.size ∧ x.heap.size ≤ x'.heap.size ∧ Chg (Mid y.heap.size x.heap.size) x' X
theorem PX.ofSet {C : Nat → Prop} {S : World → World → Prop} {y x2 : World} {v : Nat} {u0 : VT} (k z : Int) (t : ByteArray) (f : Nat) (hT : TabE y) (hb : Box x2 v u0) (hlo : y.heap.size < v) (hl : ∃ x, Up y x ∧ v < x.heap.size ∧ x.heap.size ≤ x2.heap.size ∧ S x x2) (he : Box x2 y.heap.size (0, 0, ⟨#[]⟩, 0)) (hc : Chg C y x2) (ht : TabE x2) :
    PX C S y (k, z, t, f) ((((x2.setCell ⟨v, 0, none⟩ (.int .i64 k)).setCell ⟨v, 1, none⟩ (.int .i64 z)).setCell ⟨v, 2, none⟩ (.string t)).setCell ⟨v, 3, none⟩ (.float .f64 f)) v := by
  have h4 := chg_set4 x2 v (.int .i64 k) (.int .i64 z) (.string t) (.float .f64 f)
  obtain ⟨x, h1, h2, h3, h5⟩ := hl
  refine ⟨hb.set k z t f, by omega, he.chg h4 (by omega), hc.trans h4 (fun b hb e => by omega), h4.cell ht (fun e => by have := hT.lt; have e' : 0 = v := e; omega), x, x2, h1, h5, by omega, h3, h4.mono (fun b _ e => ⟨by omega, by omega⟩)⟩
theorem PX.ofNew {C : Nat → Prop} {S : World → World → Prop} {y x2 : World} (u : VT) (tt : TypeId) (hl : ∃ x, Up y x ∧ y.heap.size < x.heap.size ∧ x.heap.size ≤ x2.heap.size ∧ S x x2) (he : Box x2 y.heap.size (0, 0, ⟨#[]⟩, 0)) (hc : Chg C y x2) (ht : TabE x2) :
    PX C S y u (x2.alloc (.cells #[.int .i64 u.1, .int .i64 u.2.1, .string u.2.2.1, .float .f64 u.2.2.2] tt)) x2.heap.size := by
  obtain ⟨x, h1, h2, h3, h5⟩ := hl
  have hlt : y.heap.size < x2.heap.size := World.block_lt_of_cell? x2 ⟨y.heap.size, 0, none⟩ he.1.1
  exact ⟨Box.new x2 u tt, by omega, he.up ((Up.refl _).alloc _), hc.alloc _, ht.up ((Up.refl _).alloc _), x, x2, h1, h5, h2, h3, (Chg.refl _ _).alloc _⟩
theorem PX.up {C : Nat → Prop} {S : World → World → Prop} {y X X' : World} {u : VT} {v : Nat} (h : PX C S y u X v) (hu : Up X X') : PX C S y u X' v := by
  obtain ⟨x, x', h1, h2, h3, h4, h5⟩ := h.left
  exact ⟨h.box.up hu, h.ne, h.res.up hu, h.chg.andUp hu, h.tab.up hu, x, x', h1, h2, h3, h4, h5.andUp hu⟩
theorem PX.fin {C : Nat → Prop} {S : World → World → Prop} {y X : World} {u : VT} {v : Nat} (h : PX C S y u X v) (hT : TabE y) (v0 v1 v2 v3 : Value) :
    Chg C y ((((X.setCell ⟨y.heap.size, 0, none⟩ v0).setCell ⟨y.heap.size, 1, none⟩ v1).setCell ⟨y.heap.size, 2, none⟩ v2).setCell ⟨y.heap.size, 3, none⟩ v3) ∧ TabE ((((X.setCell ⟨y.heap.size, 0, none⟩ v0).setCell ⟨y.heap.size, 1, none⟩ v1).setCell ⟨y.heap.size, 2, none⟩ v2).setCell ⟨y.heap.size, 3, none⟩ v3) ∧ Left y S ((((X.setCell ⟨y.heap.size, 0, none⟩ v0).setCell ⟨y.heap.size, 1, none⟩ v1).setCell ⟨y.heap.size, 2, none⟩ v2).setCell ⟨y.heap.size, 3, none⟩ v3) := by
  have h4 := chg_set4 X y.heap.size v0 v1 v2 v3
  obtain ⟨x, x', h1, h2, h3, h5, h6⟩ := h.left
  exact ⟨h.chg.trans h4 (fun b hb e => by omega), h4.cell h.tab (fun e => by have := hT.lt; have e' : 0 = y.heap.size := e; omega), x, x', h1, h2, h5, h6.trans h4 (fun b _ e => ⟨by omega, by omega⟩)⟩

end Go.Proofs.YtnokokhbcfkifaaGreatDoor

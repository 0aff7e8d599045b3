/-
  What nest does (package rialtolaw6), as its text runs (a trial).
-/
import Derived.Test.YtmlfkjmondkfnaaDoorHookKnown
import Derived.Test.YtmlfkjmondkfnaaDoorQuietUp
namespace Go.Proofs.YtmlfkjmondkfnaaDoor
open Go.RowKit
set_option linter.unusedVariables false
attribute [local go_sem ↓] Go.wp_at_zero Go.wp_at_succ

/-- What was caught, from the i-th on. -/
def nestF (k : Nat) (f : Nat → Int) (i : Nat) : Nat → Int := fun j => if i ≤ j then (if j = k then 900 + (k : Int) else 0) else f j
def Cau (w : World) (C N : Nat) (f : Nat → Int) : Prop := ∀ j, j < N → w.cell? ⟨C, j, none⟩ = some (.int .i64 (f j)) ∧ w.frozen? ⟨C, j, none⟩ = false
/-- Of what was there one block alone may have turned. -/
def Wr (C : Nat) (w w' : World) : Prop := Below C w w' ∧ ∀ b, C < b → b < w.heap.size → w'.heap[b]? = w.heap[b]?
theorem Wr.of_up {C : Nat} {w w' : World} (hC : C < w.heap.size) (h : Up w w') : Wr C w w' := ⟨Below.mono h.below (Nat.le_of_lt hC), fun b _ hb => h.below.block b hb⟩
theorem Wr.trans {C : Nat} {a b c : World} (h : Wr C a b) (k : Wr C b c) : Wr C a c := ⟨Below.trans h.1 k.1, fun x h1 h2 => (k.2 x h1 (Nat.lt_of_lt_of_le h2 h.1.size)).trans (h.2 x h1 h2)⟩
theorem Wr.below {C B : Nat} {a b c : World} (h : Wr C a b) (k : Below B b c) (hC : C ≤ B) (hB : a.heap.size ≤ B) : Wr C a c := ⟨Below.trans h.1 (Below.mono k hC), fun x h1 h2 => (k.block x (Nat.lt_of_lt_of_le h2 hB)).trans (h.2 x h1 h2)⟩
theorem Wr.set {C j : Nat} {a b : World} {v : Value} (h : Wr C a b) : Wr C a (b.setCell ⟨C, j, none⟩ v) := ⟨h.1.setCell (Nat.le_refl _) _, fun x h1 h2 => (Below.heap_setCell b _ v x (fun e => by simp at e; omega)).trans (h.2 x h1 h2)⟩
theorem Wr.keeps {C B : Nat} {w w' : World} (h : Wr C w w') (hB : C < B) : Keeps B w w' := ⟨h.1.size, fun b h1 h2 => h.2 b (Nat.lt_of_lt_of_le hB h1) h2⟩
theorem Wr.cell {C : Nat} {w w' : World} (h : Wr C w w') {p : Addr} {v : Value} (hp : C < p.block) (hv : w.cell? p = some v) : w'.cell? p = some v :=
  (World.cell?_of_block (w := w) (h.2 p.block hp (World.block_lt_of_cell? w p hv))).trans hv
theorem Cau.up {w w' : World} {C N : Nat} {f : Nat → Int} (h : Cau w C N f) (hu : Up w w') (hC : C < w.heap.size) : Cau w' C N f := fun j hj => ⟨hu.cell (h j hj).1, (hu.frozen (p := ⟨C, j, none⟩) hC).trans (h j hj).2⟩
theorem Cau.below {w w' : World} {C N B : Nat} {f : Nat → Int} (h : Cau w C N f) (hb : Below B w w') (hC : C < B) : Cau w' C N f := fun j hj => ⟨(hb.cell (p := ⟨C, j, none⟩) hC).trans (h j hj).1, (hb.frozen (p := ⟨C, j, none⟩) hC).trans (h j hj).2⟩
theorem Cau.set {w : World} {C N k i : Nat} {f : Nat → Int} (h : Cau w C N (nestF k f (i + 1))) (hi : i < N) : Cau (w.setCell ⟨C, i, none⟩ (.int .i64 (if i = k then 900 + (k : Int) else 0))) C N (nestF k f i) := by
  intro j hj
  refine ⟨?_, by rw [World.frozen?_setCell]; exact (h j hj).2⟩
  by_cases hji : j = i
  · subst hji
    rw [World.cell?_setCell_same _ _ _ (h j hj).1]
    unfold nestF
    rw [if_pos (Nat.le_refl _)]
  · rw [World.cell?_setCell_other _ _ _ _ (by intro e; cases e; exact hji rfl), (h j hj).1]
    have e : nestF k f (i + 1) j = nestF k f i j := by
      by_cases h1 : i + 1 ≤ j
      · simp [nestF, h1, show i ≤ j by omega]
      · simp [nestF, h1, show ¬ i ≤ j by omega]
    rw [e]
/-- What nest answers. -/
def NestE (w' : World) (k : Nat) (hit : Prop) (e : Ending) : Prop := (hit ∧ ∃ b s, e = .returned (.iface 33 (.pointer (some ⟨b, 0, none⟩))) ∧ FaultAt w' b 0 s .nilIface (.iface 3 (.int .i64 (900 + (k : Int))))) ∨ (¬ hit ∧ e = .returned .nilIface)

theorem struck_nil (w : World) : Calls Tryd.prog 15 #[.nilIface] w fun e w' => e = .returned (.int .i64 0) ∧ Up w w' := by
  go_enter Tryd.func15, Tryd.ntmps15
  go_wp2
  go_ret
  exact ⟨rfl, (Up.refl _).alloc _⟩
theorem nest1_enter (cap : Array Value) (w : World) : (callFunc 62 cap).run Tryd.prog w = .ok (.enter 62 cap) w := by
  simp [go_sem]

/-- nest, at so many to go. -/
def NestC (k N C m : Nat) : Prop := ∀ (f : Nat → Int) (w : World), C < w.heap.size → TabE w → Cau w C N f →
  Calls Tryd.prog 30 #[.int .i64 (m : Int), .int .i64 (k : Int), .slice (some ⟨C, 0, none⟩) N N] w fun e w' => NestE w' k (1 ≤ m ∧ N - m = k) e ∧ Cau w' C N (nestF k f (N - m)) ∧ Wr C w w'

theorem nest_zero (k N C : Nat) (hN : N ≤ 10) : NestC k N C 0 := by
  intro f w hC hT hc
  have hmf : ∀ (fn : Fn) (first cap : Array Value) (w : World), (Instr.makeFunc fn first cap).run Tryd.prog w = .ok (.func fn first cap) w := fun _ _ _ _ => rfl
  have HC := hide hc
  clear hc hT
  go_enter Tryd.func30, Tryd.ntmps30
  go_wp2
  go_ret
  have u : Up w ((((w.alloc (.cells #[.int .i64 0] 3)).alloc (.cells #[.int .i64 (k : Int)] 3)).alloc (.cells #[.slice (some ⟨C, 0, none⟩) N N] 29)).alloc (.cells #[.int .i64 (N : Int)] 3)) := ((((Up.refl _).alloc _).alloc _).alloc _).alloc _
  refine ⟨.inr ⟨by omega, rfl⟩, ?_, Wr.of_up hC u⟩
  have hc := HC.out.up u hC
  intro j hj
  have := hc j hj
  unfold nestF
  rw [if_neg (by omega)]
  exact this

/-- The closure within. -/
theorem nest1_calls (k N C m a : Nat) (hN : N ≤ 10) (hm : m + 1 ≤ N) (ih : NestC k N C m) (f : Nat → Int) (w : World) (hC : C < a) (ha : a + 3 < w.heap.size) (hT : TabE w) (hc : Cau w C N f)
    (k0 : w.cell? ⟨a, 0, none⟩ = some (.int .i64 ((m : Int) + 1))) (k1 : w.cell? ⟨a + 1, 0, none⟩ = some (.int .i64 (k : Int))) (k2 : w.cell? ⟨a + 1 + 1, 0, none⟩ = some (.slice (some ⟨C, 0, none⟩) N N)) (k3 : w.cell? ⟨a + 1 + 1 + 1, 0, none⟩ = some (.int .i64 ((N : Int) - ((m : Int) + 1)))) :
    Calls Tryd.prog 62 #[.pointer (some ⟨a, 0, none⟩), .pointer (some ⟨a + 1, 0, none⟩), .pointer (some ⟨a + 1 + 1, 0, none⟩), .pointer (some ⟨a + 1 + 1 + 1, 0, none⟩)] w fun e w' =>
      ((N - (m + 1) = k ∧ e = .panicked [{ v := .iface 3 (.int .i64 (900 + (k : Int))), recovered := false }]) ∨ (¬ N - (m + 1) = k ∧ e = .returned .nilIface)) ∧ Cau w' C N (nestF k f (N - m)) ∧ Wr C w w' := by
  have IH := hide (ih f w (by omega) hT hc)
  clear hT hc ih
  go_enter Tryd.func62, Tryd.ntmps62
  go_wp2_with fail
  go_at_call 30
  refine IH.out.mono ?_
  rintro e2 w2 ⟨hE, hc2, hw2⟩
  have r1 := hw2.cell (p := ⟨a + 1, 0, none⟩) (by show C < a + 1; omega) k1
  have r3 := hw2.cell (p := ⟨a + 1 + 1 + 1, 0, none⟩) (by show C < a + 1 + 1 + 1; omega) k3
  have HC2 := hide hc2
  have HW2 := hide hw2
  clear hc2 hw2 k0 k1 k2 k3 IH
  rcases hE with ⟨hit, b, s, rfl, hf⟩ | ⟨nh, rfl⟩
  · clear hf
    have hx : Hid (¬ N - (m + 1) = k) := by show ¬ _; omega
    clear hit
    go_wp2
    go_ret
    exact ⟨.inr ⟨hx.out, rfl⟩, HC2.out, HW2.out⟩
  · clear nh
    by_cases hk : N - (m + 1) = k
    · have t1 : ((N : Int) - ((m : Int) + 1) == (k : Int)) = true := by rw [beq_iff_eq]; omega
      have hx := hide hk
      have hk10 : k < 10 := by omega
      clear hk
      go_wp2
      exact ⟨rfl, .inl ⟨hx.out, rfl⟩, HC2.out, HW2.out⟩
    · have t1 : ((N : Int) - ((m : Int) + 1) == (k : Int)) = false := by rw [beq_eq_false_iff_ne]; omega
      have hx := hide hk
      clear hk
      go_wp2
      go_ret
      exact ⟨.inr ⟨hx.out, rfl⟩, HC2.out, HW2.out⟩

end Go.Proofs.YtmlfkjmondkfnaaDoor

/-
  A world in which some blocks alone may have turned: small laws; no program is named here.
-/
import Derived.Test.YtnokokhbcfkifaaGreatDoorUps
namespace Go.Proofs.YtnokokhbcfkifaaGreatDoor
open Go.RowKit

/-- w' is w with new blocks behind it; of what was there the blocks of C alone may have turned. -/
def Chg (C : Nat → Prop) (w w' : World) : Prop := Below 0 w w' ∧ ∀ b, b < w.heap.size → ¬ C b → w'.heap[b]? = w.heap[b]?
theorem Chg.of_up {C : Nat → Prop} {w w' : World} (h : Up w w') : Chg C w w' := ⟨Below.mono h.below (Nat.zero_le _), fun b hb _ => h.below.block b hb⟩
theorem Chg.refl (C : Nat → Prop) (w : World) : Chg C w w := Chg.of_up (Up.refl w)
theorem Chg.size {C : Nat → Prop} {w w' : World} (h : Chg C w w') : w.heap.size ≤ w'.heap.size := h.1.size
theorem Chg.trans {C D : Nat → Prop} {a b c : World} (h : Chg C a b) (k : Chg D b c) (hD : ∀ x, x < a.heap.size → D x → C x) : Chg C a c :=
  ⟨Below.trans h.1 k.1, fun x hx hn => (k.2 x (Nat.lt_of_lt_of_le hx h.size) (fun d => hn (hD x hx d))).trans (h.2 x hx hn)⟩
theorem Chg.mono {C D : Nat → Prop} {a b : World} (h : Chg C a b) (hD : ∀ x, x < a.heap.size → C x → D x) : Chg D a b := ⟨h.1, fun x hx hn => h.2 x hx (fun c => hn (hD x hx c))⟩
theorem Chg.andUp {C : Nat → Prop} {a b c : World} (h : Chg C a b) (k : Up b c) : Chg C a c := h.trans (Chg.of_up (C := C) k) (fun _ _ h => h)
theorem Chg.set {C : Nat → Prop} {a b : World} (h : Chg C a b) {p : Addr} (hp : p.block < a.heap.size → C p.block) (v : Value) : Chg C a (b.setCell p v) :=
  ⟨h.1.setCell (Nat.zero_le _) v, fun x hx hn => (Below.heap_setCell b p v x (fun e => hn (by subst e; exact hp hx))).trans (h.2 x hx hn)⟩
theorem Chg.alloc {C : Nat → Prop} {a b : World} (h : Chg C a b) (o : Obj) : Chg C a (b.alloc o) := h.andUp ((Up.refl _).alloc o)
theorem Chg.drew {C : Nat → Prop} {a b : World} (h : Chg C a b) : Chg C a b.drew := h.andUp (Up.refl _).drew
theorem Chg.cell {C : Nat → Prop} {w w' : World} (h : Chg C w w') {p : Addr} {v : Value} (hv : w.cell? p = some v) (hn : ¬ C p.block) : w'.cell? p = some v :=
  (World.cell?_of_block (w := w) (h.2 p.block (World.block_lt_of_cell? w p hv) hn)).trans hv
theorem Chg.frozen {C : Nat → Prop} {w w' : World} (h : Chg C w w') {p : Addr} (hp : p.block < w.heap.size) (hn : ¬ C p.block) : w'.frozen? p = w.frozen? p := World.frozen?_of_block (w := w) (h.2 p.block hp hn)
theorem Chg.below {C : Nat → Prop} {w w' : World} {B : Nat} (h : Chg C w w') (hC : ∀ x, x < B → ¬ C x) (hB : B ≤ w.heap.size) : Below B w w' :=
  ⟨h.1.os, h.1.tape, h.1.output, h.1.size, fun k hk => h.2 k (Nat.lt_of_lt_of_le hk hB) (hC k hk)⟩
theorem Chg.up {C : Nat → Prop} {w w' : World} (h : Chg C w w') (hC : ∀ x, x < w.heap.size → ¬ C x) : Up w w' := h.below hC (Nat.le_refl _)
/-- What user code may do to memory while it runs: the caller's new blocks stay. -/
def Keeps (B : Nat) (w w' : World) : Prop := w.heap.size ≤ w'.heap.size ∧ ∀ b, B ≤ b → b < w.heap.size → w'.heap[b]? = w.heap[b]?
theorem Chg.keeps {C : Nat → Prop} {w w' : World} {B : Nat} (h : Chg C w w') (hC : ∀ x, x < w.heap.size → C x → x < B) : Keeps B w w' :=
  ⟨h.size, fun b h1 h2 => h.2 b h2 (fun c => by have := hC b h2 c; omega)⟩
/-- The blocks from one number on, below another. -/
def Mid (a b : Nat) : Nat → Prop := fun x => a ≤ x ∧ x < b
theorem Chg.mid_below {w w' : World} {a b : Nat} (h : Chg (Mid a b) w w') (ha : a ≤ w.heap.size) : Below a w w' := h.below (fun x hx hm => by have := hm.1; omega) ha

end Go.Proofs.YtnokokhbcfkifaaGreatDoor

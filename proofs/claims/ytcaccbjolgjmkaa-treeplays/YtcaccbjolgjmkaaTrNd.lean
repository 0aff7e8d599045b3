/-
  Counted trees as they lie in memory: nodes, what a node has, trees; plain facts, no function of the program.
-/
import Derived.Test.YtcaccbjolgjmkaaTrRow
namespace Go.Proofs.Ytcaccbjolgjmkaa
open Go.ChangeShapes Go.WideShapes Go.ChangeAt Go.RowKit
set_option linter.unusedVariables false

/-- A slice without things. -/
def Emp (v : Value) : Prop := ∃ a c, v = .slice a 0 c ∧ c ≤ maxLen
theorem Emp.rd {α : Type} {enc : α → Value} {X : Nat → Prop} {w : World} {v : Value} (h : Emp v) : Rd enc X w v [] := by
  obtain ⟨a, c, rfl, hc⟩ := h
  exact ⟨a, c, rfl, Nat.zero_le _, hc, .inl rfl⟩
theorem Rd.emp {α : Type} {enc : α → Value} {X : Nat → Prop} {w : World} {v : Value} (h : Rd enc X w v []) : Emp v := by
  obtain ⟨a, c, rfl, _, hc, _⟩ := h
  exact ⟨a, c, rfl, hc⟩
theorem Emp.nil : Emp (.slice none 0 0) := ⟨none, 0, rfl, Nat.zero_le _⟩
/-- What a node's cells hold; its block is none of X. -/
def NodeC (X : Nat → Prop) (w : World) (b : Nat) (ve vb : Value) (n : Nat) : Prop :=
  ¬ X b ∧ w.cell? ⟨b, 0, none⟩ = some ve ∧ w.cell? ⟨b, 1, none⟩ = some vb ∧ w.cell? ⟨b, 2, none⟩ = some (.int .i64 n)
theorem NodeC.chg {X : Nat → Prop} {w w' : World} {b : Nat} {ve vb : Value} {n : Nat} (h : NodeC X w b ve vb n) (hc : Chg X w w') : NodeC X w' b ve vb n :=
  ⟨h.1, hc.cell h.2.1 h.1, hc.cell h.2.2.1 h.1, hc.cell h.2.2.2 h.1⟩
theorem NodeC.mono {X Y : Nat → Prop} {w : World} {b : Nat} {ve vb : Value} {n : Nat} (h : NodeC X w b ve vb n) (hy : ∀ y, y < w.heap.size → Y y → X y) : NodeC Y w b ve vb n :=
  ⟨fun y => h.1 (hy b (World.block_lt_of_cell? w _ h.2.1) y), h.2⟩
/-- A node of height h (0: a leaf) with the elements xs; s: so many elements, or nodes, are in it. -/
def Nd {α : Type} (enc : α → Value) (X : Nat → Prop) (w : World) : Nat → Nat → List α → Nat → Prop
  | 0, b, xs, s => ∃ ve vb, NodeC X w b ve vb xs.length ∧ Rd enc X w ve xs ∧ Emp vb ∧ s = xs.length
  | h + 1, b, xs, s => ∃ ve vb, ∃ L : List (Nat × List α), NodeC X w b ve vb xs.length ∧ Emp ve ∧ Rd pE X w vb (L.map (·.1)) ∧ (∀ q ∈ L, ∃ t, 4 ≤ t ∧ t ≤ 8 ∧ Nd enc X w h q.1 q.2 t) ∧ xs = L.flatMap (·.2) ∧ s = L.length
/-- Nodes right below another one. -/
def Kids {α : Type} (enc : α → Value) (X : Nat → Prop) (w : World) (h : Nat) (L : List (Nat × List α)) : Prop := ∀ q ∈ L, ∃ t, 4 ≤ t ∧ t ≤ 8 ∧ Nd enc X w h q.1 q.2 t
/-- What a node of height h has. -/
def Ld {α : Type} (enc : α → Value) (X : Nat → Prop) (w : World) : Nat → Value → Value → List α → Nat → Prop
  | 0, ve, vb, xs, s => Rd enc X w ve xs ∧ Emp vb ∧ s = xs.length
  | h + 1, ve, vb, xs, s => Emp ve ∧ ∃ L : List (Nat × List α), Rd pE X w vb (L.map (·.1)) ∧ Kids enc X w h L ∧ xs = L.flatMap (·.2) ∧ s = L.length
theorem nd_iff {α : Type} {enc : α → Value} {X : Nat → Prop} {w : World} {h b : Nat} {xs : List α} {s : Nat} : Nd enc X w h b xs s ↔ ∃ ve vb, NodeC X w b ve vb xs.length ∧ Ld enc X w h ve vb xs s := by
  cases h with
  | zero => exact Iff.rfl
  | succ h =>
    constructor
    · rintro ⟨ve, vb, L, h1, h2, h3, h4, h5, h6⟩
      exact ⟨ve, vb, h1, h2, L, h3, h4, h5, h6⟩
    · rintro ⟨ve, vb, h1, h2, L, h3, h4, h5, h6⟩
      exact ⟨ve, vb, L, h1, h2, h3, h4, h5, h6⟩
theorem Nd.chg {α : Type} {enc : α → Value} {X : Nat → Prop} {w w' : World} (hc : Chg X w w') : ∀ {h b : Nat} {xs : List α} {s : Nat}, Nd enc X w h b xs s → Nd enc X w' h b xs s
  | 0, b, xs, s, ⟨ve, vb, h1, h2, h3⟩ => ⟨ve, vb, h1.chg hc, h2.chg hc, h3⟩
  | h + 1, b, xs, s, ⟨ve, vb, L, h1, h2, h3, h4, h5⟩ => ⟨ve, vb, L, h1.chg hc, h2, h3.chg hc, fun q hq => by
      obtain ⟨t, t1, t2, t3⟩ := h4 q hq
      exact ⟨t, t1, t2, Nd.chg hc t3⟩, h5⟩
theorem Nd.mono {α : Type} {enc : α → Value} {X Y : Nat → Prop} {w : World} (hy : ∀ y, y < w.heap.size → Y y → X y) : ∀ {h b : Nat} {xs : List α} {s : Nat}, Nd enc X w h b xs s → Nd enc Y w h b xs s
  | 0, b, xs, s, ⟨ve, vb, h1, h2, h3⟩ => ⟨ve, vb, h1.mono hy, h2.mono hy, h3⟩
  | h + 1, b, xs, s, ⟨ve, vb, L, h1, h2, h3, h4, h5⟩ => ⟨ve, vb, L, h1.mono hy, h2, h3.mono hy, fun q hq => by
      obtain ⟨t, t1, t2, t3⟩ := h4 q hq
      exact ⟨t, t1, t2, Nd.mono hy t3⟩, h5⟩
theorem Kids.chg {α : Type} {enc : α → Value} {X : Nat → Prop} {w w' : World} {h : Nat} {L : List (Nat × List α)} (hk : Kids enc X w h L) (hc : Chg X w w') : Kids enc X w' h L := fun q hq => by
  obtain ⟨t, t1, t2, t3⟩ := hk q hq
  exact ⟨t, t1, t2, t3.chg hc⟩
theorem Ld.chg {α : Type} {enc : α → Value} {X : Nat → Prop} {w w' : World} {h : Nat} {ve vb : Value} {xs : List α} {s : Nat} (hl : Ld enc X w h ve vb xs s) (hc : Chg X w w') : Ld enc X w' h ve vb xs s := by
  cases h with
  | zero => exact ⟨hl.1.chg hc, hl.2⟩
  | succ h =>
    obtain ⟨h1, L, h2, h3, h4⟩ := hl
    exact ⟨h1, L, h2.chg hc, h3.chg hc, h4⟩
theorem Kids.mono {α : Type} {enc : α → Value} {X Y : Nat → Prop} {w : World} {h : Nat} {L : List (Nat × List α)} (hk : Kids enc X w h L) (hy : ∀ y, y < w.heap.size → Y y → X y) : Kids enc Y w h L := fun q hq => by
  obtain ⟨t, t1, t2, t3⟩ := hk q hq
  exact ⟨t, t1, t2, t3.mono hy⟩
theorem Ld.mono {α : Type} {enc : α → Value} {X Y : Nat → Prop} {w : World} {h : Nat} {ve vb : Value} {xs : List α} {s : Nat} (hl : Ld enc X w h ve vb xs s) (hy : ∀ y, y < w.heap.size → Y y → X y) : Ld enc Y w h ve vb xs s := by
  cases h with
  | zero => exact ⟨hl.1.mono hy, hl.2⟩
  | succ h =>
    obtain ⟨h1, L, h2, h3, h4⟩ := hl
    exact ⟨h1, L, h2.mono hy, h3.mono hy, h4⟩
theorem flat_split {α β : Type} (L : List (β × List α)) (i : Nat) (h : i < L.length) : L.flatMap (·.2) = (L.take i).flatMap (·.2) ++ (L[i].2 ++ (L.drop (i + 1)).flatMap (·.2)) := by
  have e : L = L.take i ++ (L[i] :: L.drop (i + 1)) := by rw [List.getElem_cons_drop, List.take_append_drop]
  conv => lhs; rw [e]
  rw [List.flatMap_append, List.flatMap_cons]
/-- Both are slices; so many things are in them. -/
theorem Ld.slices {α : Type} {enc : α → Value} {X : Nat → Prop} {w : World} {h : Nat} {ve vb : Value} {xs : List α} {s : Nat} (hl : Ld enc X w h ve vb xs s) :
    ∃ ae ne ce ab nb cb, ve = .slice ae ne ce ∧ vb = .slice ab nb cb ∧ ne ≤ ce ∧ nb ≤ cb ∧ ne + nb = s ∧ (h = 0 → ne = xs.length ∧ nb = 0) ∧ (h ≠ 0 → ne = 0 ∧ nb = s) := by
  cases h with
  | zero =>
    obtain ⟨⟨a, c, rfl, h2, _⟩, ⟨b, d, rfl, _⟩, rfl⟩ := hl
    exact ⟨_, _, _, _, _, _, rfl, rfl, h2, Nat.zero_le _, rfl, fun _ => ⟨rfl, rfl⟩, fun h => absurd rfl h⟩
  | succ h =>
    obtain ⟨⟨b, d, rfl, _⟩, L, ⟨a, c, rfl, h2, _⟩, _, _, rfl⟩ := hl
    exact ⟨_, _, _, _, _, _, rfl, rfl, Nat.zero_le _, h2, by simp, fun h => absurd h (Nat.succ_ne_zero _), fun _ => ⟨rfl, by simp⟩⟩
theorem flat_ge {α β : Type} {c : Nat} : ∀ {L : List (β × List α)}, (∀ q ∈ L, c ≤ q.2.length) → c * L.length ≤ (L.flatMap (·.2)).length
  | [], _ => by simp
  | q :: L, h => by
    have h1 := h q (by simp)
    have h2 := flat_ge (fun p hp => h p (List.mem_cons_of_mem _ hp))
    rw [List.flatMap_cons, List.length_append, List.length_cons, Nat.mul_add]
    omega
/-- A node has many elements. -/
theorem Nd.many {α : Type} {enc : α → Value} {X : Nat → Prop} {w : World} : ∀ {h b : Nat} {xs : List α} {s : Nat}, Nd enc X w h b xs s → s * 4 ^ h ≤ xs.length
  | 0, b, xs, s, ⟨ve, vb, h1, h2, h3, h4⟩ => by simp [h4]
  | h + 1, b, xs, s, ⟨ve, vb, L, h1, h2, h3, h4, h5, h6⟩ => by
    have := flat_ge (c := 4 ^ (h + 1)) (L := L) (fun q hq => by
      obtain ⟨t, t1, t2, t3⟩ := h4 q hq
      have := t3.many
      rw [Nat.pow_succ]
      calc 4 ^ h * 4 = 4 * 4 ^ h := Nat.mul_comm _ _
        _ ≤ t * 4 ^ h := Nat.mul_le_mul_right _ t1
        _ ≤ _ := this)
    rw [h5, h6, Nat.mul_comm]
    exact this
theorem Kids.some {α : Type} {enc : α → Value} {X : Nat → Prop} {w : World} {h : Nat} {L : List (Nat × List α)} (hk : Kids enc X w h L) : ∀ q ∈ L, 4 ≤ q.2.length := fun q hq => by
  obtain ⟨t, t1, t2, t3⟩ := hk q hq
  have := t3.many
  have h4 : 1 ≤ 4 ^ h := Nat.pow_pos (by decide)
  have := Nat.mul_le_mul t1 h4
  omega
/-- A tree's own cells. -/
structure TrC (w : World) (T : Nat) (tv : Value) (n : Nat) : Prop where
  c0 : w.cell? ⟨T, 0, none⟩ = some tv
  c1 : w.cell? ⟨T, 1, none⟩ = some (.int .i64 n)
  f0 : w.frozen? ⟨T, 0, none⟩ = false
  f1 : w.frozen? ⟨T, 1, none⟩ = false
theorem TrC.chg {X : Nat → Prop} {w w' : World} {T : Nat} {tv : Value} {n : Nat} (h : TrC w T tv n) (hc : Chg X w w') (hX : ¬ X T) : TrC w' T tv n :=
  have hT := World.block_lt_of_cell? w _ h.c0
  ⟨hc.cell h.c0 hX, hc.cell h.c1 hX, (hc.frozen (p := ⟨T, 0, none⟩) hT hX).trans h.f0, (hc.frozen (p := ⟨T, 1, none⟩) hT hX).trans h.f1⟩
theorem TrC.up {w w' : World} {T : Nat} {tv : Value} {n : Nat} (h : TrC w T tv n) (hu : Up w w') : TrC w' T tv n := h.chg (Chg.of_up (C := fun _ => False) hu) (fun h => h)
theorem write_world (w : World) (T n : Nat) (tv ve vb : Value) (c : Nat) (t1 t2 : TypeId) (hT : TrC w T tv n) (W : World) (hW : ((w.setCell ⟨T, 1, none⟩ (.int .i64 ((n + 1 : Nat) : Int))).alloc (.cells #[ve, vb] t1)).alloc (.cells #[ve, vb, .int .i64 c] t2) = W) :
    TrC W T tv (n + 1) ∧ W.cell? ⟨w.heap.size + 1, 0, none⟩ = some ve ∧ W.cell? ⟨w.heap.size + 1, 1, none⟩ = some vb ∧ W.cell? ⟨w.heap.size + 1, 2, none⟩ = some (.int .i64 c) ∧ W.frozen? ⟨w.heap.size + 1, 2, none⟩ = false ∧ Chg (fun y => y = T) w W ∧ W.heap.size = w.heap.size + 2 := by
  have hs : (w.setCell ⟨T, 1, none⟩ (.int .i64 ((n + 1 : Nat) : Int))).heap.size = w.heap.size := by simp
  have hTl : T < w.heap.size := World.block_lt_of_cell? w _ hT.c0
  have g1 : TrC (w.setCell ⟨T, 1, none⟩ (.int .i64 ((n + 1 : Nat) : Int))) T tv (n + 1) := by
    obtain ⟨c0, c1, f0, f1⟩ := hT
    refine ⟨?_, ?_, ?_, ?_⟩
    · rw [World.cell?_setCell_other _ _ _ _ (by intro e; cases e)]; exact c0
    · exact World.cell?_setCell_same _ _ _ c1
    · simp [f0]
    · simp [f1]
  have g2 : Chg (fun y => y = T) w (w.setCell ⟨T, 1, none⟩ (.int .i64 ((n + 1 : Nat) : Int))) := (Chg.refl _ w).set (C := fun y => y = T) (p := ⟨T, 1, none⟩) (fun _ => rfl) _
  generalize w.setCell ⟨T, 1, none⟩ (.int .i64 ((n + 1 : Nat) : Int)) = w1 at *
  subst hW
  rw [← hs]
  refine ⟨g1.up (((Up.refl w1).alloc _).alloc _), ?_, ?_, ?_, ?_, (g2.alloc _).alloc _, by simp⟩
  · rw [show w1.heap.size + 1 = (w1.alloc (.cells #[ve, vb] t1)).heap.size by simp, cell_of (heap_alloc_new _ _)]; rfl
  · rw [show w1.heap.size + 1 = (w1.alloc (.cells #[ve, vb] t1)).heap.size by simp, cell_of (heap_alloc_new _ _)]; rfl
  · rw [show w1.heap.size + 1 = (w1.alloc (.cells #[ve, vb] t1)).heap.size by simp, cell_of (heap_alloc_new _ _)]; rfl
  · rw [show w1.heap.size + 1 = (w1.alloc (.cells #[ve, vb] t1)).heap.size by simp]
    have := heap_alloc_new (w1.alloc (.cells #[ve, vb] t1)) (.cells #[ve, vb, .int .i64 c] t2)
    simp only [World.frozen?, this]
    rfl
theorem set_count {w wr : World} {T nbk n : Nat} {tv v u x y : Value} (n0 : wr.cell? ⟨nbk, 0, none⟩ = some x) (n1 : wr.cell? ⟨nbk, 1, none⟩ = some y) (n2 : wr.cell? ⟨nbk, 2, none⟩ = some u) (nf : wr.frozen? ⟨nbk, 2, none⟩ = false) (hT : TrC wr T tv n) (hch : Chg (fun y => y = T) w wr) (hlt : nbk < wr.heap.size) (hne : T ≠ nbk) (hnew : w.heap.size ≤ nbk) :
    (wr.setCell ⟨nbk, 2, none⟩ v).drew.cell? ⟨nbk, 0, none⟩ = some x ∧ (wr.setCell ⟨nbk, 2, none⟩ v).drew.cell? ⟨nbk, 1, none⟩ = some y ∧ (wr.setCell ⟨nbk, 2, none⟩ v).drew.cell? ⟨nbk, 2, none⟩ = some v ∧ (wr.setCell ⟨nbk, 2, none⟩ v).drew.frozen? ⟨nbk, 2, none⟩ = false ∧ Hid (TrC (wr.setCell ⟨nbk, 2, none⟩ v).drew T tv n) ∧ Hid (Chg (fun y => y = T) w (wr.setCell ⟨nbk, 2, none⟩ v).drew) ∧ Hid (nbk < (wr.setCell ⟨nbk, 2, none⟩ v).drew.heap.size) := by
  have hc : Chg (fun y => y = nbk) wr (wr.setCell ⟨nbk, 2, none⟩ v).drew := ((Chg.refl _ wr).set (C := fun y => y = nbk) (p := ⟨nbk, 2, none⟩) (fun _ => rfl) v).drew
  refine ⟨?_, ?_, ?_, ?_, hT.chg hc hne, hch.trans hc (fun y hy e => by have e' : y = nbk := e; omega), by simp [Hid]; exact hlt⟩
  · show (wr.setCell ⟨nbk, 2, none⟩ v).cell? _ = _
    rw [World.cell?_setCell_other _ _ _ _ (by intro e; cases e)]; exact n0
  · show (wr.setCell ⟨nbk, 2, none⟩ v).cell? _ = _
    rw [World.cell?_setCell_other _ _ _ _ (by intro e; cases e)]; exact n1
  · exact World.cell?_setCell_same _ _ _ n2
  · show (wr.setCell ⟨nbk, 2, none⟩ v).frozen? _ = _
    simp [nf]
theorem TrC.setTop {w : World} {T : Nat} {tv : Value} {n : Nat} (h : TrC w T tv n) (x : Value) : TrC (w.setCell ⟨T, 0, none⟩ x) T x n := by
  refine ⟨World.cell?_setCell_same _ _ _ h.c0, ?_, ?_, ?_⟩
  · rw [World.cell?_setCell_other _ _ _ _ (by intro e; cases e)]; exact h.c1
  · simp [h.f0]
  · simp [h.f1]
theorem chg_top (w : World) (T : Nat) (x : Value) : Chg (fun y => y = T) w (w.setCell ⟨T, 0, none⟩ x) := (Chg.refl _ w).set (C := fun y => y = T) (p := ⟨T, 0, none⟩) (fun _ => rfl) x
/-- What write leaves: a new node, one more counted. -/
def WritePost (T : Nat) (tv : Value) (n : Nat) (ve vb : Value) (c : Nat) (w : World) (e : Ending) (w' : World) : Prop :=
  ∃ b, e = .returned (pE b) ∧ w.heap.size ≤ b ∧ b < w'.heap.size ∧ w'.cell? ⟨b, 0, none⟩ = some ve ∧ w'.cell? ⟨b, 1, none⟩ = some vb ∧ w'.cell? ⟨b, 2, none⟩ = some (.int .i64 c) ∧ TrC w' T tv (n + 1) ∧ Chg (fun y => y = T) w w'
/-- What find tells. -/
def FindPost {α : Type} (L : List (Nat × List α)) (i : Nat) (w : World) (e : Ending) (w' : World) : Prop :=
  ∃ (at_ j : Nat) (hat : at_ < L.length), e = .returned (.tuple #[.int .i64 at_, .int .i64 j]) ∧ i = ((L.take at_).flatMap (·.2)).length + j ∧ j ≤ L[at_].2.length ∧ (i < (L.flatMap (·.2)).length → j < L[at_].2.length) ∧ Up w w'
/-- A tree's top: a leaf of at most eight elements, or a node with two to eight below it. -/
def Top {α : Type} (enc : α → Value) (X : Nat → Prop) (w : World) (b : Nat) (xs : List α) (h : Nat) : Prop := ∃ s, Nd enc X w h b xs s ∧ s ≤ 8 ∧ (h ≠ 0 → 2 ≤ s)
/-- A tree: its block, what it has, how many nodes were written. -/
structure Tr {α : Type} (enc : α → Value) (w : World) (T : Nat) (xs : List α) (h n : Nat) : Prop where
  top : ∃ b, TrC w T (pE b) n ∧ Top enc (fun y => y = T) w b xs h
theorem RB.tree {Rs : List Nat} {W w w' : World} {T n : Nat} {tv : Value} (h : RB Rs W w) (hc : Chg (fun y => y = T) w w') (hT : TrC w' T tv n) (hm : T ∈ Rs) : RB Rs W w' := by
  refine ⟨h.chg.trans hc (fun y _ e => by rw [show y = T from e]; exact hm), fun r hr => ?_⟩
  by_cases e : r = T
  · subst e
    exact ⟨by rw [hT.c0]; rfl, by rw [hT.c1]; rfl, hT.f0, hT.f1⟩
  · obtain ⟨h0, h1, h2, h3⟩ := h.box r hr
    obtain ⟨v0, e0⟩ := Option.isSome_iff_exists.1 h0
    obtain ⟨v1, e1⟩ := Option.isSome_iff_exists.1 h1
    have hlt := World.block_lt_of_cell? w _ e0
    exact ⟨by rw [hc.cell e0 e]; rfl, by rw [hc.cell e1 e]; rfl, (hc.frozen (p := ⟨r, 0, none⟩) hlt e).trans h2, (hc.frozen (p := ⟨r, 1, none⟩) hlt e).trans h3⟩
theorem Tr.up {α : Type} {enc : α → Value} {w w' : World} {T : Nat} {xs : List α} {h n : Nat} (t : Tr enc w T xs h n) (hu : Up w w') : Tr enc w' T xs h n := by
  obtain ⟨b, h1, s, h2, h3⟩ := t.top
  exact ⟨b, h1.up hu, s, h2.chg (Chg.of_up hu), h3⟩
theorem Tr.lt {α : Type} {enc : α → Value} {w : World} {T : Nat} {xs : List α} {h n : Nat} (t : Tr enc w T xs h n) : T < w.heap.size := by
  obtain ⟨b, h1, _⟩ := t.top
  exact World.block_lt_of_cell? _ _ h1.c0

theorem Tr.many {α : Type} {enc : α → Value} {w : World} {T : Nat} {xs : List α} {h n : Nat} (t : Tr enc w T xs h n) (h0 : h ≠ 0) : 2 * 4 ^ h ≤ xs.length := by
  obtain ⟨b, h1, s, h2, h3, h4⟩ := t.top
  exact Nat.le_trans (Nat.mul_le_mul_right _ (h4 h0)) h2.many
theorem Tr.hle {α : Type} {enc : α → Value} {w : World} {T : Nat} {xs : List α} {h n : Nat} (t : Tr enc w T xs h n) (hx : xs.length ≤ 100000) : h ≤ 8 := by
  rcases Nat.lt_or_ge h 9 with h3 | h3
  · omega
  · have h1 := t.many (by omega)
    have h4 : 4 ^ 9 ≤ 4 ^ h := Nat.pow_le_pow_right (by decide) h3
    have h6 : (4 : Nat) ^ 9 = 262144 := by decide
    omega
theorem Tr.low {α : Type} {enc : α → Value} {w : World} {T : Nat} {xs : List α} {h n : Nat} (t : Tr enc w T xs h n) (hx : xs.length < 8) : h = 0 := by
  rcases Nat.eq_zero_or_pos h with h0 | h0
  · exact h0
  · have h1 := t.many (by omega)
    have h4 : 4 ^ 1 ≤ 4 ^ h := Nat.pow_le_pow_right (by decide) h0
    omega
theorem Tr.chg {α : Type} {enc : α → Value} {C : Nat → Prop} {w w' : World} {T : Nat} {xs : List α} {h n : Nat} (t : Tr enc w T xs h n) (hc : Chg C w w') (hC : ∀ y, y < w.heap.size → C y → y ≠ T ∧ False) : Tr enc w' T xs h n := t.up (hc.up (fun x hx hx2 => (hC x hx hx2).2))
/-- The blocks that a change may turn: the tree's own, and those of Y. -/
def XT (T : Nat) (Y : Nat → Prop) : Nat → Prop := fun y => y = T ∨ Y y
/-- A place of n that a change may be asked for. -/
def Ok (S : Bool) (n j : Nat) : Prop := j ≤ n ∧ (S = true → j < n)
/-- What a change does to a list: to a part of it what it does to the whole. -/
structure Local {α : Type} (S : Bool) (f : List α → Nat → List α) : Prop where
  part : ∀ a es b j, Ok S es.length j → f (a ++ (es ++ b)) (a.length + j) = a ++ (f es j ++ b)
  more : ∀ es j, Ok S es.length j → (f es j).length ≤ es.length + 1
  less : ∀ es j, Ok S es.length j → es.length ≤ (f es j).length + 1
end Go.Proofs.Ytcaccbjolgjmkaa

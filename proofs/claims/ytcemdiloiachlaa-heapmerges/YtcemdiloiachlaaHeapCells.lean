/-
  Three cells that are written one behind the other; a run's cells; no function of the program.
-/
import Derived.Test.YtcemdiloiachlaaHeapSort
import Derived.Test.YtcemdiloiachlaaChgs
import Derived.WalkKit
import Derived.WalkLawsBesides
import Derived.ProofKit
import Derived.OpenShut
import Derived.Test.YtcemdiloiachlaaRows
import Derived.Test.YtcemdiloiachlaaSlcAll
namespace Go.Proofs.Ytcemdiloiachlaa
open Go.ChangeShapes Go.WideShapes Go.ChangeAt Go.RowKit

theorem run_store_func (P : Program) (w : World) (a : Addr) (m : Mode) (f : Fn) (x y : Array Value) : (store a (.func f x y) m).run P w = stored P w a (.func f x y) m := run_store P w a _ m rfl

theorem addr_ne {b o o' : Nat} (h : o ≠ o') : (⟨b, o, none⟩ : Addr) ≠ ⟨b, o', none⟩ := fun e => h (congrArg Addr.off e)
theorem frozen_drew (w : World) (q : Addr) : w.drew.frozen? q = w.frozen? q := rfl
def set3 (w : World) (b o : Nat) (v0 v1 v2 : Value) : World := ((w.setCell ⟨b, o, none⟩ v0).setCell ⟨b, o + 1, none⟩ v1).setCell ⟨b, o + 2, none⟩ v2
theorem cell_set3_other {w : World} {b o : Nat} {v0 v1 v2 : Value} {q : Addr} (h : ¬ (q.block = b ∧ o ≤ q.off ∧ q.off < o + 3)) : (set3 w b o v0 v1 v2).cell? q = w.cell? q := by
  obtain ⟨qb, qo, qm⟩ := q
  simp only at h
  unfold set3
  rw [World.cell?_setCell_other _ _ _ _ (by intro e; cases e; omega), World.cell?_setCell_other _ _ _ _ (by intro e; cases e; omega), World.cell?_setCell_other _ _ _ _ (by intro e; cases e; omega)]
theorem frozen_set3 (w : World) (b o : Nat) (v0 v1 v2 : Value) (q : Addr) : (set3 w b o v0 v1 v2).frozen? q = w.frozen? q := by
  unfold set3
  simp only [World.frozen?_setCell]
theorem chg_set3 {C : Nat → Prop} {a w : World} {b o : Nat} {v0 v1 v2 : Value} (h : Chg C a w) (hb : C b) : Chg C a (set3 w b o v0 v1 v2) :=
  ((h.set (p := ⟨b, o, none⟩) (fun _ => hb) v0).set (p := ⟨b, o + 1, none⟩) (fun _ => hb) v1).set (p := ⟨b, o + 2, none⟩) (fun _ => hb) v2

theorem OwnG.chg {α : Type} {e : TypeId} {k : Nat} {cs : α → List Value} {C : Nat → Prop} {w w' : World} {base : Nat} {v : Value} {l : List α} (h : OwnG e k cs w base v l) (hu : Chg C w w') (hC : ∀ x, base ≤ x → ¬ C x) : OwnG e k cs w' base v l := by
  refine ⟨h.1, ?_⟩
  rcases h.2 with h0 | ⟨g, cap, cur, hv, hb, hg, hr⟩
  · exact .inl h0
  · have hlt : g < w.heap.size := by
      rcases Nat.lt_or_ge g w.heap.size with h' | h'
      · exact h'
      · rw [Array.getElem?_eq_none h'] at hg; cases hg
    exact .inr ⟨g, cap, cur, hv, hb, (hu.2 g hlt (hC g hb)).trans hg, hr⟩
theorem OwnG.mono {α : Type} {e : TypeId} {k : Nat} {cs : α → List Value} {w : World} {base base' : Nat} {v : Value} {l : List α} (h : OwnG e k cs w base v l) (hb : base' ≤ base) : OwnG e k cs w base' v l := by
  refine ⟨h.1, ?_⟩
  rcases h.2 with h0 | ⟨g, cap, cur, hv, h1, hr⟩
  · exact .inl h0
  · exact .inr ⟨g, cap, cur, hv, Nat.le_trans hb h1, hr⟩
theorem Chg.of_below {B : Nat} {w w' : World} (h : Below B w w') : Chg (fun y => B ≤ y) w w' := ⟨Below.mono h (Nat.zero_le _), fun b hb hn => h.block b (by omega)⟩
section
variable {E : Type}
/-- The slice of what is left. -/
def restV (r : RunM E) : Value := .slice (some ⟨r.blk, r.off, none⟩) r.rest.length r.cap
/-- A run at its place in the heap's array. -/
def RunAt (fb : FuncId) (w : World) (b i : Nat) (r : RunM E) : Prop := w.cell? ⟨b, i * 3, none⟩ = some (restV r) ∧ w.cell? ⟨b, i * 3 + 1, none⟩ = some (.int .i64 r.list) ∧ w.cell? ⟨b, i * 3 + 2, none⟩ = some (.func (.func fb) #[] #[])
theorem RunAt.up {fb : FuncId} {w w' : World} {b i : Nat} {r : RunM E} (h : RunAt fb w b i r) (hu : Up w w') : RunAt fb w' b i r := ⟨hu.cell h.1, hu.cell h.2.1, hu.cell h.2.2⟩
theorem RunAt.same {fb : FuncId} {w : World} {b i : Nat} {r' : RunM E} (h : RunAt fb w b i r') (r : RunM E) : RunAt fb (set3 w b (i * 3) (restV r) (.int .i64 r.list) (.func (.func fb) #[] #[])) b i r := by
  obtain ⟨h0, h1, h2⟩ := h
  unfold set3
  refine ⟨?_, ?_, ?_⟩
  · rw [World.cell?_setCell_other _ _ _ _ (addr_ne (by omega)), World.cell?_setCell_other _ _ _ _ (addr_ne (by omega))]
    exact World.cell?_setCell_same _ _ _ h0
  · rw [World.cell?_setCell_other _ _ _ _ (addr_ne (by omega))]
    obtain ⟨_, y⟩ := cell?_setCell_some (p := ⟨b, i * 3, none⟩) (x := restV r) h1
    exact World.cell?_setCell_same _ _ _ y
  · obtain ⟨_, y⟩ := cell?_setCell_some (p := ⟨b, i * 3, none⟩) (x := restV r) h2
    obtain ⟨_, y⟩ := cell?_setCell_some (p := ⟨b, i * 3 + 1, none⟩) (x := .int .i64 r.list) y
    exact World.cell?_setCell_same _ _ _ y
theorem RunAt.other {fb : FuncId} {w : World} {b i k : Nat} {r : RunM E} {v0 v1 v2 : Value} (h : RunAt fb w b k r) (hk : ¬ k = i) : RunAt fb (set3 w b (i * 3) v0 v1 v2) b k r :=
  ⟨(cell_set3_other (by rintro ⟨_, h1, h2⟩; simp only at h1 h2; omega)).trans h.1, (cell_set3_other (by rintro ⟨_, h1, h2⟩; simp only at h1 h2; omega)).trans h.2.1, (cell_set3_other (by rintro ⟨_, h1, h2⟩; simp only at h1 h2; omega)).trans h.2.2⟩

/-- A heap of runs in memory: the variable that holds its slice, its array; Row: what is asked of each run besides. -/
structure St (Row : World → RunM E → Prop) (fb : FuncId) (p b cap : Nat) (w : World) (xs : List (RunM E)) : Prop where
  cell : ∃ a, w.cell? ⟨p, 0, none⟩ = some (.slice a xs.length cap) ∧ (0 < xs.length → a = some ⟨b, 0, none⟩)
  len : xs.length ≤ cap
  small : xs.length ≤ 1000000 ∧ cap ≤ maxLen
  ne : 0 < xs.length → b < p
  frozenP : w.frozen? ⟨p, 0, none⟩ = false
  frozenB : 0 < xs.length → ∀ i, w.frozen? ⟨b, i, none⟩ = false
  runs : ∀ i, i < xs.length → RunAt fb w b i (xs.getD i zeroM)
  rows : ∀ i, i < xs.length → Row w (xs.getD i zeroM) ∧ (xs.getD i zeroM).blk < p ∧ (xs.getD i zeroM).blk ≠ b
def PB (p b : Nat) : Nat → Prop := fun x => x = p ∨ x = b
theorem St.lt {Row : World → RunM E → Prop} {fb : FuncId} {p b cap : Nat} {w : World} {xs : List (RunM E)} (h : St Row fb p b cap w xs) (h0 : 0 < xs.length) : p < w.heap.size ∧ b < w.heap.size := by
  obtain ⟨a, hc, _⟩ := h.cell
  exact ⟨World.block_lt_of_cell? w _ hc, World.block_lt_of_cell? w _ (h.runs 0 h0).1⟩
/-- Two runs have changed places. -/
theorem St.swapped {Row : World → RunM E → Prop} (hRow : ∀ (C : Nat → Prop) w w' r, Row w r → Chg C w w' → ¬ C r.blk → Row w' r) {fb : FuncId} {p b cap : Nat} {w : World} {xs : List (RunM E)} (h : St Row fb p b cap w xs) {i j : Nat} (hi : i < xs.length) (hj : j < xs.length)
    (w' : World) (e : w' = (set3 (set3 w b (i * 3) (restV (xs.getD j zeroM)) (.int .i64 (xs.getD j zeroM).list) (.func (.func fb) #[] #[])) b (j * 3) (restV (xs.getD i zeroM)) (.int .i64 (xs.getD i zeroM).list) (.func (.func fb) #[] #[])).drew) :
    St Row fb p b cap w' (swapL zeroM xs i j) ∧ Chg (PB p b) w w' := by
  have hch : Chg (fun x => x = b) w w' := by rw [e]; exact (chg_set3 (C := fun x => x = b) (chg_set3 (C := fun x => x = b) (Chg.refl _ w) rfl) rfl).drew
  have hfr : ∀ q, w'.frozen? q = w.frozen? q := fun q => by
    rw [e, frozen_drew, frozen_set3, frozen_set3]
  have g := fun k => swapL_getD zeroM hi hj k (xs := xs)
  obtain ⟨a, hc, ha⟩ := h.cell
  refine ⟨⟨⟨a, ?_, by rw [swapL_length]; exact ha⟩, by rw [swapL_length]; exact h.len, by rw [swapL_length]; exact h.small, fun _ => h.ne (by omega), (hfr _).trans h.frozenP, fun _ k => (hfr _).trans (h.frozenB (by omega) k), fun k hk => ?_, fun k hk => ?_⟩, hch.mono (fun x _ e => .inr e)⟩
  · rw [swapL_length]
    exact hch.cell hc (by have := h.ne (by omega); simp only; omega)
  · rw [swapL_length] at hk
    rw [g k, e]
    refine RunAt.up ?_ (Up.refl _).drew
    by_cases h1 : k = j
    · rw [if_pos h1, h1]
      by_cases h2 : j = i
      · subst h2
        exact ((h.runs j hj).same _).same _
      · exact ((h.runs j hj).other (i := i) h2).same _
    · rw [if_neg h1]
      by_cases h2 : k = i
      · rw [if_pos h2]
        subst h2
        exact ((h.runs k hi).same _).other h1
      · rw [if_neg h2]
        exact ((h.runs k hk).other h2).other h1
  · rw [swapL_length] at hk
    have hall := h.rows
    have hone : ∀ q, q < xs.length → Row w' (xs.getD q zeroM) ∧ (xs.getD q zeroM).blk < p ∧ (xs.getD q zeroM).blk ≠ b := fun q hq => ⟨hRow _ w w' _ (hall q hq).1 hch (hall q hq).2.2, (hall q hq).2⟩
    rw [g k]
    split
    · exact hone i hi
    · split
      · exact hone j hj
      · exact hone k hk
theorem St.up {Row : World → RunM E → Prop} (hRow : ∀ (C : Nat → Prop) w w' r, Row w r → Chg C w w' → ¬ C r.blk → Row w' r) {fb : FuncId} {p b cap : Nat} {w w' : World} {xs : List (RunM E)} (h : St Row fb p b cap w xs) (hu : Up w w') : St Row fb p b cap w' xs := by
  obtain ⟨a, hc, ha⟩ := h.cell
  exact ⟨⟨a, hu.cell hc, ha⟩, h.len, h.small, h.ne, (hu.frozen (World.block_lt_of_cell? w ⟨p, 0, none⟩ hc)).trans h.frozenP, fun h0 i => (hu.frozen (p := ⟨b, i, none⟩) (World.block_lt_of_cell? w ⟨b, 0 * 3, none⟩ (h.runs 0 h0).1)).trans (h.frozenB h0 i), fun i hi => (h.runs i hi).up hu,
    fun i hi => ⟨hRow (fun _ => False) w w' _ (h.rows i hi).1 (Chg.of_up hu) id, (h.rows i hi).2⟩⟩
/-- The last one has gone. -/
theorem St.cut {Row : World → RunM E → Prop} (hRow : ∀ (C : Nat → Prop) w w' r, Row w r → Chg C w w' → ¬ C r.blk → Row w' r) {fb : FuncId} {p b cap n : Nat} {w : World} {xs : List (RunM E)} (h : St Row fb p b cap w xs) (hN : xs.length = n + 1) (o : Obj)
    (w' : World) (e : w' = (w.setCell ⟨p, 0, none⟩ (.slice (some ⟨b, 0, none⟩) n cap)).alloc o) : St Row fb p b cap w' (xs.take n) ∧ Chg (PB p b) w w' := by
  have hch : Chg (fun x => x = p) w w' := by rw [e]; exact (Chg.set (C := fun x => x = p) (Chg.refl _ w) (p := ⟨p, 0, none⟩) (fun _ => rfl) _).alloc _
  have hlen : (xs.take n).length = n := by rw [List.length_take]; omega
  obtain ⟨a, hc, ha⟩ := h.cell
  have hlt := h.lt (by omega)
  have hbp : ¬ b = p := by have := h.ne (by omega); omega
  refine ⟨⟨⟨some ⟨b, 0, none⟩, ?_, fun _ => rfl⟩, by have := h.len; omega, ⟨by have := h.small.1; omega, h.small.2⟩, fun _ => h.ne (by omega), ?_, fun h0 i => ?_, fun i hi => ?_, fun i hi => ?_⟩, hch.mono (fun x _ e => .inl e)⟩
  · rw [hlen, e]
    exact ((Up.refl _).alloc o).cell (World.cell?_setCell_same _ _ _ hc)
  · rw [e, ((Up.refl _).alloc o).frozen (by simp [hlt.1]), World.frozen?_setCell]
    exact h.frozenP
  · exact (hch.frozen (p := ⟨b, i, none⟩) hlt.2 hbp).trans (h.frozenB (by omega) i)
  · rw [hlen] at hi
    rw [getD_take zeroM hi]
    have := h.runs i (by omega)
    exact ⟨hch.cell this.1 hbp, hch.cell this.2.1 hbp, hch.cell this.2.2 hbp⟩
  · rw [hlen] at hi
    rw [getD_take zeroM hi]
    have := h.rows i (by omega)
    exact ⟨hRow _ w w' _ this.1 hch (Nat.ne_of_lt this.2.1), this.2⟩
/-- Nothing of it was written. -/
theorem St.chg {Row : World → RunM E → Prop} (hRow : ∀ (C : Nat → Prop) w w' r, Row w r → Chg C w w' → ¬ C r.blk → Row w' r) {fb : FuncId} {p b cap : Nat} {w w' : World} {xs : List (RunM E)} (h : St Row fb p b cap w xs) {C : Nat → Prop} (hu : Chg C w w') (hp : ∀ x, x ≤ p → ¬ C x) : St Row fb p b cap w' xs := by
  obtain ⟨a, hc, ha⟩ := h.cell
  have hb : 0 < xs.length → ¬ C b := fun h0 => hp b (Nat.le_of_lt (h.ne h0))
  exact ⟨⟨a, hu.cell hc (hp p (Nat.le_refl _)), ha⟩, h.len, h.small, h.ne, (hu.frozen (World.block_lt_of_cell? w ⟨p, 0, none⟩ hc) (hp p (Nat.le_refl _))).trans h.frozenP, fun h0 i => (hu.frozen (p := ⟨b, i, none⟩) (World.block_lt_of_cell? w ⟨b, 0 * 3, none⟩ (h.runs 0 h0).1) (hb h0)).trans (h.frozenB h0 i),
    fun i hi => ⟨hu.cell (h.runs i hi).1 (hb (by omega)), hu.cell (h.runs i hi).2.1 (hb (by omega)), hu.cell (h.runs i hi).2.2 (hb (by omega))⟩,
    fun i hi => ⟨hRow C w w' _ (h.rows i hi).1 hu (hp _ (Nat.le_of_lt (h.rows i hi).2.1)), (h.rows i hi).2⟩⟩
/-- Of the first run the head has gone. -/
theorem St.headOff {Row : World → RunM E → Prop} (hRow : ∀ (C : Nat → Prop) w w' r, Row w r → Chg C w w' → ¬ C r.blk → Row w' r) {fb : FuncId} {p b cap k : Nat} {w : World} {r : RunM E} {xs : List (RunM E)} (h : St Row fb p b cap w (r :: xs)) (hr : Row w (tailM k r))
    (w' : World) (e : w' = w.setCell ⟨b, 0, none⟩ (restV (tailM k r))) : St Row fb p b cap w' (tailM k r :: xs) ∧ Chg (fun x => x = b) w w' := by
  have hch : Chg (fun x => x = b) w w' := by rw [e]; exact Chg.set (C := fun x => x = b) (Chg.refl _ w) (p := ⟨b, 0, none⟩) (fun _ => rfl) _
  have hfr : ∀ q, w'.frozen? q = w.frozen? q := fun q => by rw [e, World.frozen?_setCell]
  obtain ⟨a, hc, ha⟩ := h.cell
  have h0 : 0 < (r :: xs).length := by simp
  have hbp := h.ne h0
  refine ⟨⟨⟨a, hch.cell hc (by simp only; omega), ha⟩, h.len, h.small, h.ne, (hfr _).trans h.frozenP, fun h0 i => (hfr _).trans (h.frozenB h0 i), fun i hi => ?_, fun i hi => ?_⟩, hch⟩
  · cases i with
    | zero =>
      obtain ⟨h1, h2, h3⟩ := h.runs 0 h0
      rw [e]
      exact ⟨World.cell?_setCell_same _ _ _ h1, (World.cell?_setCell_other _ _ _ _ (addr_ne (by omega))).trans h2, (World.cell?_setCell_other _ _ _ _ (addr_ne (by omega))).trans h3⟩
    | succ i =>
      obtain ⟨h1, h2, h3⟩ := h.runs (i + 1) hi
      rw [e]
      exact ⟨(World.cell?_setCell_other _ _ _ _ (addr_ne (by omega))).trans h1, (World.cell?_setCell_other _ _ _ _ (addr_ne (by omega))).trans h2, (World.cell?_setCell_other _ _ _ _ (addr_ne (by omega))).trans h3⟩
  · cases i with
    | zero =>
      have h1 := (h.rows 0 h0).2
      exact ⟨hRow _ w w' _ hr hch h1.2, h1⟩
    | succ i =>
      have h1 := h.rows (i + 1) hi
      exact ⟨hRow _ w w' _ h1.1 hch h1.2.2, h1.2⟩
end

end Go.Proofs.Ytcemdiloiachlaa

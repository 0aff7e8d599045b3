/-
  Runs that are laid one by one; what they are runs of; plain facts, no function of the program.
-/
import Derived.Test.YtcemdiloiachlaaHeapCells
namespace Go.Proofs.Ytcemdiloiachlaa
open Go.ChangeShapes Go.WideShapes Go.ChangeAt Go.RowKit

section
variable {E : Type}
theorem RunAt.laid {fb : FuncId} {w : World} {b i : Nat} (h : ∀ t, t < 3 → ∃ v, w.cell? ⟨b, i * 3 + t, none⟩ = some v) (r : RunM E) : RunAt fb (set3 w b (i * 3) (restV r) (.int .i64 r.list) (.func (.func fb) #[] #[])) b i r := by
  obtain ⟨u0, h0⟩ := h 0 (by omega)
  obtain ⟨u1, h1⟩ := h 1 (by omega)
  obtain ⟨u2, h2⟩ := h 2 (by omega)
  unfold set3
  refine ⟨?_, ?_, ?_⟩
  · rw [World.cell?_setCell_other _ _ _ _ (addr_ne (by omega)), World.cell?_setCell_other _ _ _ _ (addr_ne (by omega))]
    exact World.cell?_setCell_same _ _ _ h0
  · rw [World.cell?_setCell_other _ _ _ _ (addr_ne (by omega))]
    obtain ⟨_, y⟩ := cell?_setCell_some (p := ⟨b, i * 3, none⟩) (x := restV r) h1
    exact World.cell?_setCell_same _ _ _ y
  · obtain ⟨_, y⟩ := cell?_setCell_some (p := ⟨b, i * 3, none⟩) (x := restV r) h2
    obtain ⟨_, y⟩ := cell?_setCell_some (p := ⟨b, i * 3 + 1, none⟩) (x := .int .i64 r.list) y
    exact World.cell?_setCell_same _ _ _ y
theorem some_set3 {w : World} {b o : Nat} {v0 v1 v2 : Value} {q : Addr} (h : ∃ v, w.cell? q = some v) : ∃ v, (set3 w b o v0 v1 v2).cell? q = some v := by
  obtain ⟨v, h⟩ := h
  obtain ⟨_, h⟩ := cell?_setCell_some (p := ⟨b, o, none⟩) (x := v0) h
  obtain ⟨_, h⟩ := cell?_setCell_some (p := ⟨b, o + 1, none⟩) (x := v1) h
  exact cell?_setCell_some (p := ⟨b, o + 2, none⟩) (x := v2) h
theorem up_set3 {a w : World} {b o : Nat} {v0 v1 v2 : Value} (h : Up a w) (hb : a.heap.size ≤ b) : Up a (set3 w b o v0 v1 v2) :=
  ((h.setCell (p := ⟨b, o, none⟩) hb v0).setCell (p := ⟨b, o + 1, none⟩) hb v1).setCell (p := ⟨b, o + 2, none⟩) hb v2

/-- Each element a row of its own. -/
def oneM (k : Nat) (z : E) (l : List E) (blk off cap : Nat) (i : Nat) : RunM E := ⟨i, [l.getD i z], blk, off + i * k, cap - i⟩
def onesM (k : Nat) (z : E) (l : List E) (blk off cap : Nat) : List (RunM E) := (List.range l.length).map (oneM k z l blk off cap)
theorem onesM_length (k : Nat) (z : E) (l : List E) (blk off cap : Nat) : (onesM k z l blk off cap).length = l.length := by simp [onesM]
theorem onesM_getD (k : Nat) (z : E) (l : List E) (blk off cap : Nat) {i : Nat} (hi : i < l.length) : (onesM k z l blk off cap).getD i zeroM = oneM k z l blk off cap i := by
  rw [List.getD_eq_getElem?_getD, onesM, List.getElem?_map, List.getElem?_range hi]
  rfl
theorem onesM_rep (k : Nat) (z : E) (l : List E) (blk off cap : Nat) : Rep (onesM k z l blk off cap) (l.map (fun e => [e])) := by
  have hg : ∀ i (h : i < l.length), l.getD i z = l[i] := fun i h => by rw [List.getD_eq_getElem?_getD, List.getElem?_eq_getElem h]; rfl
  refine ⟨fun r hr => ?_, fun i m hm _ => ?_, ?_⟩
  · obtain ⟨i, hi, rfl⟩ := List.mem_map.1 hr
    have hi' := List.mem_range.1 hi
    refine ⟨List.cons_ne_nil _ _, ?_⟩
    show (l.map (fun e => [e]))[i]? = some [l.getD i z]
    rw [List.getElem?_map, List.getElem?_eq_getElem hi', hg i hi']
    rfl
  · have hi : i < l.length := by have := (List.getElem?_eq_some_iff.1 hm).1; simpa using this
    exact ⟨oneM k z l blk off cap i, List.mem_map.2 ⟨i, List.mem_range.2 hi, rfl⟩, rfl⟩
  · rw [onesM, List.map_map]
    have : ((fun x => x.list) ∘ oneM k z l blk off cap) = fun i => i := rfl
    rw [this, List.map_id']
    exact List.nodup_range
theorem ones_flatten (l : List E) : (l.map (fun e => [e])).flatten = l := by
  induction l with
  | nil => rfl
  | cons x l ih => rw [List.map_cons, List.flatten_cons, ih]; rfl
theorem ones_srt (rk : E → Int) (l : List E) : ∀ m ∈ l.map (fun e => [e]), Srt rk m := by
  intro m hm
  obtain ⟨e, _, rfl⟩ := List.mem_map.1 hm
  exact List.pairwise_singleton _ _
/-- How many of so many are asked for. -/
def clampN (n : Int) (len : Nat) : Nat := if n ≤ 0 then 0 else if n ≤ len then n.toNat else len
theorem clampN_le (n : Int) (len : Nat) : clampN n len ≤ len := by unfold clampN; split <;> (try split) <;> omega
theorem clampN_full (len : Nat) : clampN len len = len := by unfold clampN; split <;> (try split) <;> omega
theorem clampN_int (n : Int) (len : Nat) : max 0 (min n (len : Int)) = (clampN n len : Int) := by unfold clampN; split <;> (try split) <;> omega
/-- The least ones, from the first on. -/
theorem ones_first (rk : E → Int) (k : Nat) (z : E) (l : List E) (blk off cap n : Nat) (hn : n ≤ l.length) :
    firstM rk z k n (initL zeroM (aheadM rk z) ((onesM k z l blk off cap).length / 2) (onesM k z l blk off cap)) = (isort rk l).take n := by
  have h1 := (onesM_rep k z l blk off cap).perm (initL_perm zeroM (aheadM rk z) ((onesM k z l blk off cap).length / 2) _)
  have h2 := init_heap zeroM (aheadM rk z) (aheadM_order rk z) (onesM k z l blk off cap)
  have h3 := firstM_sorts rk z k n _ _ h1 (by rw [initL_length]; exact h2) (ones_srt rk l) (by rw [ones_flatten]; exact hn)
  rw [h3, ones_flatten]
/-- A row that is there, nothing or some. -/
def InG (k : Nat) (cs : E → List Value) (z : E) (w : World) (a : Option Addr) (len c : Nat) (l : List E) : Prop :=
  l.length = len ∧ len ≤ c ∧ c ≤ maxLen ∧ ∃ blk off, (0 < len → a = some ⟨blk, off, none⟩) ∧ ∀ i, i < len → ∀ j v, (cs (l.getD i z))[j]? = some v → w.cell? ⟨blk, off + i * k + j, none⟩ = some v
theorem InG.up {k : Nat} {cs : E → List Value} {z : E} {w w' : World} {a : Option Addr} {len c : Nat} {l : List E} (h : InG k cs z w a len c l) (hu : Up w w') : InG k cs z w' a len c l := by
  obtain ⟨h1, h2, h3, blk, off, h4, h5⟩ := h
  exact ⟨h1, h2, h3, blk, off, h4, fun i hi j v hv => hu.cell (h5 i hi j v hv)⟩
theorem InG.below {k : Nat} {cs : E → List Value} {z : E} {w w' : World} {a : Option Addr} {len c B : Nat} {l : List E} (h : InG k cs z w a len c l) (hB : ∀ x, a = some x → x.block < B) (hu : Below B w w') : InG k cs z w' a len c l := by
  obtain ⟨h1, h2, h3, blk, off, h4, h5⟩ := h
  refine ⟨h1, h2, h3, blk, off, h4, fun i hi j v hv => ?_⟩
  have hb : blk < B := hB ⟨blk, off, none⟩ (h4 (by omega))
  exact (Below.cell (p := ⟨blk, off + i * k + j, none⟩) hu hb).trans (h5 i hi j v hv)
theorem OwnG.inG {e : TypeId} {k : Nat} {cs : E → List Value} {z : E} {w : World} {base : Nat} {v : Value} {l : List E} (h : OwnG e k cs w base v l) (hk : ∀ v, (cs v).length = k) :
    ∃ a c, v = .slice a l.length c ∧ InG k cs z w a l.length c l ∧ ∀ x, a = some x → base ≤ x.block ∧ x.block < w.heap.size := by
  obtain ⟨a, c, hv, h1, h2, h3⟩ := h.slc (z := z) (ok := fun _ => True) hk (fun _ => trivial)
  refine ⟨a, c, hv, ⟨rfl, h1, h2, ?_⟩, fun x hx => ?_⟩
  · rcases h3.2.2 with h0 | ⟨b, off, ha, hx⟩
    · exact ⟨0, 0, fun h => by omega, fun i hi => by omega⟩
    · exact ⟨b, off, fun _ => ha, hx⟩
  · have := h.lt x.block (by rw [hv, hx]; rfl)
    exact this
/-- Its beginning, its end. -/
theorem InG.take {k : Nat} {cs : E → List Value} {z : E} {w : World} {a : Option Addr} {len c m : Nat} {l : List E} (h : InG k cs z w a len c l) (hm : m ≤ len) : InG k cs z w a m c (l.take m) := by
  obtain ⟨h1, h2, h3, blk, off, h4, h5⟩ := h
  refine ⟨by rw [List.length_take]; omega, by omega, h3, blk, off, fun h => h4 (by omega), fun i hi j v hv => ?_⟩
  rw [getD_take z hi] at hv
  exact h5 i (by omega) j v hv
theorem InG.drop {k : Nat} {cs : E → List Value} {z : E} {w : World} {blk off len c m : Nat} {l : List E} (h1 : l.length = len) (h2 : len ≤ c) (h3 : c ≤ maxLen) (h5 : ∀ i, i < len → ∀ j v, (cs (l.getD i z))[j]? = some v → w.cell? ⟨blk, off + i * k + j, none⟩ = some v) (hm : m ≤ len) : InG k cs z w (some ⟨blk, off + m * k, none⟩) (len - m) (c - m) (l.drop m) := by
  refine ⟨by rw [List.length_drop]; omega, by omega, by omega, blk, off + m * k, fun _ => rfl, fun i hi j v hv => ?_⟩
  have e : (l.drop m).getD i z = l.getD (m + i) z := by simp only [List.getD_eq_getElem?_getD, List.getElem?_drop]
  rw [e] at hv
  have := h5 (m + i) (by omega) j v hv
  rw [Nat.add_mul] at this
  rw [show off + m * k + i * k + j = off + (m * k + i * k) + j by omega]
  exact this
end

end Go.Proofs.Ytcemdiloiachlaa

/-
  A row of calls of positions that came in as an argument, opened: what its reading tells of the memory.
-/
import Derived.Test.YtbnkddnjfkagkaaTrOpn
import Derived.Test.YtbnkddnjfkagkaaSqMap
import Derived.Lib.SmallJoins
namespace Go.Proofs.Ytbnkddnjfkagkaa
open Go.ChangeShapes Go.WideShapes Go.RowKit Go.Joins Go.Deep
set_option maxRecDepth 100000

/-- A call of positions: what, two places, the number. -/
structure PS where
  what : Int
  i : Int
  k : Int
  id : Int
def psCells (s : PS) : List Value := [.int .i64 s.what, .int .i64 s.i, .int .i64 s.k, .int .i64 s.id]
def OkPS (s : PS) : Prop := ((IntKind.i64.min ≤ s.what ∧ s.what ≤ IntKind.i64.max) ∧ IntKind.i64.min ≤ s.i ∧ s.i ≤ IntKind.i64.max) ∧ (IntKind.i64.min ≤ s.k ∧ s.k ≤ IntKind.i64.max) ∧ wf64 s.id
/-- The row of calls stands in the memory. -/
def PStepsAt (w : World) (a : Option Addr) (len : Nat) (l : List PS) : Prop :=
  l.length = len ∧ (∀ s ∈ l, OkPS s) ∧ (len = 0 ∨ ∃ b off, a = some ⟨b, off, none⟩ ∧ ∀ (i : Nat) (hi : i < l.length) (j : Nat) (v : Value), (psCells l[i])[j]? = some v → w.cell? ⟨b, off + i * 4 + j, none⟩ = some v)
theorem wfPS0 {k : Int} (h : (Lit.int .i64 k).wf = true) : IntKind.i64.min ≤ k ∧ k ≤ IntKind.i64.max := by
  simp [Lit.wf] at h
  exact h
theorem trod_ps {H : Type} {enc : TypeId × Value → H} {w : World} {base : Nat} {spare : Nat → Bool} {held : Bool} (fuel : Nat) (cs : List Value) (x : DataW H × List MemPlace)
    (h : DataW.trod enc Try.prog w base spare held fuel 57 cs = some x) : ∃ v : PS, cs = psCells v ∧ OkPS v := by
  obtain ⟨y0, y1, y2, y3, n, _, hlen, h0, h1, h2, h3⟩ := trod_struct4 Try.underlying57 h
  have hc : Try.prog.cellsOf 57 = 4 := by kernel_rfl
  have c3 : Try.prog.cellsOf 3 = 1 := by kernel_rfl
  have c2 : Try.prog.cellsOf 2 = 1 := by kernel_rfl
  rw [hc] at hlen
  simp only [c3, c2] at h0 h1 h2 h3
  match cs, hlen with
  | [x0, x1, x2, x3], _ =>
    obtain ⟨k0, e0, _, w0⟩ := DataW.trod_int Try.underlying3 h0
    obtain ⟨k1, e1, _, w1⟩ := DataW.trod_int Try.underlying3 h1
    obtain ⟨k2, e2, _, w2⟩ := DataW.trod_int Try.underlying3 h2
    obtain ⟨k3, e3, _, w3⟩ := DataW.trod_int Try.underlying2 h3
    simp at e0 e1 e2 e3
    subst e0 e1 e2 e3
    exact ⟨⟨k0, k1, k2, k3⟩, rfl, ⟨wfPS0 w0, wfPS0 w1⟩, wfPS0 w2, w3⟩
theorem open_ps {H : Type} {enc : TypeId × Value → H} {w : World} {base : Nat} {spare : Nat → Bool} {held : Bool} {a : Option Addr} {len cap : Nat} {d : DataW H} {p : List MemPlace}
    (h : DataW.Trod enc Try.prog w base spare held 53 (.slice a len cap) d p) : ∃ l, len ≤ maxLen ∧ len ≤ cap ∧ cap ≤ maxLen ∧ PStepsAt w a len l := by
  letI : Inhabited PS := ⟨⟨0, 0, 0, 0⟩⟩
  obtain ⟨fuel, hf⟩ := h
  have hc : Try.prog.cellsOf 57 = 4 := by kernel_rfl
  rcases open_slice Try.underlying53 hf with ⟨hcs, _⟩ | ⟨x, l, c, m, n, D, Pl, hcs, _, hl, hm, hmm, _, hx⟩
  · simp [Value.cells] at hcs
    obtain ⟨rfl, rfl, rfl⟩ := hcs
    exact ⟨[], Nat.zero_le _, Nat.le_refl _, Nat.zero_le _, rfl, fun s hs => absurd hs (by simp), .inl rfl⟩
  · simp [Value.cells] at hcs
    obtain ⟨rfl, rfl, rfl⟩ := hcs
    rw [hc] at hx
    have hlm : len ≤ m := by rw [hmm]; split <;> omega
    obtain ⟨V, hV⟩ := choose_lt (α := PS) (n := len) (p := fun i v => (∀ j, j < 4 → w.cell? ((x.add (i * 4)).add j) = (psCells v)[j]?) ∧ OkPS v) (fun i hi => by
      obtain ⟨cs', h1, h2⟩ := hx i (by omega)
      obtain ⟨v, rfl, hfit⟩ := trod_ps _ _ _ h2
      obtain ⟨_, _, hcell⟩ := World.cells?_some h1
      exact ⟨v, hcell, hfit⟩)
    refine ⟨(List.range len).map V, by omega, hl, hm, by simp, fun s hs => ?_, ?_⟩
    · obtain ⟨i, hi, rfl⟩ := List.mem_map.1 hs
      exact (hV i (List.mem_range.1 hi)).2
    · by_cases h0 : len = 0
      · exact .inl h0
      · refine .inr ?_
        obtain ⟨b, off, spot⟩ := x
        have hspot : spot = none := by
          have h := (hV 0 (by omega)).1 0 (by decide)
          simp only [psCells, List.getElem?_cons_zero] at h
          simpa [Addr.add] using World.cell?_spot h
        subst hspot
        refine ⟨b, off, rfl, fun i hi j v hv => ?_⟩
        have hi' : i < len := by simpa using hi
        have e : ((List.range len).map V)[i] = V i := by simp
        rw [e] at hv
        have hj : j < 4 := by
          rcases Nat.lt_or_ge j 4 with h | h
          · exact h
          · rw [List.getElem?_eq_none (by simpa [psCells] using h)] at hv; cases hv
        have h := (hV i hi').1 j hj
        rw [hv, add_plain, add_plain] at h
        exact h

end Go.Proofs.Ytbnkddnjfkagkaa

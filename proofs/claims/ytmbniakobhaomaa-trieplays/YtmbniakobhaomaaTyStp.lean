/-
  A row of calls of a trie that came in as an argument, opened: what its reading tells of the memory.
-/
import Derived.Test.YtmbniakobhaomaaTgRow
import Derived.ProofKit
import Derived.OpenShut
import Derived.Deep.Slices
import Derived.Lib.SmallJoins
import Derived.Deep.Strs
namespace Go.Proofs.Ytmbniakobhaomaa
open Go.ChangeShapes Go.WideShapes Go.RowKit Go.Joins Go.Deep
set_option maxRecDepth 100000

/-- A call of a trie: what, the string, the number. -/
structure T15 where
  what : Int
  s : ByteArray
  id : Int
def t15Cells (s : T15) : List Value := [.int .i64 s.what, .string s.s, .int .i64 s.id]
def OkT15 (s : T15) : Prop := (IntKind.i64.min ≤ s.what ∧ s.what ≤ IntKind.i64.max) ∧ s.s.size ≤ maxLen ∧ IntKind.i64.min ≤ s.id ∧ s.id ≤ IntKind.i64.max
/-- The row of calls stands in the memory. -/
def Steps15 (w : World) (a : Option Addr) (len : Nat) (l : List T15) : Prop :=
  l.length = len ∧ (∀ s ∈ l, OkT15 s) ∧ (len = 0 ∨ ∃ b off, a = some ⟨b, off, none⟩ ∧ ∀ (i : Nat) (hi : i < l.length) (j : Nat) (v : Value), (t15Cells l[i])[j]? = some v → w.cell? ⟨b, off + i * 3 + j, none⟩ = some v)
theorem wfT15 {k : Int} (h : (Lit.int .i64 k).wf = true) : IntKind.i64.min ≤ k ∧ k ≤ IntKind.i64.max := by
  simp [Lit.wf] at h
  exact h
theorem trod_t15 {H : Type} {enc : TypeId × Value → H} {w : World} {base : Nat} {spare : Nat → Bool} {held : Bool} (fuel : Nat) (cs : List Value) (x : DataW H × List MemPlace)
    (h : DataW.trod enc Try.prog w base spare held fuel 41 cs = some x) : ∃ v : T15, cs = t15Cells v ∧ OkT15 v := by
  obtain ⟨y0, y1, y2, n, _, hlen, h0, h1, h2⟩ := trod_struct3 Try.underlying41 h
  have hc : Try.prog.cellsOf 41 = 3 := by kernel_rfl
  have c3 : Try.prog.cellsOf 3 = 1 := by kernel_rfl
  have c9 : Try.prog.cellsOf 9 = 1 := by kernel_rfl
  have c2 : Try.prog.cellsOf 2 = 1 := by kernel_rfl
  rw [hc] at hlen
  simp only [c3, c9, c2] at h0 h1 h2
  match cs, hlen with
  | [x0, x1, x2], _ =>
    obtain ⟨k0, e0, _, w0⟩ := DataW.trod_int Try.underlying3 h0
    obtain ⟨k1, e1, _, w1⟩ := DataW.trod_string Try.underlying9 h1
    obtain ⟨k2, e2, _, w2⟩ := DataW.trod_int Try.underlying2 h2
    simp at e0 e1 e2
    subst e0 e1 e2
    exact ⟨⟨k0, k1, k2⟩, rfl, wfT15 w0, w1, wfT15 w2⟩
theorem open_t15 {H : Type} {enc : TypeId × Value → H} {w : World} {base : Nat} {spare : Nat → Bool} {held : Bool} {a : Option Addr} {len cap : Nat} {d : DataW H} {p : List MemPlace}
    (h : DataW.Trod enc Try.prog w base spare held 38 (.slice a len cap) d p) : ∃ l, len ≤ maxLen ∧ len ≤ cap ∧ cap ≤ maxLen ∧ Steps15 w a len l := by
  letI : Inhabited T15 := ⟨⟨0, ⟨#[]⟩, 0⟩⟩
  obtain ⟨fuel, hf⟩ := h
  have hc : Try.prog.cellsOf 41 = 3 := by kernel_rfl
  rcases open_slice Try.underlying38 hf with ⟨hcs, _⟩ | ⟨x, l, c, m, n, D, Pl, hcs, _, hl, hm, hmm, _, hx⟩
  · simp [Value.cells] at hcs
    obtain ⟨rfl, rfl, rfl⟩ := hcs
    exact ⟨[], Nat.zero_le _, Nat.le_refl _, Nat.zero_le _, rfl, fun s hs => absurd hs (by simp), .inl rfl⟩
  · simp [Value.cells] at hcs
    obtain ⟨rfl, rfl, rfl⟩ := hcs
    rw [hc] at hx
    have hlm : len ≤ m := by rw [hmm]; split <;> omega
    obtain ⟨V, hV⟩ := choose_lt (α := T15) (n := len) (p := fun i v => (∀ j, j < 3 → w.cell? ((x.add (i * 3)).add j) = (t15Cells v)[j]?) ∧ OkT15 v) (fun i hi => by
      obtain ⟨cs', h1, h2⟩ := hx i (by omega)
      obtain ⟨v, rfl, hfit⟩ := trod_t15 _ _ _ h2
      obtain ⟨_, _, hcell⟩ := World.cells?_some h1
      exact ⟨v, hcell, hfit⟩)
    refine ⟨(List.range len).map V, by omega, hl, hm, by simp, fun s hs => ?_, ?_⟩
    · obtain ⟨i, hi, rfl⟩ := List.mem_map.1 hs
      exact (hV i (List.mem_range.1 hi)).2
    · by_cases h0 : len = 0
      · exact .inl h0
      · refine .inr ?_
        obtain ⟨b, off, spot⟩ := x
        have hspot : spot = none := by
          have h := (hV 0 (by omega)).1 0 (by decide)
          simp only [t15Cells, List.getElem?_cons_zero] at h
          simpa [Addr.add] using World.cell?_spot h
        subst hspot
        refine ⟨b, off, rfl, fun i hi j v hv => ?_⟩
        have hi' : i < len := by simpa using hi
        have e : ((List.range len).map V)[i] = V i := by simp
        rw [e] at hv
        have hj : j < 3 := by
          rcases Nat.lt_or_ge j 3 with h | h
          · exact h
          · rw [List.getElem?_eq_none (by simpa [t15Cells] using h)] at hv; cases hv
        have h := (hV i hi').1 j hj
        rw [hv, add_plain, add_plain] at h
        exact h
end Go.Proofs.Ytmbniakobhaomaa

/-
  Rows of whatever things of some cells each as they lie in memory: fields of a shape, parts of a definition, truths; plain facts, no function of the program.
-/
import Derived.Test.YteigjboelhcaiaaVals
namespace Go.Proofs.Yteigjboelhcaiaa
open Go.RowKit

/-- A slice of things of k cells each: nothing, or a row of them in memory. -/
def Slc {α : Type} (k : Nat) (cs : α → List Value) (z : α) (ok : α → Prop) (w : World) (a : Option Addr) (n : Nat) (l : List α) : Prop :=
  l.length = n ∧ (∀ i, ok (l.getD i z)) ∧ (n = 0 ∨ ∃ b off, a = some ⟨b, off, none⟩ ∧ ∀ i, i < n → ∀ j v, (cs (l.getD i z))[j]? = some v → w.cell? ⟨b, off + i * k + j, none⟩ = some v)
theorem Slc.up {α : Type} {k : Nat} {cs : α → List Value} {z : α} {ok : α → Prop} {w w' : World} {a : Option Addr} {n : Nat} {l : List α} (h : Slc k cs z ok w a n l) (hu : Up w w') : Slc k cs z ok w' a n l := by
  refine ⟨h.1, h.2.1, ?_⟩
  rcases h.2.2 with h0 | ⟨b, off, ha, hx⟩
  · exact .inl h0
  · exact .inr ⟨b, off, ha, fun i hi j v hv => hu.cell (hx i hi j v hv)⟩
/-- Its beginning. -/
theorem Slc.take {α : Type} {k : Nat} {cs : α → List Value} {z : α} {ok : α → Prop} {w : World} {a : Option Addr} {n : Nat} {l : List α} (h : Slc k cs z ok w a n l) (hz : ok z) {m : Nat} (hm : m ≤ n) :
    Slc k cs z ok w a m (l.take m) := by
  have e : ∀ i, (l.take m).getD i z = if i < m then l.getD i z else z := by
    intro i
    simp only [List.getD_eq_getElem?_getD, List.getElem?_take]
    split <;> rfl
  refine ⟨by rw [List.length_take, h.1]; omega, fun i => ?_, ?_⟩
  · rw [e]
    split
    · exact h.2.1 i
    · exact hz
  · rcases h.2.2 with h0 | ⟨b, off, ha, hx⟩
    · exact .inl (by omega)
    · refine .inr ⟨b, off, ha, fun i hi j v hv => ?_⟩
      rw [e, if_pos hi] at hv
      exact hx i (by omega) j v hv

/-- A field: its name, its kind. -/
abbrev FT := ByteArray × Int
def fCells (f : FT) : List Value := [.string f.1, .int .i64 f.2]
def FitsF (f : FT) : Prop := f.1.size ≤ maxLen ∧ IntKind.i64.min ≤ f.2 ∧ f.2 ≤ IntKind.i64.max
def zeroF : FT := (ByteArray.empty, 0)
theorem fits_zeroF : FitsF zeroF := ⟨by simp [zeroF, maxLen], by decide, by decide⟩
abbrev Flds := Slc 2 fCells zeroF FitsF
/-- A part: the field's number, the hook's. -/
abbrev PT := Int × Int
def pCells (p : PT) : List Value := [.int .i64 p.1, .int .i64 p.2]
def FitsP (p : PT) : Prop := IntKind.i64.min ≤ p.1 ∧ p.1 ≤ IntKind.i64.max ∧ IntKind.i64.min ≤ p.2 ∧ p.2 ≤ IntKind.i64.max
def zeroP : PT := (0, 0)
theorem fits_zeroP : FitsP zeroP := ⟨by decide, by decide, by decide, by decide⟩
abbrev Prts := Slc 2 pCells zeroP FitsP
/-- A row of truths. -/
def bCells (b : Bool) : List Value := [.bool b]
abbrev Blns := Slc 1 bCells false (fun _ => True)

theorem Slc.fld {w : World} {a : Option Addr} {n : Nat} {l : List FT} (h : Flds w a n l) {i : Nat} (hi : i < n) :
    ∃ b off, a = some ⟨b, off, none⟩ ∧ w.cell? ⟨b, off + i * 2, none⟩ = some (.string (l.getD i zeroF).1) ∧ w.cell? ⟨b, off + i * 2 + 1, none⟩ = some (.int .i64 (l.getD i zeroF).2) := by
  rcases h.2.2 with h0 | ⟨b, off, ha, hx⟩
  · omega
  · exact ⟨b, off, ha, by simpa using hx i hi 0 _ rfl, hx i hi 1 _ rfl⟩
theorem Slc.prt {w : World} {a : Option Addr} {n : Nat} {l : List PT} (h : Prts w a n l) {i : Nat} (hi : i < n) :
    ∃ b off, a = some ⟨b, off, none⟩ ∧ w.cell? ⟨b, off + i * 2, none⟩ = some (.int .i64 (l.getD i zeroP).1) ∧ w.cell? ⟨b, off + i * 2 + 1, none⟩ = some (.int .i64 (l.getD i zeroP).2) := by
  rcases h.2.2 with h0 | ⟨b, off, ha, hx⟩
  · omega
  · exact ⟨b, off, ha, by simpa using hx i hi 0 _ rfl, hx i hi 1 _ rfl⟩
theorem Slc.bln {w : World} {a : Option Addr} {n : Nat} {l : List Bool} (h : Blns w a n l) {i : Nat} (hi : i < n) :
    ∃ b off, a = some ⟨b, off, none⟩ ∧ w.cell? ⟨b, off + i, none⟩ = some (.bool (l.getD i false)) := by
  rcases h.2.2 with h0 | ⟨b, off, ha, hx⟩
  · omega
  · exact ⟨b, off, ha, by simpa using hx i hi 0 _ rfl⟩

end Go.Proofs.Yteigjboelhcaiaa

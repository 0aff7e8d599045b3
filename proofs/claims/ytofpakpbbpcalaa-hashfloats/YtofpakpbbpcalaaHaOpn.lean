/-
  A slice of words that came in as an argument, opened: what its reading tells of the memory.
-/
import Derived.Test.YtofpakpbbpcalaaUps
import Derived.Test.YtofpakpbbpcalaaRows
import Derived.Test.YtofpakpbbpcalaaVals
import Derived.ProofKit
import Derived.OpenShut
import Derived.Deep.Slices
import Derived.Lib.SmallJoins
namespace Go.Proofs.Ytofpakpbbpcalaa
open Go.ChangeShapes Go.WideShapes Go.RowKit Go.Joins Go.Deep

/-- A slice of things of one cell: nothing, or a row of them in memory. -/
def Ones {E : Type} (cell : E → Value) (z : E) (ok : E → Prop) (w : World) (a : Option Addr) (n : Nat) (l : List E) : Prop :=
  l.length = n ∧ (∀ i, ok (l.getD i z)) ∧ (n = 0 ∨ ∃ b off, a = some ⟨b, off, none⟩ ∧ ∀ i, i < n → w.cell? ⟨b, off + i, none⟩ = some (cell (l.getD i z)))
theorem Ones.up {E : Type} {cell : E → Value} {z : E} {ok : E → Prop} {w w' : World} {a : Option Addr} {n : Nat} {l : List E} (h : Ones cell z ok w a n l) (hu : Up w w') : Ones cell z ok w' a n l :=
  ⟨h.1, h.2.1, h.2.2.imp id (fun ⟨b, off, h1, h2⟩ => ⟨b, off, h1, fun i hi => hu.cell (h2 i hi)⟩)⟩
theorem open_ones1 {E : Type} [Inhabited E] {t e : TypeId} (ht : Try.prog.underlying t = some (.slice e)) (hc : Try.prog.cellsOf e = 1) (cell : E → Value) (z : E) (ok : E → Prop) (hz : ok z)
    {H : Type} {enc : TypeId × Value → H} {w : World} {base : Nat} {spare : Nat → Bool} {held : Bool}
    (hone : ∀ (n : Nat) (cs : List Value) (x : DataW H × List MemPlace), DataW.trod enc Try.prog w base spare held n e cs = some x → ∃ v, cs = [cell v] ∧ ok v)
    {a : Option Addr} {len cap : Nat} {d : DataW H} {p : List MemPlace}
    (h : DataW.Trod enc Try.prog w base spare held t (.slice a len cap) d p) : ∃ l, len ≤ maxLen ∧ len ≤ cap ∧ cap ≤ maxLen ∧ Ones cell z ok w a len l := by
  obtain ⟨fuel, hf⟩ := h
  rcases open_slice ht hf with ⟨hcs, _⟩ | ⟨x, l, c, m, n, D, Pl, hcs, _, hl, hm, hmm, _, hx⟩
  · simp [Value.cells] at hcs
    obtain ⟨rfl, rfl, rfl⟩ := hcs
    exact ⟨[], Nat.zero_le _, Nat.le_refl _, Nat.zero_le _, rfl, fun i => hz, .inl rfl⟩
  · simp [Value.cells] at hcs
    obtain ⟨rfl, rfl, rfl⟩ := hcs
    rw [hc] at hx
    have hlm : len ≤ m := by rw [hmm]; split <;> omega
    obtain ⟨V, hV⟩ := choose_lt (α := E) (n := len) (p := fun i v => w.cell? ((x.add (i * 1)).add 0) = some (cell v) ∧ ok v) (fun i hi => by
      obtain ⟨cs', h1, h2⟩ := hx i (by omega)
      obtain ⟨v, rfl, hw⟩ := hone _ _ _ h2
      obtain ⟨_, _, hcell⟩ := World.cells?_some h1
      have h0 := hcell 0 (by omega)
      exact ⟨v, by simpa using h0, hw⟩)
    have e : ∀ i, i < len → ((List.range len).map V).getD i z = V i := fun i hi => by simp [List.getD_eq_getElem?_getD, hi]
    refine ⟨(List.range len).map V, Nat.le_trans hl hm, hl, hm, by simp, fun i => ?_, ?_⟩
    · by_cases hi : i < len
      · rw [e i hi]; exact (hV i hi).2
      · rw [List.getD_eq_getElem?_getD, List.getElem?_eq_none (by simp; omega)]; exact hz
    · by_cases h0 : len = 0
      · exact .inl h0
      · obtain ⟨b, off, spot⟩ := x
        have hspot : spot = none := by
          have h := (hV 0 (by omega)).1
          simpa [Addr.add] using World.cell?_spot h
        subst hspot
        refine .inr ⟨b, off, rfl, fun i hi => ?_⟩
        have h := (hV i hi).1
        rw [e i hi, ← h, add_plain, add_plain]
        simp
/-- A word's cell. -/
def wordC (x : Nat) : Value := .int .u64 (x : Int)
abbrev Words := Ones wordC 0 (fun x => x < whole)
theorem open_words {H : Type} {enc : TypeId × Value → H} {w : World} {base : Nat} {spare : Nat → Bool} {held : Bool} {a : Option Addr} {len cap : Nat} {d : DataW H} {p : List MemPlace}
    (h : DataW.Trod enc Try.prog w base spare held 47 (.slice a len cap) d p) : ∃ l, len ≤ maxLen ∧ len ≤ cap ∧ cap ≤ maxLen ∧ Words w a len l :=
  open_ones1 Try.underlying47 (by kernel_rfl) wordC 0 (fun x => x < whole) (by decide +kernel) (fun n cs x hx => by
    obtain ⟨k, rfl, _, hw⟩ := DataW.trod_int Try.underlying48 hx
    have hb : 0 ≤ k ∧ k < 18446744073709551616 := by
      simp [Lit.wf, IntKind.min, IntKind.max, IntKind.signed, IntKind.bits] at hw
      omega
    refine ⟨k.toNat, ?_, ?_⟩
    · rw [wordC, Int.toNat_of_nonneg hb.1]
    · show k.toNat < whole
      unfold whole; omega) h

end Go.Proofs.Ytofpakpbbpcalaa

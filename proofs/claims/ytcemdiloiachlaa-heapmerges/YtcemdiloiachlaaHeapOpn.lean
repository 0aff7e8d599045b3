/-
  Slices of small integers and of strings that came in as arguments, opened: what their readings tell of the memory.
-/
import Derived.Test.YtcemdiloiachlaaHeapLay
import Derived.ProofKit
import Derived.OpenShut
import Derived.Deep.Slices
import Derived.Lib.SmallJoins
namespace Go.Proofs.Ytcemdiloiachlaa
open Go.ChangeShapes Go.WideShapes Go.RowKit Go.Joins Go.Deep

theorem wf_i8 {n : Int} (h : (Lit.int .i8 n).wf = true) : -128 ≤ n ∧ n ≤ 127 := by
  simpa [Lit.wf, IntKind.min, IntKind.max, IntKind.signed, IntKind.bits] using h
theorem wf_i16 {n : Int} (h : (Lit.int .i16 n).wf = true) : -32768 ≤ n ∧ n ≤ 32767 := by
  simpa [Lit.wf, IntKind.min, IntKind.max, IntKind.signed, IntKind.bits] using h

/-- A slice of things of one cell each that came in. -/
theorem open_ones {E : Type} [Inhabited E] {t e : TypeId} (ht : Try.prog.underlying t = some (.slice e)) (hc : Try.prog.cellsOf e = 1) (cell : E → Value) (z : E) (ok : E → Prop) (hz : ok z)
    {H : Type} {enc : TypeId × Value → H} {w : World} {base : Nat} {spare : Nat → Bool} {held : Bool}
    (hone : ∀ (n : Nat) (cs : List Value) (x : DataW H × List MemPlace), DataW.trod enc Try.prog w base spare held n e cs = some x → ∃ v, cs = [cell v] ∧ ok v)
    {a : Option Addr} {len cap : Nat} {d : DataW H} {p : List MemPlace}
    (h : DataW.Trod enc Try.prog w base spare held t (.slice a len cap) d p) : ∃ l, InG 1 (fun x => [cell x]) z w a len cap l ∧ ∀ i, ok (l.getD i z) := by
  obtain ⟨fuel, hf⟩ := h
  rcases open_slice ht hf with ⟨hcs, _⟩ | ⟨x, l, c, m, n, D, Pl, hcs, _, hl, hm, hmm, _, hx⟩
  · simp [Value.cells] at hcs
    obtain ⟨rfl, rfl, rfl⟩ := hcs
    exact ⟨[], ⟨rfl, Nat.le_refl _, Nat.zero_le _, 0, 0, fun h => by omega, fun i hi => by omega⟩, fun i => hz⟩
  · simp [Value.cells] at hcs
    obtain ⟨rfl, rfl, rfl⟩ := hcs
    rw [hc] at hx
    have hlm : len ≤ m := by rw [hmm]; split <;> omega
    obtain ⟨V, hV⟩ := choose_lt (α := E) (n := len) (p := fun i v => w.cell? ((x.add (i * 1)).add 0) = some (cell v) ∧ ok v) (fun i hi => by
      obtain ⟨cs', h1, h2⟩ := hx i (by omega)
      obtain ⟨v, rfl, hw⟩ := hone _ _ _ h2
      obtain ⟨_, _, hcell⟩ := World.cells?_some h1
      have h0 := hcell 0 (by omega)
      exact ⟨v, by simpa using h0, hw⟩)
    have e : ∀ i, i < len → ((List.range len).map V).getD i z = V i := fun i hi => by simp [List.getD_eq_getElem?_getD, hi]
    refine ⟨(List.range len).map V, ⟨by simp, hl, hm, ?_⟩, fun i => ?_⟩
    · by_cases h0 : len = 0
      · exact ⟨0, 0, fun h => by omega, fun i hi => by omega⟩
      · obtain ⟨b, off, spot⟩ := x
        have hspot : spot = none := by
          have h := (hV 0 (by omega)).1
          simpa [Addr.add] using World.cell?_spot h
        subst hspot
        refine ⟨b, off, fun _ => rfl, fun i hi j v hv => ?_⟩
        have h := (hV i hi).1
        rw [e i hi] at hv
        match j with
        | 0 =>
          simp at hv
          subst hv
          rw [← h, add_plain, add_plain]
        | j + 1 => simp at hv
    · by_cases hi : i < len
      · rw [e i hi]; exact (hV i hi).2
      · rw [List.getD_eq_getElem?_getD, List.getElem?_eq_none (by simp; omega)]; exact hz

theorem open_i8s {H : Type} {enc : TypeId × Value → H} {w : World} {base : Nat} {spare : Nat → Bool} {held : Bool} {a : Option Addr} {len cap : Nat} {d : DataW H} {p : List MemPlace}
    (h : DataW.Trod enc Try.prog w base spare held 22 (.slice a len cap) d p) : ∃ l, InG 1 (fun x => [.int .i8 x]) 0 w a len cap l ∧ ∀ i, -128 ≤ l.getD i 0 ∧ l.getD i 0 ≤ 127 :=
  open_ones Try.underlying22 (by kernel_rfl) (fun x => .int .i8 x) 0 (fun x => -128 ≤ x ∧ x ≤ 127) (by decide) (fun n cs x hx => by
    obtain ⟨k, rfl, _, hw⟩ := DataW.trod_int Try.underlying36 hx
    exact ⟨k, rfl, wf_i8 hw⟩) h
theorem open_i16s {H : Type} {enc : TypeId × Value → H} {w : World} {base : Nat} {spare : Nat → Bool} {held : Bool} {a : Option Addr} {len cap : Nat} {d : DataW H} {p : List MemPlace}
    (h : DataW.Trod enc Try.prog w base spare held 40 (.slice a len cap) d p) : ∃ l, InG 1 (fun x => [.int .i16 x]) 0 w a len cap l ∧ ∀ i, -32768 ≤ l.getD i 0 ∧ l.getD i 0 ≤ 32767 :=
  open_ones Try.underlying40 (by kernel_rfl) (fun x => .int .i16 x) 0 (fun x => -32768 ≤ x ∧ x ≤ 32767) (by decide) (fun n cs x hx => by
    obtain ⟨k, rfl, _, hw⟩ := DataW.trod_int Try.underlying44 hx
    exact ⟨k, rfl, wf_i16 hw⟩) h
theorem open_strs {H : Type} {enc : TypeId × Value → H} {w : World} {base : Nat} {spare : Nat → Bool} {held : Bool} {a : Option Addr} {len cap : Nat} {d : DataW H} {p : List MemPlace}
    (h : DataW.Trod enc Try.prog w base spare held 50 (.slice a len cap) d p) : ∃ l, InG 1 (fun x => [.string x]) ByteArray.empty w a len cap l ∧ ∀ i, (l.getD i ByteArray.empty).size ≤ maxLen :=
  open_ones Try.underlying50 (by kernel_rfl) (fun x => .string x) ByteArray.empty (fun x => x.size ≤ maxLen) (Nat.zero_le _) (fun n cs x hx => by
    obtain ⟨k, rfl, _, hw⟩ := DataW.trod_string Try.underlying9 hx
    exact ⟨k, rfl, hw⟩) h

end Go.Proofs.Ytcemdiloiachlaa

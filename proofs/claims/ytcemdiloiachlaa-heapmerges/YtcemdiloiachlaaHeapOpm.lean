/-
  A slice of slices of small integers that came in as an argument, opened: what its reading tells of the memory.
-/
import Derived.Test.YtcemdiloiachlaaHeapOpn
namespace Go.Proofs.Ytcemdiloiachlaa
open Go.ChangeShapes Go.WideShapes Go.RowKit Go.Joins Go.Deep

/-- A row of small integers as a slice of another row holds it. -/
structure Sl8 where
  a : Option Addr
  cap : Nat
  rest : List Int
def zero8 : Sl8 := ⟨none, 0, []⟩
instance : Inhabited Sl8 := ⟨zero8⟩
def sl8Cells (r : Sl8) : List Value := [.slice r.a r.rest.length r.cap]
def Good8 (w : World) (r : Sl8) : Prop := InG 1 (fun x : Int => [.int .i8 x]) 0 w r.a r.rest.length r.cap r.rest ∧ ∀ i, -128 ≤ r.rest.getD i 0 ∧ r.rest.getD i 0 ≤ 127
theorem good8_zero (w : World) : Good8 w zero8 := ⟨⟨rfl, Nat.le_refl _, Nat.zero_le _, 0, 0, fun h => by simp [zero8] at h, fun i hi => by simp [zero8] at hi⟩, fun i => by simp [zero8]⟩
theorem open_i8rows {H : Type} {enc : TypeId × Value → H} {w : World} {base : Nat} {spare : Nat → Bool} {held : Bool} {a : Option Addr} {len cap : Nat} {d : DataW H} {p : List MemPlace}
    (h : DataW.Trod enc Try.prog w base spare held 34 (.slice a len cap) d p) : ∃ l, InG 1 sl8Cells zero8 w a len cap l ∧ ∀ i, Good8 w (l.getD i zero8) :=
  open_ones Try.underlying34 (by kernel_rfl) (fun r : Sl8 => .slice r.a r.rest.length r.cap) zero8 (Good8 w) (good8_zero w) (fun n cs x hx => by
    have hcs : ∃ a' len' cap', cs = [.slice a' len' cap'] := by
      rcases open_slice Try.underlying22 hx with ⟨hcs, _⟩ | ⟨x, l, c, m, n, D, Pl, hcs, _⟩
      · exact ⟨_, _, _, hcs⟩
      · exact ⟨_, _, _, hcs⟩
    obtain ⟨a', len', cap', rfl⟩ := hcs
    obtain ⟨l', h1, h2⟩ := open_i8s (d := x.1) (p := x.2) (a := a') (len := len') (cap := cap') (enc := enc) (w := w) (base := base) (spare := spare) (held := held) ⟨n, by simpa [Value.cells] using hx⟩
    have hl : l'.length = len' := h1.1
    subst hl
    exact ⟨⟨a', cap', l'⟩, rfl, h1, h2⟩) h

end Go.Proofs.Ytcemdiloiachlaa

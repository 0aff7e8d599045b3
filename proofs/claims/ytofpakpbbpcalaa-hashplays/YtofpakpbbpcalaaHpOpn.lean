/-
  A row of calls that came in as an argument, opened: what its reading tells of the memory.
-/
import Derived.Test.YtofpakpbbpcalaaSlcAll
import Derived.Test.YtofpakpbbpcalaaOpens
import Derived.Deep.Strs
namespace Go.Proofs.Ytofpakpbbpcalaa
open Go.ChangeShapes Go.WideShapes Go.RowKit Go.Joins Go.Deep
set_option maxRecDepth 100000

/-- A slice that came in, of things that are read off their cells. -/
theorem open_slcS {α : Type} [Inhabited α] {k : Nat} {cs : α → List Value} {z : α} {ok : α → Prop} {P : Program} {t e : TypeId} (ht : P.underlying t = some (.slice e)) (hc : P.cellsOf e = k) (hz : ok z) (hk : ∀ v, (cs v).length = k) (h1 : 0 < k)
    {H : Type} {enc : TypeId × Value → H} {w : World} {base : Nat} {spare : Nat → Bool} {held : Bool} {a : Option Addr} {len cap : Nat} {fuel : Nat} {x : DataW H × List MemPlace}
    (hr : ∀ fuel ys x, DataW.trod enc P w base spare held fuel e ys = some x → ∃ v, ys = cs v ∧ ok v)
    (hf : DataW.trod enc P w base spare held fuel t [.slice a len cap] = some x) : ∃ l, len ≤ maxLen ∧ len ≤ cap ∧ cap ≤ maxLen ∧ Slc k cs z ok w a len l := by
  rcases open_slice ht hf with ⟨hcs, _⟩ | ⟨x, l, c, m, n, D, Pl, hcs, _, hl, hm, hmm, _, hx⟩
  · simp at hcs
    obtain ⟨rfl, rfl, rfl⟩ := hcs
    exact ⟨[], Nat.zero_le _, Nat.le_refl _, Nat.zero_le _, rfl, fun i => by simpa using hz, .inl rfl⟩
  · simp at hcs
    obtain ⟨rfl, rfl, rfl⟩ := hcs
    rw [hc] at hx
    have hlm : len ≤ m := by rw [hmm]; split <;> omega
    obtain ⟨V, hV⟩ := choose_lt (α := α) (n := len) (p := fun i v => (∀ j, j < k → w.cell? ((x.add (i * k)).add j) = (cs v)[j]?) ∧ ok v) (fun i hi => by
      obtain ⟨cs', h1, h2⟩ := hx i (by omega)
      obtain ⟨v, rfl, hfit⟩ := hr _ _ _ h2
      obtain ⟨_, _, hcell⟩ := World.cells?_some h1
      exact ⟨v, hcell, hfit⟩)
    refine ⟨(List.range len).map V, by omega, hl, hm, by simp, fun i => ?_, ?_⟩
    · by_cases hi : i < len
      · have := (hV i hi).2
        simpa [List.getD_eq_getElem?_getD, hi] using this
      · simpa [List.getD_eq_getElem?_getD, hi] using hz
    · by_cases h0 : len = 0
      · exact .inl h0
      · refine .inr ?_
        obtain ⟨b, off, spot⟩ := x
        have hspot : spot = none := by
          have h := (hV 0 (by omega)).1 0 h1
          rw [List.getElem?_eq_getElem (by rw [hk]; exact h1)] at h
          simpa [Addr.add] using World.cell?_spot h
        subst hspot
        refine ⟨b, off, rfl, fun i hi j v hv => ?_⟩
        have e : ((List.range len).map V).getD i z = V i := by simp [List.getD_eq_getElem?_getD, hi]
        rw [e] at hv
        have hj : j < k := by
          rcases Nat.lt_or_ge j k with h | h
          · exact h
          · rw [List.getElem?_eq_none (by rw [hk]; exact h)] at hv; cases hv
        have h := (hV i hi).1 j hj
        rw [hv, add_plain, add_plain] at h
        exact h

/-- A call of an index: what, the key's slice and the key, the number. -/
structure ST where
  what : Int
  a : Option Addr
  n : Nat
  c : Nat
  key : List VT
  id : Int
def zeroST : ST := ⟨0, none, 0, 0, [], 0⟩
def sCells (s : ST) : List Value := [.int .i64 s.what, .slice s.a s.n s.c, .int .i64 s.id]
def OkS (w : World) (s : ST) : Prop := (IntKind.i64.min ≤ s.what ∧ s.what ≤ IntKind.i64.max) ∧ (s.n ≤ maxLen ∧ s.n ≤ s.c ∧ s.c ≤ maxLen ∧ Vals w s.a s.n s.key) ∧ IntKind.i64.min ≤ s.id ∧ s.id ≤ IntKind.i64.max
theorem okS_zero (w : World) : OkS w zeroST := ⟨⟨by decide, by decide⟩, ⟨by decide, by decide, by decide, rfl, fun i => by simpa [zeroST] using fits_zero, .inl rfl⟩, by decide, by decide⟩
abbrev Steps (w0 w : World) := Slc 3 sCells zeroST (OkS w0) w
theorem wfS {k : Int} (h : (Lit.int .i64 k).wf = true) : IntKind.i64.min ≤ k ∧ k ≤ IntKind.i64.max := by
  simp [Lit.wf] at h
  exact h
theorem trod_step {H : Type} {enc : TypeId × Value → H} {w : World} {base : Nat} {spare : Nat → Bool} {held : Bool} (fuel : Nat) (cs : List Value) (x : DataW H × List MemPlace)
    (h : DataW.trod enc Try.prog w base spare held fuel 29 cs = some x) : ∃ v : ST, cs = sCells v ∧ OkS w v := by
  obtain ⟨y0, y1, y2, n, _, hlen, h0, h1, h2⟩ := trod_struct3 Try.underlying29 h
  have hc : Try.prog.cellsOf 29 = 3 := by kernel_rfl
  have c3 : Try.prog.cellsOf 3 = 1 := by kernel_rfl
  have c2 : Try.prog.cellsOf 2 = 1 := by kernel_rfl
  have c25 : Try.prog.cellsOf 27 = 1 := by kernel_rfl
  rw [hc] at hlen
  simp only [c3, c2, c25] at h0 h1 h2
  match cs, hlen with
  | [x0, x1, x2], _ =>
    obtain ⟨k0, e0, _, w0⟩ := DataW.trod_int Try.underlying3 h0
    obtain ⟨k2, e2, _, w2⟩ := DataW.trod_int Try.underlying2 h2
    simp at e0 e2
    subst e0 e2
    obtain ⟨a, len, cap, rfl⟩ : ∃ a len cap, x1 = .slice a len cap := by
      rcases open_slice Try.underlying27 h1 with ⟨hcs, _⟩ | ⟨x, l, c, m, n, D, Pl, hcs, _⟩
      · simp at hcs; exact ⟨_, _, _, hcs⟩
      · simp at hcs; exact ⟨_, _, _, hcs⟩
    obtain ⟨l, hl⟩ := open_values (d := y1.1) (p := y1.2) ⟨n, h1⟩
    exact ⟨⟨k0, a, len, cap, l, k2⟩, rfl, wfS w0, hl, wfS w2⟩
theorem open_steps {H : Type} {enc : TypeId × Value → H} {w : World} {base : Nat} {spare : Nat → Bool} {held : Bool} {a : Option Addr} {len cap : Nat} {d : DataW H} {p : List MemPlace}
    (h : DataW.Trod enc Try.prog w base spare held 22 (.slice a len cap) d p) : ∃ l, len ≤ maxLen ∧ len ≤ cap ∧ cap ≤ maxLen ∧ Steps w w a len l := by
  letI : Inhabited ST := ⟨⟨0, none, 0, 0, [], 0⟩⟩
  obtain ⟨fuel, hf⟩ := h
  exact open_slcS (k := 3) (cs := sCells) (z := zeroST) (ok := OkS w) Try.underlying22 (by kernel_rfl) (okS_zero w) (fun _ => rfl) (by decide) (fun fuel ys x hx => trod_step fuel ys x hx) hf

end Go.Proofs.Ytofpakpbbpcalaa

/-
  Slices of fields, of parts and of truths, and a definition of an index, that came in as arguments, opened: what their readings tell of the memory.
-/
import Derived.Test.YteigjboelhcaiaaSlcs
import Derived.Test.YteigjboelhcaiaaOpens
namespace Go.Proofs.Yteigjboelhcaiaa
open Go.ChangeShapes Go.WideShapes Go.RowKit Go.Joins Go.Deep

/-- A slice that came in, of things that are read off their cells. -/
theorem open_slc {α : Type} [Inhabited α] {k : Nat} {cs : α → List Value} {z : α} {ok : α → Prop} {P : Program} {t e : TypeId} (ht : P.underlying t = some (.slice e)) (hc : P.cellsOf e = k) (hz : ok z) (hk : ∀ v, (cs v).length = k) (h1 : 0 < k)
    {H : Type} {enc : TypeId × Value → H} {w : World} {base : Nat} {spare : Nat → Bool} {held : Bool} {a : Option Addr} {len cap : Nat} {fuel : Nat} {x : DataW H × List MemPlace}
    (hr : ∀ fuel ys x, DataW.trod enc P w base spare held fuel e ys = some x → ∃ v, ys = cs v ∧ ok v)
    (hf : DataW.trod enc P w base spare held fuel t [.slice a len cap] = some x) : ∃ l, len ≤ maxLen ∧ len ≤ cap ∧ cap ≤ maxLen ∧ Slc k cs z ok w a len l := by
  rcases open_slice ht hf with ⟨hcs, _⟩ | ⟨x, l, c, m, n, D, Pl, hcs, _, hl, hm, hmm, _, hx⟩
  · simp at hcs
    obtain ⟨rfl, rfl, rfl⟩ := hcs
    exact ⟨[], Nat.zero_le _, Nat.le_refl _, Nat.zero_le _, rfl, fun i => by simpa using hz, .inl rfl⟩
  · simp at hcs
    obtain ⟨rfl, rfl, rfl⟩ := hcs
    rw [hc] at hx
    have hlm : len ≤ m := by rw [hmm]; split <;> omega
    obtain ⟨V, hV⟩ := choose_lt (α := α) (n := len) (p := fun i v => (∀ j, j < k → w.cell? ((x.add (i * k)).add j) = (cs v)[j]?) ∧ ok v) (fun i hi => by
      obtain ⟨cs', h1, h2⟩ := hx i (by omega)
      obtain ⟨v, rfl, hfit⟩ := hr _ _ _ h2
      obtain ⟨_, _, hcell⟩ := World.cells?_some h1
      exact ⟨v, hcell, hfit⟩)
    refine ⟨(List.range len).map V, by omega, hl, hm, by simp, fun i => ?_, ?_⟩
    · by_cases hi : i < len
      · have := (hV i hi).2
        simpa [List.getD_eq_getElem?_getD, hi] using this
      · simpa [List.getD_eq_getElem?_getD, hi] using hz
    · by_cases h0 : len = 0
      · exact .inl h0
      · refine .inr ?_
        obtain ⟨b, off, spot⟩ := x
        have hspot : spot = none := by
          have h := (hV 0 (by omega)).1 0 h1
          rw [List.getElem?_eq_getElem (by rw [hk]; exact h1)] at h
          simpa [Addr.add] using World.cell?_spot h
        subst hspot
        refine ⟨b, off, rfl, fun i hi j v hv => ?_⟩
        have e : ((List.range len).map V).getD i z = V i := by simp [List.getD_eq_getElem?_getD, hi]
        rw [e] at hv
        have hj : j < k := by
          rcases Nat.lt_or_ge j k with h | h
          · exact h
          · rw [List.getElem?_eq_none (by rw [hk]; exact h)] at hv; cases hv
        have h := (hV i hi).1 j hj
        rw [hv, add_plain, add_plain] at h
        exact h

theorem trod_field {H : Type} {enc : TypeId × Value → H} {w : World} {base : Nat} {spare : Nat → Bool} {held : Bool} (fuel : Nat) (cs : List Value) (x : DataW H × List MemPlace)
    (h : DataW.trod enc Try.prog w base spare held fuel 49 cs = some x) : ∃ v : FT, cs = fCells v ∧ FitsF v := by
  obtain ⟨y0, y1, n, _, hlen, h0, h1⟩ := trod_struct2 Try.underlying49 h
  have hc : Try.prog.cellsOf 49 = 2 := by kernel_rfl
  have c3 : Try.prog.cellsOf 3 = 1 := by kernel_rfl
  have c9 : Try.prog.cellsOf 9 = 1 := by kernel_rfl
  rw [hc] at hlen
  simp only [c3, c9] at h0 h1
  match cs, hlen with
  | [a, b], _ =>
    obtain ⟨s, e0, _, w0⟩ := DataW.trod_string Try.underlying9 h0
    obtain ⟨k, e1, _, w1⟩ := DataW.trod_int Try.underlying3 h1
    simp at e0 e1
    subst e0 e1
    exact ⟨(s, k), rfl, w0, (wf_i64 w1).1, (wf_i64 w1).2⟩
theorem trod_part {H : Type} {enc : TypeId × Value → H} {w : World} {base : Nat} {spare : Nat → Bool} {held : Bool} (fuel : Nat) (cs : List Value) (x : DataW H × List MemPlace)
    (h : DataW.trod enc Try.prog w base spare held fuel 52 cs = some x) : ∃ v : PT, cs = pCells v ∧ FitsP v := by
  obtain ⟨y0, y1, n, _, hlen, h0, h1⟩ := trod_struct2 Try.underlying52 h
  have hc : Try.prog.cellsOf 52 = 2 := by kernel_rfl
  have c3 : Try.prog.cellsOf 3 = 1 := by kernel_rfl
  rw [hc] at hlen
  simp only [c3] at h0 h1
  match cs, hlen with
  | [a, b], _ =>
    obtain ⟨s, e0, _, w0⟩ := DataW.trod_int Try.underlying3 h0
    obtain ⟨k, e1, _, w1⟩ := DataW.trod_int Try.underlying3 h1
    simp at e0 e1
    subst e0 e1
    exact ⟨(s, k), rfl, (wf_i64 w0).1, (wf_i64 w0).2, (wf_i64 w1).1, (wf_i64 w1).2⟩
theorem trod_truth {H : Type} {enc : TypeId × Value → H} {w : World} {base : Nat} {spare : Nat → Bool} {held : Bool} (fuel : Nat) (cs : List Value) (x : DataW H × List MemPlace)
    (h : DataW.trod enc Try.prog w base spare held fuel 4 cs = some x) : ∃ v : Bool, cs = bCells v ∧ True := by
  obtain ⟨b, e, _⟩ := DataW.trod_bool Try.underlying4 h
  exact ⟨b, e, trivial⟩

/-- A slice of fields that came in. -/
theorem open_fields {H : Type} {enc : TypeId × Value → H} {w : World} {base : Nat} {spare : Nat → Bool} {held : Bool} {a : Option Addr} {len cap : Nat} {d : DataW H} {p : List MemPlace}
    (h : DataW.Trod enc Try.prog w base spare held 22 (.slice a len cap) d p) : ∃ l, len ≤ maxLen ∧ len ≤ cap ∧ cap ≤ maxLen ∧ Flds w a len l := by
  obtain ⟨fuel, hf⟩ := h
  exact open_slc (k := 2) Try.underlying22 (by kernel_rfl) fits_zeroF (fun _ => rfl) (by decide) trod_field hf
/-- A slice of truths that came in. -/
theorem open_truths {H : Type} {enc : TypeId × Value → H} {w : World} {base : Nat} {spare : Nat → Bool} {held : Bool} {a : Option Addr} {len cap : Nat} {d : DataW H} {p : List MemPlace}
    (h : DataW.Trod enc Try.prog w base spare held 27 (.slice a len cap) d p) : ∃ l, len ≤ maxLen ∧ len ≤ cap ∧ cap ≤ maxLen ∧ Blns w a len l := by
  obtain ⟨fuel, hf⟩ := h
  exact open_slc (k := 1) Try.underlying27 (by kernel_rfl) trivial (fun _ => rfl) (by decide) trod_truth hf

/-- A definition that came in. -/
theorem open_def {H : Type} {enc : TypeId × Value → H} {w : World} {base : Nat} {spare : Nat → Bool} {held : Bool} {r : Reach} {b0 : Nat} {v : Value} {d : DataW H} {p : List MemPlace}
    (hv : Value.okWide Try.prog w r b0 26 v) (h : DataW.Trod enc Try.prog w base spare held 26 v d p) :
    ∃ (s : ByteArray) (k : Int) (a : Option Addr) (len cap : Nat) (l : List PT) (c : Int), v = .agg #[.string s, .int .i64 k, .slice a len cap, .int .i64 c] ∧
      FitsF (s, k) ∧ (IntKind.i64.min ≤ c ∧ c ≤ IntKind.i64.max) ∧ len ≤ maxLen ∧ len ≤ cap ∧ cap ≤ maxLen ∧ Prts w a len l := by
  obtain ⟨cs, rfl, hsz⟩ := okWide_struct Try.underlying26 hv
  obtain ⟨fuel, hf⟩ := h
  obtain ⟨y0, y1, y2, y3, n, _, hlen, h0, h1, h2, h3⟩ := trod_struct4 Try.underlying26 hf
  have hc : Try.prog.cellsOf 26 = 4 := by kernel_rfl
  have c3 : Try.prog.cellsOf 3 = 1 := by kernel_rfl
  have c9 : Try.prog.cellsOf 9 = 1 := by kernel_rfl
  have c2 : Try.prog.cellsOf 24 = 1 := by kernel_rfl
  simp only [Value.cells] at h0 h1 h2 h3 hlen
  rw [hc] at hlen
  simp only [c3, c9, c2] at h0 h1 h2 h3
  obtain ⟨L⟩ := cs
  match L, hlen with
  | [x0, x1, x2, x3], _ =>
    obtain ⟨s, e0, _, w0⟩ := DataW.trod_string Try.underlying9 h0
    obtain ⟨k, e1, _, w1⟩ := DataW.trod_int Try.underlying3 h1
    obtain ⟨c, e3, _, w3⟩ := DataW.trod_int Try.underlying3 h3
    simp at e0 e1 e3
    subst e0 e1 e3
    obtain ⟨a, len, cap, rfl⟩ : ∃ a len cap, x2 = .slice a len cap := by
      rcases open_slice Try.underlying24 h2 with ⟨hcs, _⟩ | ⟨x, l, c, m, n, D, Pl, hcs, _⟩
      · simp at hcs; exact ⟨_, _, _, hcs⟩
      · simp at hcs; exact ⟨_, _, _, hcs⟩
    obtain ⟨l, hl⟩ := open_slc (k := 2) (z := zeroP) Try.underlying24 (by kernel_rfl) fits_zeroP (fun _ => rfl) (by decide) trod_part h2
    exact ⟨s, k, a, len, cap, l, c, rfl, ⟨w0, (wf_i64 w1).1, (wf_i64 w1).2⟩, wf_i64 w3, hl⟩

end Go.Proofs.Yteigjboelhcaiaa

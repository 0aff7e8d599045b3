/-
  A value and a slice of values that came in as arguments, opened: what their readings tell of the memory.
  An entry of an index that came in as an argument, opened: what its reading tells of the memory.
  Slices of fields, of parts and of truths, and a definition of an index, that came in as arguments, opened: what their readings tell of the memory.
-/
import Derived.Test.YtnnbcpopjnlnoaaDoorVals
import Derived.ProofKit
import Derived.OpenShut
import Derived.Deep.Slices
import Derived.Lib.SmallJoins
import Derived.Laws.Cover2
import Derived.Test.YtnnbcpopjnlnoaaDoorSlcAll
namespace Go.Proofs.YtnnbcpopjnlnoaaDoor
open Go.ChangeShapes Go.WideShapes Go.RowKit Go.Joins Go.Deep

theorem trod_float_inv {H : Type} {enc : TypeId × Value → H} {P : Program} {w : World} {base : Nat} {spare : Nat → Bool} {held : Bool} {fuel : Nat} {t : TypeId} {cs : List Value} {x : DataW H × List MemPlace} {k : FloatKind}
    (ht : P.underlying t = some (.float k)) (h : DataW.trod enc P w base spare held fuel t cs = some x) : ∃ b, cs = [.float k b] ∧ (Lit.float k b).wf = true := by
  cases fuel with
  | zero => simp [DataW.trod] at h
  | succ n =>
    unfold DataW.trod at h
    rw [ht] at h
    split at h <;> simp_all

theorem wf_i64 {n : Int} (h : (Lit.int .i64 n).wf = true) : IntKind.i64.min ≤ n ∧ n ≤ IntKind.i64.max := by
  simpa [Lit.wf] using h
theorem wf_f64 {b : Nat} (h : (Lit.float .f64 b).wf = true) : b < whole := by
  simpa [Lit.wf, whole] using h

/-- Four cells that read as a value hold one. -/
theorem trod_value {H : Type} {enc : TypeId × Value → H} {w : World} {base : Nat} {spare : Nat → Bool} {held : Bool} {fuel : Nat} {cs : List Value} {x : DataW H × List MemPlace}
    (h : DataW.trod enc Tryd.prog w base spare held fuel 49 cs = some x) : ∃ v : VT, cs = [.int .i64 v.1, .int .i64 v.2.1, .string v.2.2.1, .float .f64 v.2.2.2] ∧ Fits v := by
  obtain ⟨y0, y1, y2, y3, n, _, hlen, h0, h1, h2, h3⟩ := trod_struct4 Tryd.underlying49 h
  have hc : Tryd.prog.cellsOf 49 = 4 := by kernel_rfl
  have c3 : Tryd.prog.cellsOf 3 = 1 := by kernel_rfl
  have c2 : Tryd.prog.cellsOf 2 = 1 := by kernel_rfl
  have c9 : Tryd.prog.cellsOf 9 = 1 := by kernel_rfl
  have c22 : Tryd.prog.cellsOf 47 = 1 := by kernel_rfl
  rw [hc] at hlen
  simp only [c3, c2, c9, c22] at h0 h1 h2 h3
  match cs, hlen with
  | [a, b, c, d], _ =>
    obtain ⟨k, e0, _, w0⟩ := DataW.trod_int Tryd.underlying3 h0
    obtain ⟨m, e1, _, w1⟩ := DataW.trod_int Tryd.underlying2 h1
    obtain ⟨s, e2, _, w2⟩ := DataW.trod_string Tryd.underlying9 h2
    obtain ⟨f, e3, w3⟩ := trod_float_inv Tryd.underlying47 h3
    simp at e0 e1 e2 e3
    subst e0 e1 e2 e3
    exact ⟨(k, m, s, f), rfl, (wf_i64 w0).1, (wf_i64 w0).2, (wf_i64 w1).1, (wf_i64 w1).2, w2, wf_f64 w3⟩

set_option maxRecDepth 100000 in
/-- A value that came in. -/
theorem open_value {H : Type} {enc : TypeId × Value → H} {w : World} {base : Nat} {spare : Nat → Bool} {held : Bool} {r : Reach} {b0 : Nat} {v : Value} {d : DataW H} {p : List MemPlace}
    (hv : Value.okWide Tryd.prog w r b0 49 v) (h : DataW.Trod enc Tryd.prog w base spare held 49 v d p) :
    ∃ (k n : Int) (s : ByteArray) (f : Nat), v = .agg #[.int .i64 k, .int .i64 n, .string s, .float .f64 f] ∧ Fits (k, n, s, f) := by
  obtain ⟨cs, rfl, hsz⟩ := okWide_struct Tryd.underlying49 hv
  obtain ⟨fuel, hf⟩ := h
  obtain ⟨⟨k, n, s, f⟩, hcs, hfit⟩ := trod_value hf
  refine ⟨k, n, s, f, ?_, hfit⟩
  simp only [Value.cells] at hcs
  congr 1
  apply Array.toList_inj.1
  exact hcs

/-- A slice of values that came in. -/
theorem open_values {H : Type} {enc : TypeId × Value → H} {w : World} {base : Nat} {spare : Nat → Bool} {held : Bool} {a : Option Addr} {len cap : Nat} {d : DataW H} {p : List MemPlace}
    (h : DataW.Trod enc Tryd.prog w base spare held 25 (.slice a len cap) d p) : ∃ l, len ≤ maxLen ∧ len ≤ cap ∧ cap ≤ maxLen ∧ Vals w a len l := by
  obtain ⟨fuel, hf⟩ := h
  have hc : Tryd.prog.cellsOf 49 = 4 := by kernel_rfl
  rcases open_slice Tryd.underlying25 hf with ⟨hcs, _⟩ | ⟨x, l, c, m, n, D, Pl, hcs, _, hl, hm, hmm, _, hx⟩
  · simp [Value.cells] at hcs
    obtain ⟨rfl, rfl, rfl⟩ := hcs
    exact ⟨[], Nat.zero_le _, Nat.le_refl _, Nat.zero_le _, rfl, fun i => by simpa using fits_zero, .inl rfl⟩
  · simp [Value.cells] at hcs
    obtain ⟨rfl, rfl, rfl⟩ := hcs
    rw [hc] at hx
    have hlm : len ≤ m := by rw [hmm]; split <;> omega
    obtain ⟨V, hV⟩ := choose_lt (α := VT) (n := len) (p := fun i v => (∀ j, j < 4 → w.cell? ((x.add (i * 4)).add j) = [Value.int .i64 v.1, .int .i64 v.2.1, .string v.2.2.1, .float .f64 v.2.2.2][j]?) ∧ Fits v) (fun i hi => by
      obtain ⟨cs', h1, h2⟩ := hx i (by omega)
      obtain ⟨v, rfl, hfit⟩ := trod_value h2
      obtain ⟨_, _, hcell⟩ := World.cells?_some h1
      exact ⟨v, hcell, hfit⟩)
    refine ⟨(List.range len).map V, by omega, hl, hm, by simp, fun i => ?_, ?_⟩
    · by_cases hi : i < len
      · have := (hV i hi).2
        simpa [List.getD_eq_getElem?_getD, hi] using this
      · simpa [List.getD_eq_getElem?_getD, hi] using fits_zero
    · by_cases h0 : len = 0
      · exact .inl h0
      · refine .inr ?_
        obtain ⟨b, off, spot⟩ := x
        have hspot : spot = none := by
          have h := (hV 0 (by omega)).1 0 (by omega)
          simpa [Addr.add] using World.cell?_spot h
        subst hspot
        refine ⟨b, off, rfl, fun i hi => ?_⟩
        have h := (hV i hi).1
        have e : ((List.range len).map V).getD i zeroT = V i := by simp [List.getD_eq_getElem?_getD, hi]
        rw [e]
        have plain : ∀ j, w.cell? (((⟨b, off, none⟩ : Addr).add (i * 4)).add j) = w.cell? ⟨b, off + i * 4 + j, none⟩ := by
          intro j
          rw [add_plain, add_plain]
        exact ⟨(plain 0).symm.trans (h 0 (by omega)), (plain 1).symm.trans (h 1 (by omega)), (plain 2).symm.trans (h 2 (by omega)), (plain 3).symm.trans (h 3 (by omega))⟩

end Go.Proofs.YtnnbcpopjnlnoaaDoor

namespace Go.Proofs.YtnnbcpopjnlnoaaDoor
open Go.ChangeShapes Go.WideShapes Go.RowKit Go.Joins Go.Deep
set_option maxRecDepth 100000

theorem open_entry {H : Type} {enc : TypeId × Value → H} {w : World} {base : Nat} {spare : Nat → Bool} {held : Bool} {r : Reach} {b0 : Nat} {v : Value} {d : DataW H} {p : List MemPlace}
    (hv : Value.okWide Tryd.prog w r b0 63 v) (h : DataW.Trod enc Tryd.prog w base spare held 63 v d p) :
    ∃ (a : Option Addr) (len cap : Nat) (l : List VT) (i : Int), v = .agg #[.slice a len cap, .int .i64 i] ∧ (len ≤ maxLen ∧ len ≤ cap ∧ cap ≤ maxLen ∧ Vals w a len l) ∧ (Lit.int .i64 i).wf = true := by
  obtain ⟨cs, rfl, hsz⟩ := okWide_struct Tryd.underlying63 hv
  obtain ⟨fuel, hf⟩ := h
  obtain ⟨y0, y1, n, _, hlen, h0, h1⟩ := trod_struct2 Tryd.underlying63 hf
  have hc : Tryd.prog.cellsOf 63 = 2 := by kernel_rfl
  have c2 : Tryd.prog.cellsOf 2 = 1 := by kernel_rfl
  have c25 : Tryd.prog.cellsOf 25 = 1 := by kernel_rfl
  simp only [Value.cells] at h0 h1 hlen
  rw [hc] at hlen
  simp only [c2, c25] at h0 h1
  obtain ⟨L⟩ := cs
  match L, hlen with
  | [x0, x1], _ =>
    obtain ⟨i, e1, _, w1⟩ := DataW.trod_int Tryd.underlying2 h1
    simp at e1
    subst e1
    obtain ⟨a, len, cap, rfl⟩ : ∃ a len cap, x0 = .slice a len cap := by
      rcases open_slice Tryd.underlying25 h0 with ⟨hcs, _⟩ | ⟨x, l, c, m, n, D, Pl, hcs, _⟩
      · simp at hcs; exact ⟨_, _, _, hcs⟩
      · simp at hcs; exact ⟨_, _, _, hcs⟩
    obtain ⟨l, hl⟩ := open_values (d := y0.1) (p := y0.2) ⟨n, h0⟩
    exact ⟨a, len, cap, l, i, rfl, hl, w1⟩

end Go.Proofs.YtnnbcpopjnlnoaaDoor

namespace Go.Proofs.YtnnbcpopjnlnoaaDoor
open Go.ChangeShapes Go.WideShapes Go.RowKit Go.Joins Go.Deep
set_option maxRecDepth 100000

/-- A slice that came in, of things that are read off their cells. -/
theorem open_slc {α : Type} [Inhabited α] {k : Nat} {cs : α → List Value} {z : α} {ok : α → Prop} {P : Program} {t e : TypeId} (ht : P.underlying t = some (.slice e)) (hc : P.cellsOf e = k) (hz : ok z) (hk : ∀ v, (cs v).length = k) (h1 : 0 < k)
    {H : Type} {enc : TypeId × Value → H} {w : World} {base : Nat} {spare : Nat → Bool} {held : Bool} {a : Option Addr} {len cap : Nat} {fuel : Nat} {x : DataW H × List MemPlace}
    (hr : ∀ fuel ys x, DataW.trod enc P w base spare held fuel e ys = some x → ∃ v, ys = cs v ∧ ok v)
    (hf : DataW.trod enc P w base spare held fuel t [.slice a len cap] = some x) : ∃ l, len ≤ maxLen ∧ len ≤ cap ∧ cap ≤ maxLen ∧ Slc k cs z ok w a len l := by
  rcases open_slice ht hf with ⟨hcs, _⟩ | ⟨x, l, c, m, n, D, Pl, hcs, _, hl, hm, hmm, _, hx⟩
  · simp at hcs
    obtain ⟨rfl, rfl, rfl⟩ := hcs
    exact ⟨[], Nat.zero_le _, Nat.le_refl _, Nat.zero_le _, rfl, fun i => by simpa using hz, .inl rfl⟩
  · simp at hcs
    obtain ⟨rfl, rfl, rfl⟩ := hcs
    rw [hc] at hx
    have hlm : len ≤ m := by rw [hmm]; split <;> omega
    obtain ⟨V, hV⟩ := choose_lt (α := α) (n := len) (p := fun i v => (∀ j, j < k → w.cell? ((x.add (i * k)).add j) = (cs v)[j]?) ∧ ok v) (fun i hi => by
      obtain ⟨cs', h1, h2⟩ := hx i (by omega)
      obtain ⟨v, rfl, hfit⟩ := hr _ _ _ h2
      obtain ⟨_, _, hcell⟩ := World.cells?_some h1
      exact ⟨v, hcell, hfit⟩)
    refine ⟨(List.range len).map V, by omega, hl, hm, by simp, fun i => ?_, ?_⟩
    · by_cases hi : i < len
      · have := (hV i hi).2
        simpa [List.getD_eq_getElem?_getD, hi] using this
      · simpa [List.getD_eq_getElem?_getD, hi] using hz
    · by_cases h0 : len = 0
      · exact .inl h0
      · refine .inr ?_
        obtain ⟨b, off, spot⟩ := x
        have hspot : spot = none := by
          have h := (hV 0 (by omega)).1 0 h1
          rw [List.getElem?_eq_getElem (by rw [hk]; exact h1)] at h
          simpa [Addr.add] using World.cell?_spot h
        subst hspot
        refine ⟨b, off, rfl, fun i hi j v hv => ?_⟩
        have e : ((List.range len).map V).getD i z = V i := by simp [List.getD_eq_getElem?_getD, hi]
        rw [e] at hv
        have hj : j < k := by
          rcases Nat.lt_or_ge j k with h | h
          · exact h
          · rw [List.getElem?_eq_none (by rw [hk]; exact h)] at hv; cases hv
        have h := (hV i hi).1 j hj
        rw [hv, add_plain, add_plain] at h
        exact h

theorem trod_part {H : Type} {enc : TypeId × Value → H} {w : World} {base : Nat} {spare : Nat → Bool} {held : Bool} (fuel : Nat) (cs : List Value) (x : DataW H × List MemPlace)
    (h : DataW.trod enc Tryd.prog w base spare held fuel 45 cs = some x) : ∃ v : PT, cs = pCells v ∧ FitsP v := by
  obtain ⟨y0, y1, n, _, hlen, h0, h1⟩ := trod_struct2 Tryd.underlying45 h
  have hc : Tryd.prog.cellsOf 45 = 2 := by kernel_rfl
  have c3 : Tryd.prog.cellsOf 3 = 1 := by kernel_rfl
  rw [hc] at hlen
  simp only [c3] at h0 h1
  match cs, hlen with
  | [a, b], _ =>
    obtain ⟨s, e0, _, w0⟩ := DataW.trod_int Tryd.underlying3 h0
    obtain ⟨k, e1, _, w1⟩ := DataW.trod_int Tryd.underlying3 h1
    simp at e0 e1
    subst e0 e1
    exact ⟨(s, k), rfl, (wf_i64 w0).1, (wf_i64 w0).2, (wf_i64 w1).1, (wf_i64 w1).2⟩

/-- A definition that came in. -/
theorem open_def {H : Type} {enc : TypeId × Value → H} {w : World} {base : Nat} {spare : Nat → Bool} {held : Bool} {r : Reach} {b0 : Nat} {v : Value} {d : DataW H} {p : List MemPlace}
    (hv : Value.okWide Tryd.prog w r b0 24 v) (h : DataW.Trod enc Tryd.prog w base spare held 24 v d p) :
    ∃ (s : ByteArray) (k : Int) (a : Option Addr) (len cap : Nat) (l : List PT) (c : Int), v = .agg #[.string s, .int .i64 k, .slice a len cap, .int .i64 c] ∧
      FitsF (s, k) ∧ (IntKind.i64.min ≤ c ∧ c ≤ IntKind.i64.max) ∧ len ≤ maxLen ∧ len ≤ cap ∧ cap ≤ maxLen ∧ Prts w a len l := by
  obtain ⟨cs, rfl, hsz⟩ := okWide_struct Tryd.underlying24 hv
  obtain ⟨fuel, hf⟩ := h
  obtain ⟨y0, y1, y2, y3, n, _, hlen, h0, h1, h2, h3⟩ := trod_struct4 Tryd.underlying24 hf
  have hc : Tryd.prog.cellsOf 24 = 4 := by kernel_rfl
  have c3 : Tryd.prog.cellsOf 3 = 1 := by kernel_rfl
  have c9 : Tryd.prog.cellsOf 9 = 1 := by kernel_rfl
  have c2 : Tryd.prog.cellsOf 22 = 1 := by kernel_rfl
  simp only [Value.cells] at h0 h1 h2 h3 hlen
  rw [hc] at hlen
  simp only [c3, c9, c2] at h0 h1 h2 h3
  obtain ⟨L⟩ := cs
  match L, hlen with
  | [x0, x1, x2, x3], _ =>
    obtain ⟨s, e0, _, w0⟩ := DataW.trod_string Tryd.underlying9 h0
    obtain ⟨k, e1, _, w1⟩ := DataW.trod_int Tryd.underlying3 h1
    obtain ⟨c, e3, _, w3⟩ := DataW.trod_int Tryd.underlying3 h3
    simp at e0 e1 e3
    subst e0 e1 e3
    obtain ⟨a, len, cap, rfl⟩ : ∃ a len cap, x2 = .slice a len cap := by
      rcases open_slice Tryd.underlying22 h2 with ⟨hcs, _⟩ | ⟨x, l, c, m, n, D, Pl, hcs, _⟩
      · simp at hcs; exact ⟨_, _, _, hcs⟩
      · simp at hcs; exact ⟨_, _, _, hcs⟩
    obtain ⟨l, hl⟩ := open_slc (k := 2) (z := zeroP) Tryd.underlying22 (by kernel_rfl) fits_zeroP (fun _ => rfl) (by decide) trod_part h2
    exact ⟨s, k, a, len, cap, l, c, rfl, ⟨w0, (wf_i64 w1).1, (wf_i64 w1).2⟩, wf_i64 w3, hl⟩

end Go.Proofs.YtnnbcpopjnlnoaaDoor

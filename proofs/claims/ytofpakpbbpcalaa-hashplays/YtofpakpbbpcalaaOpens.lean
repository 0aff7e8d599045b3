/-
  A value and a slice of values that came in as arguments, opened: what their readings tell of the memory.
-/
import Derived.Test.YtofpakpbbpcalaaVals
import Derived.ProofKit
import Derived.OpenShut
import Derived.Deep.Slices
import Derived.Lib.SmallJoins
import Derived.Laws.Cover2
namespace Go.Proofs.Ytofpakpbbpcalaa
open Go.ChangeShapes Go.WideShapes Go.RowKit Go.Joins Go.Deep

theorem trod_float_inv {H : Type} {enc : TypeId × Value → H} {P : Program} {w : World} {base : Nat} {spare : Nat → Bool} {held : Bool} {fuel : Nat} {t : TypeId} {cs : List Value} {x : DataW H × List MemPlace} {k : FloatKind}
    (ht : P.underlying t = some (.float k)) (h : DataW.trod enc P w base spare held fuel t cs = some x) : ∃ b, cs = [.float k b] ∧ (Lit.float k b).wf = true := by
  cases fuel with
  | zero => simp [DataW.trod] at h
  | succ n =>
    unfold DataW.trod at h
    rw [ht] at h
    split at h <;> simp_all

theorem wf_i64 {n : Int} (h : (Lit.int .i64 n).wf = true) : IntKind.i64.min ≤ n ∧ n ≤ IntKind.i64.max := by
  simpa [Lit.wf] using h
theorem wf_f64 {b : Nat} (h : (Lit.float .f64 b).wf = true) : b < whole := by
  simpa [Lit.wf, whole] using h

/-- Four cells that read as a value hold one. -/
theorem trod_value {H : Type} {enc : TypeId × Value → H} {w : World} {base : Nat} {spare : Nat → Bool} {held : Bool} {fuel : Nat} {cs : List Value} {x : DataW H × List MemPlace}
    (h : DataW.trod enc Try.prog w base spare held fuel 52 cs = some x) : ∃ v : VT, cs = [.int .i64 v.1, .int .i64 v.2.1, .string v.2.2.1, .float .f64 v.2.2.2] ∧ Fits v := by
  obtain ⟨y0, y1, y2, y3, n, _, hlen, h0, h1, h2, h3⟩ := trod_struct4 Try.underlying52 h
  have hc : Try.prog.cellsOf 52 = 4 := by kernel_rfl
  have c3 : Try.prog.cellsOf 3 = 1 := by kernel_rfl
  have c2 : Try.prog.cellsOf 2 = 1 := by kernel_rfl
  have c9 : Try.prog.cellsOf 9 = 1 := by kernel_rfl
  have c22 : Try.prog.cellsOf 49 = 1 := by kernel_rfl
  rw [hc] at hlen
  simp only [c3, c2, c9, c22] at h0 h1 h2 h3
  match cs, hlen with
  | [a, b, c, d], _ =>
    obtain ⟨k, e0, _, w0⟩ := DataW.trod_int Try.underlying3 h0
    obtain ⟨m, e1, _, w1⟩ := DataW.trod_int Try.underlying2 h1
    obtain ⟨s, e2, _, w2⟩ := DataW.trod_string Try.underlying9 h2
    obtain ⟨f, e3, w3⟩ := trod_float_inv Try.underlying49 h3
    simp at e0 e1 e2 e3
    subst e0 e1 e2 e3
    exact ⟨(k, m, s, f), rfl, (wf_i64 w0).1, (wf_i64 w0).2, (wf_i64 w1).1, (wf_i64 w1).2, w2, wf_f64 w3⟩

set_option maxRecDepth 100000 in
/-- A value that came in. -/
theorem open_value {H : Type} {enc : TypeId × Value → H} {w : World} {base : Nat} {spare : Nat → Bool} {held : Bool} {r : Reach} {b0 : Nat} {v : Value} {d : DataW H} {p : List MemPlace}
    (hv : Value.okWide Try.prog w r b0 52 v) (h : DataW.Trod enc Try.prog w base spare held 52 v d p) :
    ∃ (k n : Int) (s : ByteArray) (f : Nat), v = .agg #[.int .i64 k, .int .i64 n, .string s, .float .f64 f] ∧ Fits (k, n, s, f) := by
  obtain ⟨cs, rfl, hsz⟩ := okWide_struct Try.underlying52 hv
  obtain ⟨fuel, hf⟩ := h
  obtain ⟨⟨k, n, s, f⟩, hcs, hfit⟩ := trod_value hf
  refine ⟨k, n, s, f, ?_, hfit⟩
  simp only [Value.cells] at hcs
  congr 1
  apply Array.toList_inj.1
  exact hcs

/-- A slice of values that came in. -/
theorem open_values {H : Type} {enc : TypeId × Value → H} {w : World} {base : Nat} {spare : Nat → Bool} {held : Bool} {a : Option Addr} {len cap : Nat} {d : DataW H} {p : List MemPlace}
    (h : DataW.Trod enc Try.prog w base spare held 27 (.slice a len cap) d p) : ∃ l, len ≤ maxLen ∧ len ≤ cap ∧ cap ≤ maxLen ∧ Vals w a len l := by
  obtain ⟨fuel, hf⟩ := h
  have hc : Try.prog.cellsOf 52 = 4 := by kernel_rfl
  rcases open_slice Try.underlying27 hf with ⟨hcs, _⟩ | ⟨x, l, c, m, n, D, Pl, hcs, _, hl, hm, hmm, _, hx⟩
  · simp [Value.cells] at hcs
    obtain ⟨rfl, rfl, rfl⟩ := hcs
    exact ⟨[], Nat.zero_le _, Nat.le_refl _, Nat.zero_le _, rfl, fun i => by simpa using fits_zero, .inl rfl⟩
  · simp [Value.cells] at hcs
    obtain ⟨rfl, rfl, rfl⟩ := hcs
    rw [hc] at hx
    have hlm : len ≤ m := by rw [hmm]; split <;> omega
    obtain ⟨V, hV⟩ := choose_lt (α := VT) (n := len) (p := fun i v => (∀ j, j < 4 → w.cell? ((x.add (i * 4)).add j) = [Value.int .i64 v.1, .int .i64 v.2.1, .string v.2.2.1, .float .f64 v.2.2.2][j]?) ∧ Fits v) (fun i hi => by
      obtain ⟨cs', h1, h2⟩ := hx i (by omega)
      obtain ⟨v, rfl, hfit⟩ := trod_value h2
      obtain ⟨_, _, hcell⟩ := World.cells?_some h1
      exact ⟨v, hcell, hfit⟩)
    refine ⟨(List.range len).map V, by omega, hl, hm, by simp, fun i => ?_, ?_⟩
    · by_cases hi : i < len
      · have := (hV i hi).2
        simpa [List.getD_eq_getElem?_getD, hi] using this
      · simpa [List.getD_eq_getElem?_getD, hi] using fits_zero
    · by_cases h0 : len = 0
      · exact .inl h0
      · refine .inr ?_
        obtain ⟨b, off, spot⟩ := x
        have hspot : spot = none := by
          have h := (hV 0 (by omega)).1 0 (by omega)
          simpa [Addr.add] using World.cell?_spot h
        subst hspot
        refine ⟨b, off, rfl, fun i hi => ?_⟩
        have h := (hV i hi).1
        have e : ((List.range len).map V).getD i zeroT = V i := by simp [List.getD_eq_getElem?_getD, hi]
        rw [e]
        have plain : ∀ j, w.cell? (((⟨b, off, none⟩ : Addr).add (i * 4)).add j) = w.cell? ⟨b, off + i * 4 + j, none⟩ := by
          intro j
          rw [add_plain, add_plain]
        exact ⟨(plain 0).symm.trans (h 0 (by omega)), (plain 1).symm.trans (h 1 (by omega)), (plain 2).symm.trans (h 2 (by omega)), (plain 3).symm.trans (h 3 (by omega))⟩

end Go.Proofs.Ytofpakpbbpcalaa

/-
  A slice of bytes that came in as an argument, opened: what its reading tells of the memory.
-/
import Derived.Test.YtofpakpbbpcalaaBytes
import Derived.Test.YtofpakpbbpcalaaOpens
namespace Go.Proofs.Ytofpakpbbpcalaa
open Go.ChangeShapes Go.WideShapes Go.RowKit Go.Joins Go.Deep

theorem wf_u8 {n : Int} (h : (Lit.int .u8 n).wf = true) : 0 ≤ n ∧ n ≤ 255 := by
  simpa [Lit.wf, IntKind.min, IntKind.max, IntKind.signed, IntKind.bits] using h

/-- A slice of bytes that came in. -/
theorem open_bytes {H : Type} {enc : TypeId × Value → H} {w : World} {base : Nat} {spare : Nat → Bool} {held : Bool} {a : Option Addr} {len cap : Nat} {d : DataW H} {p : List MemPlace}
    (h : DataW.Trod enc Try.prog w base spare held 54 (.slice a len cap) d p) : ∃ l, len ≤ maxLen ∧ len ≤ cap ∧ cap ≤ maxLen ∧ Bts w a len l := by
  obtain ⟨fuel, hf⟩ := h
  have hc : Try.prog.cellsOf 5 = 1 := by kernel_rfl
  rcases open_slice Try.underlying54 hf with ⟨hcs, _⟩ | ⟨x, l, c, m, n, D, Pl, hcs, _, hl, hm, hmm, _, hx⟩
  · simp [Value.cells] at hcs
    obtain ⟨rfl, rfl, rfl⟩ := hcs
    exact ⟨[], Nat.zero_le _, Nat.le_refl _, Nat.zero_le _, rfl, .inl rfl⟩
  · simp [Value.cells] at hcs
    obtain ⟨rfl, rfl, rfl⟩ := hcs
    rw [hc] at hx
    have hlm : len ≤ m := by rw [hmm]; split <;> omega
    obtain ⟨V, hV⟩ := choose_lt (α := UInt8) (n := len) (p := fun i v => w.cell? ((x.add (i * 1)).add 0) = some (.int .u8 (v.toNat : Int))) (fun i hi => by
      obtain ⟨cs', h1, h2⟩ := hx i (by omega)
      obtain ⟨k, rfl, _, hw⟩ := DataW.trod_int Try.underlying5 h2
      obtain ⟨_, _, hcell⟩ := World.cells?_some h1
      have h0 := hcell 0 (by omega)
      have hk := wf_u8 hw
      refine ⟨UInt8.ofNat k.toNat, ?_⟩
      have e : ((UInt8.ofNat k.toNat).toNat : Int) = k := by
        rw [UInt8.toNat_ofNat']
        omega
      rw [e]
      simpa using h0)
    refine ⟨(List.range len).map V, by omega, hl, hm, by simp, ?_⟩
    by_cases h0 : len = 0
    · exact .inl h0
    · refine .inr ?_
      obtain ⟨b, off, spot⟩ := x
      have hspot : spot = none := by
        have h := hV 0 (by omega)
        simpa [Addr.add] using World.cell?_spot h
      subst hspot
      refine ⟨b, off, rfl, fun i hi => ?_⟩
      have h := hV i hi
      have e : ((List.range len).map V).getD i 0 = V i := by simp [List.getD_eq_getElem?_getD, hi]
      rw [e, ← h, add_plain, add_plain, Nat.mul_one, Nat.add_zero]

end Go.Proofs.Ytofpakpbbpcalaa

/-
  Slices of things of one cell that came in as arguments, opened: what their readings tell of the memory.
-/
import Derived.Test.YtnokokhbcfkifaaGreatDoorTrRowG
import Derived.ProofKit
import Derived.OpenShut
import Derived.Deep.Slices
import Derived.Lib.SmallJoins
namespace Go.Proofs.YtnokokhbcfkifaaGreatDoor
open Go.ChangeShapes Go.WideShapes Go.RowKit Go.Joins Go.Deep

/-- A slice of things of one cell each that came in. -/
theorem open_rd {E : Type} (z0 : E) {t e : TypeId} (ht : Tryz.prog.underlying t = some (.slice e)) (hc : Tryz.prog.cellsOf e = 1) (cell : E → Value) (ok : E → Prop)
    {H : Type} {enc : TypeId × Value → H} {w : World} {base : Nat} {spare : Nat → Bool} {held : Bool}
    (hone : ∀ (n : Nat) (cs : List Value) (x : DataW H × List MemPlace), DataW.trod enc Tryz.prog w base spare held n e cs = some x → ∃ v, cs = [cell v] ∧ ok v)
    {a : Option Addr} {len cap : Nat} {d : DataW H} {p : List MemPlace}
    (h : DataW.Trod enc Tryz.prog w base spare held t (.slice a len cap) d p) : ∃ l : List E, l.length = len ∧ Rd cell (fun _ => False) w (.slice a len cap) l ∧ ∀ x ∈ l, ok x := by
  letI : Inhabited E := ⟨z0⟩
  obtain ⟨fuel, hf⟩ := h
  rcases open_slice ht hf with ⟨hcs, _⟩ | ⟨x, l, c, m, n, D, Pl, hcs, _, hl, hm, hmm, _, hx⟩
  · simp [Value.cells] at hcs
    obtain ⟨rfl, rfl, rfl⟩ := hcs
    exact ⟨[], rfl, Rd.nil _ _ _, fun x hx => absurd hx (by simp)⟩
  · simp [Value.cells] at hcs
    obtain ⟨rfl, rfl, rfl⟩ := hcs
    rw [hc] at hx
    have hlm : len ≤ m := by rw [hmm]; split <;> omega
    obtain ⟨V, hV⟩ := choose_lt (α := E) (n := len) (p := fun i v => w.cell? ((x.add (i * 1)).add 0) = some (cell v) ∧ ok v) (fun i hi => by
      obtain ⟨cs', h1, h2⟩ := hx i (by omega)
      obtain ⟨v, rfl, hw⟩ := hone _ _ _ h2
      obtain ⟨_, _, hcell⟩ := World.cells?_some h1
      have h0 := hcell 0 (by omega)
      exact ⟨v, by simpa using h0, hw⟩)
    have hlen : ((List.range len).map V).length = len := by simp
    refine ⟨(List.range len).map V, hlen, ⟨some x, cap, by rw [hlen], by rw [hlen]; exact hl, hm, ?_⟩, fun y hy => ?_⟩
    · by_cases h0 : len = 0
      · left; rw [h0]; rfl
      · right
        obtain ⟨b, off, spot⟩ := x
        have hspot : spot = none := by
          have h := (hV 0 (by omega)).1
          simpa [Addr.add] using World.cell?_spot h
        subst hspot
        refine ⟨b, off, rfl, fun h => h, fun j u hj => ?_⟩
        have hjl : j < len := by
          rcases Nat.lt_or_ge j len with h | h
          · exact h
          · rw [List.getElem?_eq_none (by simpa using h)] at hj; cases hj
        have h := (hV j hjl).1
        have e2 : u = cell (V j) := by
          rw [List.map_map, List.getElem?_map, List.getElem?_range hjl] at hj
          simpa using hj.symm
        rw [e2, ← h, add_plain, add_plain]
        simp
    · obtain ⟨i, hi, rfl⟩ := List.mem_map.1 hy
      exact (hV i (List.mem_range.1 hi)).2
theorem open_i8R {H : Type} {enc : TypeId × Value → H} {w : World} {base : Nat} {spare : Nat → Bool} {held : Bool} {a : Option Addr} {len cap : Nat} {d : DataW H} {p : List MemPlace}
    (h : DataW.Trod enc Tryz.prog w base spare held 70 (.slice a len cap) d p) : ∃ l : List Int, l.length = len ∧ Rd (Value.int .i8) (fun _ => False) w (.slice a len cap) l ∧ ∀ x ∈ l, -128 ≤ x ∧ x ≤ 127 :=
  open_rd 0 Tryz.underlying70 (by kernel_rfl) (Value.int .i8) (fun x => -128 ≤ x ∧ x ≤ 127) (fun n cs x hx => by
    obtain ⟨k, rfl, _, hw⟩ := DataW.trod_int Tryz.underlying71 hx
    exact ⟨k, rfl, by simpa [Lit.wf, IntKind.min, IntKind.max, IntKind.signed, IntKind.bits] using hw⟩) h
theorem open_u8R {H : Type} {enc : TypeId × Value → H} {w : World} {base : Nat} {spare : Nat → Bool} {held : Bool} {a : Option Addr} {len cap : Nat} {d : DataW H} {p : List MemPlace}
    (h : DataW.Trod enc Tryz.prog w base spare held 81 (.slice a len cap) d p) : ∃ l : List Int, l.length = len ∧ Rd (Value.int .u8) (fun _ => False) w (.slice a len cap) l ∧ ∀ x ∈ l, 0 ≤ x ∧ x ≤ 255 :=
  open_rd 0 Tryz.underlying81 (by kernel_rfl) (Value.int .u8) (fun x => 0 ≤ x ∧ x ≤ 255) (fun n cs x hx => by
    obtain ⟨k, rfl, _, hw⟩ := DataW.trod_int Tryz.underlying5 hx
    exact ⟨k, rfl, by simpa [Lit.wf, IntKind.min, IntKind.max, IntKind.signed, IntKind.bits] using hw⟩) h
end Go.Proofs.YtnokokhbcfkifaaGreatDoor

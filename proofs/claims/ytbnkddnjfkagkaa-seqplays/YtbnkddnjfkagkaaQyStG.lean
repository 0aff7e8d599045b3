/-
  Slices of things of one cell that came in as arguments, opened: what their readings tell of the memory.
  A row of calls of a sequence that came in as an argument, opened: what its reading tells of the memory.
-/
import Derived.Test.YtbnkddnjfkagkaaTrRow
import Derived.ProofKit
import Derived.OpenShut
import Derived.Deep.Slices
import Derived.Lib.SmallJoins
import Derived.Test.YtbnkddnjfkagkaaSqMap
namespace Go.Proofs.Ytbnkddnjfkagkaa
open Go.ChangeShapes Go.WideShapes Go.RowKit Go.Joins Go.Deep

/-- A slice of things of one cell each that came in. -/
theorem open_rd {E : Type} (z0 : E) {t e : TypeId} (ht : Try.prog.underlying t = some (.slice e)) (hc : Try.prog.cellsOf e = 1) (cell : E → Value) (ok : E → Prop)
    {H : Type} {enc : TypeId × Value → H} {w : World} {base : Nat} {spare : Nat → Bool} {held : Bool}
    (hone : ∀ (n : Nat) (cs : List Value) (x : DataW H × List MemPlace), DataW.trod enc Try.prog w base spare held n e cs = some x → ∃ v, cs = [cell v] ∧ ok v)
    {a : Option Addr} {len cap : Nat} {d : DataW H} {p : List MemPlace}
    (h : DataW.Trod enc Try.prog w base spare held t (.slice a len cap) d p) : ∃ l : List E, l.length = len ∧ Rd cell (fun _ => False) w (.slice a len cap) l ∧ ∀ x ∈ l, ok x := by
  letI : Inhabited E := ⟨z0⟩
  obtain ⟨fuel, hf⟩ := h
  rcases open_slice ht hf with ⟨hcs, _⟩ | ⟨x, l, c, m, n, D, Pl, hcs, _, hl, hm, hmm, _, hx⟩
  · simp [Value.cells] at hcs
    obtain ⟨rfl, rfl, rfl⟩ := hcs
    exact ⟨[], rfl, Rd.nil _ _ _, fun x hx => absurd hx (by simp)⟩
  · simp [Value.cells] at hcs
    obtain ⟨rfl, rfl, rfl⟩ := hcs
    rw [hc] at hx
    have hlm : len ≤ m := by rw [hmm]; split <;> omega
    obtain ⟨V, hV⟩ := choose_lt (α := E) (n := len) (p := fun i v => w.cell? ((x.add (i * 1)).add 0) = some (cell v) ∧ ok v) (fun i hi => by
      obtain ⟨cs', h1, h2⟩ := hx i (by omega)
      obtain ⟨v, rfl, hw⟩ := hone _ _ _ h2
      obtain ⟨_, _, hcell⟩ := World.cells?_some h1
      have h0 := hcell 0 (by omega)
      exact ⟨v, by simpa using h0, hw⟩)
    have hlen : ((List.range len).map V).length = len := by simp
    refine ⟨(List.range len).map V, hlen, ⟨some x, cap, by rw [hlen], by rw [hlen]; exact hl, hm, ?_⟩, fun y hy => ?_⟩
    · by_cases h0 : len = 0
      · left; rw [h0]; rfl
      · right
        obtain ⟨b, off, spot⟩ := x
        have hspot : spot = none := by
          have h := (hV 0 (by omega)).1
          simpa [Addr.add] using World.cell?_spot h
        subst hspot
        refine ⟨b, off, rfl, fun h => h, fun j u hj => ?_⟩
        have hjl : j < len := by
          rcases Nat.lt_or_ge j len with h | h
          · exact h
          · rw [List.getElem?_eq_none (by simpa using h)] at hj; cases hj
        have h := (hV j hjl).1
        have e2 : u = cell (V j) := by
          rw [List.map_map, List.getElem?_map, List.getElem?_range hjl] at hj
          simpa using hj.symm
        rw [e2, ← h, add_plain, add_plain]
        simp
    · obtain ⟨i, hi, rfl⟩ := List.mem_map.1 hy
      exact (hV i (List.mem_range.1 hi)).2
theorem open_u8R {H : Type} {enc : TypeId × Value → H} {w : World} {base : Nat} {spare : Nat → Bool} {held : Bool} {a : Option Addr} {len cap : Nat} {d : DataW H} {p : List MemPlace}
    (h : DataW.Trod enc Try.prog w base spare held 49 (.slice a len cap) d p) : ∃ l : List Int, l.length = len ∧ Rd (Value.int .u8) (fun _ => False) w (.slice a len cap) l ∧ ∀ x ∈ l, 0 ≤ x ∧ x ≤ 255 :=
  open_rd 0 Try.underlying49 (by kernel_rfl) (Value.int .u8) (fun x => 0 ≤ x ∧ x ≤ 255) (fun n cs x hx => by
    obtain ⟨k, rfl, _, hw⟩ := DataW.trod_int Try.underlying5 hx
    exact ⟨k, rfl, by simpa [Lit.wf, IntKind.min, IntKind.max, IntKind.signed, IntKind.bits] using hw⟩) h
end Go.Proofs.Ytbnkddnjfkagkaa

namespace Go.Proofs.Ytbnkddnjfkagkaa
open Go.ChangeShapes Go.WideShapes Go.RowKit Go.Joins Go.Deep
set_option maxRecDepth 100000

/-- A call of a sequence: what, the number, the one ahead of which, the place, the numbers. -/
structure QS where
  what : Int
  id : Int
  before : Int
  i : Int
  a : Option Addr
  n : Nat
  c : Nat
  ids : List Int
def qsCells (s : QS) : List Value := [.int .i64 s.what, .int .i64 s.id, .int .i64 s.before, .int .i64 s.i, .slice s.a s.n s.c]
def OkQS (w : World) (s : QS) : Prop := (wf64 s.id ∧ wf64 s.before) ∧ (IntKind.i64.min ≤ s.i ∧ s.i ≤ IntKind.i64.max) ∧ s.ids.length = s.n ∧ Rd (Value.int .i64) (fun _ => False) w (.slice s.a s.n s.c) s.ids ∧ ∀ z ∈ s.ids, wf64 z
theorem open_i64R {H : Type} {enc : TypeId × Value → H} {w : World} {base : Nat} {spare : Nat → Bool} {held : Bool} {a : Option Addr} {len cap : Nat} {d : DataW H} {p : List MemPlace}
    (h : DataW.Trod enc Try.prog w base spare held 26 (.slice a len cap) d p) : ∃ l : List Int, l.length = len ∧ Rd (Value.int .i64) (fun _ => False) w (.slice a len cap) l ∧ ∀ x ∈ l, wf64 x :=
  open_rd 0 Try.underlying26 (by kernel_rfl) (Value.int .i64) wf64 (fun n cs x hx => by
    obtain ⟨k, rfl, _, hw⟩ := DataW.trod_int Try.underlying2 hx
    exact ⟨k, rfl, hw⟩) h
theorem trod_struct5 {H : Type} {enc : TypeId × Value → H} {P : Program} {w : World} {base : Nat} {spare : Nat → Bool} {held : Bool} {t : TypeId} {f0 f1 f2 f3 f4 : Field} {fuel : Nat} {cs : List Value} {x : DataW H × List MemPlace} (ht : P.underlying t = some (.struct #[f0, f1, f2, f3, f4])) (h : DataW.trod enc P w base spare held fuel t cs = some x) :
    ∃ y0 y1 y2 y3 y4 n, cs.length = P.cellsOf t ∧ DataW.trod enc P w base spare held n f0.type ((cs.drop f0.offset).take (P.cellsOf f0.type)) = some y0 ∧
      DataW.trod enc P w base spare held n f1.type ((cs.drop f1.offset).take (P.cellsOf f1.type)) = some y1 ∧ DataW.trod enc P w base spare held n f2.type ((cs.drop f2.offset).take (P.cellsOf f2.type)) = some y2 ∧
      DataW.trod enc P w base spare held n f3.type ((cs.drop f3.offset).take (P.cellsOf f3.type)) = some y3 ∧ DataW.trod enc P w base spare held n f4.type ((cs.drop f4.offset).take (P.cellsOf f4.type)) = some y4 := by
  obtain ⟨xs, n, _, rfl, hl, hlen, hf⟩ := DataW.trod_struct ht h
  match xs, hlen with
  | [y0, y1, y2, y3, y4], _ => exact ⟨y0, y1, y2, y3, y4, n, hl, by simpa using hf 0 f0 rfl, by simpa using hf 1 f1 rfl, by simpa using hf 2 f2 rfl, by simpa using hf 3 f3 rfl, by simpa using hf 4 f4 rfl⟩
/-- The row of calls stands in the memory. -/
def QStepsAt (w : World) (a : Option Addr) (len : Nat) (l : List QS) : Prop :=
  l.length = len ∧ (∀ s ∈ l, OkQS w s) ∧ (len = 0 ∨ ∃ b off, a = some ⟨b, off, none⟩ ∧ ∀ (i : Nat) (hi : i < l.length) (j : Nat) (v : Value), (qsCells l[i])[j]? = some v → w.cell? ⟨b, off + i * 5 + j, none⟩ = some v)
theorem wfQS0 {k : Int} (h : (Lit.int .i64 k).wf = true) : IntKind.i64.min ≤ k ∧ k ≤ IntKind.i64.max := by
  simp [Lit.wf] at h
  exact h
theorem trod_qs {H : Type} {enc : TypeId × Value → H} {w : World} {base : Nat} {spare : Nat → Bool} {held : Bool} (fuel : Nat) (cs : List Value) (x : DataW H × List MemPlace)
    (h : DataW.trod enc Try.prog w base spare held fuel 28 cs = some x) : ∃ v : QS, cs = qsCells v ∧ OkQS w v := by
  obtain ⟨y0, y1, y2, y3, y4, n, hlen, h0, h1, h2, h3, h4⟩ := trod_struct5 Try.underlying28 h
  have hc : Try.prog.cellsOf 28 = 5 := by kernel_rfl
  have c3 : Try.prog.cellsOf 3 = 1 := by kernel_rfl
  have c2 : Try.prog.cellsOf 2 = 1 := by kernel_rfl
  have c26 : Try.prog.cellsOf 26 = 1 := by kernel_rfl
  rw [hc] at hlen
  simp only [c3, c2, c26] at h0 h1 h2 h3 h4
  match cs, hlen with
  | [x0, x1, x2, x3, x4], _ =>
    obtain ⟨k0, e0, _, w0⟩ := DataW.trod_int Try.underlying3 h0
    obtain ⟨k1, e1, _, w1⟩ := DataW.trod_int Try.underlying2 h1
    obtain ⟨k2, e2, _, w2⟩ := DataW.trod_int Try.underlying2 h2
    obtain ⟨k3, e3, _, w3⟩ := DataW.trod_int Try.underlying3 h3
    simp at e0 e1 e2 e3
    subst e0 e1 e2 e3
    obtain ⟨a, len, cap, rfl⟩ : ∃ a len cap, x4 = .slice a len cap := by
      rcases open_slice Try.underlying26 h4 with ⟨hcs, _⟩ | ⟨x, l, c, m, n, D, Pl, hcs, _⟩
      · simp at hcs; exact ⟨_, _, _, hcs⟩
      · simp at hcs; exact ⟨_, _, _, hcs⟩
    obtain ⟨l, hl1, hl2, hl3⟩ := open_i64R (d := y4.1) (p := y4.2) ⟨n, h4⟩
    exact ⟨⟨k0, k1, k2, k3, a, len, cap, l⟩, rfl, ⟨w1, w2⟩, wfQS0 w3, hl1, hl2, hl3⟩
theorem open_qs {H : Type} {enc : TypeId × Value → H} {w : World} {base : Nat} {spare : Nat → Bool} {held : Bool} {a : Option Addr} {len cap : Nat} {d : DataW H} {p : List MemPlace}
    (h : DataW.Trod enc Try.prog w base spare held 22 (.slice a len cap) d p) : ∃ l, len ≤ maxLen ∧ len ≤ cap ∧ cap ≤ maxLen ∧ QStepsAt w a len l := by
  letI : Inhabited QS := ⟨⟨0, 0, 0, 0, none, 0, 0, []⟩⟩
  obtain ⟨fuel, hf⟩ := h
  have hc : Try.prog.cellsOf 28 = 5 := by kernel_rfl
  rcases open_slice Try.underlying22 hf with ⟨hcs, _⟩ | ⟨x, l, c, m, n, D, Pl, hcs, _, hl, hm, hmm, _, hx⟩
  · simp [Value.cells] at hcs
    obtain ⟨rfl, rfl, rfl⟩ := hcs
    exact ⟨[], Nat.zero_le _, Nat.le_refl _, Nat.zero_le _, rfl, fun s hs => absurd hs (by simp), .inl rfl⟩
  · simp [Value.cells] at hcs
    obtain ⟨rfl, rfl, rfl⟩ := hcs
    rw [hc] at hx
    have hlm : len ≤ m := by rw [hmm]; split <;> omega
    obtain ⟨V, hV⟩ := choose_lt (α := QS) (n := len) (p := fun i v => (∀ j, j < 5 → w.cell? ((x.add (i * 5)).add j) = (qsCells v)[j]?) ∧ OkQS w v) (fun i hi => by
      obtain ⟨cs', h1, h2⟩ := hx i (by omega)
      obtain ⟨v, rfl, hfit⟩ := trod_qs _ _ _ h2
      obtain ⟨_, _, hcell⟩ := World.cells?_some h1
      exact ⟨v, hcell, hfit⟩)
    refine ⟨(List.range len).map V, by omega, hl, hm, by simp, fun s hs => ?_, ?_⟩
    · obtain ⟨i, hi, rfl⟩ := List.mem_map.1 hs
      exact (hV i (List.mem_range.1 hi)).2
    · by_cases h0 : len = 0
      · exact .inl h0
      · refine .inr ?_
        obtain ⟨b, off, spot⟩ := x
        have hspot : spot = none := by
          have h := (hV 0 (by omega)).1 0 (by decide)
          simp only [qsCells, List.getElem?_cons_zero] at h
          simpa [Addr.add] using World.cell?_spot h
        subst hspot
        refine ⟨b, off, rfl, fun i hi j v hv => ?_⟩
        have hi' : i < len := by simpa using hi
        have e : ((List.range len).map V)[i] = V i := by simp
        rw [e] at hv
        have hj : j < 5 := by
          rcases Nat.lt_or_ge j 5 with h | h
          · exact h
          · rw [List.getElem?_eq_none (by simpa [qsCells] using h)] at hv; cases hv
        have h := (hV i hi').1 j hj
        rw [hv, add_plain, add_plain] at h
        exact h

end Go.Proofs.Ytbnkddnjfkagkaa

/-
  Rows of whatever things of some cells each as they lie in memory: fields of a shape, parts of a definition, truths; plain facts, no function of the program.
  Rows of whatever things of some cells that a call owns; append of one thing to such a row. No function of the program.
-/
import Derived.Test.YtnokokhbcfkifaaGreatDoorValCmpG
import Derived.Test.YtnokokhbcfkifaaGreatDoorRows
import Derived.Test.YtnokokhbcfkifaaGreatDoorBitsG
import Derived.OwnWalk
import Derived.ProofKit
namespace Go.Proofs.YtnokokhbcfkifaaGreatDoor
open Go.RowKit

/-- A slice of things of k cells each: nothing, or a row of them in memory. -/
def Slc {α : Type} (k : Nat) (cs : α → List Value) (z : α) (ok : α → Prop) (w : World) (a : Option Addr) (n : Nat) (l : List α) : Prop :=
  l.length = n ∧ (∀ i, ok (l.getD i z)) ∧ (n = 0 ∨ ∃ b off, a = some ⟨b, off, none⟩ ∧ ∀ i, i < n → ∀ j v, (cs (l.getD i z))[j]? = some v → w.cell? ⟨b, off + i * k + j, none⟩ = some v)
theorem Slc.up {α : Type} {k : Nat} {cs : α → List Value} {z : α} {ok : α → Prop} {w w' : World} {a : Option Addr} {n : Nat} {l : List α} (h : Slc k cs z ok w a n l) (hu : Up w w') : Slc k cs z ok w' a n l := by
  refine ⟨h.1, h.2.1, ?_⟩
  rcases h.2.2 with h0 | ⟨b, off, ha, hx⟩
  · exact .inl h0
  · exact .inr ⟨b, off, ha, fun i hi j v hv => hu.cell (hx i hi j v hv)⟩
/-- Its beginning. -/
theorem Slc.take {α : Type} {k : Nat} {cs : α → List Value} {z : α} {ok : α → Prop} {w : World} {a : Option Addr} {n : Nat} {l : List α} (h : Slc k cs z ok w a n l) (hz : ok z) {m : Nat} (hm : m ≤ n) :
    Slc k cs z ok w a m (l.take m) := by
  have e : ∀ i, (l.take m).getD i z = if i < m then l.getD i z else z := by
    intro i
    simp only [List.getD_eq_getElem?_getD, List.getElem?_take]
    split <;> rfl
  refine ⟨by rw [List.length_take, h.1]; omega, fun i => ?_, ?_⟩
  · rw [e]
    split
    · exact h.2.1 i
    · exact hz
  · rcases h.2.2 with h0 | ⟨b, off, ha, hx⟩
    · exact .inl (by omega)
    · refine .inr ⟨b, off, ha, fun i hi j v hv => ?_⟩
      rw [e, if_pos hi] at hv
      exact hx i (by omega) j v hv

/-- A field: its name, its kind. -/
abbrev FT := ByteArray × Int
def fCells (f : FT) : List Value := [.string f.1, .int .i64 f.2]
def FitsF (f : FT) : Prop := f.1.size ≤ maxLen ∧ IntKind.i64.min ≤ f.2 ∧ f.2 ≤ IntKind.i64.max
def zeroF : FT := (ByteArray.empty, 0)
theorem fits_zeroF : FitsF zeroF := ⟨by simp [zeroF, maxLen], by decide, by decide⟩
abbrev Flds := Slc 2 fCells zeroF FitsF
/-- A part: the field's number, the hook's. -/
abbrev PT := Int × Int
def pCells (p : PT) : List Value := [.int .i64 p.1, .int .i64 p.2]
def FitsP (p : PT) : Prop := IntKind.i64.min ≤ p.1 ∧ p.1 ≤ IntKind.i64.max ∧ IntKind.i64.min ≤ p.2 ∧ p.2 ≤ IntKind.i64.max
def zeroP : PT := (0, 0)
theorem fits_zeroP : FitsP zeroP := ⟨by decide, by decide, by decide, by decide⟩
abbrev Prts := Slc 2 pCells zeroP FitsP
/-- A row of truths. -/
def bCells (b : Bool) : List Value := [.bool b]
abbrev Blns := Slc 1 bCells false (fun _ => True)

theorem Slc.fld {w : World} {a : Option Addr} {n : Nat} {l : List FT} (h : Flds w a n l) {i : Nat} (hi : i < n) :
    ∃ b off, a = some ⟨b, off, none⟩ ∧ w.cell? ⟨b, off + i * 2, none⟩ = some (.string (l.getD i zeroF).1) ∧ w.cell? ⟨b, off + i * 2 + 1, none⟩ = some (.int .i64 (l.getD i zeroF).2) := by
  rcases h.2.2 with h0 | ⟨b, off, ha, hx⟩
  · omega
  · exact ⟨b, off, ha, by simpa using hx i hi 0 _ rfl, hx i hi 1 _ rfl⟩
theorem Slc.prt {w : World} {a : Option Addr} {n : Nat} {l : List PT} (h : Prts w a n l) {i : Nat} (hi : i < n) :
    ∃ b off, a = some ⟨b, off, none⟩ ∧ w.cell? ⟨b, off + i * 2, none⟩ = some (.int .i64 (l.getD i zeroP).1) ∧ w.cell? ⟨b, off + i * 2 + 1, none⟩ = some (.int .i64 (l.getD i zeroP).2) := by
  rcases h.2.2 with h0 | ⟨b, off, ha, hx⟩
  · omega
  · exact ⟨b, off, ha, by simpa using hx i hi 0 _ rfl, hx i hi 1 _ rfl⟩
theorem Slc.bln {w : World} {a : Option Addr} {n : Nat} {l : List Bool} (h : Blns w a n l) {i : Nat} (hi : i < n) :
    ∃ b off, a = some ⟨b, off, none⟩ ∧ w.cell? ⟨b, off + i, none⟩ = some (.bool (l.getD i false)) := by
  rcases h.2.2 with h0 | ⟨b, off, ha, hx⟩
  · omega
  · exact ⟨b, off, ha, by simpa using hx i hi 0 _ rfl⟩

end Go.Proofs.YtnokokhbcfkifaaGreatDoor

namespace Go.Proofs.YtnokokhbcfkifaaGreatDoor
open Go.ChangeShapes Go.WideShapes Go.ChangeAt Go.RowKit

theorem flatG_length {α : Type} {k : Nat} {cs : α → List Value} (hk : ∀ v, (cs v).length = k) (l : List α) : (l.flatMap cs).length = l.length * k := by
  induction l with
  | nil => simp
  | cons v l ih => rw [List.flatMap_cons, List.length_append, ih, hk, List.length_cons, Nat.add_mul]; omega
theorem flatG_get {α : Type} {k : Nat} {cs : α → List Value} (hk : ∀ v, (cs v).length = k) (z : α) (l : List α) : ∀ (i j : Nat), i < l.length → j < k → (l.flatMap cs)[i * k + j]? = (cs (l.getD i z))[j]? := by
  induction l with
  | nil => intro i j hi; simp at hi
  | cons v l ih =>
    intro i j hi hj
    rw [List.flatMap_cons]
    cases i with
    | zero =>
      rw [Nat.zero_mul, Nat.zero_add, List.getElem?_append_left (by rw [hk]; exact hj), List.getD_cons_zero]
    | succ i =>
      have e : (i + 1) * k + j = k + (i * k + j) := by rw [Nat.add_mul]; omega
      rw [e, List.getElem?_append_right (by rw [hk]; omega), hk, Nat.add_sub_cancel_left, ih i j (by simpa using hi) hj, List.getD_cons_succ]

/-- A row of things that a call owns. -/
def OwnG {α : Type} (e : TypeId) (k : Nat) (cs : α → List Value) (w : World) (base : Nat) (v : Value) (l : List α) : Prop := w.ownsRow base e k v l.length (l.flatMap cs)
theorem OwnG.nil {α : Type} (e : TypeId) (k : Nat) (cs : α → List Value) (w : World) (base : Nat) : OwnG e k cs w base (.slice none 0 0) [] := World.ownsRow_nil _ _ _ _
theorem OwnG.alloc {α : Type} {e : TypeId} {k : Nat} {cs : α → List Value} {w : World} {base : Nat} {v : Value} {l : List α} (h : OwnG e k cs w base v l) (o : Obj) : OwnG e k cs (w.alloc o) base v l := World.ownsRow.alloc h o
theorem OwnG.lt {α : Type} {e : TypeId} {k : Nat} {cs : α → List Value} {w : World} {base : Nat} {v : Value} {l : List α} (h : OwnG e k cs w base v l) : ∀ g, v.ownBlock = some g → base ≤ g ∧ g < w.heap.size := World.ownsRow.lt h
theorem OwnG.up {α : Type} {e : TypeId} {k : Nat} {cs : α → List Value} {w w' : World} {base : Nat} {v : Value} {l : List α} (h : OwnG e k cs w base v l) (hu : Up w w') : OwnG e k cs w' base v l := by
  refine ⟨h.1, ?_⟩
  rcases h.2 with h0 | ⟨g, cap, cur, hv, hb, hg, hr⟩
  · exact .inl h0
  · exact .inr ⟨g, cap, cur, hv, hb, hu.heap hg, hr⟩
/-- It is a row of things. -/
theorem OwnG.slc {α : Type} {e : TypeId} {k : Nat} {cs : α → List Value} {z : α} {ok : α → Prop} {w : World} {base : Nat} {v : Value} {l : List α} (h : OwnG e k cs w base v l) (hk : ∀ v, (cs v).length = k) (hf : ∀ i, ok (l.getD i z)) :
    ∃ a cap, v = .slice a l.length cap ∧ l.length ≤ cap ∧ cap ≤ maxLen ∧ Slc k cs z ok w a l.length l := by
  have h0 := h
  rcases h.2 with ⟨rfl, hn⟩ | ⟨g, cap, cur, rfl, hb, hg, hc, hm, hs, ht⟩
  · have : l = [] := List.length_eq_zero_iff.1 (by simpa using hn)
    subst this
    exact ⟨none, 0, rfl, Nat.le_refl _, Nat.zero_le _, rfl, hf, .inl rfl⟩
  · refine ⟨some ⟨g, 0, none⟩, cap, rfl, hc, hm, rfl, hf, .inr ⟨g, 0, rfl, fun i hi j v hv => ?_⟩⟩
    have hj : j < k := by
      rcases Nat.lt_or_ge j k with h | h
      · exact h
      · rw [List.getElem?_eq_none (by rw [hk]; exact h)] at hv; cases hv
    rw [show 0 + i * k + j = i * k + j by omega]
    have hlt : i * k + j < l.length * k := by
      have : (i + 1) * k ≤ l.length * k := Nat.mul_le_mul_right k hi
      rw [Nat.add_mul] at this
      omega
    rw [World.ownsRow.cellAt h0 (i * k + j) hlt, flatG_get hk z l i j hi hj]
    exact hv
theorem append_own {α : Type} {cs : α → List Value} {P : Program} {t e : TypeId} {i0 : TypeInfo} {z : Value} {k bytes : Nat} (ht : P.underlying t = some (.slice e)) (hi : P.info? e = some i0) (hz0 : i0.zero = some z) (hz1 : i0.size = k) (hz2 : i0.bytes = bytes) (hzl : z.cells.size = k) (hk0 : 0 < k) (hb1 : bytes ≤ 64)
    (hk : ∀ v, (cs v).length = k) (hone : ∀ v, ∀ u ∈ cs v, u.oneCell' = true)
    {w : World} {ops : Array Oper} {rest : List Oper} {o : Oper} {a : Act} {Q : Exit → Act → World → Prop} (hgd : o.guard = none) (s x : Operand)
    (ho : o.op = .call { callee := .builtin .append, args := #[s, x], argTypes := #[t, t] }) (base : Nat) (v : Value) (l : List α) (hs : a.eval s = v) (hown : OwnG e k cs w base v l)
    (ad : Addr) (c : Nat) (new : α) (hx : a.eval x = .slice (some ad) 1 c) (hnews : ∀ j u, (cs new)[j]? = some u → w.cell? (ad.add j) = some u)
    (hlen : l.length + 1 ≤ 1000000) (hbase : base ≤ w.heap.size)
    (h : ∀ v' w', OwnG e k cs w' base v' (l ++ [new]) → w.grownBy w' v.ownBlock → wpList P ops Q rest (a.put o.dst v') w') : wpList P ops Q (o :: rest) a w := by
  refine wpList_append_own w hgd s x t ho base e i0 z k bytes ht hi hz0 hz1 hz2 hzl hk0 v l.length (l.flatMap cs) hs hown ad 1 c (cs new) hx (by rw [hk]; omega) hnews (hone new) (by unfold maxLen; omega) ?_ hbase fun v' w' h1 h2 _ => h v' w' ?_ h2
  · have : (l.length + 1) * bytes ≤ 1000000 * 64 := Nat.mul_le_mul hlen hb1
    omega
  · unfold OwnG
    rw [List.length_append, List.flatMap_append, List.flatMap_singleton]
    exact h1

/-- What grew by an append still holds all that was there. -/
theorem OwnG.below {α : Type} {e : TypeId} {k : Nat} {cs : α → List Value} {w0 w w' : World} {base : Nat} {v : Value} {l : List α} (hb : Below base w0 w) (hle : base ≤ w.heap.size) (hown : OwnG e k cs w base v l) (hg : w.grownBy w' v.ownBlock) : Below base w0 w' :=
  Below.grown hb hg hle (fun g hk => (hown.lt g hk).1)
theorem getD_add {α : Type} {z : α} {ok : α → Prop} {l : List α} {x : α} (hl : ∀ i, ok (l.getD i z)) (hx : ok x) (hz : ok z) (i : Nat) : ok ((l ++ [x]).getD i z) := by
  by_cases h : i < l.length
  · have := hl i
    rw [List.getD_eq_getElem?_getD, List.getElem?_append_left h, ← List.getD_eq_getElem?_getD]
    exact this
  · rw [List.getD_eq_getElem?_getD, List.getElem?_append_right (by omega)]
    by_cases h2 : i - l.length = 0
    · rw [h2]; exact hx
    · rw [List.getElem?_eq_none (by simp; omega)]; exact hz

end Go.Proofs.YtnokokhbcfkifaaGreatDoor

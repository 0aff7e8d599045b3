/-
  Rows of whatever things of some cells that a call owns; append of one thing to such a row. No function of the program.
-/
import Derived.Test.YteigjboelhcaiaaSlcs
import Derived.Test.YteigjboelhcaiaaRows
import Derived.Test.YteigjboelhcaiaaCalls
import Derived.OwnWalk
import Derived.ProofKit
namespace Go.Proofs.Yteigjboelhcaiaa
open Go.ChangeShapes Go.WideShapes Go.ChangeAt Go.RowKit

theorem flatG_length {α : Type} {k : Nat} {cs : α → List Value} (hk : ∀ v, (cs v).length = k) (l : List α) : (l.flatMap cs).length = l.length * k := by
  induction l with
  | nil => simp
  | cons v l ih => rw [List.flatMap_cons, List.length_append, ih, hk, List.length_cons, Nat.add_mul]; omega
theorem flatG_get {α : Type} {k : Nat} {cs : α → List Value} (hk : ∀ v, (cs v).length = k) (z : α) (l : List α) : ∀ (i j : Nat), i < l.length → j < k → (l.flatMap cs)[i * k + j]? = (cs (l.getD i z))[j]? := by
  induction l with
  | nil => intro i j hi; simp at hi
  | cons v l ih =>
    intro i j hi hj
    rw [List.flatMap_cons]
    cases i with
    | zero =>
      rw [Nat.zero_mul, Nat.zero_add, List.getElem?_append_left (by rw [hk]; exact hj), List.getD_cons_zero]
    | succ i =>
      have e : (i + 1) * k + j = k + (i * k + j) := by rw [Nat.add_mul]; omega
      rw [e, List.getElem?_append_right (by rw [hk]; omega), hk, Nat.add_sub_cancel_left, ih i j (by simpa using hi) hj, List.getD_cons_succ]

/-- A row of things that a call owns. -/
def OwnG {α : Type} (e : TypeId) (k : Nat) (cs : α → List Value) (w : World) (base : Nat) (v : Value) (l : List α) : Prop := w.ownsRow base e k v l.length (l.flatMap cs)
theorem OwnG.nil {α : Type} (e : TypeId) (k : Nat) (cs : α → List Value) (w : World) (base : Nat) : OwnG e k cs w base (.slice none 0 0) [] := World.ownsRow_nil _ _ _ _
theorem OwnG.alloc {α : Type} {e : TypeId} {k : Nat} {cs : α → List Value} {w : World} {base : Nat} {v : Value} {l : List α} (h : OwnG e k cs w base v l) (o : Obj) : OwnG e k cs (w.alloc o) base v l := World.ownsRow.alloc h o
theorem OwnG.lt {α : Type} {e : TypeId} {k : Nat} {cs : α → List Value} {w : World} {base : Nat} {v : Value} {l : List α} (h : OwnG e k cs w base v l) : ∀ g, v.ownBlock = some g → base ≤ g ∧ g < w.heap.size := World.ownsRow.lt h
theorem OwnG.up {α : Type} {e : TypeId} {k : Nat} {cs : α → List Value} {w w' : World} {base : Nat} {v : Value} {l : List α} (h : OwnG e k cs w base v l) (hu : Up w w') : OwnG e k cs w' base v l := by
  refine ⟨h.1, ?_⟩
  rcases h.2 with h0 | ⟨g, cap, cur, hv, hb, hg, hr⟩
  · exact .inl h0
  · exact .inr ⟨g, cap, cur, hv, hb, hu.heap hg, hr⟩
/-- It is a row of things. -/
theorem OwnG.slc {α : Type} {e : TypeId} {k : Nat} {cs : α → List Value} {z : α} {ok : α → Prop} {w : World} {base : Nat} {v : Value} {l : List α} (h : OwnG e k cs w base v l) (hk : ∀ v, (cs v).length = k) (hf : ∀ i, ok (l.getD i z)) :
    ∃ a cap, v = .slice a l.length cap ∧ l.length ≤ cap ∧ cap ≤ maxLen ∧ Slc k cs z ok w a l.length l := by
  have h0 := h
  rcases h.2 with ⟨rfl, hn⟩ | ⟨g, cap, cur, rfl, hb, hg, hc, hm, hs, ht⟩
  · have : l = [] := List.length_eq_zero_iff.1 (by simpa using hn)
    subst this
    exact ⟨none, 0, rfl, Nat.le_refl _, Nat.zero_le _, rfl, hf, .inl rfl⟩
  · refine ⟨some ⟨g, 0, none⟩, cap, rfl, hc, hm, rfl, hf, .inr ⟨g, 0, rfl, fun i hi j v hv => ?_⟩⟩
    have hj : j < k := by
      rcases Nat.lt_or_ge j k with h | h
      · exact h
      · rw [List.getElem?_eq_none (by rw [hk]; exact h)] at hv; cases hv
    rw [show 0 + i * k + j = i * k + j by omega]
    have hlt : i * k + j < l.length * k := by
      have : (i + 1) * k ≤ l.length * k := Nat.mul_le_mul_right k hi
      rw [Nat.add_mul] at this
      omega
    rw [World.ownsRow.cellAt h0 (i * k + j) hlt, flatG_get hk z l i j hi hj]
    exact hv
theorem append_own {α : Type} {cs : α → List Value} {P : Program} {t e : TypeId} {i0 : TypeInfo} {z : Value} {k bytes : Nat} (ht : P.underlying t = some (.slice e)) (hi : P.info? e = some i0) (hz0 : i0.zero = some z) (hz1 : i0.size = k) (hz2 : i0.bytes = bytes) (hzl : z.cells.size = k) (hk0 : 0 < k) (hb1 : bytes ≤ 64)
    (hk : ∀ v, (cs v).length = k) (hone : ∀ v, ∀ u ∈ cs v, u.oneCell' = true)
    {w : World} {ops : Array Oper} {rest : List Oper} {o : Oper} {a : Act} {Q : Exit → Act → World → Prop} (hgd : o.guard = none) (s x : Operand)
    (ho : o.op = .call { callee := .builtin .append, args := #[s, x], argTypes := #[t, t] }) (base : Nat) (v : Value) (l : List α) (hs : a.eval s = v) (hown : OwnG e k cs w base v l)
    (ad : Addr) (c : Nat) (new : α) (hx : a.eval x = .slice (some ad) 1 c) (hnews : ∀ j u, (cs new)[j]? = some u → w.cell? (ad.add j) = some u)
    (hlen : l.length + 1 ≤ 1000000) (hbase : base ≤ w.heap.size)
    (h : ∀ v' w', OwnG e k cs w' base v' (l ++ [new]) → w.grownBy w' v.ownBlock → wpList P ops Q rest (a.put o.dst v') w') : wpList P ops Q (o :: rest) a w := by
  refine wpList_append_own w hgd s x t ho base e i0 z k bytes ht hi hz0 hz1 hz2 hzl hk0 v l.length (l.flatMap cs) hs hown ad 1 c (cs new) hx (by rw [hk]; omega) hnews (hone new) (by unfold maxLen; omega) ?_ hbase fun v' w' h1 h2 _ => h v' w' ?_ h2
  · have : (l.length + 1) * bytes ≤ 1000000 * 64 := Nat.mul_le_mul hlen hb1
    omega
  · unfold OwnG
    rw [List.length_append, List.flatMap_append, List.flatMap_singleton]
    exact h1

/-- What grew by an append still holds all that was there. -/
theorem OwnG.below {α : Type} {e : TypeId} {k : Nat} {cs : α → List Value} {w0 w w' : World} {base : Nat} {v : Value} {l : List α} (hb : Below base w0 w) (hle : base ≤ w.heap.size) (hown : OwnG e k cs w base v l) (hg : w.grownBy w' v.ownBlock) : Below base w0 w' :=
  Below.grown hb hg hle (fun g hk => (hown.lt g hk).1)
theorem getD_add {α : Type} {z : α} {ok : α → Prop} {l : List α} {x : α} (hl : ∀ i, ok (l.getD i z)) (hx : ok x) (hz : ok z) (i : Nat) : ok ((l ++ [x]).getD i z) := by
  by_cases h : i < l.length
  · have := hl i
    rw [List.getD_eq_getElem?_getD, List.getElem?_append_left h, ← List.getD_eq_getElem?_getD]
    exact this
  · rw [List.getD_eq_getElem?_getD, List.getElem?_append_right (by omega)]
    by_cases h2 : i - l.length = 0
    · rw [h2]; exact hx
    · rw [List.getElem?_eq_none (by simp; omega)]; exact hz

/-- Fields, parts. -/
theorem info_field : (Try.prog.info? 49).map (fun i => (i.zero, i.size, i.bytes)) = some (some (.agg #[.string ⟨#[]⟩, .int .i64 0]), 2, 24) := by kernel_rfl
theorem info_part : (Try.prog.info? 52).map (fun i => (i.zero, i.size, i.bytes)) = some (some (.agg #[.int .i64 0, .int .i64 0]), 2, 16) := by kernel_rfl
abbrev OwnF := OwnG (α := FT) 49 2 fCells
abbrev OwnP := OwnG (α := PT) 52 2 pCells
theorem append_field {w : World} {ops : Array Oper} {rest : List Oper} {o : Oper} {a : Act} {Q : Exit → Act → World → Prop} (hgd : o.guard = none) (s x : Operand)
    (ho : o.op = .call { callee := .builtin .append, args := #[s, x], argTypes := #[22, 22] }) (base : Nat) (v : Value) (l : List FT) (hs : a.eval s = v) (hown : OwnF w base v l)
    (ad : Addr) (c : Nat) (new : FT) (hx : a.eval x = .slice (some ad) 1 c) (hnews : ∀ j u, (fCells new)[j]? = some u → w.cell? (ad.add j) = some u) (hlen : l.length + 1 ≤ 1000000) (hbase : base ≤ w.heap.size)
    (h : ∀ v' w', OwnF w' base v' (l ++ [new]) → w.grownBy w' v.ownBlock → wpList Try.prog ops Q rest (a.put o.dst v') w') : wpList Try.prog ops Q (o :: rest) a w := by
  obtain ⟨i0, hi, hz0, hz1, hz2⟩ := info_parts info_field
  exact append_own Try.underlying22 hi hz0 hz1 hz2 rfl (by decide) (by decide) (fun _ => rfl) (fun v u hu => by simp only [fCells, List.mem_cons, List.not_mem_nil, or_false] at hu; rcases hu with rfl | rfl <;> rfl) hgd s x ho base v l hs hown ad c new hx hnews hlen hbase h
theorem append_part {w : World} {ops : Array Oper} {rest : List Oper} {o : Oper} {a : Act} {Q : Exit → Act → World → Prop} (hgd : o.guard = none) (s x : Operand)
    (ho : o.op = .call { callee := .builtin .append, args := #[s, x], argTypes := #[24, 24] }) (base : Nat) (v : Value) (l : List PT) (hs : a.eval s = v) (hown : OwnP w base v l)
    (ad : Addr) (c : Nat) (new : PT) (hx : a.eval x = .slice (some ad) 1 c) (hnews : ∀ j u, (pCells new)[j]? = some u → w.cell? (ad.add j) = some u) (hlen : l.length + 1 ≤ 1000000) (hbase : base ≤ w.heap.size)
    (h : ∀ v' w', OwnP w' base v' (l ++ [new]) → w.grownBy w' v.ownBlock → wpList Try.prog ops Q rest (a.put o.dst v') w') : wpList Try.prog ops Q (o :: rest) a w := by
  obtain ⟨i0, hi, hz0, hz1, hz2⟩ := info_parts info_part
  exact append_own Try.underlying24 hi hz0 hz1 hz2 rfl (by decide) (by decide) (fun _ => rfl) (fun v u hu => by simp only [pCells, List.mem_cons, List.not_mem_nil, or_false] at hu; rcases hu with rfl | rfl <;> rfl) hgd s x ho base v l hs hown ad c new hx hnews hlen hbase h
theorem field_new {w : World} {t : TypeId} (v : FT) : ∀ j u, (fCells v)[j]? = some u → (w.alloc (.cells #[.string v.1, .int .i64 v.2] t)).cell? ((⟨w.heap.size, 0, none⟩ : Addr).add j) = some u := by
  intro j u hj
  match j with
  | 0 => simp [fCells] at hj; subst hj; simp [Addr.add]
  | 1 => simp [fCells] at hj; subst hj; simp [Addr.add]
  | j + 2 => simp [fCells] at hj
theorem part_new {w : World} {t : TypeId} (v : PT) : ∀ j u, (pCells v)[j]? = some u → (w.alloc (.cells #[.int .i64 v.1, .int .i64 v.2] t)).cell? ((⟨w.heap.size, 0, none⟩ : Addr).add j) = some u := by
  intro j u hj
  match j with
  | 0 => simp [pCells] at hj; subst hj; simp [Addr.add]
  | 1 => simp [pCells] at hj; subst hj; simp [Addr.add]
  | j + 2 => simp [pCells] at hj

end Go.Proofs.Yteigjboelhcaiaa

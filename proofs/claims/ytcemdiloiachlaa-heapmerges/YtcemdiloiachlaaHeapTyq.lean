/-
  HeapTypes, walked.
-/
import Derived.Test.YtcemdiloiachlaaHeapTyp
import Derived.Laws.OwnMore
namespace Go.Proofs.Ytcemdiloiachlaa
open Go.ChangeShapes Go.WideShapes Go.ChangeAt Go.RowKit
set_option linter.unusedVariables false

def bC (b : Bool) : List Value := [.bool b]
abbrev OwnB := OwnG (α := Bool) 4 1 bC
theorem info_bool : (Try.prog.info? 4).map (fun i => (i.zero, i.size, i.bytes)) = some (some (.bool false), 1, 1) := by kernel_rfl
theorem bflat : ∀ l : List Bool, l.flatMap bC = l.map (fun b => .bool b)
  | [] => rfl
  | x :: l => by rw [List.flatMap_cons, bflat l]; rfl
theorem make_bools {w : World} {ops : Array Oper} {rest : List Oper} {o : Oper} {a : Act} {Q : Exit → Act → World → Prop} (hgd : o.guard = none) (x y : Operand) (ho : o.op = Op.makeSlice 38 x y) (C D : Int) (n : Nat) (hx : a.eval x = .int .i64 C) (hy : a.eval y = .int .i64 D) (hC : C = (n : Int)) (hD : D = (n : Int)) (hn : n ≤ 1000000)
    (h : ∀ w', Up w w' → OwnB w' w.heap.size (.slice (some ⟨w.heap.size, 0, none⟩) n n) (List.replicate n false) → wpList Try.prog ops Q rest (a.put o.dst (.slice (some ⟨w.heap.size, 0, none⟩) n n)) w') : wpList Try.prog ops Q (o :: rest) a w := by
  obtain ⟨i0, hi, hz0, hz1, hz2⟩ := info_parts info_bool
  refine wpList_make_full w hgd x y 38 ho w.heap.size 4 i0 (.bool false) 1 Try.underlying38 hi hz0 hz1 .i64 .i64 C D n hx hy hC hD (by rw [hz2]; omega) (by unfold maxLen; omega) (Nat.le_refl _) fun w' h1 h2 => h w' (Below.grown (Below.refl _ _) h2 (Nat.le_refl _) (fun g hg => by cases hg)) ?_
  unfold OwnB OwnG
  have e : (madeCells (Value.bool false).cells (n * 1)).toList = (List.replicate n false).flatMap bC := by
    rw [bflat, List.map_replicate, Nat.mul_one]
    exact toList_madeCells_one _ n
  rw [e] at h1
  rw [List.length_replicate]
  exact h1
theorem own_setB {w : World} {base g cap : Nat} {l : List Bool} (h : OwnB w base (.slice (some ⟨g, 0, none⟩) l.length cap) l) (k : Nat) (x : Bool) (w' : World) (e : w' = w.setCell ⟨g, k, none⟩ (.bool x)) :
    OwnB w' base (.slice (some ⟨g, 0, none⟩) l.length cap) (l.set k x) := by
  have h1 := (World.ownsRow.stored h k (.bool x)).1
  rw [bflat, ← List.map_set (f := fun b => Value.bool b), ← bflat] at h1
  rw [e]
  unfold OwnB OwnG
  rw [List.length_set]
  exact h1
theorem ownB_cell {w : World} {base g cap : Nat} {l : List Bool} (h : OwnB w base (.slice (some ⟨g, 0, none⟩) l.length cap) l) {k : Nat} (hk : k < l.length) : w.cell? ⟨g, k, none⟩ = some (.bool (l.getD k true)) := by
  rw [World.ownsRow.cellAt h k (by omega), bflat, List.getElem?_map, List.getElem?_eq_getElem hk, List.getD_eq_getElem?_getD, List.getElem?_eq_getElem hk]
  rfl
theorem mem_leftL {E : Type} : ∀ {l : List E} {U : List Bool} {z : E}, z ∈ leftL l U → ∃ k, U.getD k true = false ∧ l[k]? = some z
  | [], U, z, h => by simp [leftL] at h
  | x :: l, [], z, h => by simp [leftL] at h
  | x :: l, u :: us, z, h => by
    cases u with
    | false =>
      have h' : z ∈ x :: leftL l us := by unfold leftL at h ⊢; simpa using h
      rcases List.mem_cons.1 h' with rfl | h'
      · exact ⟨0, rfl, rfl⟩
      · obtain ⟨k, h1, h2⟩ := mem_leftL h'
        exact ⟨k + 1, by simpa using h1, by simpa using h2⟩
    | true =>
      have h' : z ∈ leftL l us := by unfold leftL at h ⊢; simpa using h
      obtain ⟨k, h1, h2⟩ := mem_leftL h'
      exact ⟨k + 1, by simpa using h1, by simpa using h2⟩
/-- One round of the law's look: the place that it finds. -/
theorem types_step {l : List ETS} {U : List Bool} {S : List ETS} {i : Nat} (hU : U.length = l.length) (hi : i < S.length) (he : isort rkS (leftL l U) = S.drop i) :
    (∃ j, j < l.length ∧ U.getD j true = false ∧ (l.getD j eZeroS).size = (S.getD i eZeroS).size) ∧
    ∀ j, j < l.length → U.getD j true = false → (l.getD j eZeroS).size = (S.getD i eZeroS).size → (∀ q, q < j → ¬ (U.getD q true = false ∧ (l.getD q eZeroS).size = (S.getD i eZeroS).size)) →
      l.getD j eZeroS = S.getD i eZeroS ∧ isort rkS (leftL l (U.set j true)) = S.drop (i + 1) := by
  have hS : S.drop i = S.getD i eZeroS :: S.drop (i + 1) := by rw [List.drop_eq_getElem_cons hi, List.getD_eq_getElem?_getD, List.getElem?_eq_getElem hi]; rfl
  have hg : ∀ (q : Nat) (z : ETS), l[q]? = some z → l.getD q eZeroS = z := fun q z h => by rw [List.getD_eq_getElem?_getD, h]; rfl
  rw [hS] at he
  constructor
  · have hm : S.getD i eZeroS ∈ leftL l U := (isort_perm rkS _).mem_iff.1 (by rw [he]; exact List.mem_cons_self ..)
    obtain ⟨k, h1, h2⟩ := mem_leftL hm
    exact ⟨k, (List.getElem?_eq_some_iff.1 h2).1, h1, by rw [hg k _ h2]⟩
  · intro j hj h1 h2 h3
    obtain ⟨e1, e2⟩ := leftL_at l U j hU hj h1
    have hlj : l.getD j eZeroS = l[j] := by rw [List.getD_eq_getElem?_getD, List.getElem?_eq_getElem hj]; rfl
    obtain ⟨r1, r2⟩ := left_least rkS he e1 (by rw [← hlj]; unfold rkS; omega) (fun z hz => by
      obtain ⟨q, q1, q2⟩ := mem_leftL hz
      have hq : q < j := by
        have := (List.getElem?_eq_some_iff.1 q2).1
        simp at this
        omega
      rw [List.getElem?_take, if_pos hq] at q2
      have q1' : U.getD q true = false := by rw [← q1, List.getD_eq_getElem?_getD, List.getD_eq_getElem?_getD, List.getElem?_take, if_pos hq]
      have := h3 q hq
      rw [hg q _ q2] at this
      intro e
      apply this
      unfold rkS at e
      exact ⟨q1', by omega⟩)
    rw [← e2] at r2
    exact ⟨hlj.trans r1, r2⟩

end Go.Proofs.Ytcemdiloiachlaa

/-
  Rows of items that grow side by side; items that bear their places: plain facts and laws for HeapMerges.
-/
import Derived.Test.YtcemdiloiachlaaHeapMrg
import Derived.Test.YtcemdiloiachlaaHeapSrt
import Derived.Test.YtcemdiloiachlaaHeapKnw
import Derived.Laws.AppendOwnNone
import Derived.Test.YtcemdiloiachlaaHeapTyq
import Derived.Test.YtcemdiloiachlaaHeapOpm
import Derived.Maps.AppendAt
namespace Go.Proofs.Ytcemdiloiachlaa
open Go.ChangeShapes Go.WideShapes Go.ChangeAt Go.RowKit
set_option linter.unusedVariables false

theorem info_sl : (Try.prog.info? 24).map (fun i => (i.zero, i.size, i.bytes)) = some (some (.slice none 0 0), 1, 24) := by kernel_rfl
theorem sl_one (r : SlV) : ∀ u ∈ slCells r, u.oneCell' = true := fun u hu => by simp only [slCells, List.mem_singleton] at hu; subst hu; rfl
abbrev OwnSl := OwnG (α := SlV) 24 1 slCells
theorem append_sl {w : World} {ops : Array Oper} {rest : List Oper} {o : Oper} {a : Act} {Q : Exit → Act → World → Prop} (hgd : o.guard = none) (s x : Operand)
    (ho : o.op = .call { callee := .builtin .append, args := #[s, x], argTypes := #[35, 35] }) (base : Nat) (v : Value) (l : List SlV) (hs : a.eval s = v) (hown : OwnSl w base v l)
    (ad : Addr) (c : Nat) (new : SlV) (hx : a.eval x = .slice (some ad) 1 c) (hnews : ∀ j u, (slCells new)[j]? = some u → w.cell? (ad.add j) = some u) (hlen : l.length + 1 ≤ 1000000) (hbase : base ≤ w.heap.size)
    (h : ∀ v' w', OwnSl w' base v' (l ++ [new]) → w.grownBy w' v.ownBlock → (v'.ownBlock = v.ownBlock ∨ v'.ownBlock = some w.heap.size) → wpList Try.prog ops Q rest (a.put o.dst v') w') : wpList Try.prog ops Q (o :: rest) a w := by
  obtain ⟨i0, hi, hz0, hz1, hz2⟩ := info_parts info_sl
  refine wpList_append_own_at w hgd s x 35 ho base 24 i0 (.slice none 0 0) 1 24 Try.underlying35 hi hz0 hz1 hz2 rfl (by decide) v l.length (l.flatMap slCells) hs hown ad 1 c (slCells new) hx rfl hnews (sl_one new) (by unfold maxLen; omega) (by omega) hbase fun v' w' h1 h2 _ h4 => h v' w' ?_ h2 h4
  unfold OwnSl OwnG
  rw [List.length_append, List.flatMap_append, List.flatMap_singleton]
  exact h1
theorem sl_new {w : World} {t : TypeId} (r : SlV) : ∀ j u, (slCells r)[j]? = some u → (w.alloc (.cells #[.slice r.a r.rest.length r.cap] t)).cell? ((⟨w.heap.size, 0, none⟩ : Addr).add j) = some u := by
  intro j u hj
  match j with
  | 0 => simp [slCells] at hj; subst hj; simp [Addr.add]
  | j + 1 => simp [slCells] at hj
theorem append_rowA {w : World} {ops : Array Oper} {rest : List Oper} {o : Oper} {a : Act} {Q : Exit → Act → World → Prop} (hgd : o.guard = none) (s x : Operand)
    (ho : o.op = .call { callee := .builtin .append, args := #[s, x], argTypes := #[24, 24] }) (base : Nat) (v : Value) (l : List ETI) (hs : a.eval s = v) (hown : OwnEI w base v l)
    (base' : Nat) (vx : Value) (m : List ETI) (hx : a.eval x = vx) (hsrc : OwnEI w base' vx m) (hlen : l.length + m.length ≤ 1000000) (hbase : base ≤ w.heap.size)
    (h : ∀ v' w', OwnEI w' base v' (l ++ m) → w.grownBy w' v.ownBlock → (v'.ownBlock = v.ownBlock ∨ v'.ownBlock = some w.heap.size) → wpList Try.prog ops Q rest (a.put o.dst v') w') : wpList Try.prog ops Q (o :: rest) a w := by
  obtain ⟨i0, hi, hz0, hz1, hz2⟩ := info_parts info_eI
  have hsrc0 := hsrc
  rcases hsrc.2 with ⟨rfl, hn⟩ | ⟨g, cap, cur, rfl, hb, hg, h1, h2, h3, h4⟩
  · have hm : m = [] := List.length_eq_zero_iff.1 hn
    subst hm
    refine wpList_append_own_none hgd s x _ ho base 30 i0 2 Try.underlying24 hi v l.length (l.flatMap eCellsI) hs hown hx (h v w ?_ ⟨rfl, rfl, rfl, Nat.le_refl _, fun _ _ _ => rfl⟩ (.inl rfl))
    rw [List.append_nil]
    exact hown
  · refine wpList_append_own_at w hgd s x _ ho base 30 i0 (.agg #[.int .i64 0, .int .i64 0]) 2 16 Try.underlying24 hi hz0 hz1 hz2 rfl (by decide) v l.length (l.flatMap eCellsI) hs hown ⟨g, 0, none⟩ m.length cap (m.flatMap eCellsI) hx (flatG_length (k := 2) (fun _ => rfl) m) ?_ ?_ (by unfold maxLen; omega) (by omega) hbase fun v' w' h5 h6 _ h7 => h v' w' ?_ h6 h7
    · exact World.ownsRow.cells hsrc0 rfl
    · intro u hu
      obtain ⟨y, _, hy⟩ := List.mem_flatMap.1 hu
      exact eI_one y u hy
    · unfold OwnEI OwnG
      rw [List.length_append, List.flatMap_append]
      exact h5
theorem InG.chg {E : Type} {k : Nat} {cs : E → List Value} {z : E} {C : Nat → Prop} {w w' : World} {a : Option Addr} {len c : Nat} {l : List E} (h : InG k cs z w a len c l) (hc : Chg C w w') (hC : ∀ x, a = some x → ¬ C x.block) : InG k cs z w' a len c l := by
  obtain ⟨h1, h2, h3, blk, off, h4, h5⟩ := h
  refine ⟨h1, h2, h3, blk, off, h4, fun i hi j v hv => hc.cell (h5 i hi j v hv) (hC ⟨blk, off, none⟩ (h4 (by omega)))⟩
theorem chg_grow {w w' : World} {v : Value} (hg : w.grownBy w' v.ownBlock) : Chg (fun y => v.ownBlock = some y) w w' :=
  ⟨⟨hg.os, hg.tape, hg.output, hg.size, fun k hk => absurd hk (Nat.not_lt_zero k)⟩, fun y hy hn => hg.block y hy (fun e => hn e.symm)⟩
theorem OwnG.keepC {α : Type} {e : TypeId} {k : Nat} {cs : α → List Value} {C : Nat → Prop} {w w' : World} {base : Nat} {v : Value} {l : List α} (h : OwnG e k cs w base v l) (hu : Chg C w w') (hC : ∀ g, v.ownBlock = some g → ¬ C g) : OwnG e k cs w' base v l := by
  refine ⟨h.1, ?_⟩
  rcases h.2 with h0 | ⟨g, cap, cur, rfl, h1, h2, h3⟩
  · exact .inl h0
  · exact .inr ⟨g, cap, cur, rfl, h1, (hu.2 g (h.lt g rfl).2 (hC g rfl)).trans h2, h3⟩

/-- A row's items without numbers; with numbers up to a place. -/
def zItems (l : List Int) : List ETI := l.map (fun x => (x.tdiv 8, 0))
def idsUpto (r : List ETI) (id0 k : Nat) : List ETI := r.mapIdx (fun i x => if i < k then (x.1, ((id0 + i : Nat) : Int)) else x)
theorem idsUpto_length (r : List ETI) (id0 k : Nat) : (idsUpto r id0 k).length = r.length := by simp [idsUpto]
theorem idsUpto_zero (r : List ETI) (id0 : Nat) : idsUpto r id0 0 = r := by
  unfold idsUpto
  apply List.ext_getElem
  · simp
  · intro i h1 h2; simp
theorem idsUpto_succ (r : List ETI) (id0 k : Nat) (hk : k < r.length) : (idsUpto r id0 k).set k (((r.getD k eZeroI).1, ((id0 + k : Nat) : Int))) = idsUpto r id0 (k + 1) := by
  unfold idsUpto
  apply List.ext_getElem
  · simp
  · intro i h1 h2
    have hi : i < r.length := by simpa using h2
    rw [List.getElem_set]
    by_cases e : k = i
    · subst e
      simp only [if_true, List.getElem_mapIdx, if_pos (Nat.lt_succ_self k)]
      rw [List.getD_eq_getElem?_getD, List.getElem?_eq_getElem hi]
      rfl
    · rw [if_neg e]
      simp only [List.getElem_mapIdx]
      by_cases h : i < k
      · rw [if_pos h, if_pos (by omega)]
      · rw [if_neg h, if_neg (by omega)]
theorem idsUpto_fst (r : List ETI) (id0 k : Nat) : (idsUpto r id0 k).map (·.1) = r.map (·.1) := by
  unfold idsUpto
  apply List.ext_getElem
  · simp
  · intro i h1 h2
    simp only [List.getElem_map, List.getElem_mapIdx]
    split <;> rfl
theorem idsUpto_getD (r : List ETI) (id0 k i : Nat) (hi : i < r.length) (hk : k ≤ i) : (idsUpto r id0 k).getD i eZeroI = r.getD i eZeroI := by
  rw [List.getD_eq_getElem?_getD, List.getD_eq_getElem?_getD, List.getElem?_eq_getElem (by rw [idsUpto_length]; exact hi), List.getElem?_eq_getElem hi]
  simp only [idsUpto, List.getElem_mapIdx, Option.getD_some]
  rw [if_neg (by omega)]
theorem srt_ids {r : List ETI} {id0 k : Nat} (h : Srt rkI r) : Srt rkI (idsUpto r id0 k) := by
  have e : ∀ (l : List ETI), Srt rkI l ↔ (l.map (·.1)).Pairwise (· ≤ ·) := fun l => by
    rw [List.pairwise_map]
    rfl
  rw [e, idsUpto_fst, ← e]
  exact h
/-- Every item bears its place. -/
def IdsOk (l : List ETI) : Prop := ∀ k, k < l.length → (l.getD k eZeroI).2 = k
theorem idsOk_add {l r : List ETI} (h : IdsOk l) : IdsOk (l ++ idsUpto r l.length r.length) := by
  intro k hk
  rw [List.length_append, idsUpto_length] at hk
  rw [List.getD_eq_getElem?_getD]
  by_cases hl : k < l.length
  · rw [List.getElem?_append_left hl, ← List.getD_eq_getElem?_getD]
    exact h k hl
  · rw [List.getElem?_append_right (by omega), List.getElem?_eq_getElem (by rw [idsUpto_length]; omega)]
    simp only [idsUpto, List.getElem_mapIdx, Option.getD_some]
    rw [if_pos (by omega)]
    show ((l.length + (k - l.length) : Nat) : Int) = k
    omega
/-- Of a row whose items bear their places another order is told by these. -/
theorem idsOk_perm {l m : List ETI} (h : IdsOk l) (hp : m.Perm l) (i : Nat) (hi : i < m.length) : ∃ k : Nat, (m.getD i eZeroI).2 = k ∧ k < l.length ∧ l.getD k eZeroI = m.getD i eZeroI := by
  have hm : m.getD i eZeroI ∈ l := hp.mem_iff.1 (by rw [List.getD_eq_getElem?_getD, List.getElem?_eq_getElem hi]; exact List.getElem_mem _)
  obtain ⟨k, hk, e⟩ := List.getElem_of_mem hm
  have e' : l.getD k eZeroI = m.getD i eZeroI := by rw [List.getD_eq_getElem?_getD, List.getElem?_eq_getElem hk]; exact e
  exact ⟨k, by rw [← e']; exact h k hk, hk, e'⟩
theorem idsOk_nodup {l : List ETI} (h : IdsOk l) : (l.map (·.2)).Nodup := by
  have e : l.map (·.2) = (List.range l.length).map (fun (i : Nat) => (i : Int)) := by
    apply List.ext_getElem
    · simp
    · intro i h1 h2
      have hi : i < l.length := by simpa using h1
      simp only [List.getElem_map, List.getElem_range]
      have := h i hi
      rw [List.getD_eq_getElem?_getD, List.getElem?_eq_getElem hi] at this
      exact this
  rw [e]
  refine List.Pairwise.map _ ?_ (List.nodup_range (n := l.length))
  intro a b h e
  exact h (by omega)
theorem idsOk_fresh {l m : List ETI} (h : IdsOk l) (hp : m.Perm l) (i : Nat) (hi : i < m.length) : (m.getD i eZeroI).2 ∉ (m.take i).map (·.2) := by
  have hn := ((hp.map (·.2)).nodup_iff).2 (idsOk_nodup h)
  rw [← List.take_append_drop i m, List.map_append, List.nodup_append] at hn
  intro hmem
  have hd : (m.getD i eZeroI).2 ∈ (m.drop i).map (·.2) := by
    rw [List.drop_eq_getElem_cons hi, List.getD_eq_getElem?_getD, List.getElem?_eq_getElem hi]
    exact List.mem_cons_self ..
  exact hn.2.2 _ hmem _ hd rfl

end Go.Proofs.Ytcemdiloiachlaa

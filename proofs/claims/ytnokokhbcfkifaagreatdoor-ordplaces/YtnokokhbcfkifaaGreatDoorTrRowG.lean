/-
  Rows of things of one cell each: rows that can be read, rows that a call owns, append to one; no function of the program.
  Rows of things of two cells each: rows that can be read, rows that a call owns, append to one; no function of the program.
  Counted trees as they lie in memory: nodes, what a node has, trees; plain facts, no function of the program.
-/
import Derived.Test.YtnokokhbcfkifaaGreatDoorChgs
import Derived.Test.YtnokokhbcfkifaaGreatDoorRows
import Derived.OwnWalk
import Derived.ProofKit
import Derived.Laws.CopyOwn
import Derived.Maps.AppendAt
import Derived.Deep.Upon
import Derived.Lib.SliceRun
namespace Go.Proofs.YtnokokhbcfkifaaGreatDoor
open Go.ChangeShapes Go.WideShapes Go.ChangeAt Go.RowKit
set_option linter.unusedVariables false

/-- A type of one cell: its slices, how its things stand as values, its zero. -/
structure ElemT {α : Type} (P : Program) (t e : TypeId) (enc : α → Value) (z : Value) (bytes : Nat) : Prop where
  ht : P.underlying t = some (.slice e)
  hi : (P.info? e).map (fun i => (i.zero, i.size, i.bytes)) = some (some z, 1, bytes)
  hb : bytes ≤ 64
  one : ∀ x, (enc x).oneCell' = true
  zc : z.cells = #[z]
  zo : z.oneCell' = true
theorem ElemT.size {α : Type} {P : Program} {t e : TypeId} {enc : α → Value} {z : Value} {bytes : Nat} (T : ElemT P t e enc z bytes) : (P.info? e).map (·.size) = some 1 := by
  obtain ⟨i0, hi, _, h1, _⟩ := info_parts T.hi
  rw [hi]; simp [h1]
theorem ElemT.sizeOf {α : Type} {P : Program} {t e : TypeId} {enc : α → Value} {z : Value} {bytes : Nat} (T : ElemT P t e enc z bytes) (w : World) : (Go.sizeOf e).run P w = .ok 1 w := by
  obtain ⟨i0, hi, _, h1, _⟩ := info_parts T.hi
  simp [Go.sizeOf, typeInfo, hi, h1]
theorem ElemT.zero {α : Type} {P : Program} {t e : TypeId} {enc : α → Value} {z : Value} {bytes : Nat} (T : ElemT P t e enc z bytes) (w : World) : (zeroValue e).run P w = .ok z w := by
  obtain ⟨i0, hi, h0, _, _⟩ := info_parts T.hi
  simp [zeroValue, typeInfo, hi, h0]

/-- A row that can be read; its block is none of X. -/
def Rd {α : Type} (enc : α → Value) (X : Nat → Prop) (w : World) (v : Value) (l : List α) : Prop :=
  ∃ a cap, v = .slice a l.length cap ∧ l.length ≤ cap ∧ cap ≤ maxLen ∧ (l = [] ∨ ∃ g off, a = some ⟨g, off, none⟩ ∧ ¬ X g ∧ ∀ j u, (l.map enc)[j]? = some u → w.cell? ⟨g, off + j, none⟩ = some u)
theorem Rd.chg {α : Type} {enc : α → Value} {X : Nat → Prop} {w w' : World} {v : Value} {l : List α} (h : Rd enc X w v l) (hc : Chg X w w') : Rd enc X w' v l := by
  obtain ⟨a, cap, h1, h2, h3, h4⟩ := h
  exact ⟨a, cap, h1, h2, h3, h4.imp id (fun ⟨g, off, h5, hx, h6⟩ => ⟨g, off, h5, hx, fun j u hj => hc.cell (h6 j u hj) hx⟩)⟩
theorem Rd.up {α : Type} {enc : α → Value} {X : Nat → Prop} {w w' : World} {v : Value} {l : List α} (h : Rd enc X w v l) (hu : Up w w') : Rd enc X w' v l := h.chg (Chg.of_up hu)
/-- The block of a row that isn't empty is there. -/
theorem rd_lt {α : Type} {enc : α → Value} {w : World} {g off : Nat} {l : List α} (hl : l ≠ []) (h : ∀ j u, (l.map enc)[j]? = some u → w.cell? ⟨g, off + j, none⟩ = some u) : g < w.heap.size := by
  cases l with
  | nil => exact absurd rfl hl
  | cons x l => exact World.block_lt_of_cell? w _ (h 0 _ rfl)
theorem Rd.mono {α : Type} {enc : α → Value} {X Y : Nat → Prop} {w : World} {v : Value} {l : List α} (h : Rd enc X w v l) (hy : ∀ y, y < w.heap.size → Y y → X y) : Rd enc Y w v l := by
  obtain ⟨a, cap, h1, h2, h3, h4⟩ := h
  refine ⟨a, cap, h1, h2, h3, ?_⟩
  by_cases hl : l = []
  · exact .inl hl
  · rcases h4 with h4 | ⟨g, off, h5, hx, h6⟩
    · exact absurd h4 hl
    · exact .inr ⟨g, off, h5, fun y => hx (hy g (rd_lt hl h6) y), h6⟩
theorem Rd.nil {α : Type} (enc : α → Value) (X : Nat → Prop) (w : World) : Rd enc X w (.slice none 0 0) [] := ⟨none, 0, rfl, Nat.le_refl _, Nat.zero_le _, .inl rfl⟩
theorem Rd.empty {α : Type} {enc : α → Value} {X : Nat → Prop} {w w' : World} {v : Value} (h : Rd enc X w v []) : Rd enc X w' v [] := by
  obtain ⟨a, cap, h1, h2, h3, _⟩ := h
  exact ⟨a, cap, h1, h2, h3, .inl rfl⟩
/-- One of its things. -/
theorem Rd.get {α : Type} {enc : α → Value} {X : Nat → Prop} {w : World} {a : Option Addr} {n cap : Nat} {l : List α} (h : Rd enc X w (.slice a n cap) l) {i : Nat} (hi : i < l.length) :
    ∃ g off, a = some ⟨g, off, none⟩ ∧ w.cell? ⟨g, off + i, none⟩ = some (enc l[i]) := by
  obtain ⟨a', cap', h1, h2, h3, h4⟩ := h
  cases h1
  rcases h4 with rfl | ⟨g, off, h5, hx, h6⟩
  · exact absurd hi (Nat.not_lt_zero _)
  · exact ⟨g, off, h5, h6 i _ (by rw [List.getElem?_map, List.getElem?_eq_getElem hi]; rfl)⟩
/-- Its beginning; what is behind it. -/
theorem Rd.take {α : Type} {enc : α → Value} {X : Nat → Prop} {w : World} {a : Option Addr} {n cap : Nat} {l : List α} (h : Rd enc X w (.slice a n cap) l) {m : Nat} (hm : m ≤ n) : Rd enc X w (.slice a m cap) (l.take m) := by
  obtain ⟨a', cap', h1, h2, h3, h4⟩ := h
  cases h1
  have hl : (l.take m).length = m := by rw [List.length_take]; omega
  refine ⟨a, cap, by rw [hl], by omega, h3, ?_⟩
  rcases h4 with rfl | ⟨g, off, h5, hx, h6⟩
  · exact .inl (by simp)
  · refine .inr ⟨g, off, h5, hx, fun j u hj => h6 j u ?_⟩
    rw [List.map_take, List.getElem?_take] at hj
    split at hj
    · exact hj
    · cases hj
theorem Rd.drop {α : Type} {enc : α → Value} {X : Nat → Prop} {w : World} {a : Option Addr} {n cap : Nat} {l : List α} (h : Rd enc X w (.slice a n cap) l) {m : Nat} (hm : m ≤ n) :
    Rd enc X w (.slice (if cap = m then a else a.map (·.add (m * 1))) (n - m) (cap - m)) (l.drop m) := by
  obtain ⟨a', cap', h1, h2, h3, h4⟩ := h
  cases h1
  have hl : (l.drop m).length = l.length - m := by rw [List.length_drop]
  refine ⟨_, cap - m, by rw [hl], by omega, by omega, ?_⟩
  rcases h4 with rfl | ⟨g, off, h5, hx, h6⟩
  · exact .inl (by simp)
  · by_cases he : l.drop m = []
    · exact .inl he
    · have : m < l.length := by
        rcases Nat.lt_or_ge m l.length with h | h
        · exact h
        · exact absurd (List.drop_eq_nil_of_le h) he
      refine .inr ⟨g, off + m, ?_, hx, fun j u hj => ?_⟩
      · rw [if_neg (by omega), h5]; simp [Addr.add]
      · rw [List.map_drop, List.getElem?_drop] at hj
        rw [Nat.add_assoc]
        exact h6 _ u hj

/-- A row that a call owns. -/
def Own {α : Type} (e : TypeId) (enc : α → Value) (w : World) (base : Nat) (v : Value) (l : List α) : Prop := w.ownsRow base e 1 v l.length (l.map enc)
theorem Own.nil {α : Type} (e : TypeId) (enc : α → Value) (w : World) (base : Nat) : Own e enc w base (.slice none 0 0) [] := World.ownsRow_nil _ _ _ _
theorem Own.lt {α : Type} {e : TypeId} {enc : α → Value} {w : World} {base : Nat} {v : Value} {l : List α} (h : Own e enc w base v l) : ∀ g, v.ownBlock = some g → base ≤ g ∧ g < w.heap.size := World.ownsRow.lt h
theorem Own.chg {α : Type} {e : TypeId} {enc : α → Value} {X : Nat → Prop} {w w' : World} {base : Nat} {v : Value} {l : List α} (h : Own e enc w base v l) (hc : Chg X w w') (hx : ∀ g, v.ownBlock = some g → ¬ X g) : Own e enc w' base v l := by
  refine ⟨h.1, ?_⟩
  have h0 := h
  rcases h.2 with h1 | ⟨g, cap, cur, hv, hb, hg, hr⟩
  · exact .inl h1
  · exact .inr ⟨g, cap, cur, hv, hb, (hc.2 g (h0.lt g (by rw [hv]; rfl)).2 (hx g (by rw [hv]; rfl))).trans hg, hr⟩
theorem Own.up {α : Type} {e : TypeId} {enc : α → Value} {w w' : World} {base : Nat} {v : Value} {l : List α} (h : Own e enc w base v l) (hu : Up w w') : Own e enc w' base v l := h.chg (Chg.of_up (C := fun _ => False) hu) (fun _ _ h => h)
theorem Own.base {α : Type} {e : TypeId} {enc : α → Value} {w : World} {base base' : Nat} {v : Value} {l : List α} (h : Own e enc w base v l) (hb : base' ≤ base) : Own e enc w base' v l := by
  refine ⟨h.1, ?_⟩
  rcases h.2 with h1 | ⟨g, cap, cur, hv, hb', hg, hr⟩
  · exact .inl h1
  · exact .inr ⟨g, cap, cur, hv, by omega, hg, hr⟩
theorem Own.rd {α : Type} {e : TypeId} {enc : α → Value} {w : World} {base : Nat} {v : Value} {l : List α} {X : Nat → Prop} (h : Own e enc w base v l) (hx : ∀ g, v.ownBlock = some g → ¬ X g) : Rd enc X w v l := by
  have h0 := h
  rcases h.2 with ⟨rfl, hn⟩ | ⟨g, cap, cur, rfl, hb, hg, hc, hm, hs, ht⟩
  · have : l = [] := List.length_eq_zero_iff.1 (by simpa using hn)
    subst this
    exact Rd.nil _ _ _
  · refine ⟨some ⟨g, 0, none⟩, cap, rfl, hc, hm, .inr ⟨g, 0, rfl, hx g rfl, fun i u hi => ?_⟩⟩
    have hlt : i < l.length * 1 := by
      rcases Nat.lt_or_ge i l.length with h | h
      · omega
      · rw [List.getElem?_eq_none (by simpa using h)] at hi; cases hi
    rw [Nat.zero_add, World.ownsRow.cellAt h0 i hlt]
    exact hi
theorem Own.slice {α : Type} {e : TypeId} {enc : α → Value} {w : World} {base : Nat} {v : Value} {l : List α} (h : Own e enc w base v l) : ∃ a cap, v = .slice a l.length cap ∧ l.length ≤ cap := by
  rcases h.2 with ⟨rfl, hn⟩ | ⟨g, cap, cur, rfl, hb, hg, hc, hm, hs, ht⟩
  · exact ⟨none, 0, by rw [hn], by omega⟩
  · exact ⟨_, cap, rfl, hc⟩
theorem Own.sliceN {α : Type} {e : TypeId} {enc : α → Value} {w : World} {base : Nat} {v : Value} {l : List α} (h : Own e enc w base v l) : ∃ a n cap, v = .slice a n cap ∧ Hid (n = l.length) ∧ Hid (n ≤ cap) := by
  obtain ⟨a, c, h1, h2⟩ := h.slice
  exact ⟨a, _, c, h1, rfl, h2⟩
theorem Rd.sliceN {α : Type} {enc : α → Value} {X : Nat → Prop} {w : World} {v : Value} {l : List α} (h : Rd enc X w v l) : ∃ a n cap, v = .slice a n cap ∧ Hid (n = l.length) ∧ Hid (n ≤ cap) := by
  obtain ⟨a, c, h1, h2, _⟩ := h
  exact ⟨a, _, c, h1, rfl, h2⟩
/-- Its block. -/
theorem Own.block {α : Type} {e : TypeId} {enc : α → Value} {w : World} {base : Nat} {v : Value} {l : List α} (h : Own e enc w base v l) (hl : l ≠ []) : ∃ g cap cur, v = .slice (some ⟨g, 0, none⟩) l.length cap ∧ base ≤ g ∧ w.heap[g]? = some (.cells cur e (0, 0)) ∧ l.length ≤ cap ∧ cap ≤ maxLen ∧ cur.size = cap ∧ cur.toList.take l.length = l.map enc := by
  rcases h.2 with ⟨rfl, hn⟩ | ⟨g, cap, cur, rfl, hb, hg, h1, h2, h3, h4⟩
  · exact absurd (List.length_eq_zero_iff.1 hn) hl
  · exact ⟨g, cap, cur, rfl, hb, hg, h1, h2, by simpa using h3, by rw [← h4]; simp⟩
theorem Own.mk {α : Type} {e : TypeId} {enc : α → Value} {w : World} {base g n cap : Nat} {cur : Array Value} {l : List α} (hbg : base ≤ g) (hg : w.heap[g]? = some (.cells cur e (0, 0))) (hl : l.length = n) (h1 : n ≤ cap) (h2 : cap ≤ maxLen) (h3 : cur.size = cap) (h4 : cur.toList.take n = l.map enc) : Own e enc w base (.slice (some ⟨g, 0, none⟩) n cap) l := by
  subst hl
  exact ⟨by simp, .inr ⟨g, cap, cur, rfl, hbg, hg, h1, h2, by omega, by rw [← h4]; simp⟩⟩
theorem Own.emptyRow {α : Type} {e : TypeId} {enc : α → Value} (w : World) : Own e enc (w.alloc (.cells #[] e)) w.heap.size (.slice (some ⟨w.heap.size, 0, none⟩) 0 0) [] :=
  ⟨by simp, .inr ⟨w.heap.size, 0, #[], rfl, Nat.le_refl _, heap_alloc_new _ _, Nat.le_refl _, Nat.zero_le _, by simp, by simp⟩⟩

/-- append of a row to a row that a call owns. -/
theorem run_append_rd {α : Type} {P : Program} {t e : TypeId} {enc : α → Value} {z : Value} {bytes : Nat} (T : ElemT P t e enc z bytes) {X : Nat → Prop} (w : World) (base : Nat) (v u : Value) (l m : List α) (ty : TypeId) (hown : Own e enc w base v l) (hr : Rd enc X w u m) (hlen : l.length + m.length ≤ 10000000) (hbase : base ≤ w.heap.size) :
    ∃ v' w', (Builtin.append_ #[t, t] ty #[v, u]).run P w = .ok v' w' ∧ Own e enc w' base v' (l ++ m) ∧ w.grownBy w' v.ownBlock ∧ (v'.ownBlock = v.ownBlock ∨ v'.ownBlock = some w.heap.size) := by
  obtain ⟨i0, hi, hz0, hz1, hz2⟩ := info_parts T.hi
  obtain ⟨a, cap, rfl, h2, h3, h4⟩ := hr
  have hb := T.hb
  by_cases hm : m = []
  · subst hm
    obtain ⟨b, c, rfl, hc⟩ := hown.slice
    have hs : Src P i0.size t (.slice a 0 cap) 0 [] w := by
      refine ⟨.inl ⟨_, T.ht⟩, fun w' => by simp [Builtin.lenOf], ?_, ?_, by simp, by simp⟩
      · cases a with
        | none => exact run_firstCells_none w _ _ _ _
        | some a => exact run_firstCells_some w _ 0 a _ _ [] (by simp) (by simp)
      · cases a with
        | none => exact run_firstCells_none _ _ _ _ _
        | some a => exact run_firstCells_some _ _ 0 a _ _ [] (by simp) (by simp)
    exact ⟨_, w, run_append_nothing w t t ty e i0 T.ht hi b l.length c hc _ hs, by simpa using hown, ⟨rfl, rfl, rfl, Nat.le_refl _, fun _ _ _ => rfl⟩, .inl rfl⟩
  · rcases h4 with h4 | ⟨g, off, rfl, hx, h6⟩
    · exact absurd h4 hm
    · obtain ⟨v', w', h5, h7, h8, _, h9⟩ := run_append_own_at (P := P) w base t ty e i0 z 1 bytes T.ht hi hz0 hz1 hz2 (by rw [T.zc]; rfl) (by decide) v l.length (l.map enc) hown ⟨g, off, none⟩ m.length cap (m.map enc) (by simp) (fun j u hj => by rw [Addr.add_lit]; exact h6 j u hj) (by intro u hu; obtain ⟨y, _, rfl⟩ := List.mem_map.1 hu; exact T.one y) (by unfold maxLen; omega) (by
        have : (l.length + m.length) * bytes ≤ 10000000 * 64 := Nat.mul_le_mul hlen hb
        omega) hbase
      refine ⟨v', w', h5, ?_, h8, h9⟩
      unfold Own
      rw [List.length_append, List.map_append]
      exact h7
theorem append_rd {α : Type} {P : Program} {t e : TypeId} {enc : α → Value} {z : Value} {bytes : Nat} (T : ElemT P t e enc z bytes) {X : Nat → Prop} {w : World} {ops : Array Oper} {rest : List Oper} {o : Oper} {a : Act} {Q : Exit → Act → World → Prop} (hgd : o.guard = none) (s x : Operand)
    (ho : o.op = .call { callee := .builtin .append, args := #[s, x], argTypes := #[t, t] }) (base : Nat) (v u : Value) (l m : List α) (hs : a.eval s = v) (hx : a.eval x = u) (hown : Own e enc w base v l) (hr : Rd enc X w u m) (hlen : l.length + m.length ≤ 10000000) (hbase : base ≤ w.heap.size)
    (h : ∀ v' w', Own e enc w' base v' (l ++ m) → w.grownBy w' v.ownBlock → (v'.ownBlock = v.ownBlock ∨ v'.ownBlock = some w.heap.size) → wpList P ops Q rest (a.put o.dst v') w') : wpList P ops Q (o :: rest) a w := by
  refine wpList_plain hgd fun K hK => ?_
  obtain ⟨v', w', hr, h2, h3, h5⟩ := run_append_rd T w base v u l m o.type hown hr hlen hbase
  unfold Oper.wp execOp
  simp only [ho, resolve, invoke, builtin, Sem.run_bind, Sem.run_pure, Result.andThen_ok, List.map_toArray, List.map_cons, List.map_nil, hs, hx, hr]
  exact hK _ _ (h v' w' h2 h3 h5)
theorem step_append_run {P : Program} {ops : Array Oper} {o : Oper} {a : Act} {w : World} {K : Act → World → Prop} {Q : Exit → Act → World → Prop} {E : Prop}
    (hg : o.guard = none) (s x : Operand) (t : TypeId) (hop : o.op = .call { callee := .builtin .append, args := #[s, x], argTypes := #[t, t] })
    (v u : Value) (hd : a.eval s = v) (hx : a.eval x = u) {v' : Value} {w' : World} (hr : (Builtin.append_ #[t, t] o.type #[v, u]).run P w = .ok v' w') (hK : K (a.put o.dst v') w') :
    if Region.wanted o (yielded ops a.tmps) = true then Oper.wp P o a w K Q else E := by
  have hw : Region.wanted o (yielded ops a.tmps) = true := by simp [Region.wanted, hg]
  rw [if_pos hw]
  unfold Oper.wp
  simp [execOp, hop, resolve, invoke, builtin, hd, hx, hr, Result.andThen]
  exact hK
theorem chg_grown {w w' : World} {v : Value} (h : w.grownBy w' v.ownBlock) : Chg (fun y => v.ownBlock = some y) w w' :=
  ⟨⟨h.os, h.tape, h.output, h.size, fun k hk => absurd hk (Nat.not_lt_zero k)⟩, fun y hy hne => h.block y hy (fun e => hne e.symm)⟩

theorem run_copy_row1 {P : Program} (w : World) (dT ty elem : TypeId) (g o dLen dCap : Nat) (a : Addr) (sLen sCap : Nat) (cur : Array Value) (t : TypeId) (cs : List Value)
    (hu : P.underlying dT = some (.slice elem)) (hs : (P.info? elem).map (·.size) = some 1)
    (hg : w.heap[g]? = some (.cells cur t (0, 0))) (hn : cs.length = Nat.min sLen dLen)
    (hsrc : ∀ j v, cs[j]? = some v → w.cell? (a.add j) = some v) (hfit : o + cs.length ≤ cur.size) (h1 : ∀ v ∈ cs, v.oneCell' = true) :
    (Builtin.copy_ #[dT, dT] ty #[.slice (some ⟨g, o, none⟩) dLen dCap, .slice (some a) sLen sCap]).run P w =
      .ok (goInt (Nat.min sLen dLen)) (w.setRow g (cur.toList.take o ++ cs ++ cur.toList.drop (o + cs.length)).toArray) := by
  have hl := run_loadCells_list (P := P) w a cs hsrc
  have hst := run_storeCells_at P g o t cs 0 cur w hg (by simpa using hfit) h1
  cases hq : P.info? elem with
  | none => simp [hq] at hs
  | some i =>
    have hi : i.size = 1 := by simpa [hq] using hs
    simp [Builtin.copy_, run_underlying hu, Builtin.lenOf, Builtin.firstCells, sizeOf, typeInfo, hq, hi, ← hn, hl, hst]
theorem run_append_row1 {P : Program} (w : World) (t ty e : TypeId) (g p cap : Nat) (a : Addr) (m c : Nat) (cur : Array Value) (te : TypeId) (news : List Value)
    (ht : P.underlying t = some (.slice e)) (hs : (P.info? e).map (·.size) = some 1) (hg : w.heap[g]? = some (.cells cur te (0, 0))) (hn : news.length = m)
    (hsrc : ∀ j v, news[j]? = some v → w.cell? (a.add j) = some v) (h1 : ∀ v ∈ news, v.oneCell' = true) (hroom : p + m ≤ cap) (hfit : p + m ≤ cur.size) :
    (Builtin.append_ #[t, t] ty #[.slice (some ⟨g, 0, none⟩) p cap, .slice (some a) m c]).run P w = .ok (.slice (some ⟨g, 0, none⟩) (p + m) cap) (w.setRow g (cur.toList.take p ++ news ++ cur.toList.drop (p + news.length)).toArray) := by
  have hst := run_storeCells_at P g p te news 0 cur w hg (by rw [hn]; simpa using hfit) h1
  cases hq : P.info? e with
  | none => simp [hq] at hs
  | some i =>
    have hi : i.size = 1 := by simpa [hq] using hs
    have hfc := run_firstCells_some (P := P) w 1 m a m c news (by omega) hsrc
    simp [Builtin.append_, run_underlying ht, sizeOf, typeInfo, hq, hi, Builtin.lenOf, hroom, hfc, Addr.add_lit, hst]
theorem cell_of {w : World} {g : Nat} {cur : Array Value} {t : TypeId} {fz : Nat × Nat} (hg : w.heap[g]? = some (.cells cur t fz)) (j : Nat) : w.cell? ⟨g, j, none⟩ = cur[j]? := by
  simp [World.cell?, hg]
theorem chg_setRow {w : World} {g : Nat} (cs : Array Value) : Chg (fun y => y = g) w (w.setRow g cs) :=
  ⟨⟨rfl, rfl, rfl, by simp [World.setRow], fun k hk => absurd hk (Nat.not_lt_zero k)⟩, fun y hy hn => setRow_other w g y cs hn⟩
theorem up_of_chg_new {w w1 w2 : World} {g : Nat} (hu : Up w w1) (hc : Chg (fun y => y = g) w1 w2) (hg : w.heap.size ≤ g) : Up w w2 := ((Chg.of_up (C := fun y => y = g) hu).trans hc (fun _ _ h => h)).up (fun x hx e => by omega)

theorem cat_le {α β : Type} (L : List (β × List α)) (i : Nat) (h : i < L.length) : ((L.take i).flatMap (·.2)).length + L[i].2.length = ((L.take (i + 1)).flatMap (·.2)).length := by
  rw [List.take_add_one, List.getElem?_eq_getElem h, List.flatMap_append, List.length_append]; simp
theorem cat_le2 {α β : Type} (L : List (β × List α)) (i : Nat) {n : Nat} (h : (L.flatMap (·.2)).length ≤ n) : ((L.take i).flatMap (·.2)).length ≤ n := by
  refine Nat.le_trans ?_ h
  conv => rhs; rw [← List.take_append_drop i L, List.flatMap_append, List.length_append]
  omega

/-- Boxes of two cells that a function writes its results into; all else is as it was. -/
structure RB (Rs : List Nat) (W w : World) : Prop where
  chg : Chg (fun y => y ∈ Rs) W w
  box : ∀ r ∈ Rs, (w.cell? ⟨r, 0, none⟩).isSome = true ∧ (w.cell? ⟨r, 1, none⟩).isSome = true ∧ w.frozen? ⟨r, 0, none⟩ = false ∧ w.frozen? ⟨r, 1, none⟩ = false
theorem RB.up {Rs : List Nat} {W w w' : World} (h : RB Rs W w) (hu : Up w w') : RB Rs W w' := by
  refine ⟨h.chg.andUp hu, fun r hr => ?_⟩
  obtain ⟨h0, h1, h2, h3⟩ := h.box r hr
  obtain ⟨v0, e0⟩ := Option.isSome_iff_exists.1 h0
  obtain ⟨v1, e1⟩ := Option.isSome_iff_exists.1 h1
  have hlt := World.block_lt_of_cell? w _ e0
  exact ⟨by rw [hu.cell e0]; rfl, by rw [hu.cell e1]; rfl, (hu.frozen (p := ⟨r, 0, none⟩) hlt).trans h2, (hu.frozen (p := ⟨r, 1, none⟩) hlt).trans h3⟩
theorem RB.alloc {Rs : List Nat} {W w : World} (h : RB Rs W w) (o : Obj) : RB Rs W (w.alloc o) := h.up ((Up.refl _).alloc o)
theorem RB.drew {Rs : List Nat} {W w : World} (h : RB Rs W w) : RB Rs W w.drew := h.up (Up.refl _).drew
theorem RB.set {Rs : List Nat} {W w : World} (h : RB Rs W w) {p : Addr} (hp : p.block ∈ Rs) (v : Value) : RB Rs W (w.setCell p v) := by
  refine ⟨h.chg.set (fun _ => hp) v, fun r hr => ?_⟩
  obtain ⟨h0, h1, h2, h3⟩ := h.box r hr
  have key : ∀ q : Addr, (w.cell? q).isSome = true → ((w.setCell p v).cell? q).isSome = true := fun q hq => by
    by_cases e : p = q
    · subst e; rw [World.cell?_setCell_same' _ _ _ hq]; rfl
    · rw [World.cell?_setCell_other _ _ _ _ e]; exact hq
  exact ⟨key _ h0, key _ h1, by simp [h2], by simp [h3]⟩
theorem RB.below {Rs : List Nat} {w0 W w : World} (h : RB Rs W w) (hu : Up w0 W) (hR : ∀ r ∈ Rs, w0.heap.size ≤ r) : Up w0 w :=
  ((Chg.of_up (C := fun y => y ∈ Rs) hu).trans h.chg (fun _ _ h => h)).up (fun x hx hm => by have := hR x hm; omega)
theorem RB.cell {Rs : List Nat} {W w : World} (h : RB Rs W w) {p : Addr} {v : Value} (hc : W.cell? p = some v) (hn : ¬ p.block ∈ Rs) : w.cell? p = some v := h.chg.cell hc hn

theorem Own.new1 {α : Type} {e : TypeId} {enc : α → Value} (w : World) (x : α) : Own e enc (w.alloc (.cells #[enc x] e)) w.heap.size (.slice (some ⟨w.heap.size, 0, none⟩) 1 1) [x] :=
  Own.mk (Nat.le_refl _) (heap_alloc_new _ _) rfl (Nat.le_refl _) (by decide) rfl rfl
theorem Own.new2 {α : Type} {e : TypeId} {enc : α → Value} (w : World) (x y : α) : Own e enc (w.alloc (.cells #[enc x, enc y] e)) w.heap.size (.slice (some ⟨w.heap.size, 0, none⟩) 2 2) [x, y] :=
  Own.mk (Nat.le_refl _) (heap_alloc_new _ _) rfl (Nat.le_refl _) (by decide) rfl rfl
theorem box_chg {C : Nat → Prop} {R : Nat} {w w' : World} (h : (w.cell? ⟨R, 0, none⟩).isSome = true ∧ (w.cell? ⟨R, 1, none⟩).isSome = true ∧ w.frozen? ⟨R, 0, none⟩ = false ∧ w.frozen? ⟨R, 1, none⟩ = false) (hc : Chg C w w') (hn : ¬ C R) :
    (w'.cell? ⟨R, 0, none⟩).isSome = true ∧ (w'.cell? ⟨R, 1, none⟩).isSome = true ∧ w'.frozen? ⟨R, 0, none⟩ = false ∧ w'.frozen? ⟨R, 1, none⟩ = false := by
  obtain ⟨h0, h1, h2, h3⟩ := h
  obtain ⟨v0, e0⟩ := Option.isSome_iff_exists.1 h0
  obtain ⟨v1, e1⟩ := Option.isSome_iff_exists.1 h1
  have hlt := World.block_lt_of_cell? w _ e0
  exact ⟨by rw [hc.cell e0 hn]; rfl, by rw [hc.cell e1 hn]; rfl, (hc.frozen (p := ⟨R, 0, none⟩) hlt hn).trans h2, (hc.frozen (p := ⟨R, 1, none⟩) hlt hn).trans h3⟩
/-- Two cells of a box are written. -/
def set2 (w : World) (R : Nat) (x y : Value) : World := (w.setCell ⟨R, 0, none⟩ x).setCell ⟨R, 1, none⟩ y
theorem set2_c0 {w : World} {R : Nat} {x y u : Value} (g0 : w.cell? ⟨R, 0, none⟩ = some u) : (set2 w R x y).cell? ⟨R, 0, none⟩ = some x := by
  unfold set2
  rw [World.cell?_setCell_other _ _ _ _ (by intro e; cases e)]; exact World.cell?_setCell_same _ _ _ g0
theorem set2_c1 {w : World} {R : Nat} {x y u : Value} (g1 : w.cell? ⟨R, 1, none⟩ = some u) : (set2 w R x y).cell? ⟨R, 1, none⟩ = some y :=
  World.cell?_setCell_same _ _ _ (u := u) (by rw [World.cell?_setCell_other _ _ _ _ (by intro e; cases e)]; exact g1)
theorem set2_chg (w : World) (R : Nat) (x y : Value) : Chg (fun z => z = R) w (set2 w R x y) :=
  ((Chg.refl (fun z => z = R) w).set (C := fun z => z = R) (p := ⟨R, 0, none⟩) (fun _ => rfl) x).set (C := fun z => z = R) (p := ⟨R, 1, none⟩) (fun _ => rfl) y
theorem RB.set2 {Rs : List Nat} {W w : World} (h : RB Rs W w) {R : Nat} (hp : R ∈ Rs) (x y : Value) : RB Rs W (set2 w R x y) := (h.set (p := ⟨R, 0, none⟩) hp x).set (p := ⟨R, 1, none⟩) hp y
theorem wrap64_id (n : Int) (h : -9223372036854775808 ≤ n ∧ n ≤ 9223372036854775807) : wrap64 n = n := by unfold wrap64; omega

/-- A node's place as a value. -/
def pE (b : Nat) : Value := .pointer (some ⟨b, 0, none⟩)
end Go.Proofs.YtnokokhbcfkifaaGreatDoor

namespace Go.Proofs.YtnokokhbcfkifaaGreatDoor
open Go.ChangeShapes Go.WideShapes Go.ChangeAt Go.RowKit
set_option linter.unusedVariables false

theorem flatV_length {α : Type} {cs : α → List Value} (hk : ∀ v, (cs v).length = 2) (l : List α) : (l.flatMap cs).length = l.length * 2 := by
  induction l with
  | nil => simp
  | cons v l ih => rw [List.flatMap_cons, List.length_append, ih, hk, List.length_cons, Nat.add_mul]; omega
theorem flatV_get {α : Type} {cs : α → List Value} (hk : ∀ v, (cs v).length = 2) (l : List α) : ∀ (i j : Nat) (hi : i < l.length), j < 2 → (l.flatMap cs)[i * 2 + j]? = (cs l[i])[j]? := by
  induction l with
  | nil => intro i j hi; simp at hi
  | cons v l ih =>
    intro i j hi hj
    rw [List.flatMap_cons]
    cases i with
    | zero => rw [Nat.zero_mul, Nat.zero_add, List.getElem?_append_left (by rw [hk]; exact hj)]; rfl
    | succ i =>
      rw [show (i + 1) * 2 + j = 2 + (i * 2 + j) by omega, List.getElem?_append_right (by rw [hk]; omega), hk, Nat.add_sub_cancel_left, ih i j (by simpa using hi) hj]; rfl
theorem flatV_take {α : Type} {cs : α → List Value} (hk : ∀ v, (cs v).length = 2) : ∀ (l : List α) (m : Nat), (l.take m).flatMap cs = (l.flatMap cs).take (m * 2)
  | [], m => by simp
  | x :: l, 0 => by simp
  | x :: l, m + 1 => by
    rw [List.take_succ_cons, List.flatMap_cons, List.flatMap_cons, flatV_take hk l m, List.take_append, hk]
    rw [show (m + 1) * 2 - 2 = m * 2 by omega, List.take_of_length_le (l := cs x) (by rw [hk]; omega)]
theorem flatV_drop {α : Type} {cs : α → List Value} (hk : ∀ v, (cs v).length = 2) : ∀ (l : List α) (m : Nat), (l.drop m).flatMap cs = (l.flatMap cs).drop (m * 2)
  | [], m => by simp
  | x :: l, 0 => by simp
  | x :: l, m + 1 => by
    rw [List.drop_succ_cons, List.flatMap_cons, flatV_drop hk l m, List.drop_append, hk]
    rw [show (m + 1) * 2 - 2 = m * 2 by omega, show (cs x).drop ((m + 1) * 2) = [] from List.drop_eq_nil_of_le (by rw [hk]; omega), List.nil_append]

/-- A type of two cells: its slices, how its things stand as cells, its zero. -/
structure ElemV {α : Type} (P : Program) (t e : TypeId) (cs : α → List Value) (z z0 z1 : Value) (bytes : Nat) : Prop where
  ht : P.underlying t = some (.slice e)
  hi : (P.info? e).map (fun i => (i.zero, i.size, i.bytes)) = some (some z, 2, bytes)
  hb : bytes ≤ 64
  two : ∀ x, (cs x).length = 2
  one : ∀ x, ∀ u ∈ cs x, u.oneCell' = true
  zc : z.cells = #[z0, z1]
  zo0 : z0.oneCell' = true
  zo1 : z1.oneCell' = true
theorem ElemV.size {α : Type} {P : Program} {t e : TypeId} {cs : α → List Value} {z z0 z1 : Value} {bytes : Nat} (T : ElemV P t e cs z z0 z1 bytes) : (P.info? e).map (·.size) = some 2 := by
  obtain ⟨i0, hi, _, h1, _⟩ := info_parts T.hi
  rw [hi]; simp [h1]
theorem ElemV.sizeOf {α : Type} {P : Program} {t e : TypeId} {cs : α → List Value} {z z0 z1 : Value} {bytes : Nat} (T : ElemV P t e cs z z0 z1 bytes) (w : World) : (Go.sizeOf e).run P w = .ok 2 w := by
  obtain ⟨i0, hi, _, h1, _⟩ := info_parts T.hi
  simp [Go.sizeOf, typeInfo, hi, h1]
theorem ElemV.zero {α : Type} {P : Program} {t e : TypeId} {cs : α → List Value} {z z0 z1 : Value} {bytes : Nat} (T : ElemV P t e cs z z0 z1 bytes) (w : World) : (zeroValue e).run P w = .ok z w := by
  obtain ⟨i0, hi, h0, _, _⟩ := info_parts T.hi
  simp [zeroValue, typeInfo, hi, h0]

/-- A row that can be read; its block is none of X. -/
def RdV {α : Type} (cs : α → List Value) (X : Nat → Prop) (w : World) (v : Value) (l : List α) : Prop :=
  ∃ a cap, v = .slice a l.length cap ∧ l.length ≤ cap ∧ cap ≤ maxLen ∧ (l = [] ∨ ∃ g off, a = some ⟨g, off, none⟩ ∧ (¬ X g ∧ g < w.heap.size) ∧ ∀ j u, (l.flatMap cs)[j]? = some u → w.cell? ⟨g, off + j, none⟩ = some u)
theorem RdV.chg {α : Type} {cs : α → List Value} {X : Nat → Prop} {w w' : World} {v : Value} {l : List α} (h : RdV cs X w v l) (hc : Chg X w w') : RdV cs X w' v l := by
  obtain ⟨a, cap, h1, h2, h3, h4⟩ := h
  exact ⟨a, cap, h1, h2, h3, h4.imp id (fun ⟨g, off, h5, hx, h6⟩ => ⟨g, off, h5, ⟨hx.1, Nat.lt_of_lt_of_le hx.2 hc.size⟩, fun j u hj => hc.cell (h6 j u hj) hx.1⟩)⟩
theorem RdV.up {α : Type} {cs : α → List Value} {X : Nat → Prop} {w w' : World} {v : Value} {l : List α} (h : RdV cs X w v l) (hu : Up w w') : RdV cs X w' v l := h.chg (Chg.of_up hu)
theorem RdV.mono {α : Type} {cs : α → List Value} {X Y : Nat → Prop} {w : World} {v : Value} {l : List α} (h : RdV cs X w v l) (hy : ∀ y, y < w.heap.size → Y y → X y) : RdV cs Y w v l := by
  obtain ⟨a, cap, h1, h2, h3, h4⟩ := h
  exact ⟨a, cap, h1, h2, h3, h4.imp id (fun ⟨g, off, h5, hx, h6⟩ => ⟨g, off, h5, ⟨fun y => hx.1 (hy g hx.2 y), hx.2⟩, h6⟩)⟩
theorem RdV.nil {α : Type} (cs : α → List Value) (X : Nat → Prop) (w : World) : RdV cs X w (.slice none 0 0) [] := ⟨none, 0, rfl, Nat.le_refl _, Nat.zero_le _, .inl rfl⟩
theorem RdV.empty {α : Type} {cs : α → List Value} {X : Nat → Prop} {w w' : World} {v : Value} (h : RdV cs X w v []) : RdV cs X w' v [] := by
  obtain ⟨a, cap, h1, h2, h3, _⟩ := h
  exact ⟨a, cap, h1, h2, h3, .inl rfl⟩
/-- One of its things. -/
theorem RdV.get {α : Type} {cs : α → List Value} {X : Nat → Prop} {w : World} {a : Option Addr} {n cap : Nat} {l : List α} (h : RdV cs X w (.slice a n cap) l) {i : Nat} (hi : i < l.length) (hk : ∀ v, (cs v).length = 2 := by intro _; rfl) :
    ∃ g off, a = some ⟨g, off, none⟩ ∧ ∀ j u, (cs l[i])[j]? = some u → w.cell? ⟨g, off + (i * 2 + j), none⟩ = some u := by
  obtain ⟨a', cap', h1, h2, h3, h4⟩ := h
  cases h1
  rcases h4 with rfl | ⟨g, off, h5, hx, h6⟩
  · exact absurd hi (Nat.not_lt_zero _)
  · refine ⟨g, off, h5, fun j u hj => h6 _ u ?_⟩
    have hj2 : j < 2 := by
      rcases Nat.lt_or_ge j 2 with h | h
      · exact h
      · rw [List.getElem?_eq_none (by rw [hk]; exact h)] at hj; cases hj
    rw [flatV_get hk l i j hi hj2]; exact hj
/-- Its beginning; what is behind it. -/
theorem RdV.take {α : Type} {cs : α → List Value} {X : Nat → Prop} {w : World} {a : Option Addr} {n cap : Nat} {l : List α} (h : RdV cs X w (.slice a n cap) l) {m : Nat} (hm : m ≤ n) (hk : ∀ v, (cs v).length = 2 := by intro _; rfl) : RdV cs X w (.slice a m cap) (l.take m) := by
  obtain ⟨a', cap', h1, h2, h3, h4⟩ := h
  cases h1
  have hl : (l.take m).length = m := by rw [List.length_take]; omega
  refine ⟨a, cap, by rw [hl], by omega, h3, ?_⟩
  rcases h4 with rfl | ⟨g, off, h5, hx, h6⟩
  · exact .inl (by simp)
  · refine .inr ⟨g, off, h5, hx, fun j u hj => h6 j u ?_⟩
    rw [flatV_take hk, List.getElem?_take] at hj
    split at hj
    · exact hj
    · cases hj
theorem RdV.drop {α : Type} {cs : α → List Value} {X : Nat → Prop} {w : World} {a : Option Addr} {n cap : Nat} {l : List α} (h : RdV cs X w (.slice a n cap) l) {m : Nat} (hm : m ≤ n) (hk : ∀ v, (cs v).length = 2 := by intro _; rfl) :
    RdV cs X w (.slice (if cap = m then a else a.map (·.add (m * 2))) (n - m) (cap - m)) (l.drop m) := by
  obtain ⟨a', cap', h1, h2, h3, h4⟩ := h
  cases h1
  have hl : (l.drop m).length = l.length - m := by rw [List.length_drop]
  refine ⟨_, cap - m, by rw [hl], by omega, by omega, ?_⟩
  rcases h4 with rfl | ⟨g, off, h5, hx, h6⟩
  · exact .inl (by simp)
  · by_cases he : l.drop m = []
    · exact .inl he
    · have : m < l.length := by
        rcases Nat.lt_or_ge m l.length with h | h
        · exact h
        · exact absurd (List.drop_eq_nil_of_le h) he
      refine .inr ⟨g, off + m * 2, ?_, hx, fun j u hj => ?_⟩
      · rw [if_neg (by omega), h5]; simp [Addr.add]
      · rw [flatV_drop hk, List.getElem?_drop] at hj
        rw [Nat.add_assoc]
        exact h6 _ u hj
theorem RdV.sliceN {α : Type} {cs : α → List Value} {X : Nat → Prop} {w : World} {v : Value} {l : List α} (h : RdV cs X w v l) : ∃ a n cap, v = .slice a n cap ∧ Hid (n = l.length) ∧ Hid (n ≤ cap) := by
  obtain ⟨a, c, h1, h2, _⟩ := h
  exact ⟨a, _, c, h1, rfl, h2⟩

/-- A row that a call owns. -/
def OwnV {α : Type} (e : TypeId) (cs : α → List Value) (w : World) (base : Nat) (v : Value) (l : List α) : Prop := w.ownsRow base e 2 v l.length (l.flatMap cs)
theorem OwnV.nil {α : Type} (e : TypeId) (cs : α → List Value) (w : World) (base : Nat) : OwnV e cs w base (.slice none 0 0) [] := World.ownsRow_nil _ _ _ _
theorem OwnV.lt {α : Type} {e : TypeId} {cs : α → List Value} {w : World} {base : Nat} {v : Value} {l : List α} (h : OwnV e cs w base v l) : ∀ g, v.ownBlock = some g → base ≤ g ∧ g < w.heap.size := World.ownsRow.lt h
theorem OwnV.chg {α : Type} {e : TypeId} {cs : α → List Value} {X : Nat → Prop} {w w' : World} {base : Nat} {v : Value} {l : List α} (h : OwnV e cs w base v l) (hc : Chg X w w') (hx : ∀ g, v.ownBlock = some g → ¬ X g) : OwnV e cs w' base v l := by
  refine ⟨h.1, ?_⟩
  have h0 := h
  rcases h.2 with h1 | ⟨g, cap, cur, hv, hb, hg, hr⟩
  · exact .inl h1
  · exact .inr ⟨g, cap, cur, hv, hb, (hc.2 g (h0.lt g (by rw [hv]; rfl)).2 (hx g (by rw [hv]; rfl))).trans hg, hr⟩
theorem OwnV.up {α : Type} {e : TypeId} {cs : α → List Value} {w w' : World} {base : Nat} {v : Value} {l : List α} (h : OwnV e cs w base v l) (hu : Up w w') : OwnV e cs w' base v l := h.chg (Chg.of_up (C := fun _ => False) hu) (fun _ _ h => h)
theorem OwnV.base {α : Type} {e : TypeId} {cs : α → List Value} {w : World} {base base' : Nat} {v : Value} {l : List α} (h : OwnV e cs w base v l) (hb : base' ≤ base) : OwnV e cs w base' v l := by
  refine ⟨h.1, ?_⟩
  rcases h.2 with h1 | ⟨g, cap, cur, hv, hb', hg, hr⟩
  · exact .inl h1
  · exact .inr ⟨g, cap, cur, hv, by omega, hg, hr⟩
theorem OwnV.rd {α : Type} {e : TypeId} {cs : α → List Value} {w : World} {base : Nat} {v : Value} {l : List α} {X : Nat → Prop} (h : OwnV e cs w base v l) (hx : ∀ g, v.ownBlock = some g → ¬ X g) (hk : ∀ v, (cs v).length = 2 := by intro _; rfl) : RdV cs X w v l := by
  have h0 := h
  rcases h.2 with ⟨rfl, hn⟩ | ⟨g, cap, cur, rfl, hb, hg, hc, hm, hs, ht⟩
  · have : l = [] := List.length_eq_zero_iff.1 (by simpa using hn)
    subst this
    exact RdV.nil _ _ _
  · refine ⟨some ⟨g, 0, none⟩, cap, rfl, hc, hm, .inr ⟨g, 0, rfl, ⟨hx g rfl, (h0.lt g rfl).2⟩, fun i u hi => ?_⟩⟩
    have hlt : i < l.length * 2 := by
      rw [← flatV_length hk]
      rcases Nat.lt_or_ge i (l.flatMap cs).length with h | h
      · omega
      · rw [List.getElem?_eq_none h] at hi; cases hi
    rw [Nat.zero_add, World.ownsRow.cellAt h0 i hlt]
    exact hi
theorem OwnV.slice {α : Type} {e : TypeId} {cs : α → List Value} {w : World} {base : Nat} {v : Value} {l : List α} (h : OwnV e cs w base v l) : ∃ a cap, v = .slice a l.length cap ∧ l.length ≤ cap := by
  rcases h.2 with ⟨rfl, hn⟩ | ⟨g, cap, cur, rfl, hb, hg, hc, hm, hs, ht⟩
  · exact ⟨none, 0, by rw [hn], by omega⟩
  · exact ⟨_, cap, rfl, hc⟩
theorem OwnV.sliceN {α : Type} {e : TypeId} {cs : α → List Value} {w : World} {base : Nat} {v : Value} {l : List α} (h : OwnV e cs w base v l) : ∃ a n cap, v = .slice a n cap ∧ Hid (n = l.length) ∧ Hid (n ≤ cap) := by
  obtain ⟨a, c, h1, h2⟩ := h.slice
  exact ⟨a, _, c, h1, rfl, h2⟩
/-- Its block. -/
theorem OwnV.block {α : Type} {e : TypeId} {cs : α → List Value} {w : World} {base : Nat} {v : Value} {l : List α} (h : OwnV e cs w base v l) (hl : l ≠ []) : ∃ g cap cur, v = .slice (some ⟨g, 0, none⟩) l.length cap ∧ base ≤ g ∧ w.heap[g]? = some (.cells cur e (0, 0)) ∧ l.length ≤ cap ∧ cap ≤ maxLen ∧ cur.size = cap * 2 ∧ cur.toList.take (l.length * 2) = l.flatMap cs := by
  rcases h.2 with ⟨rfl, hn⟩ | ⟨g, cap, cur, rfl, hb, hg, h1, h2, h3, h4⟩
  · exact absurd (List.length_eq_zero_iff.1 hn) hl
  · exact ⟨g, cap, cur, rfl, hb, hg, h1, h2, h3, h4⟩
theorem OwnV.mk {α : Type} {e : TypeId} {cs : α → List Value} {w : World} {base g n cap : Nat} {cur : Array Value} {l : List α} (hk : ∀ v, (cs v).length = 2) (hbg : base ≤ g) (hg : w.heap[g]? = some (.cells cur e (0, 0))) (hl : l.length = n) (h1 : n ≤ cap) (h2 : cap ≤ maxLen) (h3 : cur.size = cap * 2) (h4 : cur.toList.take (n * 2) = l.flatMap cs) : OwnV e cs w base (.slice (some ⟨g, 0, none⟩) n cap) l := by
  subst hl
  exact ⟨flatV_length hk l, .inr ⟨g, cap, cur, rfl, hbg, hg, h1, h2, h3, h4⟩⟩
theorem OwnV.emptyRow {α : Type} {e : TypeId} {cs : α → List Value} (w : World) : OwnV e cs (w.alloc (.cells #[] e)) w.heap.size (.slice (some ⟨w.heap.size, 0, none⟩) 0 0) [] :=
  ⟨by simp, .inr ⟨w.heap.size, 0, #[], rfl, Nat.le_refl _, heap_alloc_new _ _, Nat.le_refl _, Nat.zero_le _, by simp, by simp⟩⟩

/-- append of a row to a row that a call owns. -/
theorem run_append_rdV {α : Type} {P : Program} {t e : TypeId} {cs : α → List Value} {z z0 z1 : Value} {bytes : Nat} (T : ElemV P t e cs z z0 z1 bytes) {X : Nat → Prop} (w : World) (base : Nat) (v u : Value) (l m : List α) (ty : TypeId) (hown : OwnV e cs w base v l) (hr : RdV cs X w u m) (hlen : l.length + m.length ≤ 10000000) (hbase : base ≤ w.heap.size) :
    ∃ v' w', (Builtin.append_ #[t, t] ty #[v, u]).run P w = .ok v' w' ∧ OwnV e cs w' base v' (l ++ m) ∧ w.grownBy w' v.ownBlock ∧ (v'.ownBlock = v.ownBlock ∨ v'.ownBlock = some w.heap.size) := by
  obtain ⟨i0, hi, hz0, hz1, hz2⟩ := info_parts T.hi
  obtain ⟨a, cap, rfl, h2, h3, h4⟩ := hr
  have hb := T.hb
  by_cases hm : m = []
  · subst hm
    obtain ⟨b, c, rfl, hc⟩ := hown.slice
    have hs : Src P i0.size t (.slice a 0 cap) 0 [] w := by
      refine ⟨.inl ⟨_, T.ht⟩, fun w' => by simp [Builtin.lenOf], ?_, ?_, by simp, by simp⟩
      · cases a with
        | none => exact run_firstCells_none w _ _ _ _
        | some a => exact run_firstCells_some w _ 0 a _ _ [] (by simp) (by simp)
      · cases a with
        | none => exact run_firstCells_none _ _ _ _ _
        | some a => exact run_firstCells_some _ _ 0 a _ _ [] (by simp) (by simp)
    exact ⟨_, w, run_append_nothing w t t ty e i0 T.ht hi b l.length c hc _ hs, by simpa using hown, ⟨rfl, rfl, rfl, Nat.le_refl _, fun _ _ _ => rfl⟩, .inl rfl⟩
  · rcases h4 with h4 | ⟨g, off, rfl, hx, h6⟩
    · exact absurd h4 hm
    · obtain ⟨v', w', h5, h7, h8, _, h9⟩ := run_append_own_at (P := P) w base t ty e i0 z 2 bytes T.ht hi hz0 hz1 hz2 (by rw [T.zc]; rfl) (by decide) v l.length (l.flatMap cs) hown ⟨g, off, none⟩ m.length cap (m.flatMap cs) (flatV_length T.two m) (fun j u hj => by rw [Addr.add_lit]; exact h6 j u hj) (by intro u hu; obtain ⟨y, _, hy⟩ := List.mem_flatMap.1 hu; exact T.one y u hy) (by unfold maxLen; omega) (by
        have : (l.length + m.length) * bytes ≤ 10000000 * 64 := Nat.mul_le_mul hlen hb
        omega) hbase
      refine ⟨v', w', h5, ?_, h8, h9⟩
      unfold OwnV
      rw [List.length_append, List.flatMap_append]
      exact h7
theorem append_rdV {α : Type} {P : Program} {t e : TypeId} {cs : α → List Value} {z z0 z1 : Value} {bytes : Nat} (T : ElemV P t e cs z z0 z1 bytes) {X : Nat → Prop} {w : World} {ops : Array Oper} {rest : List Oper} {o : Oper} {a : Act} {Q : Exit → Act → World → Prop} (hgd : o.guard = none) (s x : Operand)
    (ho : o.op = .call { callee := .builtin .append, args := #[s, x], argTypes := #[t, t] }) (base : Nat) (v u : Value) (l m : List α) (hs : a.eval s = v) (hx : a.eval x = u) (hown : OwnV e cs w base v l) (hr : RdV cs X w u m) (hlen : l.length + m.length ≤ 10000000) (hbase : base ≤ w.heap.size)
    (h : ∀ v' w', OwnV e cs w' base v' (l ++ m) → w.grownBy w' v.ownBlock → (v'.ownBlock = v.ownBlock ∨ v'.ownBlock = some w.heap.size) → wpList P ops Q rest (a.put o.dst v') w') : wpList P ops Q (o :: rest) a w := by
  refine wpList_plain hgd fun K hK => ?_
  obtain ⟨v', w', hr, h2, h3, h5⟩ := run_append_rdV T w base v u l m o.type hown hr hlen hbase
  unfold Oper.wp execOp
  simp only [ho, resolve, invoke, builtin, Sem.run_bind, Sem.run_pure, Result.andThen_ok, List.map_toArray, List.map_cons, List.map_nil, hs, hx, hr]
  exact hK _ _ (h v' w' h2 h3 h5)

theorem run_copy_row2 {P : Program} (w : World) (dT ty elem : TypeId) (g o dLen dCap : Nat) (a : Addr) (sLen sCap : Nat) (cur : Array Value) (t : TypeId) (cs : List Value)
    (hu : P.underlying dT = some (.slice elem)) (hs : (P.info? elem).map (·.size) = some 2)
    (hg : w.heap[g]? = some (.cells cur t (0, 0))) (hn : cs.length = Nat.min sLen dLen * 2)
    (hsrc : ∀ j v, cs[j]? = some v → w.cell? (a.add j) = some v) (hfit : o + cs.length ≤ cur.size) (h1 : ∀ v ∈ cs, v.oneCell' = true) :
    (Builtin.copy_ #[dT, dT] ty #[.slice (some ⟨g, o, none⟩) dLen dCap, .slice (some a) sLen sCap]).run P w =
      .ok (goInt (Nat.min sLen dLen)) (w.setRow g (cur.toList.take o ++ cs ++ cur.toList.drop (o + cs.length)).toArray) := by
  have hl := run_loadCells_list (P := P) w a cs hsrc
  have hst := run_storeCells_at P g o t cs 0 cur w hg (by simpa using hfit) h1
  cases hq : P.info? elem with
  | none => simp [hq] at hs
  | some i =>
    have hi : i.size = 2 := by simpa [hq] using hs
    simp [Builtin.copy_, run_underlying hu, Builtin.lenOf, Builtin.firstCells, sizeOf, typeInfo, hq, hi, ← hn, hl, hst]
theorem run_append_row2 {P : Program} (w : World) (t ty e : TypeId) (g p cap : Nat) (a : Addr) (m c : Nat) (cur : Array Value) (te : TypeId) (news : List Value)
    (ht : P.underlying t = some (.slice e)) (hs : (P.info? e).map (·.size) = some 2) (hg : w.heap[g]? = some (.cells cur te (0, 0))) (hn : news.length = m * 2)
    (hsrc : ∀ j v, news[j]? = some v → w.cell? (a.add j) = some v) (h1 : ∀ v ∈ news, v.oneCell' = true) (hroom : p + m ≤ cap) (hfit : (p + m) * 2 ≤ cur.size) :
    (Builtin.append_ #[t, t] ty #[.slice (some ⟨g, 0, none⟩) p cap, .slice (some a) m c]).run P w = .ok (.slice (some ⟨g, 0, none⟩) (p + m) cap) (w.setRow g (cur.toList.take (p * 2) ++ news ++ cur.toList.drop (p * 2 + news.length)).toArray) := by
  have hst := run_storeCells_at P g (p * 2) te news 0 cur w hg (by rw [hn]; omega) h1
  cases hq : P.info? e with
  | none => simp [hq] at hs
  | some i =>
    have hi : i.size = 2 := by simpa [hq] using hs
    have hfc := run_firstCells_some (P := P) w 2 m a m c news (by omega) hsrc
    simp [Builtin.append_, run_underlying ht, sizeOf, typeInfo, hq, hi, Builtin.lenOf, hroom, hfc, Addr.add_lit, hst]

/-- clear of one thing. -/
theorem run_clear_two {P : Program} (w : World) (t e ty : TypeId) (z z0 z1 : Value) (ht : P.underlying t = some (.slice e)) (hv : ∀ w, (zeroValue e).run P w = .ok z w) (hz : z.cells = #[z0, z1]) (h0 : z0.oneCell' = true) (h1 : z1.oneCell' = true) (b o c : Nat)
    (hc : ∀ j, j < 2 → (w.cell? ⟨b, o + j, none⟩).isSome = true) (hf : ∀ j, j < 2 → w.frozen? ⟨b, o + j, none⟩ = false) :
    (Builtin.clear_ #[t] ty #[.slice (some ⟨b, o, none⟩) 1 c]).run P w = .ok (.tuple #[]) ((w.setCell ⟨b, o, none⟩ z0).setCell ⟨b, o + 1, none⟩ z1) := by
  have hzc : (Builtin.zeroCells z.cells 1).toList = [z0, z1] := by rw [hz]; simp [Builtin.zeroCells]; rfl
  have hst := run_storeCells_cells (P := P) b o [z0, z1] 0 w (by simpa using hc) (by simpa using hf) (by
    intro v hv'
    rcases List.mem_cons.1 hv' with rfl | hv'
    · exact h0
    · obtain rfl := List.mem_singleton.1 hv'; exact h1)
  simp only [Nat.add_zero] at hst
  have hst' : (w.setCells b o [z0, z1]) = (w.setCell ⟨b, o, none⟩ z0).setCell ⟨b, o + 1, none⟩ z1 := rfl
  rw [hst'] at hst
  simp [Builtin.clear_, run_underlying ht, hv, hzc, hst]

/-- An entry's cells. -/
structure ET where
  a : Option Addr
  n : Nat
  c : Nat
  id : Int
def zeroET : ET := ⟨none, 0, 0, 0⟩
def eC (x : ET) : List Value := [.slice x.a x.n x.c, .int .i64 x.id]
def encE (x : ET) : Value := .agg #[.slice x.a x.n x.c, .int .i64 x.id]
theorem eC_two (x : ET) : (eC x).length = 2 := rfl
theorem eC_one (x : ET) : ∀ u ∈ eC x, u.oneCell' = true := fun u hu => by
  simp only [eC, List.mem_cons, List.not_mem_nil, or_false] at hu
  rcases hu with rfl | rfl <;> rfl
/-- A box of two cells that may be written. -/
def Box2 (R : Nat) (w : World) : Prop := (w.cell? ⟨R, 0, none⟩).isSome = true ∧ (w.cell? ⟨R, 1, none⟩).isSome = true ∧ w.frozen? ⟨R, 0, none⟩ = false ∧ w.frozen? ⟨R, 1, none⟩ = false
/-- An entry in two cells. -/
def EntAt (w : World) (b : Nat) (x : ET) : Prop := w.cell? ⟨b, 0, none⟩ = some (.slice x.a x.n x.c) ∧ w.cell? ⟨b, 1, none⟩ = some (.int .i64 x.id)
theorem elemE : ElemV (α := ET) Tryz.prog 36 51 eC (.agg #[.slice none 0 0, .int .i64 0]) (.slice none 0 0) (.int .i64 0) 32 where
  ht := Tryz.underlying36
  hi := by kernel_rfl
  hb := by decide
  two := eC_two
  one := eC_one
  zc := rfl
  zo0 := rfl
  zo1 := rfl
theorem RdV.ent {X : Nat → Prop} {w : World} {a : Option Addr} {n cap : Nat} {l : List ET} (h : RdV eC X w (.slice a n cap) l) {i : Nat} (hi : i < l.length) :
    ∃ g off, a = some ⟨g, off, none⟩ ∧ w.cell? ⟨g, off + i * 2, none⟩ = some (.slice l[i].a l[i].n l[i].c) ∧ w.cell? ⟨g, off + i * 2 + 1, none⟩ = some (.int .i64 l[i].id) := by
  obtain ⟨g, off, h1, h2⟩ := h.get hi
  exact ⟨g, off, h1, h2 0 _ rfl, h2 1 _ rfl⟩
end Go.Proofs.YtnokokhbcfkifaaGreatDoor

namespace Go.Proofs.YtnokokhbcfkifaaGreatDoor
open Go.ChangeShapes Go.WideShapes Go.ChangeAt Go.RowKit
set_option linter.unusedVariables false

/-- A slice without things. -/
def Emp (v : Value) : Prop := ∃ a c, v = .slice a 0 c ∧ c ≤ maxLen
theorem Emp.rd {α : Type} {enc : α → Value} {X : Nat → Prop} {w : World} {v : Value} (h : Emp v) : Rd enc X w v [] := by
  obtain ⟨a, c, rfl, hc⟩ := h
  exact ⟨a, c, rfl, Nat.zero_le _, hc, .inl rfl⟩
theorem Emp.rdV {α : Type} {enc : α → List Value} {X : Nat → Prop} {w : World} {v : Value} (h : Emp v) : RdV enc X w v [] := by
  obtain ⟨a, c, rfl, hc⟩ := h
  exact ⟨a, c, rfl, Nat.zero_le _, hc, .inl rfl⟩
theorem Rd.emp {α : Type} {enc : α → Value} {X : Nat → Prop} {w : World} {v : Value} (h : Rd enc X w v []) : Emp v := by
  obtain ⟨a, c, rfl, _, hc, _⟩ := h
  exact ⟨a, c, rfl, hc⟩
theorem RdV.emp {α : Type} {enc : α → List Value} {X : Nat → Prop} {w : World} {v : Value} (h : RdV enc X w v []) : Emp v := by
  obtain ⟨a, c, rfl, _, hc, _⟩ := h
  exact ⟨a, c, rfl, hc⟩
theorem Emp.nil : Emp (.slice none 0 0) := ⟨none, 0, rfl, Nat.zero_le _⟩
/-- What a node's cells hold; its block is none of X. -/
def NodeC (X : Nat → Prop) (w : World) (b : Nat) (ve vb : Value) (n : Nat) : Prop :=
  ¬ X b ∧ w.cell? ⟨b, 0, none⟩ = some ve ∧ w.cell? ⟨b, 1, none⟩ = some vb ∧ w.cell? ⟨b, 2, none⟩ = some (.int .i64 n)
theorem NodeC.chg {X : Nat → Prop} {w w' : World} {b : Nat} {ve vb : Value} {n : Nat} (h : NodeC X w b ve vb n) (hc : Chg X w w') : NodeC X w' b ve vb n :=
  ⟨h.1, hc.cell h.2.1 h.1, hc.cell h.2.2.1 h.1, hc.cell h.2.2.2 h.1⟩
theorem NodeC.mono {X Y : Nat → Prop} {w : World} {b : Nat} {ve vb : Value} {n : Nat} (h : NodeC X w b ve vb n) (hy : ∀ y, y < w.heap.size → Y y → X y) : NodeC Y w b ve vb n :=
  ⟨fun y => h.1 (hy b (World.block_lt_of_cell? w _ h.2.1) y), h.2⟩
/-- A node of height h (0: a leaf) with the elements xs; s: so many elements, or nodes, are in it. -/
def Nd {α : Type} (enc : α → List Value) (X : Nat → Prop) (w : World) : Nat → Nat → List α → Nat → Prop
  | 0, b, xs, s => ∃ ve vb, NodeC X w b ve vb xs.length ∧ RdV enc X w ve xs ∧ Emp vb ∧ s = xs.length
  | h + 1, b, xs, s => ∃ ve vb, ∃ L : List (Nat × List α), NodeC X w b ve vb xs.length ∧ Emp ve ∧ Rd pE X w vb (L.map (·.1)) ∧ (∀ q ∈ L, ∃ t, 4 ≤ t ∧ t ≤ 8 ∧ Nd enc X w h q.1 q.2 t) ∧ xs = L.flatMap (·.2) ∧ s = L.length
/-- Nodes right below another one. -/
def Kids {α : Type} (enc : α → List Value) (X : Nat → Prop) (w : World) (h : Nat) (L : List (Nat × List α)) : Prop := ∀ q ∈ L, ∃ t, 4 ≤ t ∧ t ≤ 8 ∧ Nd enc X w h q.1 q.2 t
/-- What a node of height h has. -/
def Ld {α : Type} (enc : α → List Value) (X : Nat → Prop) (w : World) : Nat → Value → Value → List α → Nat → Prop
  | 0, ve, vb, xs, s => RdV enc X w ve xs ∧ Emp vb ∧ s = xs.length
  | h + 1, ve, vb, xs, s => Emp ve ∧ ∃ L : List (Nat × List α), Rd pE X w vb (L.map (·.1)) ∧ Kids enc X w h L ∧ xs = L.flatMap (·.2) ∧ s = L.length
theorem nd_iff {α : Type} {enc : α → List Value} {X : Nat → Prop} {w : World} {h b : Nat} {xs : List α} {s : Nat} : Nd enc X w h b xs s ↔ ∃ ve vb, NodeC X w b ve vb xs.length ∧ Ld enc X w h ve vb xs s := by
  cases h with
  | zero => exact Iff.rfl
  | succ h =>
    constructor
    · rintro ⟨ve, vb, L, h1, h2, h3, h4, h5, h6⟩
      exact ⟨ve, vb, h1, h2, L, h3, h4, h5, h6⟩
    · rintro ⟨ve, vb, h1, h2, L, h3, h4, h5, h6⟩
      exact ⟨ve, vb, L, h1, h2, h3, h4, h5, h6⟩
theorem Nd.chg {α : Type} {enc : α → List Value} {X : Nat → Prop} {w w' : World} (hc : Chg X w w') : ∀ {h b : Nat} {xs : List α} {s : Nat}, Nd enc X w h b xs s → Nd enc X w' h b xs s
  | 0, b, xs, s, ⟨ve, vb, h1, h2, h3⟩ => ⟨ve, vb, h1.chg hc, h2.chg hc, h3⟩
  | h + 1, b, xs, s, ⟨ve, vb, L, h1, h2, h3, h4, h5⟩ => ⟨ve, vb, L, h1.chg hc, h2, h3.chg hc, fun q hq => by
      obtain ⟨t, t1, t2, t3⟩ := h4 q hq
      exact ⟨t, t1, t2, Nd.chg hc t3⟩, h5⟩
theorem Nd.mono {α : Type} {enc : α → List Value} {X Y : Nat → Prop} {w : World} (hy : ∀ y, y < w.heap.size → Y y → X y) : ∀ {h b : Nat} {xs : List α} {s : Nat}, Nd enc X w h b xs s → Nd enc Y w h b xs s
  | 0, b, xs, s, ⟨ve, vb, h1, h2, h3⟩ => ⟨ve, vb, h1.mono hy, h2.mono hy, h3⟩
  | h + 1, b, xs, s, ⟨ve, vb, L, h1, h2, h3, h4, h5⟩ => ⟨ve, vb, L, h1.mono hy, h2, h3.mono hy, fun q hq => by
      obtain ⟨t, t1, t2, t3⟩ := h4 q hq
      exact ⟨t, t1, t2, Nd.mono hy t3⟩, h5⟩
theorem Kids.chg {α : Type} {enc : α → List Value} {X : Nat → Prop} {w w' : World} {h : Nat} {L : List (Nat × List α)} (hk : Kids enc X w h L) (hc : Chg X w w') : Kids enc X w' h L := fun q hq => by
  obtain ⟨t, t1, t2, t3⟩ := hk q hq
  exact ⟨t, t1, t2, t3.chg hc⟩
theorem Ld.chg {α : Type} {enc : α → List Value} {X : Nat → Prop} {w w' : World} {h : Nat} {ve vb : Value} {xs : List α} {s : Nat} (hl : Ld enc X w h ve vb xs s) (hc : Chg X w w') : Ld enc X w' h ve vb xs s := by
  cases h with
  | zero => exact ⟨hl.1.chg hc, hl.2⟩
  | succ h =>
    obtain ⟨h1, L, h2, h3, h4⟩ := hl
    exact ⟨h1, L, h2.chg hc, h3.chg hc, h4⟩
theorem Kids.mono {α : Type} {enc : α → List Value} {X Y : Nat → Prop} {w : World} {h : Nat} {L : List (Nat × List α)} (hk : Kids enc X w h L) (hy : ∀ y, y < w.heap.size → Y y → X y) : Kids enc Y w h L := fun q hq => by
  obtain ⟨t, t1, t2, t3⟩ := hk q hq
  exact ⟨t, t1, t2, t3.mono hy⟩
theorem Ld.mono {α : Type} {enc : α → List Value} {X Y : Nat → Prop} {w : World} {h : Nat} {ve vb : Value} {xs : List α} {s : Nat} (hl : Ld enc X w h ve vb xs s) (hy : ∀ y, y < w.heap.size → Y y → X y) : Ld enc Y w h ve vb xs s := by
  cases h with
  | zero => exact ⟨hl.1.mono hy, hl.2⟩
  | succ h =>
    obtain ⟨h1, L, h2, h3, h4⟩ := hl
    exact ⟨h1, L, h2.mono hy, h3.mono hy, h4⟩
theorem flat_split {α β : Type} (L : List (β × List α)) (i : Nat) (h : i < L.length) : L.flatMap (·.2) = (L.take i).flatMap (·.2) ++ (L[i].2 ++ (L.drop (i + 1)).flatMap (·.2)) := by
  have e : L = L.take i ++ (L[i] :: L.drop (i + 1)) := by rw [List.getElem_cons_drop, List.take_append_drop]
  conv => lhs; rw [e]
  rw [List.flatMap_append, List.flatMap_cons]
/-- Both are slices; so many things are in them. -/
theorem Ld.slices {α : Type} {enc : α → List Value} {X : Nat → Prop} {w : World} {h : Nat} {ve vb : Value} {xs : List α} {s : Nat} (hl : Ld enc X w h ve vb xs s) :
    ∃ ae ne ce ab nb cb, ve = .slice ae ne ce ∧ vb = .slice ab nb cb ∧ ne ≤ ce ∧ nb ≤ cb ∧ ne + nb = s ∧ (h = 0 → ne = xs.length ∧ nb = 0) ∧ (h ≠ 0 → ne = 0 ∧ nb = s) := by
  cases h with
  | zero =>
    obtain ⟨⟨a, c, rfl, h2, _⟩, ⟨b, d, rfl, _⟩, rfl⟩ := hl
    exact ⟨_, _, _, _, _, _, rfl, rfl, h2, Nat.zero_le _, rfl, fun _ => ⟨rfl, rfl⟩, fun h => absurd rfl h⟩
  | succ h =>
    obtain ⟨⟨b, d, rfl, _⟩, L, ⟨a, c, rfl, h2, _⟩, _, _, rfl⟩ := hl
    exact ⟨_, _, _, _, _, _, rfl, rfl, Nat.zero_le _, h2, by simp, fun h => absurd h (Nat.succ_ne_zero _), fun _ => ⟨rfl, by simp⟩⟩
theorem flat_ge {α β : Type} {c : Nat} : ∀ {L : List (β × List α)}, (∀ q ∈ L, c ≤ q.2.length) → c * L.length ≤ (L.flatMap (·.2)).length
  | [], _ => by simp
  | q :: L, h => by
    have h1 := h q (by simp)
    have h2 := flat_ge (fun p hp => h p (List.mem_cons_of_mem _ hp))
    rw [List.flatMap_cons, List.length_append, List.length_cons, Nat.mul_add]
    omega
/-- A node has many elements. -/
theorem Nd.many {α : Type} {enc : α → List Value} {X : Nat → Prop} {w : World} : ∀ {h b : Nat} {xs : List α} {s : Nat}, Nd enc X w h b xs s → s * 4 ^ h ≤ xs.length
  | 0, b, xs, s, ⟨ve, vb, h1, h2, h3, h4⟩ => by simp [h4]
  | h + 1, b, xs, s, ⟨ve, vb, L, h1, h2, h3, h4, h5, h6⟩ => by
    have := flat_ge (c := 4 ^ (h + 1)) (L := L) (fun q hq => by
      obtain ⟨t, t1, t2, t3⟩ := h4 q hq
      have := t3.many
      rw [Nat.pow_succ]
      calc 4 ^ h * 4 = 4 * 4 ^ h := Nat.mul_comm _ _
        _ ≤ t * 4 ^ h := Nat.mul_le_mul_right _ t1
        _ ≤ _ := this)
    rw [h5, h6, Nat.mul_comm]
    exact this
theorem Kids.some {α : Type} {enc : α → List Value} {X : Nat → Prop} {w : World} {h : Nat} {L : List (Nat × List α)} (hk : Kids enc X w h L) : ∀ q ∈ L, 4 ≤ q.2.length := fun q hq => by
  obtain ⟨t, t1, t2, t3⟩ := hk q hq
  have := t3.many
  have h4 : 1 ≤ 4 ^ h := Nat.pow_pos (by decide)
  have := Nat.mul_le_mul t1 h4
  omega
/-- A tree's own cells. -/
structure TrC (w : World) (T : Nat) (tv : Value) (n : Nat) : Prop where
  c0 : w.cell? ⟨T, 0, none⟩ = some tv
  c1 : w.cell? ⟨T, 1, none⟩ = some (.int .i64 n)
  f0 : w.frozen? ⟨T, 0, none⟩ = false
  f1 : w.frozen? ⟨T, 1, none⟩ = false
theorem TrC.chg {X : Nat → Prop} {w w' : World} {T : Nat} {tv : Value} {n : Nat} (h : TrC w T tv n) (hc : Chg X w w') (hX : ¬ X T) : TrC w' T tv n :=
  have hT := World.block_lt_of_cell? w _ h.c0
  ⟨hc.cell h.c0 hX, hc.cell h.c1 hX, (hc.frozen (p := ⟨T, 0, none⟩) hT hX).trans h.f0, (hc.frozen (p := ⟨T, 1, none⟩) hT hX).trans h.f1⟩
theorem TrC.up {w w' : World} {T : Nat} {tv : Value} {n : Nat} (h : TrC w T tv n) (hu : Up w w') : TrC w' T tv n := h.chg (Chg.of_up (C := fun _ => False) hu) (fun h => h)
theorem write_world (w : World) (T n : Nat) (tv ve vb : Value) (c : Nat) (t1 t2 : TypeId) (hT : TrC w T tv n) (W : World) (hW : ((w.setCell ⟨T, 1, none⟩ (.int .i64 ((n + 1 : Nat) : Int))).alloc (.cells #[ve, vb] t1)).alloc (.cells #[ve, vb, .int .i64 c] t2) = W) :
    TrC W T tv (n + 1) ∧ W.cell? ⟨w.heap.size + 1, 0, none⟩ = some ve ∧ W.cell? ⟨w.heap.size + 1, 1, none⟩ = some vb ∧ W.cell? ⟨w.heap.size + 1, 2, none⟩ = some (.int .i64 c) ∧ W.frozen? ⟨w.heap.size + 1, 2, none⟩ = false ∧ Chg (fun y => y = T) w W ∧ W.heap.size = w.heap.size + 2 := by
  have hs : (w.setCell ⟨T, 1, none⟩ (.int .i64 ((n + 1 : Nat) : Int))).heap.size = w.heap.size := by simp
  have hTl : T < w.heap.size := World.block_lt_of_cell? w _ hT.c0
  have g1 : TrC (w.setCell ⟨T, 1, none⟩ (.int .i64 ((n + 1 : Nat) : Int))) T tv (n + 1) := by
    obtain ⟨c0, c1, f0, f1⟩ := hT
    refine ⟨?_, ?_, ?_, ?_⟩
    · rw [World.cell?_setCell_other _ _ _ _ (by intro e; cases e)]; exact c0
    · exact World.cell?_setCell_same _ _ _ c1
    · simp [f0]
    · simp [f1]
  have g2 : Chg (fun y => y = T) w (w.setCell ⟨T, 1, none⟩ (.int .i64 ((n + 1 : Nat) : Int))) := (Chg.refl _ w).set (C := fun y => y = T) (p := ⟨T, 1, none⟩) (fun _ => rfl) _
  generalize w.setCell ⟨T, 1, none⟩ (.int .i64 ((n + 1 : Nat) : Int)) = w1 at *
  subst hW
  rw [← hs]
  refine ⟨g1.up (((Up.refl w1).alloc _).alloc _), ?_, ?_, ?_, ?_, (g2.alloc _).alloc _, by simp⟩
  · rw [show w1.heap.size + 1 = (w1.alloc (.cells #[ve, vb] t1)).heap.size by simp, cell_of (heap_alloc_new _ _)]; rfl
  · rw [show w1.heap.size + 1 = (w1.alloc (.cells #[ve, vb] t1)).heap.size by simp, cell_of (heap_alloc_new _ _)]; rfl
  · rw [show w1.heap.size + 1 = (w1.alloc (.cells #[ve, vb] t1)).heap.size by simp, cell_of (heap_alloc_new _ _)]; rfl
  · rw [show w1.heap.size + 1 = (w1.alloc (.cells #[ve, vb] t1)).heap.size by simp]
    have := heap_alloc_new (w1.alloc (.cells #[ve, vb] t1)) (.cells #[ve, vb, .int .i64 c] t2)
    simp only [World.frozen?, this]
    rfl
theorem set_count {w wr : World} {T nbk n : Nat} {tv v u x y : Value} (n0 : wr.cell? ⟨nbk, 0, none⟩ = some x) (n1 : wr.cell? ⟨nbk, 1, none⟩ = some y) (n2 : wr.cell? ⟨nbk, 2, none⟩ = some u) (nf : wr.frozen? ⟨nbk, 2, none⟩ = false) (hT : TrC wr T tv n) (hch : Chg (fun y => y = T) w wr) (hlt : nbk < wr.heap.size) (hne : T ≠ nbk) (hnew : w.heap.size ≤ nbk) :
    (wr.setCell ⟨nbk, 2, none⟩ v).drew.cell? ⟨nbk, 0, none⟩ = some x ∧ (wr.setCell ⟨nbk, 2, none⟩ v).drew.cell? ⟨nbk, 1, none⟩ = some y ∧ (wr.setCell ⟨nbk, 2, none⟩ v).drew.cell? ⟨nbk, 2, none⟩ = some v ∧ (wr.setCell ⟨nbk, 2, none⟩ v).drew.frozen? ⟨nbk, 2, none⟩ = false ∧ Hid (TrC (wr.setCell ⟨nbk, 2, none⟩ v).drew T tv n) ∧ Hid (Chg (fun y => y = T) w (wr.setCell ⟨nbk, 2, none⟩ v).drew) ∧ Hid (nbk < (wr.setCell ⟨nbk, 2, none⟩ v).drew.heap.size) := by
  have hc : Chg (fun y => y = nbk) wr (wr.setCell ⟨nbk, 2, none⟩ v).drew := ((Chg.refl _ wr).set (C := fun y => y = nbk) (p := ⟨nbk, 2, none⟩) (fun _ => rfl) v).drew
  refine ⟨?_, ?_, ?_, ?_, hT.chg hc hne, hch.trans hc (fun y hy e => by have e' : y = nbk := e; omega), by simp [Hid]; exact hlt⟩
  · show (wr.setCell ⟨nbk, 2, none⟩ v).cell? _ = _
    rw [World.cell?_setCell_other _ _ _ _ (by intro e; cases e)]; exact n0
  · show (wr.setCell ⟨nbk, 2, none⟩ v).cell? _ = _
    rw [World.cell?_setCell_other _ _ _ _ (by intro e; cases e)]; exact n1
  · exact World.cell?_setCell_same _ _ _ n2
  · show (wr.setCell ⟨nbk, 2, none⟩ v).frozen? _ = _
    simp [nf]
theorem TrC.setTop {w : World} {T : Nat} {tv : Value} {n : Nat} (h : TrC w T tv n) (x : Value) : TrC (w.setCell ⟨T, 0, none⟩ x) T x n := by
  refine ⟨World.cell?_setCell_same _ _ _ h.c0, ?_, ?_, ?_⟩
  · rw [World.cell?_setCell_other _ _ _ _ (by intro e; cases e)]; exact h.c1
  · simp [h.f0]
  · simp [h.f1]
theorem chg_top (w : World) (T : Nat) (x : Value) : Chg (fun y => y = T) w (w.setCell ⟨T, 0, none⟩ x) := (Chg.refl _ w).set (C := fun y => y = T) (p := ⟨T, 0, none⟩) (fun _ => rfl) x
/-- What write leaves: a new node, one more counted. -/
def WritePost (T : Nat) (tv : Value) (n : Nat) (ve vb : Value) (c : Nat) (w : World) (e : Ending) (w' : World) : Prop :=
  ∃ b, e = .returned (pE b) ∧ w.heap.size ≤ b ∧ b < w'.heap.size ∧ w'.cell? ⟨b, 0, none⟩ = some ve ∧ w'.cell? ⟨b, 1, none⟩ = some vb ∧ w'.cell? ⟨b, 2, none⟩ = some (.int .i64 c) ∧ TrC w' T tv (n + 1) ∧ Chg (fun y => y = T) w w'
/-- What find tells. -/
def FindPost {α : Type} (L : List (Nat × List α)) (i : Nat) (w : World) (e : Ending) (w' : World) : Prop :=
  ∃ (at_ j : Nat) (hat : at_ < L.length), e = .returned (.tuple #[.int .i64 at_, .int .i64 j]) ∧ i = ((L.take at_).flatMap (·.2)).length + j ∧ j ≤ L[at_].2.length ∧ (i < (L.flatMap (·.2)).length → j < L[at_].2.length) ∧ Up w w'
/-- A tree's top: a leaf of at most eight elements, or a node with two to eight below it. -/
def Top {α : Type} (enc : α → List Value) (X : Nat → Prop) (w : World) (b : Nat) (xs : List α) (h : Nat) : Prop := ∃ s, Nd enc X w h b xs s ∧ s ≤ 8 ∧ (h ≠ 0 → 2 ≤ s)
/-- A tree: its block, what it has, how many nodes were written. -/
structure Tr {α : Type} (enc : α → List Value) (w : World) (T : Nat) (xs : List α) (h n : Nat) : Prop where
  top : ∃ b, TrC w T (pE b) n ∧ Top enc (fun y => y = T) w b xs h
theorem RB.tree {Rs : List Nat} {W w w' : World} {T n : Nat} {tv : Value} (h : RB Rs W w) (hc : Chg (fun y => y = T) w w') (hT : TrC w' T tv n) (hm : T ∈ Rs) : RB Rs W w' := by
  refine ⟨h.chg.trans hc (fun y _ e => by rw [show y = T from e]; exact hm), fun r hr => ?_⟩
  by_cases e : r = T
  · subst e
    exact ⟨by rw [hT.c0]; rfl, by rw [hT.c1]; rfl, hT.f0, hT.f1⟩
  · obtain ⟨h0, h1, h2, h3⟩ := h.box r hr
    obtain ⟨v0, e0⟩ := Option.isSome_iff_exists.1 h0
    obtain ⟨v1, e1⟩ := Option.isSome_iff_exists.1 h1
    have hlt := World.block_lt_of_cell? w _ e0
    exact ⟨by rw [hc.cell e0 e]; rfl, by rw [hc.cell e1 e]; rfl, (hc.frozen (p := ⟨r, 0, none⟩) hlt e).trans h2, (hc.frozen (p := ⟨r, 1, none⟩) hlt e).trans h3⟩
theorem Tr.up {α : Type} {enc : α → List Value} {w w' : World} {T : Nat} {xs : List α} {h n : Nat} (t : Tr enc w T xs h n) (hu : Up w w') : Tr enc w' T xs h n := by
  obtain ⟨b, h1, s, h2, h3⟩ := t.top
  exact ⟨b, h1.up hu, s, h2.chg (Chg.of_up hu), h3⟩
theorem Tr.lt {α : Type} {enc : α → List Value} {w : World} {T : Nat} {xs : List α} {h n : Nat} (t : Tr enc w T xs h n) : T < w.heap.size := by
  obtain ⟨b, h1, _⟩ := t.top
  exact World.block_lt_of_cell? _ _ h1.c0

theorem Tr.many {α : Type} {enc : α → List Value} {w : World} {T : Nat} {xs : List α} {h n : Nat} (t : Tr enc w T xs h n) (h0 : h ≠ 0) : 2 * 4 ^ h ≤ xs.length := by
  obtain ⟨b, h1, s, h2, h3, h4⟩ := t.top
  exact Nat.le_trans (Nat.mul_le_mul_right _ (h4 h0)) h2.many
theorem Tr.hle {α : Type} {enc : α → List Value} {w : World} {T : Nat} {xs : List α} {h n : Nat} (t : Tr enc w T xs h n) (hx : xs.length ≤ 100000) : h ≤ 8 := by
  rcases Nat.lt_or_ge h 9 with h3 | h3
  · omega
  · have h1 := t.many (by omega)
    have h4 : 4 ^ 9 ≤ 4 ^ h := Nat.pow_le_pow_right (by decide) h3
    have h6 : (4 : Nat) ^ 9 = 262144 := by decide
    omega
theorem Tr.low {α : Type} {enc : α → List Value} {w : World} {T : Nat} {xs : List α} {h n : Nat} (t : Tr enc w T xs h n) (hx : xs.length < 8) : h = 0 := by
  rcases Nat.eq_zero_or_pos h with h0 | h0
  · exact h0
  · have h1 := t.many (by omega)
    have h4 : 4 ^ 1 ≤ 4 ^ h := Nat.pow_le_pow_right (by decide) h0
    omega
theorem Tr.chg {α : Type} {enc : α → List Value} {C : Nat → Prop} {w w' : World} {T : Nat} {xs : List α} {h n : Nat} (t : Tr enc w T xs h n) (hc : Chg C w w') (hC : ∀ y, y < w.heap.size → C y → y ≠ T ∧ False) : Tr enc w' T xs h n := t.up (hc.up (fun x hx hx2 => (hC x hx hx2).2))
/-- The blocks that a change may turn: the tree's own, and those of Y. -/
def XT (T : Nat) (Y : Nat → Prop) : Nat → Prop := fun y => y = T ∨ Y y
/-- A place of n that a change may be asked for. -/
def Ok (S : Bool) (n j : Nat) : Prop := j ≤ n ∧ (S = true → j < n)
/-- What a change does to a list: to a part of it what it does to the whole. -/
structure Local {α : Type} (S : Bool) (f : List α → Nat → List α) : Prop where
  part : ∀ a es b j, Ok S es.length j → f (a ++ (es ++ b)) (a.length + j) = a ++ (f es j ++ b)
  more : ∀ es j, Ok S es.length j → (f es j).length ≤ es.length + 1
  less : ∀ es j, Ok S es.length j → es.length ≤ (f es j).length + 1
end Go.Proofs.YtnokokhbcfkifaaGreatDoor

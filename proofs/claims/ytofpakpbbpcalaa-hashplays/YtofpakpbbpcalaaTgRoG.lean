/-
  Rows of things of one cell each: rows that can be read, rows that a call owns, append to one; no function of the program.
  Rows of things of two cells each: rows that can be read, rows that a call owns, append to one; no function of the program.
-/
import Derived.Test.YtofpakpbbpcalaaChgs
import Derived.Test.YtofpakpbbpcalaaRows
import Derived.OwnWalk
import Derived.ProofKit
import Derived.Laws.CopyOwn
import Derived.Maps.AppendAt
import Derived.Deep.Upon
import Derived.Lib.SliceRun
namespace Go.Proofs.Ytofpakpbbpcalaa
open Go.ChangeShapes Go.WideShapes Go.ChangeAt Go.RowKit
set_option linter.unusedVariables false

/-- A type of one cell: its slices, how its things stand as values, its zero. -/
structure ElemT {α : Type} (P : Program) (t e : TypeId) (enc : α → Value) (z : Value) (bytes : Nat) : Prop where
  ht : P.underlying t = some (.slice e)
  hi : (P.info? e).map (fun i => (i.zero, i.size, i.bytes)) = some (some z, 1, bytes)
  hb : bytes ≤ 64
  one : ∀ x, (enc x).oneCell' = true
  zc : z.cells = #[z]
  zo : z.oneCell' = true
theorem ElemT.size {α : Type} {P : Program} {t e : TypeId} {enc : α → Value} {z : Value} {bytes : Nat} (T : ElemT P t e enc z bytes) : (P.info? e).map (·.size) = some 1 := by
  obtain ⟨i0, hi, _, h1, _⟩ := info_parts T.hi
  rw [hi]; simp [h1]
theorem ElemT.sizeOf {α : Type} {P : Program} {t e : TypeId} {enc : α → Value} {z : Value} {bytes : Nat} (T : ElemT P t e enc z bytes) (w : World) : (Go.sizeOf e).run P w = .ok 1 w := by
  obtain ⟨i0, hi, _, h1, _⟩ := info_parts T.hi
  simp [Go.sizeOf, typeInfo, hi, h1]
theorem ElemT.zero {α : Type} {P : Program} {t e : TypeId} {enc : α → Value} {z : Value} {bytes : Nat} (T : ElemT P t e enc z bytes) (w : World) : (zeroValue e).run P w = .ok z w := by
  obtain ⟨i0, hi, h0, _, _⟩ := info_parts T.hi
  simp [zeroValue, typeInfo, hi, h0]

/-- A row that can be read; its block is none of X. -/
def Rd {α : Type} (enc : α → Value) (X : Nat → Prop) (w : World) (v : Value) (l : List α) : Prop :=
  ∃ a cap, v = .slice a l.length cap ∧ l.length ≤ cap ∧ cap ≤ maxLen ∧ (l = [] ∨ ∃ g off, a = some ⟨g, off, none⟩ ∧ ¬ X g ∧ ∀ j u, (l.map enc)[j]? = some u → w.cell? ⟨g, off + j, none⟩ = some u)
theorem Rd.chg {α : Type} {enc : α → Value} {X : Nat → Prop} {w w' : World} {v : Value} {l : List α} (h : Rd enc X w v l) (hc : Chg X w w') : Rd enc X w' v l := by
  obtain ⟨a, cap, h1, h2, h3, h4⟩ := h
  exact ⟨a, cap, h1, h2, h3, h4.imp id (fun ⟨g, off, h5, hx, h6⟩ => ⟨g, off, h5, hx, fun j u hj => hc.cell (h6 j u hj) hx⟩)⟩
theorem Rd.up {α : Type} {enc : α → Value} {X : Nat → Prop} {w w' : World} {v : Value} {l : List α} (h : Rd enc X w v l) (hu : Up w w') : Rd enc X w' v l := h.chg (Chg.of_up hu)
/-- The block of a row that isn't empty is there. -/
theorem rd_lt {α : Type} {enc : α → Value} {w : World} {g off : Nat} {l : List α} (hl : l ≠ []) (h : ∀ j u, (l.map enc)[j]? = some u → w.cell? ⟨g, off + j, none⟩ = some u) : g < w.heap.size := by
  cases l with
  | nil => exact absurd rfl hl
  | cons x l => exact World.block_lt_of_cell? w _ (h 0 _ rfl)
theorem Rd.mono {α : Type} {enc : α → Value} {X Y : Nat → Prop} {w : World} {v : Value} {l : List α} (h : Rd enc X w v l) (hy : ∀ y, y < w.heap.size → Y y → X y) : Rd enc Y w v l := by
  obtain ⟨a, cap, h1, h2, h3, h4⟩ := h
  refine ⟨a, cap, h1, h2, h3, ?_⟩
  by_cases hl : l = []
  · exact .inl hl
  · rcases h4 with h4 | ⟨g, off, h5, hx, h6⟩
    · exact absurd h4 hl
    · exact .inr ⟨g, off, h5, fun y => hx (hy g (rd_lt hl h6) y), h6⟩
theorem Rd.nil {α : Type} (enc : α → Value) (X : Nat → Prop) (w : World) : Rd enc X w (.slice none 0 0) [] := ⟨none, 0, rfl, Nat.le_refl _, Nat.zero_le _, .inl rfl⟩
theorem Rd.empty {α : Type} {enc : α → Value} {X : Nat → Prop} {w w' : World} {v : Value} (h : Rd enc X w v []) : Rd enc X w' v [] := by
  obtain ⟨a, cap, h1, h2, h3, _⟩ := h
  exact ⟨a, cap, h1, h2, h3, .inl rfl⟩
/-- One of its things. -/
theorem Rd.get {α : Type} {enc : α → Value} {X : Nat → Prop} {w : World} {a : Option Addr} {n cap : Nat} {l : List α} (h : Rd enc X w (.slice a n cap) l) {i : Nat} (hi : i < l.length) :
    ∃ g off, a = some ⟨g, off, none⟩ ∧ w.cell? ⟨g, off + i, none⟩ = some (enc l[i]) := by
  obtain ⟨a', cap', h1, h2, h3, h4⟩ := h
  cases h1
  rcases h4 with rfl | ⟨g, off, h5, hx, h6⟩
  · exact absurd hi (Nat.not_lt_zero _)
  · exact ⟨g, off, h5, h6 i _ (by rw [List.getElem?_map, List.getElem?_eq_getElem hi]; rfl)⟩
/-- Its beginning; what is behind it. -/
theorem Rd.take {α : Type} {enc : α → Value} {X : Nat → Prop} {w : World} {a : Option Addr} {n cap : Nat} {l : List α} (h : Rd enc X w (.slice a n cap) l) {m : Nat} (hm : m ≤ n) : Rd enc X w (.slice a m cap) (l.take m) := by
  obtain ⟨a', cap', h1, h2, h3, h4⟩ := h
  cases h1
  have hl : (l.take m).length = m := by rw [List.length_take]; omega
  refine ⟨a, cap, by rw [hl], by omega, h3, ?_⟩
  rcases h4 with rfl | ⟨g, off, h5, hx, h6⟩
  · exact .inl (by simp)
  · refine .inr ⟨g, off, h5, hx, fun j u hj => h6 j u ?_⟩
    rw [List.map_take, List.getElem?_take] at hj
    split at hj
    · exact hj
    · cases hj
theorem Rd.drop {α : Type} {enc : α → Value} {X : Nat → Prop} {w : World} {a : Option Addr} {n cap : Nat} {l : List α} (h : Rd enc X w (.slice a n cap) l) {m : Nat} (hm : m ≤ n) :
    Rd enc X w (.slice (if cap = m then a else a.map (·.add (m * 1))) (n - m) (cap - m)) (l.drop m) := by
  obtain ⟨a', cap', h1, h2, h3, h4⟩ := h
  cases h1
  have hl : (l.drop m).length = l.length - m := by rw [List.length_drop]
  refine ⟨_, cap - m, by rw [hl], by omega, by omega, ?_⟩
  rcases h4 with rfl | ⟨g, off, h5, hx, h6⟩
  · exact .inl (by simp)
  · by_cases he : l.drop m = []
    · exact .inl he
    · have : m < l.length := by
        rcases Nat.lt_or_ge m l.length with h | h
        · exact h
        · exact absurd (List.drop_eq_nil_of_le h) he
      refine .inr ⟨g, off + m, ?_, hx, fun j u hj => ?_⟩
      · rw [if_neg (by omega), h5]; simp [Addr.add]
      · rw [List.map_drop, List.getElem?_drop] at hj
        rw [Nat.add_assoc]
        exact h6 _ u hj

/-- A row that a call owns. -/
def OwnR {α : Type} (e : TypeId) (enc : α → Value) (w : World) (base : Nat) (v : Value) (l : List α) : Prop := w.ownsRow base e 1 v l.length (l.map enc)
theorem OwnR.nil {α : Type} (e : TypeId) (enc : α → Value) (w : World) (base : Nat) : OwnR e enc w base (.slice none 0 0) [] := World.ownsRow_nil _ _ _ _
theorem OwnR.lt {α : Type} {e : TypeId} {enc : α → Value} {w : World} {base : Nat} {v : Value} {l : List α} (h : OwnR e enc w base v l) : ∀ g, v.ownBlock = some g → base ≤ g ∧ g < w.heap.size := World.ownsRow.lt h
theorem OwnR.chg {α : Type} {e : TypeId} {enc : α → Value} {X : Nat → Prop} {w w' : World} {base : Nat} {v : Value} {l : List α} (h : OwnR e enc w base v l) (hc : Chg X w w') (hx : ∀ g, v.ownBlock = some g → ¬ X g) : OwnR e enc w' base v l := by
  refine ⟨h.1, ?_⟩
  have h0 := h
  rcases h.2 with h1 | ⟨g, cap, cur, hv, hb, hg, hr⟩
  · exact .inl h1
  · exact .inr ⟨g, cap, cur, hv, hb, (hc.2 g (h0.lt g (by rw [hv]; rfl)).2 (hx g (by rw [hv]; rfl))).trans hg, hr⟩
theorem OwnR.up {α : Type} {e : TypeId} {enc : α → Value} {w w' : World} {base : Nat} {v : Value} {l : List α} (h : OwnR e enc w base v l) (hu : Up w w') : OwnR e enc w' base v l := h.chg (Chg.of_up (C := fun _ => False) hu) (fun _ _ h => h)
theorem OwnR.base {α : Type} {e : TypeId} {enc : α → Value} {w : World} {base base' : Nat} {v : Value} {l : List α} (h : OwnR e enc w base v l) (hb : base' ≤ base) : OwnR e enc w base' v l := by
  refine ⟨h.1, ?_⟩
  rcases h.2 with h1 | ⟨g, cap, cur, hv, hb', hg, hr⟩
  · exact .inl h1
  · exact .inr ⟨g, cap, cur, hv, by omega, hg, hr⟩
theorem OwnR.rd {α : Type} {e : TypeId} {enc : α → Value} {w : World} {base : Nat} {v : Value} {l : List α} {X : Nat → Prop} (h : OwnR e enc w base v l) (hx : ∀ g, v.ownBlock = some g → ¬ X g) : Rd enc X w v l := by
  have h0 := h
  rcases h.2 with ⟨rfl, hn⟩ | ⟨g, cap, cur, rfl, hb, hg, hc, hm, hs, ht⟩
  · have : l = [] := List.length_eq_zero_iff.1 (by simpa using hn)
    subst this
    exact Rd.nil _ _ _
  · refine ⟨some ⟨g, 0, none⟩, cap, rfl, hc, hm, .inr ⟨g, 0, rfl, hx g rfl, fun i u hi => ?_⟩⟩
    have hlt : i < l.length * 1 := by
      rcases Nat.lt_or_ge i l.length with h | h
      · omega
      · rw [List.getElem?_eq_none (by simpa using h)] at hi; cases hi
    rw [Nat.zero_add, World.ownsRow.cellAt h0 i hlt]
    exact hi
theorem OwnR.slice {α : Type} {e : TypeId} {enc : α → Value} {w : World} {base : Nat} {v : Value} {l : List α} (h : OwnR e enc w base v l) : ∃ a cap, v = .slice a l.length cap ∧ l.length ≤ cap := by
  rcases h.2 with ⟨rfl, hn⟩ | ⟨g, cap, cur, rfl, hb, hg, hc, hm, hs, ht⟩
  · exact ⟨none, 0, by rw [hn], by omega⟩
  · exact ⟨_, cap, rfl, hc⟩
theorem OwnR.sliceN {α : Type} {e : TypeId} {enc : α → Value} {w : World} {base : Nat} {v : Value} {l : List α} (h : OwnR e enc w base v l) : ∃ a n cap, v = .slice a n cap ∧ Hid (n = l.length) ∧ Hid (n ≤ cap) := by
  obtain ⟨a, c, h1, h2⟩ := h.slice
  exact ⟨a, _, c, h1, rfl, h2⟩
theorem Rd.sliceN {α : Type} {enc : α → Value} {X : Nat → Prop} {w : World} {v : Value} {l : List α} (h : Rd enc X w v l) : ∃ a n cap, v = .slice a n cap ∧ Hid (n = l.length) ∧ Hid (n ≤ cap) := by
  obtain ⟨a, c, h1, h2, _⟩ := h
  exact ⟨a, _, c, h1, rfl, h2⟩
/-- Its block. -/
theorem OwnR.block {α : Type} {e : TypeId} {enc : α → Value} {w : World} {base : Nat} {v : Value} {l : List α} (h : OwnR e enc w base v l) (hl : l ≠ []) : ∃ g cap cur, v = .slice (some ⟨g, 0, none⟩) l.length cap ∧ base ≤ g ∧ w.heap[g]? = some (.cells cur e (0, 0)) ∧ l.length ≤ cap ∧ cap ≤ maxLen ∧ cur.size = cap ∧ cur.toList.take l.length = l.map enc := by
  rcases h.2 with ⟨rfl, hn⟩ | ⟨g, cap, cur, rfl, hb, hg, h1, h2, h3, h4⟩
  · exact absurd (List.length_eq_zero_iff.1 hn) hl
  · exact ⟨g, cap, cur, rfl, hb, hg, h1, h2, by simpa using h3, by rw [← h4]; simp⟩
theorem OwnR.mk {α : Type} {e : TypeId} {enc : α → Value} {w : World} {base g n cap : Nat} {cur : Array Value} {l : List α} (hbg : base ≤ g) (hg : w.heap[g]? = some (.cells cur e (0, 0))) (hl : l.length = n) (h1 : n ≤ cap) (h2 : cap ≤ maxLen) (h3 : cur.size = cap) (h4 : cur.toList.take n = l.map enc) : OwnR e enc w base (.slice (some ⟨g, 0, none⟩) n cap) l := by
  subst hl
  exact ⟨by simp, .inr ⟨g, cap, cur, rfl, hbg, hg, h1, h2, by omega, by rw [← h4]; simp⟩⟩
theorem OwnR.emptyRow {α : Type} {e : TypeId} {enc : α → Value} (w : World) : OwnR e enc (w.alloc (.cells #[] e)) w.heap.size (.slice (some ⟨w.heap.size, 0, none⟩) 0 0) [] :=
  ⟨by simp, .inr ⟨w.heap.size, 0, #[], rfl, Nat.le_refl _, heap_alloc_new _ _, Nat.le_refl _, Nat.zero_le _, by simp, by simp⟩⟩

/-- append of a row to a row that a call owns. -/
theorem run_append_rd {α : Type} {P : Program} {t e : TypeId} {enc : α → Value} {z : Value} {bytes : Nat} (T : ElemT P t e enc z bytes) {X : Nat → Prop} (w : World) (base : Nat) (v u : Value) (l m : List α) (ty : TypeId) (hown : OwnR e enc w base v l) (hr : Rd enc X w u m) (hlen : l.length + m.length ≤ 10000000) (hbase : base ≤ w.heap.size) :
    ∃ v' w', (Builtin.append_ #[t, t] ty #[v, u]).run P w = .ok v' w' ∧ OwnR e enc w' base v' (l ++ m) ∧ w.grownBy w' v.ownBlock ∧ (v'.ownBlock = v.ownBlock ∨ v'.ownBlock = some w.heap.size) := by
  obtain ⟨i0, hi, hz0, hz1, hz2⟩ := info_parts T.hi
  obtain ⟨a, cap, rfl, h2, h3, h4⟩ := hr
  have hb := T.hb
  by_cases hm : m = []
  · subst hm
    obtain ⟨b, c, rfl, hc⟩ := hown.slice
    have hs : Src P i0.size t (.slice a 0 cap) 0 [] w := by
      refine ⟨.inl ⟨_, T.ht⟩, fun w' => by simp [Builtin.lenOf], ?_, ?_, by simp, by simp⟩
      · cases a with
        | none => exact run_firstCells_none w _ _ _ _
        | some a => exact run_firstCells_some w _ 0 a _ _ [] (by simp) (by simp)
      · cases a with
        | none => exact run_firstCells_none _ _ _ _ _
        | some a => exact run_firstCells_some _ _ 0 a _ _ [] (by simp) (by simp)
    exact ⟨_, w, run_append_nothing w t t ty e i0 T.ht hi b l.length c hc _ hs, by simpa using hown, ⟨rfl, rfl, rfl, Nat.le_refl _, fun _ _ _ => rfl⟩, .inl rfl⟩
  · rcases h4 with h4 | ⟨g, off, rfl, hx, h6⟩
    · exact absurd h4 hm
    · obtain ⟨v', w', h5, h7, h8, _, h9⟩ := run_append_own_at (P := P) w base t ty e i0 z 1 bytes T.ht hi hz0 hz1 hz2 (by rw [T.zc]; rfl) (by decide) v l.length (l.map enc) hown ⟨g, off, none⟩ m.length cap (m.map enc) (by simp) (fun j u hj => by rw [Addr.add_lit]; exact h6 j u hj) (by intro u hu; obtain ⟨y, _, rfl⟩ := List.mem_map.1 hu; exact T.one y) (by unfold maxLen; omega) (by
        have : (l.length + m.length) * bytes ≤ 10000000 * 64 := Nat.mul_le_mul hlen hb
        omega) hbase
      refine ⟨v', w', h5, ?_, h8, h9⟩
      unfold OwnR
      rw [List.length_append, List.map_append]
      exact h7
theorem append_rd {α : Type} {P : Program} {t e : TypeId} {enc : α → Value} {z : Value} {bytes : Nat} (T : ElemT P t e enc z bytes) {X : Nat → Prop} {w : World} {ops : Array Oper} {rest : List Oper} {o : Oper} {a : Act} {Q : Exit → Act → World → Prop} (hgd : o.guard = none) (s x : Operand)
    (ho : o.op = .call { callee := .builtin .append, args := #[s, x], argTypes := #[t, t] }) (base : Nat) (v u : Value) (l m : List α) (hs : a.eval s = v) (hx : a.eval x = u) (hown : OwnR e enc w base v l) (hr : Rd enc X w u m) (hlen : l.length + m.length ≤ 10000000) (hbase : base ≤ w.heap.size)
    (h : ∀ v' w', OwnR e enc w' base v' (l ++ m) → w.grownBy w' v.ownBlock → (v'.ownBlock = v.ownBlock ∨ v'.ownBlock = some w.heap.size) → wpList P ops Q rest (a.put o.dst v') w') : wpList P ops Q (o :: rest) a w := by
  refine wpList_plain hgd fun K hK => ?_
  obtain ⟨v', w', hr, h2, h3, h5⟩ := run_append_rd T w base v u l m o.type hown hr hlen hbase
  unfold Oper.wp execOp
  simp only [ho, resolve, invoke, builtin, Sem.run_bind, Sem.run_pure, Result.andThen_ok, List.map_toArray, List.map_cons, List.map_nil, hs, hx, hr]
  exact hK _ _ (h v' w' h2 h3 h5)
theorem step_append_run {P : Program} {ops : Array Oper} {o : Oper} {a : Act} {w : World} {K : Act → World → Prop} {Q : Exit → Act → World → Prop} {E : Prop}
    (hg : o.guard = none) (s x : Operand) (t : TypeId) (hop : o.op = .call { callee := .builtin .append, args := #[s, x], argTypes := #[t, t] })
    (v u : Value) (hd : a.eval s = v) (hx : a.eval x = u) {v' : Value} {w' : World} (hr : (Builtin.append_ #[t, t] o.type #[v, u]).run P w = .ok v' w') (hK : K (a.put o.dst v') w') :
    if Region.wanted o (yielded ops a.tmps) = true then Oper.wp P o a w K Q else E := by
  have hw : Region.wanted o (yielded ops a.tmps) = true := by simp [Region.wanted, hg]
  rw [if_pos hw]
  unfold Oper.wp
  simp [execOp, hop, resolve, invoke, builtin, hd, hx, hr, Result.andThen]
  exact hK
theorem chg_grown {w w' : World} {v : Value} (h : w.grownBy w' v.ownBlock) : Chg (fun y => v.ownBlock = some y) w w' :=
  ⟨⟨h.os, h.tape, h.output, h.size, fun k hk => absurd hk (Nat.not_lt_zero k)⟩, fun y hy hne => h.block y hy (fun e => hne e.symm)⟩

theorem run_copy_row1 {P : Program} (w : World) (dT ty elem : TypeId) (g o dLen dCap : Nat) (a : Addr) (sLen sCap : Nat) (cur : Array Value) (t : TypeId) (cs : List Value)
    (hu : P.underlying dT = some (.slice elem)) (hs : (P.info? elem).map (·.size) = some 1)
    (hg : w.heap[g]? = some (.cells cur t (0, 0))) (hn : cs.length = Nat.min sLen dLen)
    (hsrc : ∀ j v, cs[j]? = some v → w.cell? (a.add j) = some v) (hfit : o + cs.length ≤ cur.size) (h1 : ∀ v ∈ cs, v.oneCell' = true) :
    (Builtin.copy_ #[dT, dT] ty #[.slice (some ⟨g, o, none⟩) dLen dCap, .slice (some a) sLen sCap]).run P w =
      .ok (goInt (Nat.min sLen dLen)) (w.setRow g (cur.toList.take o ++ cs ++ cur.toList.drop (o + cs.length)).toArray) := by
  have hl := run_loadCells_list (P := P) w a cs hsrc
  have hst := run_storeCells_at P g o t cs 0 cur w hg (by simpa using hfit) h1
  cases hq : P.info? elem with
  | none => simp [hq] at hs
  | some i =>
    have hi : i.size = 1 := by simpa [hq] using hs
    simp [Builtin.copy_, run_underlying hu, Builtin.lenOf, Builtin.firstCells, sizeOf, typeInfo, hq, hi, ← hn, hl, hst]
theorem run_append_row1 {P : Program} (w : World) (t ty e : TypeId) (g p cap : Nat) (a : Addr) (m c : Nat) (cur : Array Value) (te : TypeId) (news : List Value)
    (ht : P.underlying t = some (.slice e)) (hs : (P.info? e).map (·.size) = some 1) (hg : w.heap[g]? = some (.cells cur te (0, 0))) (hn : news.length = m)
    (hsrc : ∀ j v, news[j]? = some v → w.cell? (a.add j) = some v) (h1 : ∀ v ∈ news, v.oneCell' = true) (hroom : p + m ≤ cap) (hfit : p + m ≤ cur.size) :
    (Builtin.append_ #[t, t] ty #[.slice (some ⟨g, 0, none⟩) p cap, .slice (some a) m c]).run P w = .ok (.slice (some ⟨g, 0, none⟩) (p + m) cap) (w.setRow g (cur.toList.take p ++ news ++ cur.toList.drop (p + news.length)).toArray) := by
  have hst := run_storeCells_at P g p te news 0 cur w hg (by rw [hn]; simpa using hfit) h1
  cases hq : P.info? e with
  | none => simp [hq] at hs
  | some i =>
    have hi : i.size = 1 := by simpa [hq] using hs
    have hfc := run_firstCells_some (P := P) w 1 m a m c news (by omega) hsrc
    simp [Builtin.append_, run_underlying ht, sizeOf, typeInfo, hq, hi, Builtin.lenOf, hroom, hfc, Addr.add_lit, hst]
theorem cell_of {w : World} {g : Nat} {cur : Array Value} {t : TypeId} {fz : Nat × Nat} (hg : w.heap[g]? = some (.cells cur t fz)) (j : Nat) : w.cell? ⟨g, j, none⟩ = cur[j]? := by
  simp [World.cell?, hg]
theorem chg_setRow {w : World} {g : Nat} (cs : Array Value) : Chg (fun y => y = g) w (w.setRow g cs) :=
  ⟨⟨rfl, rfl, rfl, by simp [World.setRow], fun k hk => absurd hk (Nat.not_lt_zero k)⟩, fun y hy hn => setRow_other w g y cs hn⟩
theorem up_of_chg_new {w w1 w2 : World} {g : Nat} (hu : Up w w1) (hc : Chg (fun y => y = g) w1 w2) (hg : w.heap.size ≤ g) : Up w w2 := ((Chg.of_up (C := fun y => y = g) hu).trans hc (fun _ _ h => h)).up (fun x hx e => by omega)

theorem cat_le {α β : Type} (L : List (β × List α)) (i : Nat) (h : i < L.length) : ((L.take i).flatMap (·.2)).length + L[i].2.length = ((L.take (i + 1)).flatMap (·.2)).length := by
  rw [List.take_add_one, List.getElem?_eq_getElem h, List.flatMap_append, List.length_append]; simp
theorem cat_le2 {α β : Type} (L : List (β × List α)) (i : Nat) {n : Nat} (h : (L.flatMap (·.2)).length ≤ n) : ((L.take i).flatMap (·.2)).length ≤ n := by
  refine Nat.le_trans ?_ h
  conv => rhs; rw [← List.take_append_drop i L, List.flatMap_append, List.length_append]
  omega

/-- Boxes of two cells that a function writes its results into; all else is as it was. -/
structure RB (Rs : List Nat) (W w : World) : Prop where
  chg : Chg (fun y => y ∈ Rs) W w
  box : ∀ r ∈ Rs, (w.cell? ⟨r, 0, none⟩).isSome = true ∧ (w.cell? ⟨r, 1, none⟩).isSome = true ∧ w.frozen? ⟨r, 0, none⟩ = false ∧ w.frozen? ⟨r, 1, none⟩ = false
theorem RB.up {Rs : List Nat} {W w w' : World} (h : RB Rs W w) (hu : Up w w') : RB Rs W w' := by
  refine ⟨h.chg.andUp hu, fun r hr => ?_⟩
  obtain ⟨h0, h1, h2, h3⟩ := h.box r hr
  obtain ⟨v0, e0⟩ := Option.isSome_iff_exists.1 h0
  obtain ⟨v1, e1⟩ := Option.isSome_iff_exists.1 h1
  have hlt := World.block_lt_of_cell? w _ e0
  exact ⟨by rw [hu.cell e0]; rfl, by rw [hu.cell e1]; rfl, (hu.frozen (p := ⟨r, 0, none⟩) hlt).trans h2, (hu.frozen (p := ⟨r, 1, none⟩) hlt).trans h3⟩
theorem RB.alloc {Rs : List Nat} {W w : World} (h : RB Rs W w) (o : Obj) : RB Rs W (w.alloc o) := h.up ((Up.refl _).alloc o)
theorem RB.drew {Rs : List Nat} {W w : World} (h : RB Rs W w) : RB Rs W w.drew := h.up (Up.refl _).drew
theorem RB.set {Rs : List Nat} {W w : World} (h : RB Rs W w) {p : Addr} (hp : p.block ∈ Rs) (v : Value) : RB Rs W (w.setCell p v) := by
  refine ⟨h.chg.set (fun _ => hp) v, fun r hr => ?_⟩
  obtain ⟨h0, h1, h2, h3⟩ := h.box r hr
  have key : ∀ q : Addr, (w.cell? q).isSome = true → ((w.setCell p v).cell? q).isSome = true := fun q hq => by
    by_cases e : p = q
    · subst e; rw [World.cell?_setCell_same' _ _ _ hq]; rfl
    · rw [World.cell?_setCell_other _ _ _ _ e]; exact hq
  exact ⟨key _ h0, key _ h1, by simp [h2], by simp [h3]⟩
theorem RB.below {Rs : List Nat} {w0 W w : World} (h : RB Rs W w) (hu : Up w0 W) (hR : ∀ r ∈ Rs, w0.heap.size ≤ r) : Up w0 w :=
  ((Chg.of_up (C := fun y => y ∈ Rs) hu).trans h.chg (fun _ _ h => h)).up (fun x hx hm => by have := hR x hm; omega)
theorem RB.cell {Rs : List Nat} {W w : World} (h : RB Rs W w) {p : Addr} {v : Value} (hc : W.cell? p = some v) (hn : ¬ p.block ∈ Rs) : w.cell? p = some v := h.chg.cell hc hn

theorem OwnR.new1 {α : Type} {e : TypeId} {enc : α → Value} (w : World) (x : α) : OwnR e enc (w.alloc (.cells #[enc x] e)) w.heap.size (.slice (some ⟨w.heap.size, 0, none⟩) 1 1) [x] :=
  OwnR.mk (Nat.le_refl _) (heap_alloc_new _ _) rfl (Nat.le_refl _) (by decide) rfl rfl
theorem OwnR.new2 {α : Type} {e : TypeId} {enc : α → Value} (w : World) (x y : α) : OwnR e enc (w.alloc (.cells #[enc x, enc y] e)) w.heap.size (.slice (some ⟨w.heap.size, 0, none⟩) 2 2) [x, y] :=
  OwnR.mk (Nat.le_refl _) (heap_alloc_new _ _) rfl (Nat.le_refl _) (by decide) rfl rfl
theorem box_chg {C : Nat → Prop} {R : Nat} {w w' : World} (h : (w.cell? ⟨R, 0, none⟩).isSome = true ∧ (w.cell? ⟨R, 1, none⟩).isSome = true ∧ w.frozen? ⟨R, 0, none⟩ = false ∧ w.frozen? ⟨R, 1, none⟩ = false) (hc : Chg C w w') (hn : ¬ C R) :
    (w'.cell? ⟨R, 0, none⟩).isSome = true ∧ (w'.cell? ⟨R, 1, none⟩).isSome = true ∧ w'.frozen? ⟨R, 0, none⟩ = false ∧ w'.frozen? ⟨R, 1, none⟩ = false := by
  obtain ⟨h0, h1, h2, h3⟩ := h
  obtain ⟨v0, e0⟩ := Option.isSome_iff_exists.1 h0
  obtain ⟨v1, e1⟩ := Option.isSome_iff_exists.1 h1
  have hlt := World.block_lt_of_cell? w _ e0
  exact ⟨by rw [hc.cell e0 hn]; rfl, by rw [hc.cell e1 hn]; rfl, (hc.frozen (p := ⟨R, 0, none⟩) hlt hn).trans h2, (hc.frozen (p := ⟨R, 1, none⟩) hlt hn).trans h3⟩
/-- Two cells of a box are written. -/
def set2 (w : World) (R : Nat) (x y : Value) : World := (w.setCell ⟨R, 0, none⟩ x).setCell ⟨R, 1, none⟩ y
theorem set2_c0 {w : World} {R : Nat} {x y u : Value} (g0 : w.cell? ⟨R, 0, none⟩ = some u) : (set2 w R x y).cell? ⟨R, 0, none⟩ = some x := by
  unfold set2
  rw [World.cell?_setCell_other _ _ _ _ (by intro e; cases e)]; exact World.cell?_setCell_same _ _ _ g0
theorem set2_c1 {w : World} {R : Nat} {x y u : Value} (g1 : w.cell? ⟨R, 1, none⟩ = some u) : (set2 w R x y).cell? ⟨R, 1, none⟩ = some y :=
  World.cell?_setCell_same _ _ _ (u := u) (by rw [World.cell?_setCell_other _ _ _ _ (by intro e; cases e)]; exact g1)
theorem set2_chg (w : World) (R : Nat) (x y : Value) : Chg (fun z => z = R) w (set2 w R x y) :=
  ((Chg.refl (fun z => z = R) w).set (C := fun z => z = R) (p := ⟨R, 0, none⟩) (fun _ => rfl) x).set (C := fun z => z = R) (p := ⟨R, 1, none⟩) (fun _ => rfl) y
theorem RB.set2 {Rs : List Nat} {W w : World} (h : RB Rs W w) {R : Nat} (hp : R ∈ Rs) (x y : Value) : RB Rs W (set2 w R x y) := (h.set (p := ⟨R, 0, none⟩) hp x).set (p := ⟨R, 1, none⟩) hp y
theorem wrap64_id (n : Int) (h : -9223372036854775808 ≤ n ∧ n ≤ 9223372036854775807) : wrap64 n = n := by unfold wrap64; omega

/-- A node's place as a value. -/
def pE (b : Nat) : Value := .pointer (some ⟨b, 0, none⟩)
end Go.Proofs.Ytofpakpbbpcalaa

namespace Go.Proofs.Ytofpakpbbpcalaa
open Go.ChangeShapes Go.WideShapes Go.ChangeAt Go.RowKit
set_option linter.unusedVariables false

theorem flatP_length {α : Type} {cs : α → List Value} (hk : ∀ v, (cs v).length = 2) (l : List α) : (l.flatMap cs).length = l.length * 2 := by
  induction l with
  | nil => simp
  | cons v l ih => rw [List.flatMap_cons, List.length_append, ih, hk, List.length_cons, Nat.add_mul]; omega
theorem flatP_get {α : Type} {cs : α → List Value} (hk : ∀ v, (cs v).length = 2) (l : List α) : ∀ (i j : Nat) (hi : i < l.length), j < 2 → (l.flatMap cs)[i * 2 + j]? = (cs l[i])[j]? := by
  induction l with
  | nil => intro i j hi; simp at hi
  | cons v l ih =>
    intro i j hi hj
    rw [List.flatMap_cons]
    cases i with
    | zero => rw [Nat.zero_mul, Nat.zero_add, List.getElem?_append_left (by rw [hk]; exact hj)]; rfl
    | succ i =>
      rw [show (i + 1) * 2 + j = 2 + (i * 2 + j) by omega, List.getElem?_append_right (by rw [hk]; omega), hk, Nat.add_sub_cancel_left, ih i j (by simpa using hi) hj]; rfl
theorem flatP_take {α : Type} {cs : α → List Value} (hk : ∀ v, (cs v).length = 2) : ∀ (l : List α) (m : Nat), (l.take m).flatMap cs = (l.flatMap cs).take (m * 2)
  | [], m => by simp
  | x :: l, 0 => by simp
  | x :: l, m + 1 => by
    rw [List.take_succ_cons, List.flatMap_cons, List.flatMap_cons, flatP_take hk l m, List.take_append, hk]
    rw [show (m + 1) * 2 - 2 = m * 2 by omega, List.take_of_length_le (l := cs x) (by rw [hk]; omega)]
theorem flatP_drop {α : Type} {cs : α → List Value} (hk : ∀ v, (cs v).length = 2) : ∀ (l : List α) (m : Nat), (l.drop m).flatMap cs = (l.flatMap cs).drop (m * 2)
  | [], m => by simp
  | x :: l, 0 => by simp
  | x :: l, m + 1 => by
    rw [List.drop_succ_cons, List.flatMap_cons, flatP_drop hk l m, List.drop_append, hk]
    rw [show (m + 1) * 2 - 2 = m * 2 by omega, show (cs x).drop ((m + 1) * 2) = [] from List.drop_eq_nil_of_le (by rw [hk]; omega), List.nil_append]

/-- A type of two cells: its slices, how its things stand as cells, its zero. -/
structure ElemP {α : Type} (P : Program) (t e : TypeId) (cs : α → List Value) (z z0 z1 : Value) (bytes : Nat) : Prop where
  ht : P.underlying t = some (.slice e)
  hi : (P.info? e).map (fun i => (i.zero, i.size, i.bytes)) = some (some z, 2, bytes)
  hb : bytes ≤ 64
  two : ∀ x, (cs x).length = 2
  one : ∀ x, ∀ u ∈ cs x, u.oneCell' = true
  zc : z.cells = #[z0, z1]
  zo0 : z0.oneCell' = true
  zo1 : z1.oneCell' = true
theorem ElemP.size {α : Type} {P : Program} {t e : TypeId} {cs : α → List Value} {z z0 z1 : Value} {bytes : Nat} (T : ElemP P t e cs z z0 z1 bytes) : (P.info? e).map (·.size) = some 2 := by
  obtain ⟨i0, hi, _, h1, _⟩ := info_parts T.hi
  rw [hi]; simp [h1]
theorem ElemP.sizeOf {α : Type} {P : Program} {t e : TypeId} {cs : α → List Value} {z z0 z1 : Value} {bytes : Nat} (T : ElemP P t e cs z z0 z1 bytes) (w : World) : (Go.sizeOf e).run P w = .ok 2 w := by
  obtain ⟨i0, hi, _, h1, _⟩ := info_parts T.hi
  simp [Go.sizeOf, typeInfo, hi, h1]
theorem ElemP.zero {α : Type} {P : Program} {t e : TypeId} {cs : α → List Value} {z z0 z1 : Value} {bytes : Nat} (T : ElemP P t e cs z z0 z1 bytes) (w : World) : (zeroValue e).run P w = .ok z w := by
  obtain ⟨i0, hi, h0, _, _⟩ := info_parts T.hi
  simp [zeroValue, typeInfo, hi, h0]

/-- A row that can be read; its block is none of X. -/
def RdP {α : Type} (cs : α → List Value) (X : Nat → Prop) (w : World) (v : Value) (l : List α) : Prop :=
  ∃ a cap, v = .slice a l.length cap ∧ l.length ≤ cap ∧ cap ≤ maxLen ∧ (l = [] ∨ ∃ g off, a = some ⟨g, off, none⟩ ∧ (¬ X g ∧ g < w.heap.size) ∧ ∀ j u, (l.flatMap cs)[j]? = some u → w.cell? ⟨g, off + j, none⟩ = some u)
theorem RdP.chg {α : Type} {cs : α → List Value} {X : Nat → Prop} {w w' : World} {v : Value} {l : List α} (h : RdP cs X w v l) (hc : Chg X w w') : RdP cs X w' v l := by
  obtain ⟨a, cap, h1, h2, h3, h4⟩ := h
  exact ⟨a, cap, h1, h2, h3, h4.imp id (fun ⟨g, off, h5, hx, h6⟩ => ⟨g, off, h5, ⟨hx.1, Nat.lt_of_lt_of_le hx.2 hc.size⟩, fun j u hj => hc.cell (h6 j u hj) hx.1⟩)⟩
theorem RdP.up {α : Type} {cs : α → List Value} {X : Nat → Prop} {w w' : World} {v : Value} {l : List α} (h : RdP cs X w v l) (hu : Up w w') : RdP cs X w' v l := h.chg (Chg.of_up hu)
theorem RdP.mono {α : Type} {cs : α → List Value} {X Y : Nat → Prop} {w : World} {v : Value} {l : List α} (h : RdP cs X w v l) (hy : ∀ y, y < w.heap.size → Y y → X y) : RdP cs Y w v l := by
  obtain ⟨a, cap, h1, h2, h3, h4⟩ := h
  exact ⟨a, cap, h1, h2, h3, h4.imp id (fun ⟨g, off, h5, hx, h6⟩ => ⟨g, off, h5, ⟨fun y => hx.1 (hy g hx.2 y), hx.2⟩, h6⟩)⟩
theorem RdP.nil {α : Type} (cs : α → List Value) (X : Nat → Prop) (w : World) : RdP cs X w (.slice none 0 0) [] := ⟨none, 0, rfl, Nat.le_refl _, Nat.zero_le _, .inl rfl⟩
theorem RdP.empty {α : Type} {cs : α → List Value} {X : Nat → Prop} {w w' : World} {v : Value} (h : RdP cs X w v []) : RdP cs X w' v [] := by
  obtain ⟨a, cap, h1, h2, h3, _⟩ := h
  exact ⟨a, cap, h1, h2, h3, .inl rfl⟩
/-- One of its things. -/
theorem RdP.get {α : Type} {cs : α → List Value} {X : Nat → Prop} {w : World} {a : Option Addr} {n cap : Nat} {l : List α} (h : RdP cs X w (.slice a n cap) l) {i : Nat} (hi : i < l.length) (hk : ∀ v, (cs v).length = 2 := by intro _; rfl) :
    ∃ g off, a = some ⟨g, off, none⟩ ∧ ∀ j u, (cs l[i])[j]? = some u → w.cell? ⟨g, off + (i * 2 + j), none⟩ = some u := by
  obtain ⟨a', cap', h1, h2, h3, h4⟩ := h
  cases h1
  rcases h4 with rfl | ⟨g, off, h5, hx, h6⟩
  · exact absurd hi (Nat.not_lt_zero _)
  · refine ⟨g, off, h5, fun j u hj => h6 _ u ?_⟩
    have hj2 : j < 2 := by
      rcases Nat.lt_or_ge j 2 with h | h
      · exact h
      · rw [List.getElem?_eq_none (by rw [hk]; exact h)] at hj; cases hj
    rw [flatP_get hk l i j hi hj2]; exact hj
/-- Its beginning; what is behind it. -/
theorem RdP.take {α : Type} {cs : α → List Value} {X : Nat → Prop} {w : World} {a : Option Addr} {n cap : Nat} {l : List α} (h : RdP cs X w (.slice a n cap) l) {m : Nat} (hm : m ≤ n) (hk : ∀ v, (cs v).length = 2 := by intro _; rfl) : RdP cs X w (.slice a m cap) (l.take m) := by
  obtain ⟨a', cap', h1, h2, h3, h4⟩ := h
  cases h1
  have hl : (l.take m).length = m := by rw [List.length_take]; omega
  refine ⟨a, cap, by rw [hl], by omega, h3, ?_⟩
  rcases h4 with rfl | ⟨g, off, h5, hx, h6⟩
  · exact .inl (by simp)
  · refine .inr ⟨g, off, h5, hx, fun j u hj => h6 j u ?_⟩
    rw [flatP_take hk, List.getElem?_take] at hj
    split at hj
    · exact hj
    · cases hj
theorem RdP.drop {α : Type} {cs : α → List Value} {X : Nat → Prop} {w : World} {a : Option Addr} {n cap : Nat} {l : List α} (h : RdP cs X w (.slice a n cap) l) {m : Nat} (hm : m ≤ n) (hk : ∀ v, (cs v).length = 2 := by intro _; rfl) :
    RdP cs X w (.slice (if cap = m then a else a.map (·.add (m * 2))) (n - m) (cap - m)) (l.drop m) := by
  obtain ⟨a', cap', h1, h2, h3, h4⟩ := h
  cases h1
  have hl : (l.drop m).length = l.length - m := by rw [List.length_drop]
  refine ⟨_, cap - m, by rw [hl], by omega, by omega, ?_⟩
  rcases h4 with rfl | ⟨g, off, h5, hx, h6⟩
  · exact .inl (by simp)
  · by_cases he : l.drop m = []
    · exact .inl he
    · have : m < l.length := by
        rcases Nat.lt_or_ge m l.length with h | h
        · exact h
        · exact absurd (List.drop_eq_nil_of_le h) he
      refine .inr ⟨g, off + m * 2, ?_, hx, fun j u hj => ?_⟩
      · rw [if_neg (by omega), h5]; simp [Addr.add]
      · rw [flatP_drop hk, List.getElem?_drop] at hj
        rw [Nat.add_assoc]
        exact h6 _ u hj
theorem RdP.sliceN {α : Type} {cs : α → List Value} {X : Nat → Prop} {w : World} {v : Value} {l : List α} (h : RdP cs X w v l) : ∃ a n cap, v = .slice a n cap ∧ Hid (n = l.length) ∧ Hid (n ≤ cap) := by
  obtain ⟨a, c, h1, h2, _⟩ := h
  exact ⟨a, _, c, h1, rfl, h2⟩

/-- A row that a call owns. -/
def OwnP {α : Type} (e : TypeId) (cs : α → List Value) (w : World) (base : Nat) (v : Value) (l : List α) : Prop := w.ownsRow base e 2 v l.length (l.flatMap cs)
theorem OwnP.nil {α : Type} (e : TypeId) (cs : α → List Value) (w : World) (base : Nat) : OwnP e cs w base (.slice none 0 0) [] := World.ownsRow_nil _ _ _ _
theorem OwnP.lt {α : Type} {e : TypeId} {cs : α → List Value} {w : World} {base : Nat} {v : Value} {l : List α} (h : OwnP e cs w base v l) : ∀ g, v.ownBlock = some g → base ≤ g ∧ g < w.heap.size := World.ownsRow.lt h
theorem OwnP.chg {α : Type} {e : TypeId} {cs : α → List Value} {X : Nat → Prop} {w w' : World} {base : Nat} {v : Value} {l : List α} (h : OwnP e cs w base v l) (hc : Chg X w w') (hx : ∀ g, v.ownBlock = some g → ¬ X g) : OwnP e cs w' base v l := by
  refine ⟨h.1, ?_⟩
  have h0 := h
  rcases h.2 with h1 | ⟨g, cap, cur, hv, hb, hg, hr⟩
  · exact .inl h1
  · exact .inr ⟨g, cap, cur, hv, hb, (hc.2 g (h0.lt g (by rw [hv]; rfl)).2 (hx g (by rw [hv]; rfl))).trans hg, hr⟩
theorem OwnP.up {α : Type} {e : TypeId} {cs : α → List Value} {w w' : World} {base : Nat} {v : Value} {l : List α} (h : OwnP e cs w base v l) (hu : Up w w') : OwnP e cs w' base v l := h.chg (Chg.of_up (C := fun _ => False) hu) (fun _ _ h => h)
theorem OwnP.base {α : Type} {e : TypeId} {cs : α → List Value} {w : World} {base base' : Nat} {v : Value} {l : List α} (h : OwnP e cs w base v l) (hb : base' ≤ base) : OwnP e cs w base' v l := by
  refine ⟨h.1, ?_⟩
  rcases h.2 with h1 | ⟨g, cap, cur, hv, hb', hg, hr⟩
  · exact .inl h1
  · exact .inr ⟨g, cap, cur, hv, by omega, hg, hr⟩
theorem OwnP.rd {α : Type} {e : TypeId} {cs : α → List Value} {w : World} {base : Nat} {v : Value} {l : List α} {X : Nat → Prop} (h : OwnP e cs w base v l) (hx : ∀ g, v.ownBlock = some g → ¬ X g) (hk : ∀ v, (cs v).length = 2 := by intro _; rfl) : RdP cs X w v l := by
  have h0 := h
  rcases h.2 with ⟨rfl, hn⟩ | ⟨g, cap, cur, rfl, hb, hg, hc, hm, hs, ht⟩
  · have : l = [] := List.length_eq_zero_iff.1 (by simpa using hn)
    subst this
    exact RdP.nil _ _ _
  · refine ⟨some ⟨g, 0, none⟩, cap, rfl, hc, hm, .inr ⟨g, 0, rfl, ⟨hx g rfl, (h0.lt g rfl).2⟩, fun i u hi => ?_⟩⟩
    have hlt : i < l.length * 2 := by
      rw [← flatP_length hk]
      rcases Nat.lt_or_ge i (l.flatMap cs).length with h | h
      · omega
      · rw [List.getElem?_eq_none h] at hi; cases hi
    rw [Nat.zero_add, World.ownsRow.cellAt h0 i hlt]
    exact hi
theorem OwnP.slice {α : Type} {e : TypeId} {cs : α → List Value} {w : World} {base : Nat} {v : Value} {l : List α} (h : OwnP e cs w base v l) : ∃ a cap, v = .slice a l.length cap ∧ l.length ≤ cap := by
  rcases h.2 with ⟨rfl, hn⟩ | ⟨g, cap, cur, rfl, hb, hg, hc, hm, hs, ht⟩
  · exact ⟨none, 0, by rw [hn], by omega⟩
  · exact ⟨_, cap, rfl, hc⟩
theorem OwnP.sliceN {α : Type} {e : TypeId} {cs : α → List Value} {w : World} {base : Nat} {v : Value} {l : List α} (h : OwnP e cs w base v l) : ∃ a n cap, v = .slice a n cap ∧ Hid (n = l.length) ∧ Hid (n ≤ cap) := by
  obtain ⟨a, c, h1, h2⟩ := h.slice
  exact ⟨a, _, c, h1, rfl, h2⟩
/-- Its block. -/
theorem OwnP.block {α : Type} {e : TypeId} {cs : α → List Value} {w : World} {base : Nat} {v : Value} {l : List α} (h : OwnP e cs w base v l) (hl : l ≠ []) : ∃ g cap cur, v = .slice (some ⟨g, 0, none⟩) l.length cap ∧ base ≤ g ∧ w.heap[g]? = some (.cells cur e (0, 0)) ∧ l.length ≤ cap ∧ cap ≤ maxLen ∧ cur.size = cap * 2 ∧ cur.toList.take (l.length * 2) = l.flatMap cs := by
  rcases h.2 with ⟨rfl, hn⟩ | ⟨g, cap, cur, rfl, hb, hg, h1, h2, h3, h4⟩
  · exact absurd (List.length_eq_zero_iff.1 hn) hl
  · exact ⟨g, cap, cur, rfl, hb, hg, h1, h2, h3, h4⟩
theorem OwnP.mk {α : Type} {e : TypeId} {cs : α → List Value} {w : World} {base g n cap : Nat} {cur : Array Value} {l : List α} (hk : ∀ v, (cs v).length = 2) (hbg : base ≤ g) (hg : w.heap[g]? = some (.cells cur e (0, 0))) (hl : l.length = n) (h1 : n ≤ cap) (h2 : cap ≤ maxLen) (h3 : cur.size = cap * 2) (h4 : cur.toList.take (n * 2) = l.flatMap cs) : OwnP e cs w base (.slice (some ⟨g, 0, none⟩) n cap) l := by
  subst hl
  exact ⟨flatP_length hk l, .inr ⟨g, cap, cur, rfl, hbg, hg, h1, h2, h3, h4⟩⟩
theorem OwnP.emptyRow {α : Type} {e : TypeId} {cs : α → List Value} (w : World) : OwnP e cs (w.alloc (.cells #[] e)) w.heap.size (.slice (some ⟨w.heap.size, 0, none⟩) 0 0) [] :=
  ⟨by simp, .inr ⟨w.heap.size, 0, #[], rfl, Nat.le_refl _, heap_alloc_new _ _, Nat.le_refl _, Nat.zero_le _, by simp, by simp⟩⟩

/-- append of a row to a row that a call owns. -/
theorem run_append_rdP {α : Type} {P : Program} {t e : TypeId} {cs : α → List Value} {z z0 z1 : Value} {bytes : Nat} (T : ElemP P t e cs z z0 z1 bytes) {X : Nat → Prop} (w : World) (base : Nat) (v u : Value) (l m : List α) (ty : TypeId) (hown : OwnP e cs w base v l) (hr : RdP cs X w u m) (hlen : l.length + m.length ≤ 10000000) (hbase : base ≤ w.heap.size) :
    ∃ v' w', (Builtin.append_ #[t, t] ty #[v, u]).run P w = .ok v' w' ∧ OwnP e cs w' base v' (l ++ m) ∧ w.grownBy w' v.ownBlock ∧ (v'.ownBlock = v.ownBlock ∨ v'.ownBlock = some w.heap.size) := by
  obtain ⟨i0, hi, hz0, hz1, hz2⟩ := info_parts T.hi
  obtain ⟨a, cap, rfl, h2, h3, h4⟩ := hr
  have hb := T.hb
  by_cases hm : m = []
  · subst hm
    obtain ⟨b, c, rfl, hc⟩ := hown.slice
    have hs : Src P i0.size t (.slice a 0 cap) 0 [] w := by
      refine ⟨.inl ⟨_, T.ht⟩, fun w' => by simp [Builtin.lenOf], ?_, ?_, by simp, by simp⟩
      · cases a with
        | none => exact run_firstCells_none w _ _ _ _
        | some a => exact run_firstCells_some w _ 0 a _ _ [] (by simp) (by simp)
      · cases a with
        | none => exact run_firstCells_none _ _ _ _ _
        | some a => exact run_firstCells_some _ _ 0 a _ _ [] (by simp) (by simp)
    exact ⟨_, w, run_append_nothing w t t ty e i0 T.ht hi b l.length c hc _ hs, by simpa using hown, ⟨rfl, rfl, rfl, Nat.le_refl _, fun _ _ _ => rfl⟩, .inl rfl⟩
  · rcases h4 with h4 | ⟨g, off, rfl, hx, h6⟩
    · exact absurd h4 hm
    · obtain ⟨v', w', h5, h7, h8, _, h9⟩ := run_append_own_at (P := P) w base t ty e i0 z 2 bytes T.ht hi hz0 hz1 hz2 (by rw [T.zc]; rfl) (by decide) v l.length (l.flatMap cs) hown ⟨g, off, none⟩ m.length cap (m.flatMap cs) (flatP_length T.two m) (fun j u hj => by rw [Addr.add_lit]; exact h6 j u hj) (by intro u hu; obtain ⟨y, _, hy⟩ := List.mem_flatMap.1 hu; exact T.one y u hy) (by unfold maxLen; omega) (by
        have : (l.length + m.length) * bytes ≤ 10000000 * 64 := Nat.mul_le_mul hlen hb
        omega) hbase
      refine ⟨v', w', h5, ?_, h8, h9⟩
      unfold OwnP
      rw [List.length_append, List.flatMap_append]
      exact h7
theorem append_rdP {α : Type} {P : Program} {t e : TypeId} {cs : α → List Value} {z z0 z1 : Value} {bytes : Nat} (T : ElemP P t e cs z z0 z1 bytes) {X : Nat → Prop} {w : World} {ops : Array Oper} {rest : List Oper} {o : Oper} {a : Act} {Q : Exit → Act → World → Prop} (hgd : o.guard = none) (s x : Operand)
    (ho : o.op = .call { callee := .builtin .append, args := #[s, x], argTypes := #[t, t] }) (base : Nat) (v u : Value) (l m : List α) (hs : a.eval s = v) (hx : a.eval x = u) (hown : OwnP e cs w base v l) (hr : RdP cs X w u m) (hlen : l.length + m.length ≤ 10000000) (hbase : base ≤ w.heap.size)
    (h : ∀ v' w', OwnP e cs w' base v' (l ++ m) → w.grownBy w' v.ownBlock → (v'.ownBlock = v.ownBlock ∨ v'.ownBlock = some w.heap.size) → wpList P ops Q rest (a.put o.dst v') w') : wpList P ops Q (o :: rest) a w := by
  refine wpList_plain hgd fun K hK => ?_
  obtain ⟨v', w', hr, h2, h3, h5⟩ := run_append_rdP T w base v u l m o.type hown hr hlen hbase
  unfold Oper.wp execOp
  simp only [ho, resolve, invoke, builtin, Sem.run_bind, Sem.run_pure, Result.andThen_ok, List.map_toArray, List.map_cons, List.map_nil, hs, hx, hr]
  exact hK _ _ (h v' w' h2 h3 h5)

theorem run_copy_row2 {P : Program} (w : World) (dT ty elem : TypeId) (g o dLen dCap : Nat) (a : Addr) (sLen sCap : Nat) (cur : Array Value) (t : TypeId) (cs : List Value)
    (hu : P.underlying dT = some (.slice elem)) (hs : (P.info? elem).map (·.size) = some 2)
    (hg : w.heap[g]? = some (.cells cur t (0, 0))) (hn : cs.length = Nat.min sLen dLen * 2)
    (hsrc : ∀ j v, cs[j]? = some v → w.cell? (a.add j) = some v) (hfit : o + cs.length ≤ cur.size) (h1 : ∀ v ∈ cs, v.oneCell' = true) :
    (Builtin.copy_ #[dT, dT] ty #[.slice (some ⟨g, o, none⟩) dLen dCap, .slice (some a) sLen sCap]).run P w =
      .ok (goInt (Nat.min sLen dLen)) (w.setRow g (cur.toList.take o ++ cs ++ cur.toList.drop (o + cs.length)).toArray) := by
  have hl := run_loadCells_list (P := P) w a cs hsrc
  have hst := run_storeCells_at P g o t cs 0 cur w hg (by simpa using hfit) h1
  cases hq : P.info? elem with
  | none => simp [hq] at hs
  | some i =>
    have hi : i.size = 2 := by simpa [hq] using hs
    simp [Builtin.copy_, run_underlying hu, Builtin.lenOf, Builtin.firstCells, sizeOf, typeInfo, hq, hi, ← hn, hl, hst]
theorem run_append_row2 {P : Program} (w : World) (t ty e : TypeId) (g p cap : Nat) (a : Addr) (m c : Nat) (cur : Array Value) (te : TypeId) (news : List Value)
    (ht : P.underlying t = some (.slice e)) (hs : (P.info? e).map (·.size) = some 2) (hg : w.heap[g]? = some (.cells cur te (0, 0))) (hn : news.length = m * 2)
    (hsrc : ∀ j v, news[j]? = some v → w.cell? (a.add j) = some v) (h1 : ∀ v ∈ news, v.oneCell' = true) (hroom : p + m ≤ cap) (hfit : (p + m) * 2 ≤ cur.size) :
    (Builtin.append_ #[t, t] ty #[.slice (some ⟨g, 0, none⟩) p cap, .slice (some a) m c]).run P w = .ok (.slice (some ⟨g, 0, none⟩) (p + m) cap) (w.setRow g (cur.toList.take (p * 2) ++ news ++ cur.toList.drop (p * 2 + news.length)).toArray) := by
  have hst := run_storeCells_at P g (p * 2) te news 0 cur w hg (by rw [hn]; omega) h1
  cases hq : P.info? e with
  | none => simp [hq] at hs
  | some i =>
    have hi : i.size = 2 := by simpa [hq] using hs
    have hfc := run_firstCells_some (P := P) w 2 m a m c news (by omega) hsrc
    simp [Builtin.append_, run_underlying ht, sizeOf, typeInfo, hq, hi, Builtin.lenOf, hroom, hfc, Addr.add_lit, hst]

/-- clear of one thing. -/
theorem run_clear_two {P : Program} (w : World) (t e ty : TypeId) (z z0 z1 : Value) (ht : P.underlying t = some (.slice e)) (hv : ∀ w, (zeroValue e).run P w = .ok z w) (hz : z.cells = #[z0, z1]) (h0 : z0.oneCell' = true) (h1 : z1.oneCell' = true) (b o c : Nat)
    (hc : ∀ j, j < 2 → (w.cell? ⟨b, o + j, none⟩).isSome = true) (hf : ∀ j, j < 2 → w.frozen? ⟨b, o + j, none⟩ = false) :
    (Builtin.clear_ #[t] ty #[.slice (some ⟨b, o, none⟩) 1 c]).run P w = .ok (.tuple #[]) ((w.setCell ⟨b, o, none⟩ z0).setCell ⟨b, o + 1, none⟩ z1) := by
  have hzc : (Builtin.zeroCells z.cells 1).toList = [z0, z1] := by rw [hz]; simp [Builtin.zeroCells]; rfl
  have hst := run_storeCells_cells (P := P) b o [z0, z1] 0 w (by simpa using hc) (by simpa using hf) (by
    intro v hv'
    rcases List.mem_cons.1 hv' with rfl | hv'
    · exact h0
    · obtain rfl := List.mem_singleton.1 hv'; exact h1)
  simp only [Nat.add_zero] at hst
  have hst' : (w.setCells b o [z0, z1]) = (w.setCell ⟨b, o, none⟩ z0).setCell ⟨b, o + 1, none⟩ z1 := rfl
  rw [hst'] at hst
  simp [Builtin.clear_, run_underlying ht, hv, hzc, hst]

end Go.Proofs.Ytofpakpbbpcalaa

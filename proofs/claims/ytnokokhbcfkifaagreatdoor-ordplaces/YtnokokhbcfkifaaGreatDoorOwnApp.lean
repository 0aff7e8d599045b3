/-
  Rows of values that a call owns; append of whatever slice to a row that it owns. No function of the program.
  Rows held against one another (rialtohelp.Vals).
-/
import Derived.Test.YtnokokhbcfkifaaGreatDoorBytes
import Derived.Test.YtnokokhbcfkifaaGreatDoorHookCloneG
import Derived.Test.YtnokokhbcfkifaaGreatDoorRefRowsAll
namespace Go.Proofs.YtnokokhbcfkifaaGreatDoor
open Go.ChangeShapes Go.WideShapes Go.ChangeAt Go.RowKit

/-- A row of values that a call owns. -/
def OwnZ (w : World) (base : Nat) (v : Value) (l : List VT) : Prop := w.ownsRow base 77 4 v l.length (flat l)
theorem OwnZ.nil (w : World) (base : Nat) : OwnZ w base (.slice none 0 0) [] := World.ownsRow_nil _ _ _ _
theorem OwnZ.alloc {w : World} {base : Nat} {v : Value} {l : List VT} (h : OwnZ w base v l) (o : Obj) : OwnZ (w.alloc o) base v l := World.ownsRow.alloc h o
theorem OwnZ.lt {w : World} {base : Nat} {v : Value} {l : List VT} (h : OwnZ w base v l) : ∀ k, v.ownBlock = some k → base ≤ k ∧ k < w.heap.size := World.ownsRow.lt h
theorem OwnZ.up {w w' : World} {base : Nat} {v : Value} {l : List VT} (h : OwnZ w base v l) (hu : Up w w') : OwnZ w' base v l := by
  refine ⟨h.1, ?_⟩
  rcases h.2 with h0 | ⟨g, cap, cur, hv, hb, hg, hr⟩
  · exact .inl h0
  · exact .inr ⟨g, cap, cur, hv, hb, hu.heap hg, hr⟩
theorem append_value {w : World} {ops : Array Oper} {rest : List Oper} {o : Oper} {a : Act} {Q : Exit → Act → World → Prop} (hgd : o.guard = none) (s x : Operand)
    (ho : o.op = .call { callee := .builtin .append, args := #[s, x], argTypes := #[37, 37] }) (base : Nat) (v : Value) (l : List VT) (hs : a.eval s = v) (hown : OwnZ w base v l)
    (ad : Addr) (m c : Nat) (new : List VT) (hx : a.eval x = .slice (some ad) m c) (hm : new.length = m) (hnews : ∀ j u, (flat new)[j]? = some u → w.cell? (ad.add j) = some u)
    (hlen : l.length + m ≤ 1000000000) (hbase : base ≤ w.heap.size)
    (h : ∀ v' w', OwnZ w' base v' (l ++ new) → w.grownBy w' v.ownBlock → wpList Tryz.prog ops Q rest (a.put o.dst v') w') : wpList Tryz.prog ops Q (o :: rest) a w := by
  obtain ⟨i0, hi, hz0, hz1, hz2⟩ := info_parts info_value
  refine wpList_append_own w hgd s x 37 ho base 77 i0 (.agg #[.int .i64 0, .int .i64 0, .string ⟨#[]⟩, .float .f64 0]) 4 40 Tryz.underlying37 hi hz0 hz1 hz2 rfl (by decide) v l.length (flat l) hs hown ad m c (flat new) hx
    (by rw [flat_length, hm]) hnews (flat_one new) (by unfold maxLen; omega) (by omega) hbase fun v' w' h1 h2 _ => h v' w' ?_ h2
  unfold OwnZ
  rw [List.length_append, flat_append, hm]
  exact h1
theorem value_new {w : World} {t : TypeId} (v : VT) : ∀ j u, (flat [v])[j]? = some u → (w.alloc (.cells #[.int .i64 v.1, .int .i64 v.2.1, .string v.2.2.1, .float .f64 v.2.2.2] t)).cell? ((⟨w.heap.size, 0, none⟩ : Addr).add j) = some u := by
  intro j u hj
  match j with
  | 0 => simp [flat, cellsT] at hj; subst hj; simp [Addr.add]
  | 1 => simp [flat, cellsT] at hj; subst hj; simp [Addr.add]
  | 2 => simp [flat, cellsT] at hj; subst hj; simp [Addr.add]
  | 3 => simp [flat, cellsT] at hj; subst hj; simp [Addr.add]
  | j + 4 => simp [flat, cellsT] at hj
theorem below_appendV {w0 w w' : World} {base : Nat} {v : Value} {l : List VT} {o : Obj} (hb : Below base w0 w) (hle : base ≤ w.heap.size) (hown : OwnZ w base v l) (hg : (w.alloc o).grownBy w' v.ownBlock) : Below base w0 w' := by
  have h1 : Below base w0 (w.alloc o) := Below.alloc hb hle o
  exact Below.grown h1 hg (Nat.le_trans hle (by simp)) (fun k hk => (hown.lt k hk).1)
theorem fits_add {l : List VT} {x : VT} (hl : ∀ i, Fits (l.getD i zeroT)) (hx : Fits x) (i : Nat) : Fits ((l ++ [x]).getD i zeroT) := by
  by_cases h : i < l.length
  · have := hl i
    rw [List.getD_eq_getElem?_getD, List.getElem?_append_left h, ← List.getD_eq_getElem?_getD]
    exact this
  · rw [List.getD_eq_getElem?_getD, List.getElem?_append_right (by omega)]
    by_cases h2 : i - l.length = 0
    · rw [h2]; exact hx
    · rw [List.getElem?_eq_none (by simp; omega)]; exact fits_zero

theorem run_append_nothing {P : Program} (w : World) (base : Nat) (t ty e : TypeId) (i : TypeInfo) (size : Nat) (ht : P.underlying t = some (.slice e)) (hi : P.info? e = some i) (c : Nat)
    (v : Value) (n : Nat) (xs : List Value) (hown : w.ownsRow base e size v n xs) : (Builtin.append_ #[t, t] ty #[v, .slice none 0 c]).run P w = .ok v w := by
  rcases hown.2 with ⟨rfl, rfl⟩ | ⟨g, cap, cur, rfl, _, _, hnc, _⟩
  · simp [Builtin.append_, run_underlying ht, sizeOf, typeInfo, hi, Builtin.lenOf, Builtin.firstCells]
  · simp [Builtin.append_, run_underlying ht, sizeOf, typeInfo, hi, Builtin.lenOf, Builtin.firstCells, hnc, storeCells]

theorem append_bytes_any {w : World} {ops : Array Oper} {rest : List Oper} {o : Oper} {a : Act} {Q : Exit → Act → World → Prop} (hgd : o.guard = none) (s x : Operand)
    (ho : o.op = .call { callee := .builtin .append, args := #[s, x], argTypes := #[81, 81] }) (base : Nat) (v : Value) (l : List UInt8) (hs : a.eval s = v) (hown : OwnY w base v l)
    (ao : Option Addr) (m c : Nat) (new : List UInt8) (hx : a.eval x = .slice ao m c) (hb : Bts w ao m new) (hlen : l.length + m ≤ 1000000000000) (hbase : base ≤ w.heap.size)
    (h : ∀ v' w', OwnY w' base v' (l ++ new) → w.grownBy w' v.ownBlock → wpList Tryz.prog ops Q rest (a.put o.dst v') w') : wpList Tryz.prog ops Q (o :: rest) a w := by
  cases ao with
  | some ad =>
    refine append_bytes hgd s x ho base v l hs hown ad m c new hx hb.1 ?_ hlen hbase h
    intro j u hj
    rw [bcells_get] at hj
    have hlt : j < new.length := by
      by_cases q : j < new.length
      · exact q
      · rw [List.getElem?_eq_none (by omega)] at hj; cases hj
    rcases hb.2 with h0 | ⟨b, off, e, hc⟩
    · have := hb.1; omega
    · obtain rfl := Option.some.inj e
      rw [Addr.add_lit, hc j (by rw [← hb.1]; exact hlt), List.getD_eq_getElem?_getD]
      rw [List.getElem?_eq_getElem hlt] at hj ⊢
      exact hj
  | none =>
    obtain rfl : m = 0 := by
      rcases hb.2 with h0 | ⟨b, off, e, _⟩
      · exact h0
      · cases e
    obtain rfl : new = [] := List.length_eq_zero_iff.1 hb.1
    obtain ⟨i0, hi, _, _, _⟩ := info_parts info_byte
    refine wpList_plain hgd fun K hK' => ?_
    have hrun := run_append_nothing (P := Tryz.prog) w base 81 o.type 5 i0 1 Tryz.underlying81 hi c v l.length (bcells l) hown
    unfold Oper.wp
    simp [execOp, ho, resolve, invoke, builtin, hs, hx, hrun, Result.andThen]
    exact hK' _ _ (h v w (by rw [List.append_nil]; exact hown) (World.grownBy.refl _ _))

theorem append_vals_any {w : World} {ops : Array Oper} {rest : List Oper} {o : Oper} {a : Act} {Q : Exit → Act → World → Prop} (hgd : o.guard = none) (s x : Operand)
    (ho : o.op = .call { callee := .builtin .append, args := #[s, x], argTypes := #[37, 37] }) (base : Nat) (v : Value) (l : List VT) (hs : a.eval s = v) (hown : OwnZ w base v l)
    (ao : Option Addr) (m c : Nat) (new : List VT) (hx : a.eval x = .slice ao m c) (hb : Vals w ao m new) (hlen : l.length + m ≤ 1000000000) (hbase : base ≤ w.heap.size)
    (h : ∀ v' w', OwnZ w' base v' (l ++ new) → w.grownBy w' v.ownBlock → wpList Tryz.prog ops Q rest (a.put o.dst v') w') : wpList Tryz.prog ops Q (o :: rest) a w := by
  cases ao with
  | some ad =>
    refine append_value hgd s x ho base v l hs hown ad m c new hx hb.1 ?_ hlen hbase h
    rcases hb.2.2 with h0 | ⟨b, off, e, hc⟩
    · obtain rfl : new = [] := List.length_eq_zero_iff.1 (by rw [hb.1]; exact h0)
      intro j u hj
      simp [flat] at hj
    · obtain rfl := Option.some.inj e
      exact row_news (fun i hi => hc i (by rw [← hb.1]; exact hi))
  | none =>
    obtain rfl : m = 0 := by
      rcases hb.2.2 with h0 | ⟨b, off, e, _⟩
      · exact h0
      · cases e
    obtain rfl : new = [] := List.length_eq_zero_iff.1 hb.1
    obtain ⟨i0, hi, _, _, _⟩ := info_parts info_value
    refine wpList_plain hgd fun K hK' => ?_
    have hrun := run_append_nothing (P := Tryz.prog) w base 37 o.type 77 i0 4 Tryz.underlying37 hi c v l.length (flat l) hown
    unfold Oper.wp
    simp [execOp, ho, resolve, invoke, builtin, hs, hx, hrun, Result.andThen]
    exact hK' _ _ (h v w (by rw [List.append_nil]; exact hown) (World.grownBy.refl _ _))

/-- Nothing turns below a row's base when it is appended to. -/
theorem below_any {w0 w w' : World} {base : Nat} {v : Value} {l : List UInt8} (hb : Below base w0 w) (hle : base ≤ w.heap.size) (hown : OwnY w base v l) (hg : w.grownBy w' v.ownBlock) : Below base w0 w' :=
  Below.grown hb hg hle (fun k hk => (hown.lt k hk).1)
theorem below_anyV {w0 w w' : World} {base : Nat} {v : Value} {l : List VT} (hb : Below base w0 w) (hle : base ≤ w.heap.size) (hown : OwnZ w base v l) (hg : w.grownBy w' v.ownBlock) : Below base w0 w' :=
  Below.grown hb hg hle (fun k hk => (hown.lt k hk).1)

end Go.Proofs.YtnokokhbcfkifaaGreatDoor

namespace Go.Proofs.YtnokokhbcfkifaaGreatDoor
open Go.ChangeShapes Go.WideShapes Go.ChangeAt Go.RowKit
attribute [local go_sem ↓] Go.wp_at_zero Go.wp_at_succ

theorem rowsV_self (l : List VT) : rowsV l l = 0 := by
  rw [rowsV_alike l l (fun j _ _ => cmpV_self _), cmpI_self]

theorem same_calls' (a0 a1 : Option Addr) (n c0 c1 : Nat) (l : List VT) (w : World) (hn : n ≤ maxLen) (h0 : Vals w a0 n l) (h1 : Vals w a1 n l) :
    Calls Tryz.prog 45 #[.slice a0 n c0, .slice a1 n c1] w fun e w' => e = .returned (.bool true) ∧ Up w w' := by
  have hr := rowsV_self l
  have H0 := hide h0
  have H1 := hide h1
  clear h0 h1
  go_enter Tryz.func45, Tryz.ntmps45
  go_wp2_with fail
  go_at_call 54
  refine (rvrows_calls _ _ _ _ _ _ l l _ hn hn H0.out H1.out).mono ?_
  rintro _ w1 ⟨rfl, hu1⟩
  go_wp2
  go_ret
  exact ⟨rfl, hu1⟩

end Go.Proofs.YtnokokhbcfkifaaGreatDoor

/-
  What the writers of package text answer (putHex, putBytes, putString, putFloat, putValue, Print), as their text runs.
-/
import Derived.Test.YtjnnmghehoodhaaGreatDoorBytes
import Derived.Test.YtjnnmghehoodhaaGreatDoorTextOrd
import Derived.Test.YtjnnmghehoodhaaGreatDoorRefText
import Derived.Deep.RegionHeld3
import Derived.Deep.AppendLies
import Derived.Lib.AppendStr
import Derived.ArgAppend
namespace Go.Proofs.YtjnnmghehoodhaaGreatDoor
open Go.ChangeShapes Go.WideShapes Go.ChangeAt Go.RowKit
attribute [local go_sem ↓] Go.wp_at_zero Go.wp_at_succ
attribute [local go_sem] run_store_float
set_option linter.unusedVariables false

/-- append of bytes at a step of a region that draws its order. -/
theorem step_append_bytes {w : World} {ops : Array Oper} {o : Oper} {a : Act} {K : Act → World → Prop} {Q : Exit → Act → World → Prop} {E : Prop} (hgd : o.guard = none) (s x : Operand)
    (ho : o.op = .call { callee := .builtin .append, args := #[s, x], argTypes := #[42, 42] }) (base : Nat) (v : Value) (l : List UInt8) (hs : a.eval s = v) (hown : Own w base v l)
    (ad : Addr) (m c : Nat) (new : List UInt8) (hx : a.eval x = .slice (some ad) m c) (hm : new.length = m) (hm0 : 0 < m) (hnews : ∀ j u, (bcells new)[j]? = some u → w.cell? (ad.add j) = some u)
    (hlen : l.length + m ≤ 1000000000000) (hbase : base ≤ w.heap.size)
    (h : ∀ v' w', Own w' base v' (l ++ new) → w.grownBy w' v.ownBlock → K (a.put o.dst v') w') : if Region.wanted o (yielded ops a.tmps) = true then Oper.wp Tryz.prog o a w K Q else E := by
  obtain ⟨i0, hi, hz0, hz1, hz2⟩ := info_parts info_byte
  refine step_append_lies w hgd s x 42 ho base 5 i0 (.int .u8 0) 1 1 Tryz.underlying42 hi hz0 hz1 hz2 rfl (by decide) v l.length (bcells l) hs hown ad m c (bcells new) hx
    (by rw [bcells_length, hm, Nat.mul_one]) hnews (bcells_one new) hm0 (by unfold maxLen; omega) (by omega) hbase w.heap.size rfl fun g cap w' h1 h2 _ _ => h _ w' ?_ h2
  unfold Own
  rw [List.length_append, bcells_append, hm]
  exact h1

/-- A row of bytes that a call owns, in a world of which nothing below turned. -/
def OwnB (base : Nat) (v : Value) (l : List UInt8) (w0 w : World) : Prop := Own w base v l ∧ Below base w0 w ∧ base ≤ w.heap.size
theorem OwnB.drew {base : Nat} {v : Value} {l : List UInt8} {w0 w : World} (h : OwnB base v l w0 w) : OwnB base v l w0 w.drew := ⟨h.1, Below.drew h.2.1, h.2.2⟩
theorem OwnB.alloc {base : Nat} {v : Value} {l : List UInt8} {w0 w : World} (h : OwnB base v l w0 w) (o : Obj) : OwnB base v l w0 (w.alloc o) := ⟨h.1.alloc o, h.2.1.alloc h.2.2 o, Nat.le_trans h.2.2 (by simp)⟩
theorem OwnB.grown {base : Nat} {v v' : Value} {l l' : List UInt8} {w0 w w' : World} {o : Obj} (h : OwnB base v l w0 w) (ho : Own w' base v' l') (hg : (w.alloc o).grownBy w' v.ownBlock) : OwnB base v' l' w0 w' :=
  have hb := below_append h.2.1 h.2.2 h.1 hg
  ⟨ho, hb, Nat.le_trans (Nat.le_trans h.2.2 (by simp)) hg.size⟩

theorem and_15 : ∀ c : UInt8, bits .and .u8 (c.toNat : Int) 15 = ((c.toNat % 16 : Nat) : Int) := by
  intro c
  have h : ∀ n : Fin 256, bits .and .u8 (n.val : Int) 15 = ((n.val % 16 : Nat) : Int) := by decide +kernel
  exact h ⟨c.toNat, c.toNat_lt⟩
theorem hex_int (n : Nat) (h : n < 16) : ((({ data := #[48, 49, 50, 51, 52, 53, 54, 55, 56, 57, 97, 98, 99, 100, 101, 102] } : ByteArray)[n]'h).toNat : Int) = ((hexD n).toNat : Int) := by
  rw [hex_at n h]

set_option maxHeartbeats 4000000 in
theorem putHex_calls (base : Nat) (v : Value) (l : List UInt8) (c : UInt8) (w : World) (hown : Own w base v l) (hb : base ≤ w.heap.size) (hlen : l.length ≤ 10000000) :
    Calls Tryz.prog 51 #[v, .int .u8 (c.toNat : Int)] w fun e w' => ∃ v', e = .returned v' ∧ Own w' base v' (l ++ [hexHi c, hexLo c]) ∧ Below base w w' := by
  have hsg : IntKind.u8.signed = false := rfl
  obtain ⟨x, hx⟩ : ∃ x : Nat, x = c.toNat / 16 := ⟨_, rfl⟩
  obtain ⟨y, hy⟩ : ∃ y : Nat, y = c.toNat % 16 := ⟨_, rfl⟩
  have hxl : x < 16 := by rw [hx]; exact hi_lt c
  have hyl : y < 16 := by rw [hy]; exact lo_lt c
  have ha : bits .and .u8 (c.toNat : Int) 15 = (y : Int) := by rw [hy]; exact and_15 c
  have hs : (c.toNat : Int) / 16 = (x : Int) := by omega
  have HX := hide hx
  have HY := hide hy
  clear hx hy
  have i1 : (0 : Int) ≤ (x : Int) := by omega
  have i2 : (x : Int) < 16 := by omega
  have i3 : (0 : Int) ≤ (y : Int) := by omega
  have i4 : (y : Int) < 16 := by omega
  go_enter Tryz.func51, Tryz.ntmps51
  go_wp2_with fail
  have H0 : OwnB base v l w w := ⟨hown, Below.refl _ _, hb⟩
  go_region_held3 (fun w' => Below base w w') (first | exact (Below.refl _ _).drew | exact Below.drew (by assumption) | exact Below.alloc (by assumption) (by assumption) _ | (exact (OwnB.grown H0.drew ho1 hg1).2.1))
    ((refine step_append_bytes rfl _ _ (by rfl) base _ _ (by rfl) (Own.alloc (w := w.drew) hown _) _ 2 2 [hexHi c, hexLo c] (by rfl) rfl (by decide) (bytes_new2 (b := hexHi c) (b' := hexLo c) (by unfold hexHi; rw [← HX.out]; exact hex_int x hxl) (by unfold hexLo; rw [← HY.out]; exact hex_int y hyl)) (by omega) (Nat.le_trans hb (by simp)) ?_; intro u1 w1 ho1 hg1))
  all_goals (have HB := hide (show Below base w w1 by assumption); replace ho1 := hide ho1; clear hg1 H0; go_wp2; go_ret; exact ⟨_, rfl, ho1.out, HB.out⟩)

/-- append of a string to a row of bytes. -/
theorem append_str {w : World} {ops : Array Oper} {rest : List Oper} {o : Oper} {a : Act} {Q : Exit → Act → World → Prop} (hgd : o.guard = none) (s x : Operand)
    (ho : o.op = .call { callee := .builtin .append, args := #[s, x], argTypes := #[42, 9] }) (base : Nat) (v : Value) (l : List UInt8) (hs : a.eval s = v) (hown : Own w base v l)
    (t : ByteArray) (hx : a.eval x = .string t) (hlen : l.length + t.size ≤ 1000000000000) (hbase : base ≤ w.heap.size)
    (h : ∀ v' w', Own w' base v' (l ++ t.data.toList) → w.grownBy w' v.ownBlock → wpList Tryz.prog ops Q rest (a.put o.dst v') w') : wpList Tryz.prog ops Q (o :: rest) a w := by
  obtain ⟨i0, hi, hz0, hz1, hz2⟩ := info_parts info_byte
  refine Go.Lib.wpList_append_own_string w hgd s x 42 9 ho base 5 i0 Tryz.underlying42 Tryz.underlying9 hi hz0 hz1 hz2 v l.length (bcells l) hs hown t hx
    (by unfold maxLen; omega) (by omega) hbase fun v' w' h1 h2 _ => h v' w' ?_ h2
  unfold Own
  have e : Go.Lib.strCells t = bcells t.data.toList := rfl
  rw [List.length_append, bcells_append, ← e]
  exact h1
theorem below_grow {w0 w w' : World} {base : Nat} {v : Value} {l : List UInt8} (hb : Below base w0 w) (hle : base ≤ w.heap.size) (hown : Own w base v l) (hg : w.grownBy w' v.ownBlock) : Below base w0 w' :=
  Below.grown hb hg hle (fun k hk => (hown.lt k hk).1)

/-- A row of bytes that a call may append to: one of its own, or the one byte of a constant that it has made into bytes. -/
def Mk (w : World) (base : Nat) (v : Value) (l : List UInt8) : Prop :=
  Own w base v l ∨ ∃ (g : Nat) (c : UInt8), v = .slice (some ⟨g, 0, none⟩) 1 1 ∧ base ≤ g ∧ w.heap[g]? = some (.cells #[.int .u8 (c.toNat : Int)] 5 (1, 2)) ∧ l = [c]
theorem Own.mk {w : World} {base : Nat} {v : Value} {l : List UInt8} (h : Own w base v l) : Mk w base v l := .inl h
theorem Mk.up {w w' : World} {base : Nat} {v : Value} {l : List UInt8} (h : Mk w base v l) (hu : Up w w') : Mk w' base v l := by
  rcases h with h | ⟨g, c, h1, h2, h3, h4⟩
  · exact .inl (h.up hu)
  · exact .inr ⟨g, c, h1, h2, hu.heap h3, h4⟩
theorem Mk.alloc {w : World} {base : Nat} {v : Value} {l : List UInt8} (h : Mk w base v l) (o : Obj) : Mk (w.alloc o) base v l := h.up ((Up.refl w).alloc o)
theorem Mk.le {w : World} {base : Nat} {v : Value} {l : List UInt8} (h : Mk w base v l) : ∀ k, v.ownBlock = some k → base ≤ k := by
  rcases h with h | ⟨g, c, rfl, h2, h3, h4⟩
  · exact fun k hk => (h.lt k hk).1
  · intro k hk
    obtain rfl : g = k := by simpa [Value.ownBlock] using hk
    exact h2
theorem grown_any {w w' : World} (h : w.grownBy w' none) (r : Option Nat) : w.grownBy w' r := ⟨h.os, h.tape, h.output, h.size, fun k hk _ => h.block k hk (by simp)⟩
theorem mk_cells {w : World} {g : Nat} {c : UInt8} {fz : Nat × Nat} (h : w.heap[g]? = some (.cells #[.int .u8 (c.toNat : Int)] 5 fz)) : ∀ j u, (bcells [c])[j]? = some u → w.cell? ((⟨g, 0, none⟩ : Addr).add j) = some u := by
  intro j u hj
  cases j with
  | zero =>
    simp [bcells] at hj
    subst hj
    simp [Addr.add, World.cell?, h]
  | succ j => simp [bcells] at hj
theorem own_le {w : World} {base base' : Nat} {v : Value} {l : List UInt8} (h : w.ownsRow base' 5 1 v l.length (bcells l)) (hb : base ≤ base') : Own w base v l :=
  ⟨h.1, h.2.elim Or.inl (fun ⟨g, cap, cur, hv, hg, r⟩ => Or.inr ⟨g, cap, cur, hv, Nat.le_trans hb hg, r⟩)⟩
theorem mk_append_bytes {w : World} {ops : Array Oper} {rest : List Oper} {o : Oper} {a : Act} {Q : Exit → Act → World → Prop} (hgd : o.guard = none) (s x : Operand)
    (ho : o.op = .call { callee := .builtin .append, args := #[s, x], argTypes := #[42, 42] }) (base : Nat) (v : Value) (l : List UInt8) (hs : a.eval s = v) (hown : Mk w base v l)
    (ad : Addr) (m c : Nat) (new : List UInt8) (hx : a.eval x = .slice (some ad) m c) (hm : new.length = m) (hm0 : 0 < m) (hnews : ∀ j u, (bcells new)[j]? = some u → w.cell? (ad.add j) = some u)
    (hlen : l.length + m ≤ 1000000000000) (hbase : base ≤ w.heap.size)
    (h : ∀ v' w', Own w' base v' (l ++ new) → w.grownBy w' v.ownBlock → wpList Tryz.prog ops Q rest (a.put o.dst v') w') : wpList Tryz.prog ops Q (o :: rest) a w := by
  rcases hown with hown | ⟨g, c0, rfl, hbg, hg, rfl⟩
  · exact append_bytes hgd s x ho base v l hs hown ad m c new hx hm hnews hlen hbase h
  · obtain ⟨i0, hi, hz0, hz1, hz2⟩ := info_parts info_byte
    simp only [List.length_singleton] at hlen
    refine wpList_append_grows w hgd s x 42 ho 5 i0 (.int .u8 0) 1 1 Tryz.underlying42 hi hz0 hz1 hz2 rfl (by decide) (some ⟨g, 0, none⟩) 1 1 (bcells [c0]) hs (fun e => by cases e) rfl (fun b hb => by cases hb; exact mk_cells hg)
      ad m c (bcells new) hx (by rw [bcells_length, hm, Nat.mul_one]) hnews (bcells_one new) (by omega) (by unfold maxLen; omega) (by omega) fun v' w' h1 h2 => h v' w' ?_ (grown_any h2 _)
    refine own_le (base' := w.heap.size) ?_ hbase
    rw [List.length_append, bcells_append, hm]
    exact h1
theorem mk_append_str {w : World} {ops : Array Oper} {rest : List Oper} {o : Oper} {a : Act} {Q : Exit → Act → World → Prop} (hgd : o.guard = none) (s x : Operand)
    (ho : o.op = .call { callee := .builtin .append, args := #[s, x], argTypes := #[42, 9] }) (base : Nat) (v : Value) (l : List UInt8) (hs : a.eval s = v) (hown : Mk w base v l)
    (t : ByteArray) (hx : a.eval x = .string t) (ht : 0 < t.size) (hlen : l.length + t.size ≤ 1000000000000) (hbase : base ≤ w.heap.size)
    (h : ∀ v' w', Own w' base v' (l ++ t.data.toList) → w.grownBy w' v.ownBlock → wpList Tryz.prog ops Q rest (a.put o.dst v') w') : wpList Tryz.prog ops Q (o :: rest) a w := by
  rcases hown with hown | ⟨g, c0, rfl, hbg, hg, rfl⟩
  · exact append_str hgd s x ho base v l hs hown t hx hlen hbase h
  · obtain ⟨i0, hi, hz0, hz1, hz2⟩ := info_parts info_byte
    simp only [List.length_singleton] at hlen
    refine wpList_plain hgd fun K hK => ?_
    have hr := Go.Lib.run_append_grow_string (P := Tryz.prog) w 42 9 o.type 5 i0 (.int .u8 0) Tryz.underlying42 Tryz.underlying9 hi hz0 ⟨g, 0, none⟩ 1 1 (bcells [c0]) (by rw [hz1]; rfl) (mk_cells hg) t (by omega) (by omega) (by rw [hz2]; exact growslice_fits (by omega) (by omega))
    unfold Oper.wp execOp
    simp only [ho, resolve, invoke, builtin, Sem.run_bind, Sem.run_pure, Result.andThen_ok, List.map_toArray, List.map_cons, List.map_nil, hs, hx, hr]
    refine hK _ _ (h _ _ ?_ ⟨rfl, rfl, rfl, by simp, fun k hk _ => Below.heap_alloc w.drew _ k hk⟩)
    have hge := grownCap_ge w (1 + t.size) 1 5
    have hcm : grownCap w (1 + t.size) 1 5 ≤ maxLen := grownCap_le_maxLen w (1 + t.size) 1 5 (by unfold maxLen; omega)
    have hsz : (1 + t.size) = ([c0] ++ t.data.toList).length := by simp [Nat.add_comm]
    refine own_le (base' := w.heap.size) ?_ hbase
    refine ⟨by rw [bcells_length, Nat.mul_one], .inr ⟨w.heap.size, _, _, by rw [← hsz], Nat.le_refl _, heap_alloc_new w.drew _, by rw [← hsz]; exact hge, hcm, ?_, ?_⟩⟩
    · have hz : (Value.int IntKind.u8 0).cells.size = 1 := rfl
      simp only [Array.size_append, List.size_toArray, size_zeroCells, hz, bcells_length, Go.Lib.strCells_length, List.length_singleton]
      omega
    · have e : bcells ([c0] ++ t.data.toList) = bcells [c0] ++ Go.Lib.strCells t := by rw [bcells_append]; rfl
      rw [Nat.mul_one, ← bcells_length, e]
      simp only [Array.toList_append]
      exact List.take_left
theorem mk_below {w0 w w' : World} {base : Nat} {v : Value} {l : List UInt8} {o : Obj} (hb : Below base w0 w) (hle : base ≤ w.heap.size) (hown : Mk w base v l) (hg : (w.alloc o).grownBy w' v.ownBlock) : Below base w0 w' :=
  Below.grown (Below.alloc hb hle o) hg (Nat.le_trans hle (by simp)) hown.le
theorem mk_below_grow {w0 w w' : World} {base : Nat} {v : Value} {l : List UInt8} (hb : Below base w0 w) (hle : base ≤ w.heap.size) (hown : Mk w base v l) (hg : w.grownBy w' v.ownBlock) : Below base w0 w' :=
  Below.grown hb hg hle hown.le

theorem hex_step (s : ByteArray) (k : Nat) (h : k < s.size) : hexL (s.data.toList.take (k + 1)) = hexL (s.data.toList.take k) ++ [hexHi s[k], hexLo s[k]] := by
  have e : s.data.toList[k]? = some s[k] := by
    rw [Array.getElem?_toList, Array.getElem?_eq_getElem (by exact h)]
    rfl
  rw [List.take_add_one, hexL_append, e]
  rfl
theorem quo_step (s : ByteArray) (k : Nat) (h : k < s.size) : quoL (s.data.toList.take (k + 1)) = quoL (s.data.toList.take k) ++ quoC s[k] := by
  have e : s.data.toList[k]? = some s[k] := by
    rw [Array.getElem?_toList, Array.getElem?_eq_getElem (by exact h)]
    rfl
  rw [List.take_add_one, quoL_append, e]
  simp [quoL]
theorem take_size (s : ByteArray) : s.data.toList.take s.size = s.data.toList := List.take_of_length_le (by simp)

set_option maxHeartbeats 4000000 in
theorem putBytes_calls (base : Nat) (v : Value) (l : List UInt8) (s : ByteArray) (hs : s.size ≤ 1000) (w : World) (hown : Mk w base v l) (hb : base ≤ w.heap.size) (hlen : l.length ≤ 1000000) :
    Calls Tryz.prog 32 #[v, .string s] w fun e w' => ∃ v', e = .returned v' ∧ Own w' base v' (l ++ 120 :: hexL s.data.toList) ∧ Below base w w' := by
  go_enter Tryz.func32, Tryz.ntmps32
  go_wp2_with (at_builtin; refine mk_append_bytes rfl _ _ rfl base _ _ rfl (hown.alloc _) _ 1 1 [120] rfl rfl (by decide) (byte_new rfl) (by omega) (Nat.le_trans hb (by simp)) ?_)
  intro u1 w1 ho1 hg1
  have hb1 := mk_below (Below.refl _ _) hb hown hg1
  have hbs1 := Nat.le_trans hb hb1.size
  replace hb1 := hide hb1
  replace ho1 := hide ho1
  clear hg1 hown
  go_wp2_with fail
  go_loopw [0, 11] (fun u i wr => ∃ k : Nat, k ≤ s.size ∧ i = .int .i64 k ∧ Own wr base u (l ++ 120 :: hexL (s.data.toList.take k)) ∧ Below base w1 wr) (fun _ i _ => s.size - (intOf i).toNat)
  case atStart => exact ⟨0, Nat.zero_le _, rfl, by simpa [hexL] using ho1.out, Below.refl _ _⟩
  case round =>
    obtain ⟨k, hk, rfl, ho, hbel⟩ := hrel
    have hbs := Nat.le_trans hbs1 hbel.size
    by_cases hlt : k < s.size
    · have hstep := hide (hex_step s k hlt)
      have hl2 : (l ++ 120 :: hexL (s.data.toList.take k)).length ≤ 10000000 := by
        have := hexL_length (s.data.toList.take k)
        rw [List.length_append, List.length_cons, this, List.length_take]; omega
      obtain ⟨m, hm⟩ : ∃ m, m = l ++ 120 :: hexL (s.data.toList.take k) := ⟨_, rfl⟩
      rw [← hm] at ho hl2
      replace hm := hide hm
      replace hbel := hide hbel
      clear ho1
      go_wp2_with fail
      go_at_call 51
      refine (putHex_calls base _ _ s[k] _ ho hbs hl2).mono ?_
      rintro _ w2 ⟨u2, rfl, ho2, hb2⟩
      replace hbel := hide (hbel.out.trans hb2)
      replace ho2 := hide ho2
      clear hb2 ho hl2
      go_wp2
      go_roundw
      case rel =>
        refine ⟨k + 1, by omega, by go_num, ?_, hbel.out⟩
        have h2 := ho2.out
        rw [hstep.out, ← List.cons_append, ← List.append_assoc, ← hm.out]
        exact h2
      case measure => simp [intOf]; omega
    · obtain rfl : k = s.size := by omega
      replace ho := hide ho
      replace hbel := hide hbel
      go_wp2
      go_ret
      refine ⟨_, rfl, ?_, hb1.out.trans hbel.out⟩
      have := ho.out
      rw [take_size] at this
      exact this

theorem t_eight {k : Nat} (h : k < 8) : k = 0 ∨ k = 1 ∨ k = 2 ∨ k = 3 ∨ k = 4 ∨ k = 5 ∨ k = 6 ∨ k = 7 := by omega
theorem t_byteOf1 (x : Nat) : (x : Int) % 256 = ((byteOf x 1).toNat : Int) := by
  have := byteOf_int x 1
  simpa using this
theorem putHex_at (base : Nat) (v : Value) (l : List UInt8) (z : Int) (c : UInt8) (hz : z = (c.toNat : Int)) (w : World) (hown : Own w base v l) (hb : base ≤ w.heap.size) (hlen : l.length ≤ 10000000) :
    Calls Tryz.prog 51 #[v, .int .u8 z] w fun e w' => ∃ v', e = .returned v' ∧ Own w' base v' (l ++ [hexHi c, hexLo c]) ∧ Below base w w' := by
  subst hz
  exact putHex_calls base v l c w hown hb hlen

set_option maxHeartbeats 4000000 in
theorem putFloat_calls (base : Nat) (v : Value) (l : List UInt8) (f : Nat) (w : World) (hown : Mk w base v l) (hb : base ≤ w.heap.size) (hlen : l.length ≤ 1000000) :
    Calls Tryz.prog 33 #[v, .float .f64 f] w fun e w' => ∃ v', e = .returned v' ∧ Own w' base v' (l ++ 102 :: hexL (wordL f)) ∧ Below base w w' := by
  have hsg : IntKind.u64.signed = false := rfl
  have hrb := run_bits
  go_enter Tryz.func33, Tryz.ntmps33
  go_wp2_with (at_builtin; refine mk_append_bytes rfl _ _ rfl base _ _ rfl (hown.alloc _) _ 1 1 [102] rfl rfl (by decide) (byte_new rfl) (by omega) (Nat.le_trans hb (by simp)) ?_)
  intro u1 w1 ho1 hg1
  have hb1 := mk_below (Below.refl _ _) hb hown hg1
  have hbs1 := Nat.le_trans hb hb1.size
  replace hb1 := hide hb1
  replace ho1 := hide ho1
  clear hg1 hown
  go_wp2_with fail
  go_loopw [0, 6] (fun u i wr => ∃ k : Nat, k ≤ 8 ∧ i = .int .i64 (7 - (k : Int)) ∧ Own wr base u (l ++ 102 :: hexL ((wordL f).take k)) ∧ Below base w1 wr) (fun _ i _ => (intOf i + 1).toNat)
  case atStart => exact ⟨0, Nat.zero_le _, rfl, by simpa [hexL] using ho1.out, Below.refl _ _⟩
  case round =>
    obtain ⟨k, hk, rfl, ho, hbel⟩ := hrel
    have hbs := Nat.le_trans hbs1 hbel.size
    by_cases hlt : k < 8
    · have hl2 : (l ++ 102 :: hexL ((wordL f).take k)).length ≤ 10000000 := by
        have := hexL_length ((wordL f).take k)
        rw [List.length_append, List.length_cons, this, List.length_take]; omega
      replace hbel := hide hbel
      clear ho1 hrb
      rcases t_eight hlt with rfl | rfl | rfl | rfl | rfl | rfl | rfl | rfl
      · go_wp2_with fail
        go_at_call 51
        refine (putHex_at base _ _ _ (byteOf f 72057594037927936) (byteOf_int f 72057594037927936) _ ho hbs hl2).mono ?_
        rintro _ w2 ⟨u2, rfl, ho2, hb2⟩
        replace hbel := hide (hbel.out.trans hb2)
        replace ho2 := hide ho2
        clear hb2 ho hl2
        go_wp2
        go_roundw
        case rel => exact ⟨1, by omega, rfl, by simpa [wordL, hexL] using ho2.out, hbel.out⟩
        case measure => simp [intOf]
      · go_wp2_with fail
        go_at_call 51
        refine (putHex_at base _ _ _ (byteOf f 281474976710656) (byteOf_int f 281474976710656) _ ho hbs hl2).mono ?_
        rintro _ w2 ⟨u2, rfl, ho2, hb2⟩
        replace hbel := hide (hbel.out.trans hb2)
        replace ho2 := hide ho2
        clear hb2 ho hl2
        go_wp2
        go_roundw
        case rel => exact ⟨2, by omega, rfl, by simpa [wordL, hexL] using ho2.out, hbel.out⟩
        case measure => simp [intOf]
      · go_wp2_with fail
        go_at_call 51
        refine (putHex_at base _ _ _ (byteOf f 1099511627776) (byteOf_int f 1099511627776) _ ho hbs hl2).mono ?_
        rintro _ w2 ⟨u2, rfl, ho2, hb2⟩
        replace hbel := hide (hbel.out.trans hb2)
        replace ho2 := hide ho2
        clear hb2 ho hl2
        go_wp2
        go_roundw
        case rel => exact ⟨3, by omega, rfl, by simpa [wordL, hexL] using ho2.out, hbel.out⟩
        case measure => simp [intOf]
      · go_wp2_with fail
        go_at_call 51
        refine (putHex_at base _ _ _ (byteOf f 4294967296) (byteOf_int f 4294967296) _ ho hbs hl2).mono ?_
        rintro _ w2 ⟨u2, rfl, ho2, hb2⟩
        replace hbel := hide (hbel.out.trans hb2)
        replace ho2 := hide ho2
        clear hb2 ho hl2
        go_wp2
        go_roundw
        case rel => exact ⟨4, by omega, rfl, by simpa [wordL, hexL] using ho2.out, hbel.out⟩
        case measure => simp [intOf]
      · go_wp2_with fail
        go_at_call 51
        refine (putHex_at base _ _ _ (byteOf f 16777216) (byteOf_int f 16777216) _ ho hbs hl2).mono ?_
        rintro _ w2 ⟨u2, rfl, ho2, hb2⟩
        replace hbel := hide (hbel.out.trans hb2)
        replace ho2 := hide ho2
        clear hb2 ho hl2
        go_wp2
        go_roundw
        case rel => exact ⟨5, by omega, rfl, by simpa [wordL, hexL] using ho2.out, hbel.out⟩
        case measure => simp [intOf]
      · go_wp2_with fail
        go_at_call 51
        refine (putHex_at base _ _ _ (byteOf f 65536) (byteOf_int f 65536) _ ho hbs hl2).mono ?_
        rintro _ w2 ⟨u2, rfl, ho2, hb2⟩
        replace hbel := hide (hbel.out.trans hb2)
        replace ho2 := hide ho2
        clear hb2 ho hl2
        go_wp2
        go_roundw
        case rel => exact ⟨6, by omega, rfl, by simpa [wordL, hexL] using ho2.out, hbel.out⟩
        case measure => simp [intOf]
      · go_wp2_with fail
        go_at_call 51
        refine (putHex_at base _ _ _ (byteOf f 256) (byteOf_int f 256) _ ho hbs hl2).mono ?_
        rintro _ w2 ⟨u2, rfl, ho2, hb2⟩
        replace hbel := hide (hbel.out.trans hb2)
        replace ho2 := hide ho2
        clear hb2 ho hl2
        go_wp2
        go_roundw
        case rel => exact ⟨7, by omega, rfl, by simpa [wordL, hexL] using ho2.out, hbel.out⟩
        case measure => simp [intOf]
      · go_wp2_with fail
        go_at_call 51
        refine (putHex_at base _ _ _ (byteOf f 1) (t_byteOf1 f) _ ho hbs hl2).mono ?_
        rintro _ w2 ⟨u2, rfl, ho2, hb2⟩
        replace hbel := hide (hbel.out.trans hb2)
        replace ho2 := hide ho2
        clear hb2 ho hl2
        go_wp2
        go_roundw
        case rel => exact ⟨8, by omega, rfl, by simpa [wordL, hexL] using ho2.out, hbel.out⟩
        case measure => simp [intOf]
    · obtain rfl : k = 8 := by omega
      replace ho := hide ho
      replace hbel := hide hbel
      go_wp2
      go_ret
      exact ⟨_, rfl, by simpa [wordL] using ho.out, hb1.out.trans hbel.out⟩

theorem t_ne {c : UInt8} {n : Nat} (hn : n < 256) (h : ¬ c = UInt8.ofNat n) : ((c.toNat : Int) == (n : Int)) = false := by
  refine beq_eq_false_iff_ne.2 fun e => h ?_
  have : c.toNat = n := by omega
  rw [← this, UInt8.ofNat_toNat]

set_option maxHeartbeats 4000000 in
theorem tputString_calls (base : Nat) (v : Value) (l : List UInt8) (s : ByteArray) (hs : s.size ≤ 1000) (w : World) (hown : Mk w base v l) (hb : base ≤ w.heap.size) (hlen : l.length ≤ 1000000) :
    Calls Tryz.prog 31 #[v, .string s] w fun e w' => ∃ v', e = .returned v' ∧ Own w' base v' (l ++ quoS s.data.toList) ∧ Below base w w' := by
  go_enter Tryz.func31, Tryz.ntmps31
  go_wp2_with (at_builtin; refine mk_append_bytes rfl _ _ rfl base _ _ rfl (hown.alloc _) _ 1 1 [34] rfl rfl (by decide) (byte_new rfl) (by omega) (Nat.le_trans hb (by simp)) ?_)
  intro u1 w1 ho1 hg1
  have hb1 := mk_below (Below.refl _ _) hb hown hg1
  have hbs1 := Nat.le_trans hb hb1.size
  replace hb1 := hide hb1
  replace ho1 := hide ho1
  clear hg1 hown
  go_wp2_with fail
  go_loopw [0, 12] (fun u i wr => ∃ k : Nat, k ≤ s.size ∧ i = .int .i64 k ∧ Own wr base u (l ++ 34 :: quoL (s.data.toList.take k)) ∧ Below base w1 wr) (fun _ i _ => s.size - (intOf i).toNat)
  case atStart => exact ⟨0, Nat.zero_le _, rfl, by simpa [quoL] using ho1.out, Below.refl _ _⟩
  case round =>
    obtain ⟨k, hk, rfl, ho, hbel⟩ := hrel
    have hbs := Nat.le_trans hbs1 hbel.size
    have hl2 : (l ++ 34 :: quoL (s.data.toList.take k)).length ≤ 2000000 := by
      have := quoL_length (s.data.toList.take k)
      rw [List.length_take] at this
      rw [List.length_append, List.length_cons]; omega
    obtain ⟨m, hm⟩ : ∃ m, m = l ++ 34 :: quoL (s.data.toList.take k) := ⟨_, rfl⟩
    rw [← hm] at ho hl2
    replace hm := hide hm
    replace hbel := hide hbel
    clear ho1
    by_cases hlt : k < s.size
    · have hstep := hide (quo_step s k hlt)
      obtain ⟨c, hc⟩ : ∃ c, c = s[k] := ⟨_, rfl⟩
      have hend : ∀ u wr, Own wr base u (m ++ quoC c) → Own wr base u (l ++ 34 :: quoL (s.data.toList.take (k + 1))) := by
        intro u wr h2
        rw [hstep.out, ← hc, ← List.cons_append, ← List.append_assoc, ← hm.out]
        exact h2
      have HE := hide hend
      have HC := hide hc
      clear hend hstep
      by_cases hq : c = 34 ∨ c = 92
      · have HQ : Hid (quoC c = [92, c]) := by unfold quoC; exact if_pos hq
        have hor : (((c.toNat : Int) == 34) || ((c.toNat : Int) == 92)) = true := by rcases hq with rfl | rfl <;> rfl
        have e34 : ((c.toNat : Int) == 34) = true ∨ (((c.toNat : Int) == 34) = false ∧ ((c.toNat : Int) == 92) = true) := by rcases hq with rfl | rfl; exact .inl rfl; exact .inr ⟨rfl, rfl⟩
        have hcs : s[k] = c := HC.out.symm
        clear hq hc hor
        rcases e34 with t1 | ⟨t1, t2⟩
        all_goals
          go_wp2_with (at_builtin; refine append_bytes rfl (.tmp 30) (.tmp 32) rfl base _ _ rfl (ho.alloc _) _ 2 2 [92, c] rfl rfl (bytes_new2 rfl (by rfl)) (by omega) (Nat.le_trans hbs (by simp)) ?_)
          intro u2 w2 ho2 hg2
          have hb2 := hide (below_append hbel.out hbs ho hg2)
          replace ho2 := hide ho2
          clear hg2 ho hl2 hbel
          go_wp2
          go_roundw
          case rel => exact ⟨k + 1, by omega, by go_num, HE.out _ _ (by rw [HQ.out]; exact ho2.out), hb2.out⟩
          case measure => simp [intOf]; omega
      · have t1 : ((c.toNat : Int) == 34) = false := t_ne (n := 34) (by omega) (fun h => hq (.inl h))
        have t2 : ((c.toNat : Int) == 92) = false := t_ne (n := 92) (by omega) (fun h => hq (.inr h))
        have hcs : s[k] = c := HC.out.symm
        by_cases hp : 32 ≤ c.toNat ∧ c.toNat ≤ 126
        · have HQ : Hid (quoC c = [c]) := by unfold quoC; rw [if_neg hq, if_pos hp]; exact rfl
          have p1 : (32 : Int) ≤ (c.toNat : Int) := by omega
          have p2 : (c.toNat : Int) ≤ 126 := by omega
          clear hq hp hc
          go_wp2_with (at_builtin; refine append_bytes rfl (.tmp 41) (.tmp 43) rfl base _ _ rfl (ho.alloc _) _ 1 1 [c] rfl rfl (byte_new rfl) (by omega) (Nat.le_trans hbs (by simp)) ?_)
          intro u2 w2 ho2 hg2
          have hb2 := hide (below_append hbel.out hbs ho hg2)
          replace ho2 := hide ho2
          clear hg2 ho hl2 hbel
          go_wp2
          go_roundw
          case rel => exact ⟨k + 1, by omega, by go_num, HE.out _ _ (by rw [HQ.out]; exact ho2.out), hb2.out⟩
          case measure => simp [intOf]; omega
        · have HQ : Hid (quoC c = [92, 120, hexHi c, hexLo c]) := by unfold quoC; rw [if_neg hq, if_neg hp]; exact rfl
          have hpp : (32 : Int) ≤ (c.toNat : Int) → (126 : Int) < (c.toNat : Int) := by omega
          have p0 : decide ((32 : Int) ≤ (c.toNat : Int)) = false ∨ (decide ((32 : Int) ≤ (c.toNat : Int)) = true ∧ decide ((c.toNat : Int) ≤ 126) = false) := by
            by_cases h : (32 : Int) ≤ (c.toNat : Int)
            · exact .inr ⟨decide_eq_true h, decide_eq_false (by have := hpp h; omega)⟩
            · exact .inl (decide_eq_false h)
          clear hq hp hc hpp
          rcases p0 with p1 | ⟨p1, p2⟩
          all_goals
            go_wp2_with (at_builtin; refine append_bytes rfl (.tmp 18) (.tmp 19) rfl base _ _ rfl (ho.alloc _) _ 2 2 [92, 120] rfl rfl (bytes_new2 rfl rfl) (by omega) (Nat.le_trans hbs (by simp)) ?_)
            intro u2 w2 ho2 hg2
            have hb2 := below_append hbel.out hbs ho hg2
            have hbs2 := Nat.le_trans hbs1 hb2.size
            replace hb2 := hide hb2
            have hl3 : (m ++ [92, 120]).length ≤ 10000000 := by rw [List.length_append]; simp only [List.length_cons, List.length_nil]; omega
            clear hg2 ho hl2 hbel
            go_wp2_with fail
            go_at_call 51
            refine (putHex_at base _ _ _ c rfl _ ho2 hbs2 hl3).mono ?_
            rintro _ w3 ⟨u3, rfl, ho3, hb3⟩
            replace hb2 := hide (hb2.out.trans hb3)
            replace ho3 := hide ho3
            clear hb3 ho2 hl3
            go_wp2
            go_roundw
            case rel => exact ⟨k + 1, by omega, by go_num, HE.out _ _ (by rw [HQ.out]; simpa using ho3.out), hb2.out⟩
            case measure => simp [intOf]; omega
    · obtain rfl : k = s.size := by omega
      go_wp2_with (at_builtin; refine append_bytes rfl (.tmp 46) (.tmp 47) rfl base _ _ rfl (ho.alloc _) _ 1 1 [34] rfl rfl (byte_new rfl) (by omega) (Nat.le_trans hbs (by simp)) ?_)
      intro u2 w2 ho2 hg2
      have hb2 := hide (below_append hbel.out hbs ho hg2)
      replace ho2 := hide ho2
      clear hg2 ho hl2 hbel
      go_wp2
      go_ret
      refine ⟨_, rfl, ?_, hb1.out.trans hb2.out⟩
      have h2 := ho2.out
      have hm2 := hm.out
      rw [take_size] at hm2
      unfold quoS
      rw [← List.cons_append, ← List.append_assoc, ← hm2]
      exact h2

end Go.Proofs.YtjnnmghehoodhaaGreatDoor

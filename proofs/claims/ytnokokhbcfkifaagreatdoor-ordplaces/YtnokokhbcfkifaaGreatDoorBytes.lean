/-
  Bytes as they lie in memory: slices of bytes that came in, rows of bytes that a call owns; how one is appended to. No function of the program.
-/
import Derived.Test.YtnokokhbcfkifaaGreatDoorValCmpG
import Derived.OwnWalk
import Derived.ProofKit
import Derived.Laws.IdiomStrings
namespace Go.Proofs.YtnokokhbcfkifaaGreatDoor
open Go.RowKit

/-- The cells of bytes. -/
def bcells (l : List UInt8) : List Value := l.map fun b => .int .u8 (b.toNat : Int)
theorem bcells_length (l : List UInt8) : (bcells l).length = l.length := by simp [bcells]
theorem bcells_append (l m : List UInt8) : bcells (l ++ m) = bcells l ++ bcells m := by simp [bcells]
theorem bcells_one (l : List UInt8) : ∀ u ∈ bcells l, u.oneCell' = true := by
  intro u hu
  obtain ⟨_, _, rfl⟩ := List.mem_map.1 hu
  rfl
theorem bcells_get (l : List UInt8) (j : Nat) : (bcells l)[j]? = (l[j]?).map fun b => Value.int .u8 (b.toNat : Int) := by simp [bcells]

/-- A slice of bytes: nothing, or a row of them in memory. -/
def Bts (w : World) (a : Option Addr) (n : Nat) (l : List UInt8) : Prop :=
  l.length = n ∧ (n = 0 ∨ ∃ b off, a = some ⟨b, off, none⟩ ∧ ∀ i, i < n → w.cell? ⟨b, off + i, none⟩ = some (.int .u8 ((l.getD i 0).toNat : Int)))
theorem Bts.up {w w' : World} {a : Option Addr} {n : Nat} {l : List UInt8} (h : Bts w a n l) (hu : Up w w') : Bts w' a n l := by
  refine ⟨h.1, ?_⟩
  rcases h.2 with h0 | ⟨b, off, ha, hx⟩
  · exact .inl h0
  · exact .inr ⟨b, off, ha, fun i hi => hu.cell (hx i hi)⟩

/-- A row of bytes that a call owns. -/
def OwnY (w : World) (base : Nat) (v : Value) (l : List UInt8) : Prop := w.ownsRow base 5 1 v l.length (bcells l)
theorem OwnY.nil (w : World) (base : Nat) : OwnY w base (.slice none 0 0) [] := World.ownsRow_nil _ _ _ _
theorem OwnY.alloc {w : World} {base : Nat} {v : Value} {l : List UInt8} (h : OwnY w base v l) (o : Obj) : OwnY (w.alloc o) base v l := World.ownsRow.alloc h o
theorem OwnY.lt {w : World} {base : Nat} {v : Value} {l : List UInt8} (h : OwnY w base v l) : ∀ k, v.ownBlock = some k → base ≤ k ∧ k < w.heap.size := World.ownsRow.lt h
/-- Where only new blocks came it is as it was. -/
theorem OwnY.up {w w' : World} {base : Nat} {v : Value} {l : List UInt8} (h : OwnY w base v l) (hu : Up w w') : OwnY w' base v l := by
  refine ⟨h.1, ?_⟩
  rcases h.2 with h0 | ⟨g, cap, cur, hv, hb, hg, hr⟩
  · exact .inl h0
  · refine .inr ⟨g, cap, cur, hv, hb, ?_, hr⟩
    have hlt : g < w.heap.size := by
      rcases Nat.lt_or_ge g w.heap.size with h' | h'
      · exact h'
      · rw [Array.getElem?_eq_none h'] at hg; cases hg
    exact (hu.below.block g hlt).trans hg

theorem OwnY.bts {w : World} {base : Nat} {v : Value} {l : List UInt8} (h : OwnY w base v l) : ∃ a cap, v = .slice a l.length cap ∧ l.length ≤ cap ∧ cap ≤ maxLen ∧ Bts w a l.length l := by
  rcases h.2 with ⟨rfl, h0⟩ | ⟨g, cap, cur, rfl, hb, hg, hc, hm, hs, ht⟩
  · exact ⟨none, 0, by rw [h0], by omega, Nat.zero_le _, rfl, .inl h0⟩
  · refine ⟨some ⟨g, 0, none⟩, cap, rfl, hc, hm, rfl, .inr ⟨g, 0, rfl, fun i hi => ?_⟩⟩
    have := World.ownsRow.cellAt h (0 + i) (by omega)
    rw [this, bcells_get, Nat.zero_add, List.getD_eq_getElem?_getD, List.getElem?_eq_getElem hi]
    rfl

/-- A value that is a slice of these bytes. -/
def Sl (w : World) (r : Value) (l : List UInt8) : Prop := ∃ a c, r = .slice a l.length c ∧ l.length ≤ c ∧ c ≤ maxLen ∧ Bts w a l.length l
theorem Sl.up {w w' : World} {r : Value} {l : List UInt8} (h : Sl w r l) (hu : Up w w') : Sl w' r l := by
  obtain ⟨a, c, h1, h2, h3, h4⟩ := h
  exact ⟨a, c, h1, h2, h3, h4.up hu⟩
theorem OwnY.sl {w : World} {base : Nat} {v : Value} {l : List UInt8} (h : OwnY w base v l) : Sl w v l := h.bts
/-- What is behind so many. -/
theorem sl_drop {w : World} {b off n c : Nat} {l : List UInt8} (hl : l.length = n) (hc : n ≤ c) (hm : c ≤ maxLen) (hx : ∀ i, i < n → w.cell? ⟨b, off + i, none⟩ = some (.int .u8 ((l.getD i 0).toNat : Int))) (j : Nat) :
    Sl w (.slice (some ⟨b, off + j, none⟩) (n - j) (c - j)) (l.drop j) := by
  have e : (l.drop j).length = n - j := by rw [List.length_drop, hl]
  refine ⟨_, _, by rw [e], by rw [e]; omega, by omega, rfl, ?_⟩
  by_cases h0 : n - j = 0
  · exact .inl (by rw [e]; exact h0)
  · refine .inr ⟨b, off + j, rfl, fun i hi => ?_⟩
    rw [e] at hi
    have := hx (j + i) (by omega)
    rw [Nat.add_assoc, this, List.getD_eq_getElem?_getD, List.getD_eq_getElem?_getD, List.getElem?_drop]
theorem sl_end {w : World} {a : Option Addr} {n j : Nat} {l : List UInt8} (hl : l.length = n) (hj : n ≤ j) (c : Nat) (hc : c ≤ maxLen) : Sl w (.slice a (n - j) c) (l.drop j) := by
  have e : (l.drop j).length = 0 := by rw [List.length_drop, hl]; omega
  exact ⟨a, c, by rw [e]; congr 1; omega, by rw [e]; omega, hc, rfl, .inl e⟩

theorem info_byte : (Tryz.prog.info? 5).map (fun i => (i.zero, i.size, i.bytes)) = some (some (.int .u8 0), 1, 1) := by kernel_rfl

/-- append of bytes to a row that the call owns. -/
theorem append_bytes {w : World} {ops : Array Oper} {rest : List Oper} {o : Oper} {a : Act} {Q : Exit → Act → World → Prop} (hgd : o.guard = none) (s x : Operand)
    (ho : o.op = .call { callee := .builtin .append, args := #[s, x], argTypes := #[81, 81] }) (base : Nat) (v : Value) (l : List UInt8) (hs : a.eval s = v) (hown : OwnY w base v l)
    (ad : Addr) (m c : Nat) (new : List UInt8) (hx : a.eval x = .slice (some ad) m c) (hm : new.length = m) (hnews : ∀ j u, (bcells new)[j]? = some u → w.cell? (ad.add j) = some u)
    (hlen : l.length + m ≤ 1000000000000) (hbase : base ≤ w.heap.size)
    (h : ∀ v' w', OwnY w' base v' (l ++ new) → w.grownBy w' v.ownBlock → wpList Tryz.prog ops Q rest (a.put o.dst v') w') : wpList Tryz.prog ops Q (o :: rest) a w := by
  obtain ⟨i0, hi, hz0, hz1, hz2⟩ := info_parts info_byte
  refine wpList_append_own w hgd s x 81 ho base 5 i0 (.int .u8 0) 1 1 Tryz.underlying81 hi hz0 hz1 hz2 rfl (by decide) v l.length (bcells l) hs hown ad m c (bcells new) hx
    (by rw [bcells_length, hm, Nat.mul_one]) hnews (bcells_one new) (by unfold maxLen; omega) (by omega) hbase fun v' w' h1 h2 _ => h v' w' ?_ h2
  unfold OwnY
  rw [List.length_append, bcells_append, hm]
  exact h1

theorem byte_new {w : World} {t : TypeId} {z : Int} {b : UInt8} (h : z = (b.toNat : Int)) : ∀ j u, (bcells [b])[j]? = some u → (w.alloc (.cells #[.int .u8 z] t)).cell? ((⟨w.heap.size, 0, none⟩ : Addr).add j) = some u := by
  intro j u hj
  cases j with
  | zero =>
    simp [bcells] at hj
    subst hj h
    simp [Addr.add]
  | succ j => simp [bcells] at hj
theorem bytes_new2 {w : World} {t : TypeId} {z z' : Int} {b b' : UInt8} (h : z = (b.toNat : Int)) (h' : z' = (b'.toNat : Int)) :
    ∀ j u, (bcells [b, b'])[j]? = some u → (w.alloc (.cells #[.int .u8 z, .int .u8 z'] t)).cell? ((⟨w.heap.size, 0, none⟩ : Addr).add j) = some u := by
  intro j u hj
  match j with
  | 0 =>
    simp [bcells] at hj
    subst hj h
    simp [Addr.add]
  | 1 =>
    simp [bcells] at hj
    subst hj h'
    simp [Addr.add]
  | j + 2 => simp [bcells] at hj

/-- string(b), b these bytes. -/
theorem conv_bts {w : World} {a : Option Addr} {n c : Nat} {l : List UInt8} (h : Bts w a n l) (hn : a = none → n = 0) : (convert 81 9 (.slice a n c)).run Tryz.prog w = .ok (.string ⟨l.toArray⟩) w := by
  obtain ⟨hl, hx⟩ := h
  subst hl
  rcases hx with h0 | ⟨b, off, rfl, hx⟩
  · obtain rfl : l = [] := List.length_eq_zero_iff.1 h0
    cases a with
    | none =>
      show (convert 81 9 (.slice none 0 c)).run Tryz.prog w = _
      rw [run_convert_bytes_string w 81 9 5 none 0 c Tryz.underlying81 Tryz.underlying5 Tryz.underlying9]
      simp [Conv.bytesToString]
      rfl
    | some x =>
      exact run_convert_bytes_back w 81 9 5 x c [] Tryz.underlying81 Tryz.underlying5 Tryz.underlying9 (fun j hj => absurd hj (Nat.not_lt_zero j))
  · refine run_convert_bytes_back w 81 9 5 ⟨b, off, none⟩ c l Tryz.underlying81 Tryz.underlying5 Tryz.underlying9 (fun j hj => ?_)
    have := hx j hj
    rw [Addr.add_lit, this, List.getD_eq_getElem?_getD, List.getElem?_eq_getElem hj]
    rfl
theorem OwnY.conv {w : World} {base : Nat} {v : Value} {l : List UInt8} (h : OwnY w base v l) : (convert 81 9 v).run Tryz.prog w = .ok (.string ⟨l.toArray⟩) w := by
  obtain ⟨a, cap, rfl, _, _, hb⟩ := h.bts
  refine conv_bts hb ?_
  rintro rfl
  rcases h.2 with ⟨_, h0⟩ | ⟨g, cap, cur, hv, _⟩
  · exact h0
  · injection hv with hv; cases hv

/-- Below a row's base nothing turns when it is appended to. -/
theorem below_append {w0 w w' : World} {base : Nat} {v : Value} {l : List UInt8} {o : Obj} (hb : Below base w0 w) (hle : base ≤ w.heap.size) (hown : OwnY w base v l) (hg : (w.alloc o).grownBy w' v.ownBlock) : Below base w0 w' := by
  have h1 : Below base w0 (w.alloc o) := Below.alloc hb hle o
  exact Below.grown h1 hg (Nat.le_trans hle (by simp)) (fun k hk => (hown.lt k hk).1)

/-- A block of another sort stays as it was when the row is appended to. -/
theorem kept_append {w w' : World} {base g : Nat} {v : Value} {l : List UInt8} {o : Obj} {cs : Array Value} {t : TypeId} {fz : Nat × Nat} (hown : OwnY w base v l) (hg : (w.alloc o).grownBy w' v.ownBlock) (hc : w.heap[g]? = some (.cells cs t fz)) (ht : t ≠ 5) :
    w'.heap[g]? = some (.cells cs t fz) := by
  have hlt : g < w.heap.size := by
    rcases Nat.lt_or_ge g w.heap.size with h' | h'
    · exact h'
    · rw [Array.getElem?_eq_none h'] at hc; cases hc
  rw [hg.block g (by simp; omega) ?_]
  · rw [Below.heap_alloc w o g hlt]; exact hc
  · intro e
    rcases hown.2 with ⟨rfl, _⟩ | ⟨g', cap, cur, rfl, _, hk, _⟩
    · cases e
    · simp only [Value.ownBlock, Option.some.injEq] at e
      subst e
      rw [hc] at hk
      injection hk with hk
      injection hk with _ hk
      exact ht hk

end Go.Proofs.YtnokokhbcfkifaaGreatDoor

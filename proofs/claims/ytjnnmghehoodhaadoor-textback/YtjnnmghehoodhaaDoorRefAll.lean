/-
  What the document's own Print (package rialtoref4) answers of whatever it is handed, as its text runs.
  What the document's own Print (package rialtoref4) answers of whatever it is handed, as its text runs.
  What the document's own Print (package rialtoref4) answers of whatever it is handed, as its text runs.
  What the document's own Print (package rialtoref4) answers of every value and of what is none.
  What the document's own readers of digits (package rialtoref4: bytes) answer, as their text runs.
  What the document's own reader of quoted texts (package rialtoref4: unquoted) answers, as its text runs.
  What the document's own reader of one value (package rialtoref4: read) answers of every text, as its text runs.
  What the document's own reader of one value (package rialtoref4: read) answers of every text: floats, and all together, as its text runs.
  What the document's own Parse (package rialtoref4) answers of every text, as its text runs.
  What the document's own Row (package rialtoref4) answers of every row of values that isn't too long, as its text runs.
-/
import Derived.Test.YtjnnmghehoodhaaDoorRefText
import Derived.Test.YtjnnmghehoodhaaDoorRefVals
import Derived.Deep.RegionHeld3
import Derived.Deep.AppendLies
namespace Go.Proofs.YtjnnmghehoodhaaDoor
open Go.ChangeShapes Go.WideShapes Go.ChangeAt Go.RowKit
attribute [local go_sem ↓] Go.wp_at_zero Go.wp_at_succ
attribute [local go_sem] run_store_float

/-- A byte that is laid down as a slice is owned. -/
theorem own_lit (w : World) (base : Nat) (z : Int) (b : UInt8) (h : z = (b.toNat : Int)) (hb : base ≤ w.heap.size) : Own (w.alloc (.cells #[.int .u8 z] 5)) base (.slice (some ⟨w.heap.size, 0, none⟩) 1 1) [b] := by
  subst h
  refine ⟨rfl, .inr ⟨w.heap.size, 1, #[.int .u8 (b.toNat : Int)], rfl, hb, ?_, Nat.le_refl _, by decide, rfl, rfl⟩⟩
  exact heap_alloc_new _ _

theorem take_byte (s : ByteArray) (k : Nat) (h : k < s.size) : s.data.toList.take (k + 1) = s.data.toList.take k ++ [s[k]] := by
  have e : s.data.toList[k]? = some s[k] := by
    rw [Array.getElem?_toList, Array.getElem?_eq_getElem (by exact h)]
    rfl
  rw [List.take_add_one, e]; rfl
theorem take_whole (s : ByteArray) : s.data.toList.take s.size = s.data.toList := List.take_of_length_le (by simp)
theorem hex_len (s : ByteArray) (k : Nat) : (hexL (s.data.toList.take k)).length ≤ 2 * k := by
  rw [hexL_length, List.length_take]; omega

end Go.Proofs.YtjnnmghehoodhaaDoor

namespace Go.Proofs.YtjnnmghehoodhaaDoor
open Go.ChangeShapes Go.WideShapes Go.ChangeAt Go.RowKit
attribute [local go_sem ↓] Go.wp_at_zero Go.wp_at_succ
attribute [local go_sem] run_store_float

theorem byteOf_one (x : Nat) : (x : Int) % 256 = ((byteOf x 1).toNat : Int) := by
  have := byteOf_int x 1
  simpa using this
theorem word_take (x k : Nat) (c : UInt8) (h : (wordL x)[k]? = some c) : hexL ((wordL x).take (k + 1)) = hexL ((wordL x).take k) ++ [hexHi c, hexLo c] := by
  rw [List.take_add_one, h, hexL_append]; rfl
theorem word_get0 (x : Nat) : (wordL x)[0]? = some (byteOf x 72057594037927936) := by unfold wordL; rfl
theorem word_get1 (x : Nat) : (wordL x)[1]? = some (byteOf x 281474976710656) := by unfold wordL; rfl
theorem word_get2 (x : Nat) : (wordL x)[2]? = some (byteOf x 1099511627776) := by unfold wordL; rfl
theorem word_get3 (x : Nat) : (wordL x)[3]? = some (byteOf x 4294967296) := by unfold wordL; rfl
theorem word_get4 (x : Nat) : (wordL x)[4]? = some (byteOf x 16777216) := by unfold wordL; rfl
theorem word_get5 (x : Nat) : (wordL x)[5]? = some (byteOf x 65536) := by unfold wordL; rfl
theorem word_get6 (x : Nat) : (wordL x)[6]? = some (byteOf x 256) := by unfold wordL; rfl
theorem word_get7 (x : Nat) : (wordL x)[7]? = some (byteOf x 1) := by unfold wordL; rfl
theorem eight_ways {k : Nat} (h : k < 8) : k = 0 ∨ k = 1 ∨ k = 2 ∨ k = 3 ∨ k = 4 ∨ k = 5 ∨ k = 6 ∨ k = 7 := by omega

end Go.Proofs.YtjnnmghehoodhaaDoor

namespace Go.Proofs.YtjnnmghehoodhaaDoor
open Go.ChangeShapes Go.WideShapes Go.ChangeAt Go.RowKit
attribute [local go_sem ↓] Go.wp_at_zero Go.wp_at_succ
attribute [local go_sem] run_store_float

theorem quo_len (s : ByteArray) (k : Nat) : (quoL (s.data.toList.take k)).length ≤ 4 * k := by
  have := quoL_length (s.data.toList.take k)
  rw [List.length_take] at this
  omega
theorem quo_step (s : ByteArray) (k : Nat) (h : k < s.size) : quoL (s.data.toList.take (k + 1)) = quoL (s.data.toList.take k) ++ quoC s[k] := by
  rw [take_byte s k h, quoL_append]; simp [quoL]

end Go.Proofs.YtjnnmghehoodhaaDoor

namespace Go.Proofs.YtjnnmghehoodhaaDoor

end Go.Proofs.YtjnnmghehoodhaaDoor

namespace Go.Proofs.YtjnnmghehoodhaaDoor
open Go.ChangeShapes Go.WideShapes Go.ChangeAt Go.RowKit
attribute [local go_sem ↓] Go.wp_at_zero Go.wp_at_succ

theorem drop_at (s : ByteArray) (k : Nat) (h : k < s.size) : s.data.toList.drop k = s[k] :: s.data.toList.drop (k + 1) := by
  have hl : k < s.data.toList.length := by simpa using h
  rw [List.drop_eq_getElem_cons hl]
  congr 1

theorem Own.drew {w : World} {base : Nat} {v : Value} {l : List UInt8} (h : Own w base v l) : Own w.drew base v l := h
theorem up_grown {w W W' w' : World} {v : Value} {l : List UInt8} (hu : Up w W) (hg : W.grownBy w' v.ownBlock) (hown : Own W' w.heap.size v l) : Up w w' :=
  Below.grown hu hg hu.size fun k hk => (hown.lt k hk).1
/-- append of bytes at a step of a region that draws its order. -/
theorem step_bytes {w : World} {ops : Array Oper} {o : Oper} {a : Act} {K : Act → World → Prop} {Q : Exit → Act → World → Prop} {E : Prop} (hgd : o.guard = none) (s x : Operand)
    (ho : o.op = .call { callee := .builtin .append, args := #[s, x], argTypes := #[49, 49] }) (base : Nat) (v : Value) (l : List UInt8) (hs : a.eval s = v) (hown : Own w base v l)
    (ad : Addr) (m c : Nat) (new : List UInt8) (hx : a.eval x = .slice (some ad) m c) (hm : new.length = m) (hp : 0 < m) (hnews : ∀ j u, (bcells new)[j]? = some u → w.cell? (ad.add j) = some u)
    (hlen : l.length + m ≤ 1000000000000) (hbase : base ≤ w.heap.size)
    (h : ∀ v' w', Own w' base v' (l ++ new) → w.grownBy w' v.ownBlock → K (a.put o.dst v') w') : if Region.wanted o (yielded ops a.tmps) = true then Oper.wp Tryd.prog o a w K Q else E := by
  obtain ⟨i0, hi, hz0, hz1, hz2⟩ := info_parts info_byte
  refine step_append_lies w hgd s x 49 ho base 5 i0 (.int .u8 0) 1 1 Tryd.underlying49 hi hz0 hz1 hz2 rfl (by decide) v l.length (bcells l) hs hown ad m c (bcells new) hx
    (by rw [bcells_length, hm, Nat.mul_one]) hnews (bcells_one new) hp (by unfold maxLen; omega) (by omega) hbase _ rfl fun g cap w' h1 h2 _ _ => h _ w' ?_ h2
  unfold Own
  rw [List.length_append, bcells_append, hm]
  exact h1

/-- Bytes that were read out of digits, or none. -/
def BytesPost (w : World) (s : List UInt8) (e : Ending) (w' : World) : Prop :=
  Up w w' ∧ ((∃ l v, unhexL s = some l ∧ e = .returned (.tuple #[v, .bool true]) ∧ Own w' w.heap.size v l) ∨ (unhexL s = none ∧ e = .returned (.tuple #[.slice none 0 0, .bool false])))

end Go.Proofs.YtjnnmghehoodhaaDoor

namespace Go.Proofs.YtjnnmghehoodhaaDoor
open Go.ChangeShapes Go.WideShapes Go.ChangeAt Go.RowKit
attribute [local go_sem ↓] Go.wp_at_zero Go.wp_at_succ

theorem wrap_small {z : Int} (h0 : 0 ≤ z) (h1 : z ≤ 9223372036854775807) : IntKind.i64.wrap z = z := by
  simp [IntKind.wrap, IntKind.signed, IntKind.bits]
  omega
theorem byte_yes {c d : UInt8} (h : c = d) : ((c.toNat : Int) == (d.toNat : Int)) = true := by rw [h]; simp
theorem byte_no {c d : UInt8} (h : ¬ c = d) : ((c.toNat : Int) == (d.toNat : Int)) = false := by
  rw [beq_eq_false_iff_ne]
  intro e
  exact h (UInt8.toNat_inj.1 (by omega))
theorem hexAt_none1 {r : List UInt8} (h : r.length < 2) : hexAt r = none := by
  match r, h with
  | [], _ => rfl
  | [_], _ => rfl
theorem hexAt_none2 {a b : UInt8} {r : List UInt8} (h : unhexD a = none ∨ unhexD b = none) : hexAt (a :: b :: r) = none := by
  rcases h with h | h
  · rw [hexAt, h]
  · rw [hexAt, h]; cases unhexD a <;> rfl
theorem hexAt_some {a b : UInt8} {r : List UInt8} {x y : Nat} (hx : unhexD a = some x) (hy : unhexD b = some y) : hexAt (a :: b :: r) = some (UInt8.ofNat (16 * x + y)) := by
  rw [hexAt, hx, hy]
theorem unhexI_some {c : UInt8} {x : Nat} (h : unhexD c = some x) : unhexI c = (x : Int) := by unfold unhexI; rw [h]
theorem unhexI_neg {c : UInt8} (h : unhexD c = none) : unhexI c = -1 := by unfold unhexI; rw [h]

end Go.Proofs.YtjnnmghehoodhaaDoor

namespace Go.Proofs.YtjnnmghehoodhaaDoor
open Go.ChangeShapes Go.WideShapes Go.ChangeAt Go.RowKit
attribute [local go_sem ↓] Go.wp_at_zero Go.wp_at_succ
attribute [local go_sem] run_store_float
set_option linter.unusedVariables false

def valA (v : VT) : Value := .agg #[.int .i64 v.1, .int .i64 v.2.1, .string v.2.2.1, .float .f64 v.2.2.2]
def ReadPost (w : World) (v : VT) (e : Ending) (w' : World) : Prop := e = .returned (.agg #[.int .i64 v.1, .int .i64 v.2.1, .string v.2.2.1, .float .f64 v.2.2.2]) ∧ Up w w'

theorem t_cell {w : World} {g i : Nat} {cs : Array Value} {t : TypeId} {fz : Nat × Nat} {v : Value} (h : w.heap[g]? = some (.cells cs t fz)) (hv : cs[i]? = some v) : w.cell? ⟨g, i, none⟩ = some v := by
  simp [World.cell?, h, hv]
theorem t_frozen {w : World} {g i : Nat} {cs : Array Value} {t : TypeId} (h : w.heap[g]? = some (.cells cs t (0, 0))) : w.frozen? ⟨g, i, none⟩ = false := by
  simp [World.frozen?, h]
/-- The block of a result that nothing was stored into yet. -/
def Res (w W : World) : Prop := W.heap[w.heap.size]? = some (.cells #[.int .i64 0, .int .i64 0, .string ⟨#[]⟩, .float .f64 0] 27 (0, 0))
theorem Res.up {w W W' : World} (h : Res w W) (hu : Up W W') : Res w W' := hu.heap h
theorem Res.new (w : World) : Res w (w.alloc (.cells #[.int .i64 0, .int .i64 0, .string ⟨#[]⟩, .float .f64 0] 27)) := heap_alloc_new _ _

theorem digV_take (s : ByteArray) (k : Nat) (h : k < s.size) : digV (s.data.toList.take (k + 1)) = digF (digV (s.data.toList.take k)) s[k] := by
  rw [take_byte s k h, digV_snoc]
theorem wrap_intU (u : Nat) (h : u < whole) : IntKind.i64.wrap (u : Int) = intU u := by
  have hw : whole = 18446744073709551616 := rfl
  unfold intU
  rw [hw] at h
  simp [IntKind.wrap, IntKind.signed, IntKind.bits]
  split <;> split <;> omega
theorem dig_wrap (u c : Nat) (h : 48 ≤ c) : IntKind.u64.wrap (IntKind.u64.wrap (10 * (u : Int)) + ((c : Int) - 48)) = (((10 * u + (c - 48)) % 18446744073709551616 : Nat) : Int) := by
  simp [IntKind.wrap, IntKind.signed, IntKind.bits]
  omega
theorem head_minus (s : ByteArray) (h0 : 0 < s.size) : s.data.toList.head? = some s[0] := by
  have := drop_at s 0 h0
  rw [List.drop_zero] at this
  rw [this]; rfl
theorem head_rdI (s : ByteArray) (h0 : 0 < s.size) (nb : Bool) (hnb : ((s[0].toNat : Int) == 45) = nb) : rdI s.data.toList = if nb = true then intU (negU (digV s.data.toList)) else intU (digV s.data.toList) := by
  unfold rdI
  rw [head_minus s h0, ← hnb]
  by_cases h : s[0] = 45
  · have hb : ((s[0].toNat : Int) == 45) = true := byte_yes (d := 45) h
    rw [if_pos (by rw [h]), if_pos hb]
  · have hb : ((s[0].toNat : Int) == 45) = false := byte_no (d := 45) h
    rw [if_neg (fun e => h (Option.some.inj e)), hb]; rfl
theorem none_rdI (s : ByteArray) (h0 : s.size = 0) : rdI s.data.toList = intU (digV s.data.toList) := by
  have h : s.data.toList = [] := List.length_eq_zero_iff.1 (by simpa using h0)
  rw [h]; rfl
theorem wrap_negU (u : Nat) (h : u < whole) : IntKind.u64.wrap (-(u : Int)) = (negU u : Int) := by
  have hw : whole = 18446744073709551616 := rfl
  unfold negU
  rw [hw] at h ⊢
  simp [IntKind.wrap, IntKind.signed, IntKind.bits]
  omega

end Go.Proofs.YtjnnmghehoodhaaDoor

namespace Go.Proofs.YtjnnmghehoodhaaDoor
open Go.ChangeShapes Go.WideShapes Go.ChangeAt Go.RowKit
attribute [local go_sem ↓] Go.wp_at_zero Go.wp_at_succ
attribute [local go_sem] run_store_float
set_option linter.unusedVariables false

theorem numT_take (l : List UInt8) (k : Nat) (h : k < l.length) : numT (l.take (k + 1)) = numT (l.take k) * 256 + (l.getD k 0).toNat := by
  unfold numT
  rw [List.take_add_one, List.foldl_append, List.getElem?_eq_getElem h, List.getD_eq_getElem?_getD, List.getElem?_eq_getElem h]
  rfl
theorem or_byte' (x : Nat) (c : UInt8) (hx : x < 72057594037927936) : bits .or .u64 (IntKind.u64.wrap ((x : Int) * 256)) (IntKind.u64.wrap (c.toNat : Int)) = ((x * 256 + c.toNat : Nat) : Int) := by
  have hc := c.toNat_lt
  have e1 : IntKind.u64.wrap ((x : Int) * 256) = ((x * 256 : Nat) : Int) := by rw [IntKind.wrap_u64]; omega
  have e2 : IntKind.u64.wrap (c.toNat : Int) = (c.toNat : Int) := by rw [IntKind.wrap_u64]; omega
  rw [e1, e2, u64_or_nat (x * 256) c.toNat (by omega) (by omega), nat_join 8 (x * 256) c.toNat (by omega) hc]

end Go.Proofs.YtjnnmghehoodhaaDoor

namespace Go.Proofs.YtjnnmghehoodhaaDoor
open Go.ChangeShapes Go.WideShapes Go.ChangeAt Go.RowKit
attribute [local go_sem ↓] Go.wp_at_zero Go.wp_at_succ
attribute [local go_sem] run_store_float
set_option linter.unusedVariables false

/-- What Parse leaves: the value, or an error. -/
def ParsePost (w : World) (s : List UInt8) (e : Ending) (w' : World) : Prop :=
  Up w w' ∧ ((∃ v, parT s = some v ∧ e = .returned (.tuple #[.agg #[.int .i64 v.1, .int .i64 v.2.1, .string v.2.2.1, .float .f64 v.2.2.2], .int .i64 0])) ∨
    (parT s = none ∧ e = .returned (.tuple #[.agg #[.int .i64 0, .int .i64 0, .string ⟨#[]⟩, .float .f64 0], .int .i64 30])))

end Go.Proofs.YtjnnmghehoodhaaDoor

namespace Go.Proofs.YtjnnmghehoodhaaDoor
open Go.ChangeShapes Go.WideShapes Go.ChangeAt Go.RowKit
attribute [local go_sem ↓] Go.wp_at_zero Go.wp_at_succ
attribute [local go_sem] run_store_float
set_option linter.unusedVariables false

theorem prn_len (v : VT) (hf : Fits v) : (prnV v).length ≤ 250 := by
  obtain ⟨k, n, s, f⟩ := v
  by_cases hv : isB (k, n, s, f) = true
  · rcases t_cases hv with ⟨rfl, rfl, rfl⟩ | ⟨rfl, rfl | rfl, rfl, rfl⟩ | ⟨rfl | rfl, rfl, hs, rfl⟩ | ⟨rfl, rfl, rfl⟩
    · rw [prn_int]
      have h1 := natAbs_lt ⟨hf.2.2.1, hf.2.2.2.1⟩
      have h2 := decN_len 19 n.natAbs (by simp only at h1; omega)
      unfold decI
      split
      · rw [List.length_cons]; omega
      · omega
    · rw [prn_false]; decide
    · rw [prn_true]; decide
    · rw [prn_str hs, quoS, List.length_cons, List.length_append]
      have h1 := quoL_length s.data.toList
      have h2 : s.data.toList.length = s.size := by simp
      simp only [List.length_cons, List.length_nil]
      omega
    · have h2 : s.data.toList.length = s.size := by simp
      rw [prn_bytes hs, List.length_cons, hexL_length, h2]; omega
    · rw [prn_float, List.length_cons, hexL_length]
      have : (wordL f).length = 8 := rfl
      omega
  · rw [prnV, if_neg hv]; decide

/-- What was printed of a row so far. -/
def rowB (l : List VT) : List UInt8 := 40 :: joinT (l.map prnV)
theorem joinT_snoc : ∀ (l : List (List UInt8)) (t : List UInt8), l ≠ [] → joinT (l ++ [t]) = joinT l ++ 44 :: 32 :: t
  | [], _, h => absurd rfl h
  | [u], t, _ => by rw [List.singleton_append, joinT_cons2, joinT_one, joinT_one]
  | u :: x :: l, t, _ => by
    rw [List.cons_append, List.cons_append, joinT_cons2, joinT_cons2, ← List.cons_append, joinT_snoc (x :: l) t (by simp), List.append_assoc]; rfl
theorem rowB_first (v : VT) : rowB [v] = 40 :: prnV v := by
  unfold rowB; rw [List.map_cons, List.map_nil, joinT_one]
theorem rowB_next (l : List VT) (v : VT) (h : l ≠ []) : rowB (l ++ [v]) = rowB l ++ 44 :: 32 :: prnV v := by
  unfold rowB
  rw [List.map_append, List.map_cons, List.map_nil, joinT_snoc _ _ (by simpa using h)]; rfl
theorem rowB_len : ∀ (l : List VT), (∀ v ∈ l, Fits v) → (rowB l).length ≤ 1 + 252 * l.length := by
  have key : ∀ (l : List VT), (∀ v ∈ l, Fits v) → (joinT (l.map prnV)).length ≤ 252 * l.length := by
    intro l
    induction l with
    | nil => intro _; simp [joinT]
    | cons v l ih =>
      intro h
      have h1 := prn_len v (h v (by simp))
      have h2 := ih fun x hx => h x (by simp [hx])
      cases l with
      | nil => rw [List.map_cons, List.map_nil, joinT_one]; simp; omega
      | cons u l =>
        rw [List.map_cons, List.map_cons, joinT_cons2, ← List.map_cons, List.length_append, List.length_cons, List.length_cons]
        simp only [List.length_cons] at h2 ⊢
        omega
  intro l h
  have := key l h
  unfold rowB
  rw [List.length_cons]; omega
theorem str_append (a b : List UInt8) : (⟨a.toArray⟩ : ByteArray) ++ ⟨b.toArray⟩ = ⟨(a ++ b).toArray⟩ := by
  apply ByteArray.ext
  simp [ByteArray.data_append]
theorem str_size (a : List UInt8) : (ByteArray.mk a.toArray).size = a.length := rfl
theorem fits_mem {l : List VT} (h : ∀ i, Fits (l.getD i zeroT)) : ∀ v ∈ l, Fits v := by
  intro v hv
  obtain ⟨i, hi, rfl⟩ := List.getElem_of_mem hv
  have := h i
  rw [List.getD_eq_getElem?_getD, List.getElem?_eq_getElem hi] at this
  exact this

end Go.Proofs.YtjnnmghehoodhaaDoor

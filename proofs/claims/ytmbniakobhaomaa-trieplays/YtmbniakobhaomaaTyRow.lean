/-
  TriePlays: pairs in memory; begins and told of rialtolaw15, as their texts run.
-/
import Derived.Test.YtmbniakobhaomaaTyPln
import Derived.Test.YtmbniakobhaomaaTgRowV
import Derived.Test.YtmbniakobhaomaaTeKnw
import Derived.Test.YtmbniakobhaomaaOwnApp
import Derived.Laws.Cover1
import Derived.Lib.Strings
import Derived.Deep.RegionHeld3
namespace Go.Proofs.Ytmbniakobhaomaa
open Go.ChangeShapes Go.WideShapes Go.ChangeAt Go.RowKit
set_option linter.unusedVariables false
set_option maxRecDepth 100000
attribute [local go_sem ↓] Go.wp_at_zero Go.wp_at_succ

def pC (p : ByteArray × Int) : List Value := [.string p.1, .int .i64 p.2]
theorem elemQ : ElemP (α := ByteArray × Int) Try.prog 39 43 pC (.agg #[.string ⟨#[]⟩, .int .i64 0]) (.string ⟨#[]⟩) (.int .i64 0) 24 where
  ht := Try.underlying39
  hi := by kernel_rfl
  hb := by decide
  two := fun _ => rfl
  one := fun x u hu => by
    simp only [pC, List.mem_cons, List.not_mem_nil, or_false] at hu
    rcases hu with rfl | rfl <;> rfl
  zc := rfl
  zo0 := rfl
  zo1 := rfl
theorem RdP.pair {X : Nat → Prop} {w : World} {a : Option Addr} {n cap : Nat} {z : SZ} (h : RdP pC X w (.slice a n cap) z) {i : Nat} (hi : i < z.length) :
    ∃ g off, a = some ⟨g, off, none⟩ ∧ w.cell? ⟨g, off + i * 2, none⟩ = some (.string z[i].1) ∧ w.cell? ⟨g, off + i * 2 + 1, none⟩ = some (.int .i64 z[i].2) := by
  obtain ⟨g, off, h1, h2⟩ := h.get hi
  exact ⟨g, off, h1, h2 0 _ rfl, h2 1 _ rfl⟩
theorem ownP_below {α : Type} {e : TypeId} {cs : α → List Value} {W w w' : World} {v : Value} {l : List α} (hu : Up W w) (ho : OwnP e cs w W.heap.size v l) (hg : w.grownBy w' v.ownBlock) : Up W w' :=
  Below.grown hu.below hg hu.size (fun k hk => (ho.lt k hk).1)
theorem step_append_rowP {α : Type} {P : Program} {t e : TypeId} {cs : α → List Value} {z z0 z1 : Value} {bytes : Nat} (T : ElemP P t e cs z z0 z1 bytes) {X : Nat → Prop} {W w : World} {ops : Array Oper} {o : Oper} {a : Act} {K : Act → World → Prop} {Q : Exit → Act → World → Prop} {E : Prop}
    (hg : o.guard = none) (s x : Operand) (hop : o.op = .call { callee := .builtin .append, args := #[s, x], argTypes := #[t, t] }) (v u : Value) (l m : List α) (hd : a.eval s = v) (hx : a.eval x = u)
    (hu : Up W w) (hown : OwnP e cs w W.heap.size v l) (hr : RdP cs X w u m) (hlen : l.length + m.length ≤ 10000000)
    (hK : ∀ v' w', OwnP e cs w' W.heap.size v' (l ++ m) → Up W w' → K (a.put o.dst v') w') :
    if Region.wanted o (yielded ops a.tmps) = true then Oper.wp P o a w K Q else E := by
  obtain ⟨v', w', hrun, h2, h3, _⟩ := run_append_rdP T w W.heap.size v u l m o.type hown hr hlen hu.size
  exact step_append_run hg s x t hop v u hd hx hrun (hK v' w' h2 (ownP_below hu hown h3))
theorem rdP_one {α : Type} {cs : α → List Value} {X : Nat → Prop} {w : World} {g : Nat} {y : α} (hX : ¬ X g) {c0 c1 : Value} (hy : cs y = [c0, c1]) (h0 : w.cell? ⟨g, 0, none⟩ = some c0) (h1 : w.cell? ⟨g, 1, none⟩ = some c1) : RdP cs X w (.slice (some ⟨g, 0, none⟩) 1 1) [y] := by
  refine ⟨some ⟨g, 0, none⟩, 1, rfl, Nat.le_refl _, by unfold maxLen; omega, .inr ⟨g, 0, rfl, ⟨hX, World.block_lt_of_cell? w _ h0⟩, fun j u hj => ?_⟩⟩
  simp only [List.flatMap_cons, List.flatMap_nil, List.append_nil, hy] at hj
  match j with
  | 0 => simp at hj; subst hj; exact h0
  | 1 => simp at hj; subst hj; exact h1
  | j + 2 => simp at hj
theorem step_append_oneP {α : Type} {P : Program} {t e : TypeId} {cs : α → List Value} {z z0 z1 : Value} {bytes : Nat} (T : ElemP P t e cs z z0 z1 bytes) {W w : World} {ops : Array Oper} {o : Oper} {a : Act} {K : Act → World → Prop} {Q : Exit → Act → World → Prop} {E : Prop}
    (hg : o.guard = none) (s x : Operand) (hop : o.op = .call { callee := .builtin .append, args := #[s, x], argTypes := #[t, t] }) (v : Value) (l : List α) (y : α) (g : Nat) (hd : a.eval s = v) (hx : a.eval x = .slice (some ⟨g, 0, none⟩) 1 1)
    {c0 c1 : Value} (hy : cs y = [c0, c1]) (h0 : w.cell? ⟨g, 0, none⟩ = some c0) (h1 : w.cell? ⟨g, 1, none⟩ = some c1) (hu : Up W w) (hown : OwnP e cs w W.heap.size v l) (hlen : l.length + 1 ≤ 10000000)
    (hK : ∀ v' w', OwnP e cs w' W.heap.size v' (l ++ [y]) → Up W w' → K (a.put o.dst v') w') :
    if Region.wanted o (yielded ops a.tmps) = true then Oper.wp P o a w K Q else E :=
  step_append_rowP T (X := fun _ => False) hg s x hop v _ l [y] hd hx hu hown (rdP_one (fun h => h) hy h0 h1) hlen hK

theorem bytesL_lt : ∀ (x y : List UInt8), Op.bytesLess x y = decide (x < y)
  | [], [] => by simp [Op.bytesLess]
  | _ :: _, [] => by simp [Op.bytesLess]
  | [], _ :: _ => by simp [Op.bytesLess]
  | a :: x, b :: y => by
    rw [Op.bytesLess, bytesL_lt x y]
    simp only [List.cons_lt_cons_iff]
    by_cases h1 : a < b <;> by_cases h2 : a = b <;> by_cases h3 : x < y <;> simp [h1, h2, h3]
theorem str_lt (x y : ByteArray) : Op.bytesLess x.toList y.toList = decide (x.data.toList < y.data.toList) := by rw [bytesL_lt, Lib.toList_data, Lib.toList_data]
theorem str_eq (x y : ByteArray) : (x.toList == y.toList) = decide (x = y) := by
  rw [Lib.toList_data, Lib.toList_data]
  by_cases e : x = y
  · subst e; simp
  · rw [decide_eq_false e, beq_eq_false_iff_ne]
    exact fun h => e (ByteArray.ext (Array.toList_inj.1 h))
/-- Does s begin with p? -/
def begB (s p : ByteArray) : Bool := p.data.toList.isPrefixOf s.data.toList
theorem beg_cut {s p : ByteArray} (h : p.size ≤ s.size) : ((s.extract 0 p.size).toList == p.toList) = begB s p := by
  unfold begB
  have e1 : (s.extract 0 p.size).data.toList = s.data.toList.take p.data.toList.length := by
    have : p.data.toList.length = p.size := Array.length_toList
    rw [this]
    simp
  rw [Lib.toList_data, Lib.toList_data, e1]
  by_cases hp : p.data.toList <+: s.data.toList
  · rw [List.isPrefixOf_iff_prefix.2 hp, ← List.prefix_iff_eq_take.1 hp]
    simp
  · have : p.data.toList.isPrefixOf s.data.toList = false := Bool.eq_false_iff.2 (fun e => hp (List.isPrefixOf_iff_prefix.1 e))
    rw [this, beq_eq_false_iff_ne]
    exact fun e => hp (List.prefix_iff_eq_take.2 e.symm)
theorem beg_short {s p : ByteArray} (h : ¬ p.size ≤ s.size) : begB s p = false := by
  unfold begB
  rw [Bool.eq_false_iff]
  intro e
  have := (List.isPrefixOf_iff_prefix.1 e).length_le
  have e1 : p.data.toList.length = p.size := Array.length_toList
  have e2 : s.data.toList.length = s.size := Array.length_toList
  omega
set_option maxHeartbeats 4000000 in
theorem begins_calls (s p : ByteArray) (w : World) : Calls Try.prog 15 #[.string s, .string p] w fun e w' => e = .returned (.bool (begB s p)) ∧ w' = w := by
  by_cases h : p.size ≤ s.size
  · have h1 : ¬ (s.size : Int) < (p.size : Int) := by omega
    have h2 : (p.size : Int) ≤ (s.size : Int) := by omega
    have h0 : (0 : Int) ≤ (p.size : Int) := by omega
    have e := beg_cut h
    go_enter Try.func15, Try.ntmps15
    go_wp2
    go_ret
    exact ⟨rfl, rfl⟩
  · have h1 : ¬ (p.size : Int) ≤ (s.size : Int) := by omega
    rw [beg_short h]
    go_enter Try.func15, Try.ntmps15
    go_wp2
    go_ret
    exact ⟨rfl, rfl⟩
/-- Entries, where they lie. -/
structure EntsAt (w : World) (v : Value) (lx : List EX) : Prop where
  get : ∃ a c, v = .slice a lx.length c ∧ ∀ i (h : i < lx.length), ∃ g, a = some ⟨g, 0, none⟩ ∧ w.cell? ⟨g, i * 2, none⟩ = some (.slice (some ⟨lx[i].kb, 0, none⟩) 1 1) ∧ w.cell? ⟨g, i * 2 + 1, none⟩ = some (.int .i64 lx[i].id)
theorem OwnX.ents {w : World} {v : Value} {lx : List EX} (h : OwnX w 0 v lx) : EntsAt w v lx := by
  have h0 := h
  rcases h.2 with ⟨rfl, hn⟩ | ⟨g, cap, cur, rfl, hb, hg, hc, hm, hs, ht⟩
  · have : lx = [] := List.length_eq_zero_iff.1 (by simpa using hn)
    subst this
    exact ⟨none, 0, rfl, fun i hi => absurd hi (by simp)⟩
  · refine ⟨some ⟨g, 0, none⟩, cap, rfl, fun i hi => ⟨g, rfl, ?_, ?_⟩⟩
    · rw [show i * 2 = i * 2 + 0 from rfl, World.ownsRow.cellAt h0 (i * 2 + 0) (by omega), flatG_get (cs := eX) (k := 2) (fun _ => rfl) ⟨0, ByteArray.empty, 0⟩ lx i 0 hi (by decide)]
      simp [eX, List.getD_eq_getElem?_getD, List.getElem?_eq_getElem hi]
    · rw [World.ownsRow.cellAt h0 (i * 2 + 1) (by omega), flatG_get (cs := eX) (k := 2) (fun _ => rfl) ⟨0, ByteArray.empty, 0⟩ lx i 1 hi (by decide)]
      simp [eX, List.getD_eq_getElem?_getD, List.getElem?_eq_getElem hi]
def vS (s : ByteArray) : VT := (3, 0, s, 0)
theorem fits_vS {s : ByteArray} (h : s.size ≤ 1000) : Fits (vS s) := by
  refine ⟨show IntKind.i64.min ≤ (3 : Int) by decide, show (3 : Int) ≤ IntKind.i64.max by decide, show IntKind.i64.min ≤ (0 : Int) by decide, show (0 : Int) ≤ IntKind.i64.max by decide, ?_, show 0 < whole by decide⟩
  show s.size ≤ maxLen
  unfold maxLen; omega
theorem vals_one {w : World} {b : Nat} {s : ByteArray} (hs : s.size ≤ 1000) (h0 : w.cell? ⟨b, 0, none⟩ = some (.int .i64 3)) (h1 : w.cell? ⟨b, 1, none⟩ = some (.int .i64 0)) (h2 : w.cell? ⟨b, 2, none⟩ = some (.string s)) (h3 : w.cell? ⟨b, 3, none⟩ = some (.float .f64 0)) : Vals w (some ⟨b, 0, none⟩) 1 [vS s] := by
  refine ⟨rfl, fun i => ?_, .inr ⟨b, 0, rfl, fun i hi => ?_⟩⟩
  · match i with
    | 0 => exact fits_vS hs
    | i + 1 => exact show Fits zeroT from ⟨by decide, by decide, by decide, by decide, by decide, by decide⟩
  · obtain rfl : i = 0 := by omega
    exact ⟨h0, h1, h2, h3⟩
theorem KeyX.vals {w : World} {x : EX} (h : KeyX w x) (hs : x.s.size ≤ 1000) : Vals w (some ⟨x.kb, 0, none⟩) 1 [vS x.s] := by
  unfold KeyX at h
  refine vals_one hs ?_ ?_ ?_ ?_ <;> rw [cell_of h] <;> rfl
set_option maxHeartbeats 8000000 in
theorem told_calls (vl vm : Value) (lx : List EX) (z : SZ) (X : Nat → Prop) (w : World) (hl : OwnX w 0 vl lx) (hk : ∀ x ∈ lx, KeyX w x) (hm : RdP pC X w vm z) (he : lx.map prX = z.map pS) (hz : z.length ≤ 1000) (hs : ∀ p ∈ z, p.1.size ≤ 1000) :
    Calls Try.prog 17 #[vl, vm] w fun e w' => e = .returned (.bool true) ∧ Up w w' := by
  obtain ⟨a0, c0, rfl, hent⟩ := hl.ents.get
  obtain ⟨a1, n, c1, rfl, hn, -⟩ := hm.sliceN
  have hlen : lx.length = z.length := by have := congrArg List.length he; simpa using this
  have HN : Hid (n = z.length) := hn.out
  have HL : Hid (lx.length = n) := by show _ = _; rw [hlen, HN.out]
  obtain ⟨n', hn'⟩ : ∃ n', n' = n := ⟨n, rfl⟩
  rw [HL.out]
  have HE := hide hent
  have HK := hide hk
  have HM := hide hm
  have HEQ := hide he
  have HS := hide hs
  have hn1 : n ≤ 1000 := by rw [HN.out]; exact hz
  have g0 : ((n : Int) != (n : Int)) = false := by simp
  clear hl hk hm he hent hlen hz hs hn hn'
  go_enter Try.func17, Try.ntmps17
  go_wp2_with fail
  go_loopw [5] (fun v5 wr => ∃ i : Nat, i ≤ n ∧ v5 = .int .i64 i ∧ Hid (Up w wr)) (fun v5 _ => n - (intOf v5).toNat)
  case atStart => exact ⟨0, Nat.zero_le _, rfl, Up.refl _⟩
  case round =>
    obtain ⟨i, hi, rfl, hU⟩ := hrel
    have i0 : (0 : Int) ≤ (i : Int) := by omega
    by_cases hlt : i < n
    · have i1 : (i : Int) < (n : Int) := by omega
      have hx : i < lx.length := by rw [HL.out]; exact hlt
      have hy : i < z.length := by rw [← HN.out]; exact hlt
      obtain ⟨g, rfl, k0, k1⟩ := HE.out i hx
      obtain ⟨g', o, rfl, m0, m1⟩ := HM.out.pair hy
      have e1 : prX lx[i] = pS z[i] := by
        have h1 : (lx.map prX)[i]'(by simpa using hx) = (z.map pS)[i]'(by simpa using hy) := by simp only [HEQ.out]
        simpa using h1
      have es : lx[i].s = z[i].1 := ByteArray.ext (Array.toList_inj.1 (Prod.mk.inj e1).1)
      have ei : lx[i].id = z[i].2 := (Prod.mk.inj e1).2
      have HKV : Hid (Vals w (some ⟨lx[i].kb, 0, none⟩) 1 [vS z[i].1]) := by
        have := (HK.out _ (List.getElem_mem hx)).vals (by rw [es]; exact HS.out _ (List.getElem_mem hy))
        rwa [es] at this
      have HS1 : Hid (z[i].1.size ≤ 1000) := HS.out _ (List.getElem_mem hy)
      rw [ei] at k1
      generalize lx[i].kb = kb at k0 HKV
      generalize z[i].1 = s at m0 HKV HS1
      generalize z[i].2 = id at m1 k1
      clear es ei e1 hx hy
      have k0 := hU.out.cell k0
      have k1 := hU.out.cell k1
      have m0 := hU.out.cell m0
      have m1 := hU.out.cell m1
      have hne : (id != id) = false := by simp
      have HC : Hid (∀ w', Up wr w' → w'.cell? ⟨g, i * 2, none⟩ = some (.slice (some ⟨kb, 0, none⟩) 1 1) ∧ w'.cell? ⟨g, i * 2 + 1, none⟩ = some (.int .i64 id) ∧ w'.cell? ⟨g', o + i * 2, none⟩ = some (.string s) ∧ w'.cell? ⟨g', o + i * 2 + 1, none⟩ = some (.int .i64 id)) := hide (fun w' hu => ⟨hu.cell k0, hu.cell k1, hu.cell m0, hu.cell m1⟩)
      have HKW := hide (HKV.out.up hU.out)
      have ek : IntKind.i64.wrap (i : Int) = (i : Int) := by rw [IntKind.wrap_i64]; omega
      have ek1 : IntKind.i64.wrap ((i : Int) + 1) = (i : Int) + 1 := by rw [IntKind.wrap_i64]; omega
      clear HKV
      go_upto_region 6 with fail
      --P1
      refine wp_region_noPanic ?_
      go_region_held3 (fun w' => w'.cell? ⟨g, i * 2, none⟩ = some (.slice (some ⟨kb, 0, none⟩) 1 1) ∧ w'.cell? ⟨g, i * 2 + 1, none⟩ = some (.int .i64 id) ∧ w'.cell? ⟨g', o + i * 2, none⟩ = some (.string s) ∧ w'.cell? ⟨g', o + i * 2 + 1, none⟩ = some (.int .i64 id))
        (first | exact HC.out _ (huf.out.trans (by repeat' (with_reducible first | assumption | exact Up.refl _ | apply Up.alloc | apply Up.drew))) | exact HC.out _ (by repeat' (with_reducible first | assumption | exact Up.refl _ | apply Up.alloc | apply Up.drew)))
        (first
          | (go_at_call 32; refine (same_calls' _ _ 1 _ _ [vS s] _ (by decide) (HKW.out.up (by repeat' (with_reducible first | assumption | exact Up.refl _ | apply Up.alloc | apply Up.drew))) (vals_one HS1.out (by go_simp) (by go_simp) (by go_simp) (by go_simp))).mono ?_; rintro _ wf ⟨rfl, huf'⟩; have huf := hide (Up.trans (a := wr) (by repeat' (with_reducible first | assumption | exact Up.refl _ | apply Up.alloc | apply Up.drew)) huf'); clear huf'))
      all_goals (
        refine NoPanic.normal ?_
        go_wp2
        go_roundw
        case rel => exact ⟨i + 1, by omega, by simp, hide (hU.out.trans (huf.out.trans (by repeat' (with_reducible first | assumption | exact Up.refl _ | apply Up.alloc | apply Up.drew))))⟩
        case measure => simp [intOf]; omega)
    · obtain rfl : n = i := by omega
      have i1 : ¬ (n : Int) < (n : Int) := by omega
      go_wp2
      go_ret
      exact ⟨rfl, hU.out⟩
end Go.Proofs.Ytmbniakobhaomaa

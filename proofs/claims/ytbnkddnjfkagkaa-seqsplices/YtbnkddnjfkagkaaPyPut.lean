/-
  append at a step of a region that draws its order, onto a row of the call's own; without and Put of rialtoref18, as their texts run.
-/
import Derived.Test.YtbnkddnjfkagkaaPyFd
import Derived.Deep.RegionLaw
namespace Go.Proofs.Ytbnkddnjfkagkaa
open Go.ChangeShapes Go.WideShapes Go.ChangeAt Go.RowKit
set_option linter.unusedVariables false
set_option maxRecDepth 100000
attribute [local go_sem ↓] Go.wp_at_zero Go.wp_at_succ

/-- Own grows: a row that a call owns since W. -/
theorem own_below {α : Type} {e : TypeId} {enc : α → Value} {W w w' : World} {v : Value} {l : List α} (hu : Up W w) (ho : Own e enc w W.heap.size v l) (hg : w.grownBy w' v.ownBlock) : Up W w' :=
  Below.grown hu.below hg hu.size (fun k hk => (ho.lt k hk).1)
theorem step_append_row {α : Type} {P : Program} {t e : TypeId} {enc : α → Value} {z : Value} {bytes : Nat} (T : ElemT P t e enc z bytes) {X : Nat → Prop} {W w : World} {ops : Array Oper} {o : Oper} {a : Act} {K : Act → World → Prop} {Q : Exit → Act → World → Prop} {E : Prop}
    (hg : o.guard = none) (s x : Operand) (hop : o.op = .call { callee := .builtin .append, args := #[s, x], argTypes := #[t, t] }) (v u : Value) (l m : List α) (hd : a.eval s = v) (hx : a.eval x = u)
    (hu : Up W w) (hown : Own e enc w W.heap.size v l) (hr : Rd enc X w u m) (hlen : l.length + m.length ≤ 10000000)
    (hK : ∀ v' w', Own e enc w' W.heap.size v' (l ++ m) → Up W w' → K (a.put o.dst v') w') :
    if Region.wanted o (yielded ops a.tmps) = true then Oper.wp P o a w K Q else E := by
  obtain ⟨v', w', hrun, h2, h3, _⟩ := run_append_rd T w W.heap.size v u l m o.type hown hr hlen hu.size
  exact step_append_run hg s x t hop v u hd hx hrun (hK v' w' h2 (own_below hu hown h3))
theorem Rd.drop1 {α : Type} {enc : α → Value} {X : Nat → Prop} {w : World} {a : Option Addr} {n cap : Nat} {l : List α} (h : Rd enc X w (.slice a n cap) l) {m : Nat} (hm : m ≤ n) :
    Rd enc X w (.slice (if cap = m then a else Option.map (fun x => x.add m) a) (n - m) (cap - m)) (l.drop m) := by
  have := h.drop hm
  rw [Nat.mul_one] at this
  exact this
theorem rd_one {α : Type} {enc : α → Value} {X : Nat → Prop} {w : World} {g : Nat} {y : α} (hX : ¬ X g) (h : w.cell? ⟨g, 0, none⟩ = some (enc y)) : Rd enc X w (.slice (some ⟨g, 0, none⟩) 1 1) [y] := by
  refine ⟨some ⟨g, 0, none⟩, 1, rfl, Nat.le_refl _, by unfold maxLen; omega, .inr ⟨g, 0, rfl, hX, fun j u hj => ?_⟩⟩
  cases j with
  | zero => simp at hj; subst hj; exact h
  | succ j => simp at hj
theorem step_append_one {α : Type} {P : Program} {t e : TypeId} {enc : α → Value} {z : Value} {bytes : Nat} (T : ElemT P t e enc z bytes) {W w : World} {ops : Array Oper} {o : Oper} {a : Act} {K : Act → World → Prop} {Q : Exit → Act → World → Prop} {E : Prop}
    (hg : o.guard = none) (s x : Operand) (hop : o.op = .call { callee := .builtin .append, args := #[s, x], argTypes := #[t, t] }) (v : Value) (l : List α) (y : α) (g : Nat) (hd : a.eval s = v) (hx : a.eval x = .slice (some ⟨g, 0, none⟩) 1 1)
    (hnew : w.cell? ⟨g, 0, none⟩ = some (enc y)) (hu : Up W w) (hown : Own e enc w W.heap.size v l) (hlen : l.length + 1 ≤ 10000000)
    (hK : ∀ v' w', Own e enc w' W.heap.size v' (l ++ [y]) → Up W w' → K (a.put o.dst v') w') :
    if Region.wanted o (yielded ops a.tmps) = true then Oper.wp P o a w K Q else E :=
  step_append_row T (X := fun _ => False) hg s x hop v _ l [y] hd hx hu hown (rd_one (fun h => h) hnew) hlen hK
/-- A row that a call made since W can be read beside blocks that were there. -/
theorem own_rd_tm {α : Type} {e : TypeId} {enc : α → Value} {W w : World} {v : Value} {l : List α} {T M : Nat} (ho : Own e enc w W.heap.size v l) (hT : T < W.heap.size) (hM : M < W.heap.size) : Rd enc (TM T M) w v l :=
  Own.rd ho (fun g hg e => by
    have := (Own.lt ho g hg).1
    rcases e with e | e <;> omega)

/-- A row without a number. -/
def woL (zs : List Int) (id : Int) : List Int := zs.filter (fun z => decide (z ≠ id))
set_option maxHeartbeats 4000000 in
theorem without_calls (v : Value) (zs : List Int) (id : Int) (X : Nat → Prop) (w : World) (h : Rd (Value.int .i64) X w v zs) (hx : zs.length ≤ 100000) :
    Calls Try.prog 45 #[v, .int .i64 id] w fun e w' => ∃ v', e = .returned v' ∧ Own 2 (Value.int .i64) w' w.heap.size v' (woL zs id) ∧ Up w w' := by
  obtain ⟨a, n, c, rfl, hn, -⟩ := h.sliceN
  have H := hide h
  have HN := hide hn.out
  have hn6 : n ≤ 100000 := by rw [HN.out]; exact hx
  clear h hn hx
  go_enter Try.func45, Try.ntmps45
  go_wp2_with fail
  go_loopw [5, 6] (fun ov iv wr => ∃ k : Nat, k ≤ n ∧ iv = .int .i64 k ∧ Hid (Own 2 (Value.int .i64) wr w.heap.size ov (woL (zs.take k) id)) ∧ Hid (Up w wr)) (fun _ iv _ => n - (intOf iv).toNat)
  case atStart => exact ⟨0, Nat.zero_le _, rfl, Own.nil _ _ _ _, Up.refl _⟩
  case round =>
    obtain ⟨k, hk, rfl, ho, hu⟩ := hrel
    by_cases hkn : k < n
    · have k0 : (0 : Int) ≤ (k : Int) := by omega
      have k1 : (k : Int) < (n : Int) := by omega
      have hkx : k < zs.length := by rw [← HN.out]; exact hkn
      obtain ⟨g, o, rfl, y0⟩ := (H.out.up hu.out).get (i := k) hkx
      obtain ⟨x, hxe⟩ : ∃ x, x = zs[k] := ⟨_, rfl⟩
      have htk : zs.take (k + 1) = zs.take k ++ [x] := by rw [List.take_add_one, List.getElem?_eq_getElem hkx, hxe]; rfl
      rw [← hxe] at y0
      have ek : IntKind.i64.wrap ((k : Int) + 1) = (k : Int) + 1 := by rw [IntKind.wrap_i64]; omega
      by_cases hxi : x = id
      · have HO : Hid (Own 2 (Value.int .i64) wr w.heap.size u5 (woL (zs.take (k + 1)) id)) := by
          unfold woL Hid
          rw [htk, List.filter_append, List.filter_cons_of_neg (by simpa using hxi), List.filter_nil, List.append_nil]
          exact ho
        clear hxe hkx htk ho
        go_wp2
        go_roundw
        case rel => exact ⟨k + 1, by omega, by simp, HO, hu⟩
        case measure => simp [intOf]; omega
      · have hfl : woL (zs.take (k + 1)) id = woL (zs.take k) id ++ [x] := by
          unfold woL
          rw [htk, List.filter_append, List.filter_cons_of_pos (by simpa using hxi), List.filter_nil]
        have HFL := hide hfl
        have hln : (woL (zs.take k) id).length ≤ 100000 := by
          unfold woL
          refine Nat.le_trans (List.length_filter_le _ _) ?_
          rw [List.length_take]; omega
        have HLN := hide hln
        obtain ⟨ys, hys⟩ : ∃ ys, ys = woL (zs.take k) id := ⟨_, rfl⟩
        rw [← hys] at ho HFL HLN
        clear hxe hkx htk hfl hln hys
        have hu2 : Up wr (wr.alloc (.cells #[.int .i64 x] 2)) := (Up.refl _).alloc _
        have HO2 := hide (ho.out.up hu2)
        have HU2 := hide (hu.out.trans hu2)
        have HR2 : Hid (Rd (Value.int .i64) (fun _ => False) (wr.alloc (.cells #[.int .i64 x] 2)) (.slice (some ⟨wr.heap.size, 0, none⟩) 1 1) [x]) := rd_one (fun h => h) (by go_simp)
        clear hu2
        go_wp2_with (at_builtin; refine append_rd elemL rfl _ _ rfl w.heap.size _ _ ys [x] rfl rfl HO2.out HR2.out (by have := HLN.out; simp; omega) HU2.out.size ?_)
        intro v' w' ho' hg' _
        have hu' := hide (own_below HU2.out HO2.out hg')
        have ho2 : Hid (Own 2 (Value.int .i64) w' w.heap.size v' (woL (zs.take (k + 1)) id)) := by unfold Hid; rw [HFL.out]; exact ho'
        clear hg' ho'
        go_wp2
        go_roundw
        case rel => exact ⟨k + 1, by omega, by simp, ho2, hu'⟩
        case measure => simp [intOf]; omega
    · obtain rfl : k = n := by omega
      have k1 : ¬ (k : Int) < (k : Int) := by omega
      have HO : Hid (Own 2 (Value.int .i64) wr w.heap.size u5 (woL zs id)) := by
        have := ho.out
        rw [show zs.take k = zs by rw [HN.out, List.take_length]] at this
        exact this
      clear ho
      obtain ⟨a3, n3, c3, rfl, -, -⟩ := HO.out.sliceN
      go_wp2
      go_ret
      exact ⟨_, rfl, HO.out, hu.out⟩
theorem filter_del {xs : List Int} {k : Nat} {x : Int} (hn : xs.Nodup) (hx : xs[k]? = some x) : woL xs x = delL xs k := by
  obtain ⟨hk, he⟩ := List.getElem?_eq_some_iff.1 hx
  have h1 : xs = xs.take k ++ x :: xs.drop (k + 1) := by rw [← he, List.getElem_cons_drop, List.take_append_drop]
  unfold delL woL
  generalize xs.take k = A at h1 ⊢
  generalize xs.drop (k + 1) = B at h1 ⊢
  subst h1
  rw [List.nodup_append, List.nodup_cons] at hn
  obtain ⟨_, ⟨h3, _⟩, h4⟩ := hn
  have e1 : A.filter (fun z => decide (z ≠ x)) = A := List.filter_eq_self.2 (fun z hz => by simpa using h4 z hz x (by simp))
  have e2 : B.filter (fun z => decide (z ≠ x)) = B := List.filter_eq_self.2 (fun z hz => by simp; intro e; exact h3 (e ▸ hz))
  rw [List.filter_append, List.filter_cons_of_neg (by simp), e1, e2]
end Go.Proofs.Ytbnkddnjfkagkaa

/-
  Ids of rialtohelp at two equal rows, as its text runs; an index as a law sees it, plain.
  find of rialtolaw13, rialtolaw14 and rialtoref18, and without of rialtoref18, as their texts run.
  append at a step of a region that draws its order, onto a row of the call's own; without and Put of rialtoref18, as their texts run.
  Put of rialtoref18, as its text runs.
-/
import Derived.Test.YtbnkddnjfkagkaaSqIx
import Derived.BigRegion
import Derived.Deep.RegionLaw
namespace Go.Proofs.Ytbnkddnjfkagkaa
open Go.ChangeShapes Go.WideShapes Go.ChangeAt Go.RowKit
set_option linter.unusedVariables false
set_option maxRecDepth 100000
attribute [local go_sem ↓] Go.wp_at_zero Go.wp_at_succ

set_option maxHeartbeats 4000000 in
theorem ids_same (X Y : Nat → Prop) (v u : Value) (l : List Int) (w : World) (h1 : Rd (Value.int .i64) X w v l) (h2 : Rd (Value.int .i64) Y w u l) (hl : l.length ≤ 1000000) :
    Calls Try.prog 22 #[v, u] w fun e w' => e = .returned (.bool true) ∧ Up w w' := by
  obtain ⟨a1, n1, c1, rfl, hn1, -⟩ := h1.sliceN
  obtain ⟨a2, n2, c2, rfl, hn2, -⟩ := h2.sliceN
  obtain rfl : n1 = n2 := by rw [hn1.out, hn2.out]
  have H1 := hide h1
  have H2 := hide h2
  have hn6 : n1 ≤ 1000000 := by rw [hn1.out]; exact hl
  have HN : Hid (n1 = l.length) := hn1
  clear h1 h2 hl hn1 hn2
  go_enter Try.func22, Try.ntmps22
  go_wp2_with fail
  go_loopw [5] (fun iv wr => ∃ i : Nat, i ≤ n1 ∧ iv = .int .i64 i ∧ Hid (Up w wr)) (fun iv _ => n1 - (intOf iv).toNat)
  case atStart => exact ⟨0, Nat.zero_le _, rfl, Up.refl _⟩
  case round =>
    obtain ⟨i, hi, rfl, hu⟩ := hrel
    by_cases hlt : i < n1
    · have hlt' : (i : Int) < (n1 : Int) := by omega
      have i0 : (0 : Int) ≤ (i : Int) := by omega
      have hil : i < l.length := by rw [← HN.out]; exact hlt
      obtain ⟨g1, o1, rfl, hg1⟩ := (H1.out.up hu.out).get (i := i) hil
      obtain ⟨g2, o2, rfl, hg2⟩ := (H2.out.up hu.out).get (i := i) hil
      obtain ⟨x, hx, c1', c2'⟩ : ∃ x, x = l[i] ∧ wr.cell? ⟨g1, o1 + i, none⟩ = some (.int .i64 x) ∧ wr.cell? ⟨g2, o2 + i, none⟩ = some (.int .i64 x) := ⟨l[i], rfl, hg1, hg2⟩
      have e1 : IntKind.i64.wrap ((i : Int) + 1) = (i : Int) + 1 := by rw [IntKind.wrap_i64]; omega
      clear hg1 hg2 hx hil
      go_wp2_with fail
      go_quiet (fail)
      have HU5 := hide (hu.out.drewN nq)
      generalize wr.drewN nq = W5 at *
      go_wp2
      go_roundw
      case rel => exact ⟨i + 1, by omega, by first | rfl | congr 1, HU5⟩
      case measure => simp [intOf]; omega
    · obtain rfl : n1 = i := by omega
      have hlt' : ¬ (n1 : Int) < (n1 : Int) := by omega
      go_wp2
      go_ret
      exact ⟨rfl, hu.out⟩
theorem up_of_tm {w w1 w2 : World} {T M : Nat} (hu : Up w w1) (hT : w.heap.size ≤ T) (hM : w.heap.size ≤ M) (hc : Chg (TM T M) w1 w2) : Up w w2 :=
  ((Chg.of_up (C := TM T M) hu).trans hc (fun _ _ h => h)).up (fun x hx e => by rcases e with e | e <;> omega)
/-- A sequence that was made since w, with at most N nodes written. -/
def SqIn (w : World) (p T M : Nat) (xs : List Int) (N : Nat) (wr : World) : Prop := ∃ h n f, SqIx (fun _ => False) p T M xs h n f wr ∧ n ≤ N ∧ Up w wr
theorem SqIn.up {w wr w' : World} {p T M N : Nat} {xs : List Int} (i : SqIn w p T M xs N wr) (hu : Up wr w') : SqIn w p T M xs N w' := by
  obtain ⟨h, n, f, i, hn, h0⟩ := i
  exact ⟨h, n, f, i.up hu, hn, h0.trans hu⟩
theorem SqIn.of {w wr w' : World} {p T M n K N : Nat} {zs : List Int} (hT : w.heap.size ≤ T) (hM : w.heap.size ≤ M) (hu : Up w wr) (d : SqDone (fun _ => False) p T M zs n K wr w') (hN : n + K ≤ N) : SqIn w p T M zs N w' := by
  obtain ⟨h', k, f', i, hk, hc⟩ := d
  exact ⟨h', n + k, f', i, by omega, up_of_tm hu hT hM hc⟩
theorem wf64_small {x : Int} (h : -1000000 ≤ x ∧ x ≤ 1000000) : wf64 x := wf64_of (by omega) (by omega)
theorem SqIn.lts {w wr : World} {p T M N : Nat} {xs : List Int} (i : SqIn w p T M xs N wr) : T < wr.heap.size ∧ M < wr.heap.size := by
  obtain ⟨_, _, _, ix, _, _⟩ := i
  exact ⟨ix.ltT, ix.ltM⟩
/-- A row that a call told. -/
def Told (w : World) (l : List Int) (v : Value) (w' : World) : Prop := Own 2 (Value.int .i64) w' w.heap.size v l
theorem Told.rd {w wr w' : World} {p T M N : Nat} {xs l : List Int} {v : Value} (o : Told wr l v w') (i : SqIn w p T M xs N wr) : Rd (Value.int .i64) (TM T M) w' v l :=
  Own.rd o (fun g hg e => by
    have := (Own.lt o g hg).1
    have := i.lts
    rcases e with e | e <;> omega)
/-- The numbers from 1 on. -/
def ups (i : Nat) : List Int := (List.range i).map (fun (j : Nat) => (j : Int) + 1)
theorem ups_len (i : Nat) : (ups i).length = i := by unfold ups; simp
theorem ups_succ (i : Nat) : ups i ++ [(i : Int) + 1] = ups (i + 1) := by
  unfold ups
  rw [List.range_succ, List.map_append]
  rfl
theorem ups_mem (i : Nat) (v : Int) : v ∈ ups i ↔ 1 ≤ v ∧ v ≤ i := by
  unfold ups
  rw [List.mem_map]
  constructor
  · rintro ⟨j, hj, rfl⟩
    have := List.mem_range.1 hj
    omega
  · rintro ⟨h1, h2⟩
    exact ⟨(v - 1).toNat, List.mem_range.2 (by omega), by omega⟩
/-- Just the numbers from 1 to k, in whatever order. -/
def AllIn (k : Nat) (xs : List Int) : Prop := xs.length = k ∧ ∀ v : Int, v ∈ xs ↔ 1 ≤ v ∧ v ≤ k
theorem ins_back {xs : List Int} {a : Nat} (ha : a < xs.length) : insL (xs.getD a 0) (delL xs a) a = xs := by
  apply List.ext_getElem?
  intro k
  have hl := delL_len xs a ha
  rw [insL_get _ _ (by omega)]
  by_cases h1 : k < a
  · rw [if_pos h1, delL_get xs ha, if_pos h1]
  · rw [if_neg h1]
    by_cases h2 : k = a
    · subst h2; rw [if_pos rfl, getD_in xs ha, List.getElem?_eq_getElem ha]
    · rw [if_neg h2, delL_get xs ha, if_neg (by omega), show k - 1 + 1 = k by omega]
end Go.Proofs.Ytbnkddnjfkagkaa

namespace Go.Proofs.Ytbnkddnjfkagkaa
open Go.ChangeShapes Go.WideShapes Go.ChangeAt Go.RowKit
set_option linter.unusedVariables false
set_option maxRecDepth 100000
attribute [local go_sem ↓] Go.wp_at_zero Go.wp_at_succ

/-- Where a number stands; -1 if nowhere. -/
def fdI (l : List Int) (id : Int) : Int := if id ∈ l then (l.idxOf id : Int) else -1
theorem fdI_yes {l : List Int} {id : Int} {k : Nat} (hn : l.Nodup) (h : l[k]? = some id) : fdI l id = k := by
  obtain ⟨hl, hx⟩ := List.getElem?_eq_some_iff.1 h
  have hm : id ∈ l := hx ▸ List.getElem_mem hl
  unfold fdI
  rw [if_pos hm]
  have h2 := List.idxOf_lt_length_of_mem hm
  have h3 : l[l.idxOf id] = l[k] := by rw [List.getElem_idxOf, hx]
  rw [nodup_at hn h3]
theorem fdI_no {l : List Int} {id : Int} (h : id ∉ l) : fdI l id = -1 := by unfold fdI; rw [if_neg h]
theorem fdI_cases (l : List Int) (id : Int) : (id ∉ l ∧ fdI l id = -1) ∨ ∃ k : Nat, l[k]? = some id ∧ fdI l id = k ∧ (∀ i, i < k → l[i]? ≠ some id) ∧ k < l.length := by
  by_cases hm : id ∈ l
  · have hlt := List.idxOf_lt_length_of_mem hm
    refine .inr ⟨l.idxOf id, by rw [List.getElem?_eq_getElem hlt, List.getElem_idxOf], by unfold fdI; rw [if_pos hm], fun i hi e => ?_, hlt⟩
    obtain ⟨h1, h2⟩ := List.getElem?_eq_some_iff.1 e
    have := List.not_of_lt_findIdx (p := (· == id)) (xs := l) (i := i) hi
    simp [h2] at this
  · exact .inl ⟨hm, fdI_no hm⟩
set_option maxHeartbeats 2000000 in
theorem find14_calls (v : Value) (zs : List Int) (id : Int) (X : Nat → Prop) (w : World) (h : Rd (Value.int .i64) X w v zs) (hx : zs.length ≤ 100000) :
    Calls Try.prog 29 #[v, .int .i64 id] w fun e w' => e = .returned (.int .i64 (fdI zs id)) ∧ w' = w := by
  obtain ⟨p, r, hp, hno, hyes, hr1, hr2, hr⟩ : ∃ (p : Nat) (r : Int), p ≤ zs.length ∧ (∀ i, i < p → zs[i]? ≠ some id) ∧ (p < zs.length → zs[p]? = some id) ∧ (p < zs.length → r = p) ∧ (¬ p < zs.length → r = -1) ∧ fdI zs id = r := by
    rcases fdI_cases zs id with ⟨h1, h2⟩ | ⟨k, h1, h2, h3, h4⟩
    · exact ⟨zs.length, -1, Nat.le_refl _, fun i hi e => h1 (List.mem_of_getElem? e), fun h => absurd h (Nat.lt_irrefl _), fun h => absurd h (Nat.lt_irrefl _), fun _ => rfl, h2⟩
    · exact ⟨k, k, Nat.le_of_lt h4, h3, fun _ => h1, fun _ => rfl, fun h => absurd h4 h, h2⟩
  rw [hr]
  obtain ⟨a, n, c, rfl, hn, -⟩ := h.sliceN
  have H := hide h
  have HN := hide hn.out
  clear h hn
  go_enter Try.func29, Try.ntmps29
  have hpn : p ≤ n := by rw [HN.out]; exact hp
  have hn6 : n ≤ 100000 := by rw [HN.out]; exact hx
  have HNO := hide hno
  have HYES := hide hyes
  have HR1 := hide hr1
  have HR2 := hide hr2
  clear hno hyes hp hx hr1 hr2 hr
  go_wp2_with fail
  go_loopw [5] (fun iv wr => ∃ k : Nat, k ≤ p ∧ iv = .int .i64 k ∧ wr = w) (fun iv _ => n - (intOf iv).toNat)
  case atStart => exact ⟨0, Nat.zero_le _, rfl, rfl⟩
  case round =>
    obtain ⟨k, hk, rfl, hw⟩ := hrel
    subst hw
    by_cases hkn : k < n
    · have k0 : (0 : Int) ≤ (k : Int) := by omega
      have k1 : (k : Int) < (n : Int) := by omega
      have hkx : k < zs.length := by rw [← HN.out]; exact hkn
      obtain ⟨g, o, rfl, y0⟩ := H.out.get (i := k) hkx
      obtain ⟨x, hxe⟩ : ∃ x, x = zs[k] := ⟨_, rfl⟩
      have hxk : zs[k]? = some x := by rw [List.getElem?_eq_getElem hkx, hxe]
      rw [← hxe] at y0
      have ek : IntKind.i64.wrap ((k : Int) + 1) = (k : Int) + 1 := by rw [IntKind.wrap_i64]; omega
      by_cases hkp : k < p
      · have e0 : ¬ x = id := fun e => HNO.out k hkp (by rw [hxk, e])
        clear hxe hxk hkx
        go_wp2
        go_roundw
        case rel => exact ⟨k + 1, by omega, by simp, by simp⟩
        case measure => simp [intOf]; omega
      · obtain rfl : k = p := by omega
        have e0 : x = id := by
          have := HYES.out hkx
          rw [hxk] at this
          injection this with this
        have ER := hide (HR1.out hkx)
        subst e0
        clear hxe hxk hkx
        go_wp2
        go_ret
        exact ⟨by rw [ER.out]; rfl, rfl⟩
    · obtain rfl : p = n := by omega
      obtain rfl : k = p := by omega
      have hkx : ¬ k < zs.length := by rw [← HN.out]; exact hkn
      have ER := hide (HR2.out hkx)
      have k1 : ¬ (k : Int) < (k : Int) := by omega
      clear hkx
      go_wp2
      go_ret
      exact ⟨by rw [ER.out]; rfl, rfl⟩
set_option maxHeartbeats 2000000 in
theorem find13_calls (v : Value) (zs : List Int) (id : Int) (X : Nat → Prop) (w : World) (h : Rd (Value.int .i64) X w v zs) (hx : zs.length ≤ 100000) :
    Calls Try.prog 11 #[v, .int .i64 id] w fun e w' => e = .returned (.int .i64 (fdI zs id)) ∧ w' = w := by
  obtain ⟨p, r, hp, hno, hyes, hr1, hr2, hr⟩ : ∃ (p : Nat) (r : Int), p ≤ zs.length ∧ (∀ i, i < p → zs[i]? ≠ some id) ∧ (p < zs.length → zs[p]? = some id) ∧ (p < zs.length → r = p) ∧ (¬ p < zs.length → r = -1) ∧ fdI zs id = r := by
    rcases fdI_cases zs id with ⟨h1, h2⟩ | ⟨k, h1, h2, h3, h4⟩
    · exact ⟨zs.length, -1, Nat.le_refl _, fun i hi e => h1 (List.mem_of_getElem? e), fun h => absurd h (Nat.lt_irrefl _), fun h => absurd h (Nat.lt_irrefl _), fun _ => rfl, h2⟩
    · exact ⟨k, k, Nat.le_of_lt h4, h3, fun _ => h1, fun _ => rfl, fun h => absurd h4 h, h2⟩
  rw [hr]
  obtain ⟨a, n, c, rfl, hn, -⟩ := h.sliceN
  have H := hide h
  have HN := hide hn.out
  clear h hn
  go_enter Try.func11, Try.ntmps11
  have hpn : p ≤ n := by rw [HN.out]; exact hp
  have hn6 : n ≤ 100000 := by rw [HN.out]; exact hx
  have HNO := hide hno
  have HYES := hide hyes
  have HR1 := hide hr1
  have HR2 := hide hr2
  clear hno hyes hp hx hr1 hr2 hr
  go_wp2_with fail
  go_loopw [5] (fun iv wr => ∃ k : Nat, k ≤ p ∧ iv = .int .i64 k ∧ wr = w) (fun iv _ => n - (intOf iv).toNat)
  case atStart => exact ⟨0, Nat.zero_le _, rfl, rfl⟩
  case round =>
    obtain ⟨k, hk, rfl, hw⟩ := hrel
    subst hw
    by_cases hkn : k < n
    · have k0 : (0 : Int) ≤ (k : Int) := by omega
      have k1 : (k : Int) < (n : Int) := by omega
      have hkx : k < zs.length := by rw [← HN.out]; exact hkn
      obtain ⟨g, o, rfl, y0⟩ := H.out.get (i := k) hkx
      obtain ⟨x, hxe⟩ : ∃ x, x = zs[k] := ⟨_, rfl⟩
      have hxk : zs[k]? = some x := by rw [List.getElem?_eq_getElem hkx, hxe]
      rw [← hxe] at y0
      have ek : IntKind.i64.wrap ((k : Int) + 1) = (k : Int) + 1 := by rw [IntKind.wrap_i64]; omega
      by_cases hkp : k < p
      · have e0 : ¬ x = id := fun e => HNO.out k hkp (by rw [hxk, e])
        clear hxe hxk hkx
        go_wp2
        go_roundw
        case rel => exact ⟨k + 1, by omega, by simp, by simp⟩
        case measure => simp [intOf]; omega
      · obtain rfl : k = p := by omega
        have e0 : x = id := by
          have := HYES.out hkx
          rw [hxk] at this
          injection this with this
        have ER := hide (HR1.out hkx)
        subst e0
        clear hxe hxk hkx
        go_wp2
        go_ret
        exact ⟨by rw [ER.out]; rfl, rfl⟩
    · obtain rfl : p = n := by omega
      obtain rfl : k = p := by omega
      have hkx : ¬ k < zs.length := by rw [← HN.out]; exact hkn
      have ER := hide (HR2.out hkx)
      have k1 : ¬ (k : Int) < (k : Int) := by omega
      clear hkx
      go_wp2
      go_ret
      exact ⟨by rw [ER.out]; rfl, rfl⟩
set_option maxHeartbeats 2000000 in
theorem findR_calls (v : Value) (zs : List Int) (id : Int) (X : Nat → Prop) (w : World) (h : Rd (Value.int .i64) X w v zs) (hx : zs.length ≤ 100000) :
    Calls Try.prog 44 #[v, .int .i64 id] w fun e w' => e = .returned (.int .i64 (fdI zs id)) ∧ w' = w := by
  obtain ⟨p, r, hp, hno, hyes, hr1, hr2, hr⟩ : ∃ (p : Nat) (r : Int), p ≤ zs.length ∧ (∀ i, i < p → zs[i]? ≠ some id) ∧ (p < zs.length → zs[p]? = some id) ∧ (p < zs.length → r = p) ∧ (¬ p < zs.length → r = -1) ∧ fdI zs id = r := by
    rcases fdI_cases zs id with ⟨h1, h2⟩ | ⟨k, h1, h2, h3, h4⟩
    · exact ⟨zs.length, -1, Nat.le_refl _, fun i hi e => h1 (List.mem_of_getElem? e), fun h => absurd h (Nat.lt_irrefl _), fun h => absurd h (Nat.lt_irrefl _), fun _ => rfl, h2⟩
    · exact ⟨k, k, Nat.le_of_lt h4, h3, fun _ => h1, fun _ => rfl, fun h => absurd h4 h, h2⟩
  rw [hr]
  obtain ⟨a, n, c, rfl, hn, -⟩ := h.sliceN
  have H := hide h
  have HN := hide hn.out
  clear h hn
  go_enter Try.func44, Try.ntmps44
  have hpn : p ≤ n := by rw [HN.out]; exact hp
  have hn6 : n ≤ 100000 := by rw [HN.out]; exact hx
  have HNO := hide hno
  have HYES := hide hyes
  have HR1 := hide hr1
  have HR2 := hide hr2
  clear hno hyes hp hx hr1 hr2 hr
  go_wp2_with fail
  go_loopw [5] (fun iv wr => ∃ k : Nat, k ≤ p ∧ iv = .int .i64 k ∧ wr = w) (fun iv _ => n - (intOf iv).toNat)
  case atStart => exact ⟨0, Nat.zero_le _, rfl, rfl⟩
  case round =>
    obtain ⟨k, hk, rfl, hw⟩ := hrel
    subst hw
    by_cases hkn : k < n
    · have k0 : (0 : Int) ≤ (k : Int) := by omega
      have k1 : (k : Int) < (n : Int) := by omega
      have hkx : k < zs.length := by rw [← HN.out]; exact hkn
      obtain ⟨g, o, rfl, y0⟩ := H.out.get (i := k) hkx
      obtain ⟨x, hxe⟩ : ∃ x, x = zs[k] := ⟨_, rfl⟩
      have hxk : zs[k]? = some x := by rw [List.getElem?_eq_getElem hkx, hxe]
      rw [← hxe] at y0
      have ek : IntKind.i64.wrap ((k : Int) + 1) = (k : Int) + 1 := by rw [IntKind.wrap_i64]; omega
      by_cases hkp : k < p
      · have e0 : ¬ x = id := fun e => HNO.out k hkp (by rw [hxk, e])
        clear hxe hxk hkx
        go_wp2
        go_roundw
        case rel => exact ⟨k + 1, by omega, by simp, by simp⟩
        case measure => simp [intOf]; omega
      · obtain rfl : k = p := by omega
        have e0 : x = id := by
          have := HYES.out hkx
          rw [hxk] at this
          injection this with this
        have ER := hide (HR1.out hkx)
        subst e0
        clear hxe hxk hkx
        go_wp2
        go_ret
        exact ⟨by rw [ER.out]; rfl, rfl⟩
    · obtain rfl : p = n := by omega
      obtain rfl : k = p := by omega
      have hkx : ¬ k < zs.length := by rw [← HN.out]; exact hkn
      have ER := hide (HR2.out hkx)
      have k1 : ¬ (k : Int) < (k : Int) := by omega
      clear hkx
      go_wp2
      go_ret
      exact ⟨by rw [ER.out]; rfl, rfl⟩
end Go.Proofs.Ytbnkddnjfkagkaa

namespace Go.Proofs.Ytbnkddnjfkagkaa
open Go.ChangeShapes Go.WideShapes Go.ChangeAt Go.RowKit
set_option linter.unusedVariables false
set_option maxRecDepth 100000
attribute [local go_sem ↓] Go.wp_at_zero Go.wp_at_succ

/-- Own grows: a row that a call owns since W. -/
theorem own_below {α : Type} {e : TypeId} {enc : α → Value} {W w w' : World} {v : Value} {l : List α} (hu : Up W w) (ho : Own e enc w W.heap.size v l) (hg : w.grownBy w' v.ownBlock) : Up W w' :=
  Below.grown hu.below hg hu.size (fun k hk => (ho.lt k hk).1)
theorem step_append_row {α : Type} {P : Program} {t e : TypeId} {enc : α → Value} {z : Value} {bytes : Nat} (T : ElemT P t e enc z bytes) {X : Nat → Prop} {W w : World} {ops : Array Oper} {o : Oper} {a : Act} {K : Act → World → Prop} {Q : Exit → Act → World → Prop} {E : Prop}
    (hg : o.guard = none) (s x : Operand) (hop : o.op = .call { callee := .builtin .append, args := #[s, x], argTypes := #[t, t] }) (v u : Value) (l m : List α) (hd : a.eval s = v) (hx : a.eval x = u)
    (hu : Up W w) (hown : Own e enc w W.heap.size v l) (hr : Rd enc X w u m) (hlen : l.length + m.length ≤ 10000000)
    (hK : ∀ v' w', Own e enc w' W.heap.size v' (l ++ m) → Up W w' → K (a.put o.dst v') w') :
    if Region.wanted o (yielded ops a.tmps) = true then Oper.wp P o a w K Q else E := by
  obtain ⟨v', w', hrun, h2, h3, _⟩ := run_append_rd T w W.heap.size v u l m o.type hown hr hlen hu.size
  exact step_append_run hg s x t hop v u hd hx hrun (hK v' w' h2 (own_below hu hown h3))
theorem Rd.drop1 {α : Type} {enc : α → Value} {X : Nat → Prop} {w : World} {a : Option Addr} {n cap : Nat} {l : List α} (h : Rd enc X w (.slice a n cap) l) {m : Nat} (hm : m ≤ n) :
    Rd enc X w (.slice (if cap = m then a else Option.map (fun x => x.add m) a) (n - m) (cap - m)) (l.drop m) := by
  have := h.drop hm
  rw [Nat.mul_one] at this
  exact this
theorem rd_one {α : Type} {enc : α → Value} {X : Nat → Prop} {w : World} {g : Nat} {y : α} (hX : ¬ X g) (h : w.cell? ⟨g, 0, none⟩ = some (enc y)) : Rd enc X w (.slice (some ⟨g, 0, none⟩) 1 1) [y] := by
  refine ⟨some ⟨g, 0, none⟩, 1, rfl, Nat.le_refl _, by unfold maxLen; omega, .inr ⟨g, 0, rfl, hX, fun j u hj => ?_⟩⟩
  cases j with
  | zero => simp at hj; subst hj; exact h
  | succ j => simp at hj
theorem step_append_one {α : Type} {P : Program} {t e : TypeId} {enc : α → Value} {z : Value} {bytes : Nat} (T : ElemT P t e enc z bytes) {W w : World} {ops : Array Oper} {o : Oper} {a : Act} {K : Act → World → Prop} {Q : Exit → Act → World → Prop} {E : Prop}
    (hg : o.guard = none) (s x : Operand) (hop : o.op = .call { callee := .builtin .append, args := #[s, x], argTypes := #[t, t] }) (v : Value) (l : List α) (y : α) (g : Nat) (hd : a.eval s = v) (hx : a.eval x = .slice (some ⟨g, 0, none⟩) 1 1)
    (hnew : w.cell? ⟨g, 0, none⟩ = some (enc y)) (hu : Up W w) (hown : Own e enc w W.heap.size v l) (hlen : l.length + 1 ≤ 10000000)
    (hK : ∀ v' w', Own e enc w' W.heap.size v' (l ++ [y]) → Up W w' → K (a.put o.dst v') w') :
    if Region.wanted o (yielded ops a.tmps) = true then Oper.wp P o a w K Q else E :=
  step_append_row T (X := fun _ => False) hg s x hop v _ l [y] hd hx hu hown (rd_one (fun h => h) hnew) hlen hK
/-- A row that a call made since W can be read beside blocks that were there. -/
theorem own_rd_tm {α : Type} {e : TypeId} {enc : α → Value} {W w : World} {v : Value} {l : List α} {T M : Nat} (ho : Own e enc w W.heap.size v l) (hT : T < W.heap.size) (hM : M < W.heap.size) : Rd enc (TM T M) w v l :=
  Own.rd ho (fun g hg e => by
    have := (Own.lt ho g hg).1
    rcases e with e | e <;> omega)

/-- A row without a number. -/
def woL (zs : List Int) (id : Int) : List Int := zs.filter (fun z => decide (z ≠ id))
set_option maxHeartbeats 4000000 in
theorem without_calls (v : Value) (zs : List Int) (id : Int) (X : Nat → Prop) (w : World) (h : Rd (Value.int .i64) X w v zs) (hx : zs.length ≤ 100000) :
    Calls Try.prog 45 #[v, .int .i64 id] w fun e w' => ∃ v', e = .returned v' ∧ Own 2 (Value.int .i64) w' w.heap.size v' (woL zs id) ∧ Up w w' := by
  obtain ⟨a, n, c, rfl, hn, -⟩ := h.sliceN
  have H := hide h
  have HN := hide hn.out
  have hn6 : n ≤ 100000 := by rw [HN.out]; exact hx
  clear h hn hx
  go_enter Try.func45, Try.ntmps45
  go_wp2_with fail
  go_loopw [5, 6] (fun ov iv wr => ∃ k : Nat, k ≤ n ∧ iv = .int .i64 k ∧ Hid (Own 2 (Value.int .i64) wr w.heap.size ov (woL (zs.take k) id)) ∧ Hid (Up w wr)) (fun _ iv _ => n - (intOf iv).toNat)
  case atStart => exact ⟨0, Nat.zero_le _, rfl, Own.nil _ _ _ _, Up.refl _⟩
  case round =>
    obtain ⟨k, hk, rfl, ho, hu⟩ := hrel
    by_cases hkn : k < n
    · have k0 : (0 : Int) ≤ (k : Int) := by omega
      have k1 : (k : Int) < (n : Int) := by omega
      have hkx : k < zs.length := by rw [← HN.out]; exact hkn
      obtain ⟨g, o, rfl, y0⟩ := (H.out.up hu.out).get (i := k) hkx
      obtain ⟨x, hxe⟩ : ∃ x, x = zs[k] := ⟨_, rfl⟩
      have htk : zs.take (k + 1) = zs.take k ++ [x] := by rw [List.take_add_one, List.getElem?_eq_getElem hkx, hxe]; rfl
      rw [← hxe] at y0
      have ek : IntKind.i64.wrap ((k : Int) + 1) = (k : Int) + 1 := by rw [IntKind.wrap_i64]; omega
      by_cases hxi : x = id
      · have HO : Hid (Own 2 (Value.int .i64) wr w.heap.size u5 (woL (zs.take (k + 1)) id)) := by
          unfold woL Hid
          rw [htk, List.filter_append, List.filter_cons_of_neg (by simpa using hxi), List.filter_nil, List.append_nil]
          exact ho
        clear hxe hkx htk ho
        go_wp2
        go_roundw
        case rel => exact ⟨k + 1, by omega, by simp, HO, hu⟩
        case measure => simp [intOf]; omega
      · have hfl : woL (zs.take (k + 1)) id = woL (zs.take k) id ++ [x] := by
          unfold woL
          rw [htk, List.filter_append, List.filter_cons_of_pos (by simpa using hxi), List.filter_nil]
        have HFL := hide hfl
        have hln : (woL (zs.take k) id).length ≤ 100000 := by
          unfold woL
          refine Nat.le_trans (List.length_filter_le _ _) ?_
          rw [List.length_take]; omega
        have HLN := hide hln
        obtain ⟨ys, hys⟩ : ∃ ys, ys = woL (zs.take k) id := ⟨_, rfl⟩
        rw [← hys] at ho HFL HLN
        clear hxe hkx htk hfl hln hys
        have hu2 : Up wr (wr.alloc (.cells #[.int .i64 x] 2)) := (Up.refl _).alloc _
        have HO2 := hide (ho.out.up hu2)
        have HU2 := hide (hu.out.trans hu2)
        have HR2 : Hid (Rd (Value.int .i64) (fun _ => False) (wr.alloc (.cells #[.int .i64 x] 2)) (.slice (some ⟨wr.heap.size, 0, none⟩) 1 1) [x]) := rd_one (fun h => h) (by go_simp)
        clear hu2
        go_wp2_with (at_builtin; refine append_rd elemL rfl _ _ rfl w.heap.size _ _ ys [x] rfl rfl HO2.out HR2.out (by have := HLN.out; simp; omega) HU2.out.size ?_)
        intro v' w' ho' hg' _
        have hu' := hide (own_below HU2.out HO2.out hg')
        have ho2 : Hid (Own 2 (Value.int .i64) w' w.heap.size v' (woL (zs.take (k + 1)) id)) := by unfold Hid; rw [HFL.out]; exact ho'
        clear hg' ho'
        go_wp2
        go_roundw
        case rel => exact ⟨k + 1, by omega, by simp, ho2, hu'⟩
        case measure => simp [intOf]; omega
    · obtain rfl : k = n := by omega
      have k1 : ¬ (k : Int) < (k : Int) := by omega
      have HO : Hid (Own 2 (Value.int .i64) wr w.heap.size u5 (woL zs id)) := by
        have := ho.out
        rw [show zs.take k = zs by rw [HN.out, List.take_length]] at this
        exact this
      clear ho
      obtain ⟨a3, n3, c3, rfl, -, -⟩ := HO.out.sliceN
      go_wp2
      go_ret
      exact ⟨_, rfl, HO.out, hu.out⟩
theorem filter_del {xs : List Int} {k : Nat} {x : Int} (hn : xs.Nodup) (hx : xs[k]? = some x) : woL xs x = delL xs k := by
  obtain ⟨hk, he⟩ := List.getElem?_eq_some_iff.1 hx
  have h1 : xs = xs.take k ++ x :: xs.drop (k + 1) := by rw [← he, List.getElem_cons_drop, List.take_append_drop]
  unfold delL woL
  generalize xs.take k = A at h1 ⊢
  generalize xs.drop (k + 1) = B at h1 ⊢
  subst h1
  rw [List.nodup_append, List.nodup_cons] at hn
  obtain ⟨_, ⟨h3, _⟩, h4⟩ := hn
  have e1 : A.filter (fun z => decide (z ≠ x)) = A := List.filter_eq_self.2 (fun z hz => by simpa using h4 z hz x (by simp))
  have e2 : B.filter (fun z => decide (z ≠ x)) = B := List.filter_eq_self.2 (fun z hz => by simp; intro e; exact h3 (e ▸ hz))
  rw [List.filter_append, List.filter_cons_of_neg (by simp), e1, e2]
end Go.Proofs.Ytbnkddnjfkagkaa

namespace Go.Proofs.Ytbnkddnjfkagkaa
open Go.ChangeShapes Go.WideShapes Go.ChangeAt Go.RowKit
set_option linter.unusedVariables false
set_option maxRecDepth 100000
attribute [local go_sem ↓] Go.wp_at_zero Go.wp_at_succ

theorem put_none (v : Value) (zs : List Int) (id t : Int) (X : Nat → Prop) (w : World) (h : Rd (Value.int .i64) X w v zs) (hx : zs.length ≤ 100000) (hid : id ∉ zs) :
    Calls Try.prog 33 #[v, .int .i64 id, .int .i64 t] w fun e w' => e = .returned (.tuple #[v, .int .i64 71]) ∧ w' = w := by
  have HF := hide (findR_calls v zs id X w h hx)
  rw [fdI_no hid] at HF
  obtain ⟨a, n, c, rfl, -, -⟩ := h.sliceN
  clear h hx hid
  go_enter Try.func33, Try.ntmps33
  go_wp2_with (go_at_call 44; refine HF.out.mono ?_; rintro _ w1 ⟨rfl, hw1⟩; subst hw1)
  go_ret2
  exact ⟨rfl, rfl⟩
theorem put_not (v : Value) (zs : List Int) (id t : Int) (X : Nat → Prop) (w : World) (h : Rd (Value.int .i64) X w v zs) (hx : zs.length ≤ 100000) (hid : id ∈ zs) (ht : ¬ (0 ≤ t ∧ t < (zs.length : Int))) :
    Calls Try.prog 33 #[v, .int .i64 id, .int .i64 t] w fun e w' => e = .returned (.tuple #[v, .int .i64 73]) ∧ w' = w := by
  have HF := hide (findR_calls v zs id X w h hx)
  obtain ⟨p, hp⟩ : ∃ p : Nat, fdI zs id = p := ⟨zs.idxOf id, by unfold fdI; rw [if_pos hid]⟩
  rw [hp] at HF
  obtain ⟨a, n, c, rfl, hn, -⟩ := h.sliceN
  rw [← hn.out] at ht
  have d0 : decide ((p : Int) < 0) = false := decide_eq_false (by omega)
  have d0' : ¬ ((p : Int) < 0) := by omega
  clear h hx hid hp hn
  by_cases h0 : t < 0
  · have d1 : decide (t < 0) = true := decide_eq_true h0
    clear ht
    go_enter Try.func33, Try.ntmps33
    go_wp2_with (go_at_call 44; refine HF.out.mono ?_; rintro _ w1 ⟨rfl, hw1⟩; subst hw1)
    go_ret2
    exact ⟨rfl, rfl⟩
  · have d1 : decide (t < 0) = false := decide_eq_false h0
    have d2 : decide (t ≥ (n : Int)) = true := decide_eq_true (by omega)
    have d2' : decide ((n : Int) ≤ t) = true := decide_eq_true (by omega)
    have d3 : (n : Int) ≤ t := by omega
    clear ht
    go_enter Try.func33, Try.ntmps33
    go_wp2_with (go_at_call 44; refine HF.out.mono ?_; rintro _ w1 ⟨rfl, hw1⟩; subst hw1)
    go_ret2
    exact ⟨rfl, rfl⟩
set_option maxHeartbeats 4000000 in
theorem put_ok (v : Value) (zs : List Int) (id : Int) (k t : Nat) (X : Nat → Prop) (w : World) (h : Rd (Value.int .i64) X w v zs) (hx : zs.length ≤ 100000) (hnd : zs.Nodup) (hid : zs[k]? = some id) (ht : t < zs.length) :
    Calls Try.prog 33 #[v, .int .i64 id, .int .i64 t] w fun e w' => ∃ v', e = .returned (.tuple #[v', .int .i64 0]) ∧ Own 2 (Value.int .i64) w' w.heap.size v' (insL id (delL zs k) t) ∧ Up w w' := by
  have HF := hide (findR_calls v zs id X w h hx)
  rw [fdI_yes hnd hid] at HF
  have HW := hide (without_calls v zs id X w h hx)
  rw [filter_del hnd hid] at HW
  have hkl := (List.getElem?_eq_some_iff.1 hid).1
  have hdl := delL_len zs k hkl
  obtain ⟨a, n, c, rfl, hn, -⟩ := h.sliceN
  have hn6 : n ≤ 100000 := by rw [hn.out]; exact hx
  have htn : t < n := by rw [hn.out]; exact ht
  obtain ⟨ys, hys⟩ : ∃ ys, ys = delL zs k := ⟨_, rfl⟩
  rw [← hys] at HW ⊢
  have hyl : Hid (ys.length + 1 = n) := by unfold Hid; rw [hys, hn.out]; exact hdl
  have d0 : decide ((k : Int) < 0) = false := decide_eq_false (by omega)
  have d0' : ¬ ((k : Int) < 0) := by omega
  have d1 : decide ((t : Int) < 0) = false := decide_eq_false (by omega)
  have d2 : decide ((t : Int) ≥ (n : Int)) = false := decide_eq_false (by omega)
  have d2' : decide ((n : Int) ≤ (t : Int)) = false := decide_eq_false (by omega)
  have d3 : ¬ (n : Int) ≤ (t : Int) := by omega
  have t0 : (0 : Int) ≤ (t : Int) := by omega
  clear h hx hid hnd ht hn hys hkl hdl
  go_enter Try.func33, Try.ntmps33
  go_wp2_with (go_at_call 44; refine HF.out.mono ?_; rintro _ w1 ⟨rfl, hw1⟩; subst hw1)
  refine HW.out.mono ?_
  rintro _ w1 ⟨v1, rfl, ho1, hu1⟩
  obtain ⟨a1, n1, c1, rfl, hn1, hc1⟩ := ho1.sliceN
  have HR1 : Hid (Rd (Value.int .i64) (fun _ => False) w1 (.slice a1 n1 c1) ys) := Own.rd ho1 (fun _ _ h => h)
  have HU1 := hide hu1
  have htn1 : t ≤ n1 := by have := hyl.out; rw [hn1.out]; omega
  have htc1 : t ≤ c1 := by have := hc1.out; omega
  have hnc1 : n1 ≤ c1 := hc1.out
  have HN1 : Hid (n1 ≤ 100000) := by have := hyl.out; rw [hn1.out]; show _ ≤ _; omega
  have HRT := hide (HR1.out.take htn1)
  have HRD := hide (HR1.out.drop1 htn1)
  have htl : (ys.take t).length = t := by rw [List.length_take, ← hn1.out]; omega
  have HTL : Hid ((ys.take t).length ≤ 100000 ∧ (ys.drop t).length ≤ 100000) := ⟨by have := HN1.out; omega, by rw [List.length_drop, ← hn1.out]; have := HN1.out; omega⟩
  have tn1 : (t : Int) ≤ (n1 : Int) := by omega
  have tc1 : (t : Int) ≤ (c1 : Int) := by omega
  have nc1 : (n1 : Int) ≤ (c1 : Int) := by omega
  clear ho1 hu1 hn1 hc1 htl
  dsimp only
  go_wp2_with (at_builtin; refine append_rd elemL rfl _ _ rfl w1.heap.size _ _ [] (ys.take t) rfl rfl (Own.nil _ _ _ _) HRT.out (by have := HTL.out.1; simp only [List.length_nil]; omega) (Nat.le_refl _) ?_)
  intro v2 w2 ho2 hg2 _
  try rw [List.nil_append] at ho2
  have hu2 := hide (own_below (e := 2) (enc := Value.int .i64) (l := []) (Up.refl w1) (Own.nil _ _ _ _) hg2)
  replace ho2 := hide ho2
  clear hg2
  obtain ⟨a2, n2, c2, rfl, -, -⟩ := ho2.out.sliceN
  --Q1
  go_wp2_with fail
  --Q2
  go_region_law
    (first
      | (refine step_append_one elemL (W := w1) rfl _ _ rfl _ (ys.take t) id _ rfl rfl (by go_simp) (Up.trans hu2.out (by repeat' (with_reducible first | assumption | exact Up.refl _ | apply Up.alloc | apply Up.drew))) (Own.up ho2.out (by repeat' (with_reducible first | assumption | exact Up.refl _ | apply Up.alloc | apply Up.drew))) (by have := HTL.out.1; omega) ?_; intro v5 w5 ho5 hu5)
      | (refine step_append_row elemL (W := w1) rfl _ _ rfl _ _ (ys.take t ++ [id]) (ys.drop t) rfl rfl (by first | assumption | exact Up.trans hu5 (by repeat' (with_reducible first | assumption | exact Up.refl _ | apply Up.alloc | apply Up.drew))) (Own.up ho5 (by repeat' (with_reducible first | assumption | exact Up.refl _ | apply Up.alloc | apply Up.drew))) (Rd.up HRD.out (by first | assumption | exact Up.trans hu5 (by repeat' (with_reducible first | assumption | exact Up.refl _ | apply Up.alloc | apply Up.drew)))) (by have := HTL.out; rw [List.length_append]; simp only [List.length_singleton]; omega) ?_; intro v6 w6 ho6 hu6))
  all_goals
    obtain ⟨a6, n6, c6, rfl, -, -⟩ := ho6.sliceN
    have HO6 := hide ho6
    have HU6 := hide hu6
    clear ho6 hu6 ho5 hu5
    go_wp2
    all_goals
      go_ret2
      refine ⟨_, rfl, ?_, HU1.out.trans HU6.out⟩
      have e : insL id ys t = ys.take t ++ [id] ++ ys.drop t := by unfold insL; simp
      rw [e]
      exact Own.base HO6.out HU1.out.size
end Go.Proofs.Ytbnkddnjfkagkaa

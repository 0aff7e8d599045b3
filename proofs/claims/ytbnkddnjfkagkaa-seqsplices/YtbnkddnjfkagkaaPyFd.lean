/-
  find of rialtolaw13, rialtolaw14 and rialtoref18, and without of rialtoref18, as their texts run.
-/
import Derived.Test.YtbnkddnjfkagkaaSqIns
import Derived.BigRegion
namespace Go.Proofs.Ytbnkddnjfkagkaa
open Go.ChangeShapes Go.WideShapes Go.ChangeAt Go.RowKit
set_option linter.unusedVariables false
set_option maxRecDepth 100000
attribute [local go_sem ↓] Go.wp_at_zero Go.wp_at_succ

/-- Where a number stands; -1 if nowhere. -/
def fdI (l : List Int) (id : Int) : Int := if id ∈ l then (l.idxOf id : Int) else -1
theorem fdI_yes {l : List Int} {id : Int} {k : Nat} (hn : l.Nodup) (h : l[k]? = some id) : fdI l id = k := by
  obtain ⟨hl, hx⟩ := List.getElem?_eq_some_iff.1 h
  have hm : id ∈ l := hx ▸ List.getElem_mem hl
  unfold fdI
  rw [if_pos hm]
  have h2 := List.idxOf_lt_length_of_mem hm
  have h3 : l[l.idxOf id] = l[k] := by rw [List.getElem_idxOf, hx]
  rw [nodup_at hn h3]
theorem fdI_no {l : List Int} {id : Int} (h : id ∉ l) : fdI l id = -1 := by unfold fdI; rw [if_neg h]
theorem fdI_cases (l : List Int) (id : Int) : (id ∉ l ∧ fdI l id = -1) ∨ ∃ k : Nat, l[k]? = some id ∧ fdI l id = k ∧ (∀ i, i < k → l[i]? ≠ some id) ∧ k < l.length := by
  by_cases hm : id ∈ l
  · have hlt := List.idxOf_lt_length_of_mem hm
    refine .inr ⟨l.idxOf id, by rw [List.getElem?_eq_getElem hlt, List.getElem_idxOf], by unfold fdI; rw [if_pos hm], fun i hi e => ?_, hlt⟩
    obtain ⟨h1, h2⟩ := List.getElem?_eq_some_iff.1 e
    have := List.not_of_lt_findIdx (p := (· == id)) (xs := l) (i := i) hi
    simp [h2] at this
  · exact .inl ⟨hm, fdI_no hm⟩
set_option maxHeartbeats 2000000 in
theorem find14_calls (v : Value) (zs : List Int) (id : Int) (X : Nat → Prop) (w : World) (h : Rd (Value.int .i64) X w v zs) (hx : zs.length ≤ 100000) :
    Calls Try.prog 29 #[v, .int .i64 id] w fun e w' => e = .returned (.int .i64 (fdI zs id)) ∧ w' = w := by
  obtain ⟨p, r, hp, hno, hyes, hr1, hr2, hr⟩ : ∃ (p : Nat) (r : Int), p ≤ zs.length ∧ (∀ i, i < p → zs[i]? ≠ some id) ∧ (p < zs.length → zs[p]? = some id) ∧ (p < zs.length → r = p) ∧ (¬ p < zs.length → r = -1) ∧ fdI zs id = r := by
    rcases fdI_cases zs id with ⟨h1, h2⟩ | ⟨k, h1, h2, h3, h4⟩
    · exact ⟨zs.length, -1, Nat.le_refl _, fun i hi e => h1 (List.mem_of_getElem? e), fun h => absurd h (Nat.lt_irrefl _), fun h => absurd h (Nat.lt_irrefl _), fun _ => rfl, h2⟩
    · exact ⟨k, k, Nat.le_of_lt h4, h3, fun _ => h1, fun _ => rfl, fun h => absurd h4 h, h2⟩
  rw [hr]
  obtain ⟨a, n, c, rfl, hn, -⟩ := h.sliceN
  have H := hide h
  have HN := hide hn.out
  clear h hn
  go_enter Try.func29, Try.ntmps29
  have hpn : p ≤ n := by rw [HN.out]; exact hp
  have hn6 : n ≤ 100000 := by rw [HN.out]; exact hx
  have HNO := hide hno
  have HYES := hide hyes
  have HR1 := hide hr1
  have HR2 := hide hr2
  clear hno hyes hp hx hr1 hr2 hr
  go_wp2_with fail
  go_loopw [5] (fun iv wr => ∃ k : Nat, k ≤ p ∧ iv = .int .i64 k ∧ wr = w) (fun iv _ => n - (intOf iv).toNat)
  case atStart => exact ⟨0, Nat.zero_le _, rfl, rfl⟩
  case round =>
    obtain ⟨k, hk, rfl, hw⟩ := hrel
    subst hw
    by_cases hkn : k < n
    · have k0 : (0 : Int) ≤ (k : Int) := by omega
      have k1 : (k : Int) < (n : Int) := by omega
      have hkx : k < zs.length := by rw [← HN.out]; exact hkn
      obtain ⟨g, o, rfl, y0⟩ := H.out.get (i := k) hkx
      obtain ⟨x, hxe⟩ : ∃ x, x = zs[k] := ⟨_, rfl⟩
      have hxk : zs[k]? = some x := by rw [List.getElem?_eq_getElem hkx, hxe]
      rw [← hxe] at y0
      have ek : IntKind.i64.wrap ((k : Int) + 1) = (k : Int) + 1 := by rw [IntKind.wrap_i64]; omega
      by_cases hkp : k < p
      · have e0 : ¬ x = id := fun e => HNO.out k hkp (by rw [hxk, e])
        clear hxe hxk hkx
        go_wp2
        go_roundw
        case rel => exact ⟨k + 1, by omega, by simp, by simp⟩
        case measure => simp [intOf]; omega
      · obtain rfl : k = p := by omega
        have e0 : x = id := by
          have := HYES.out hkx
          rw [hxk] at this
          injection this with this
        have ER := hide (HR1.out hkx)
        subst e0
        clear hxe hxk hkx
        go_wp2
        go_ret
        exact ⟨by rw [ER.out]; rfl, rfl⟩
    · obtain rfl : p = n := by omega
      obtain rfl : k = p := by omega
      have hkx : ¬ k < zs.length := by rw [← HN.out]; exact hkn
      have ER := hide (HR2.out hkx)
      have k1 : ¬ (k : Int) < (k : Int) := by omega
      clear hkx
      go_wp2
      go_ret
      exact ⟨by rw [ER.out]; rfl, rfl⟩
set_option maxHeartbeats 2000000 in
theorem find13_calls (v : Value) (zs : List Int) (id : Int) (X : Nat → Prop) (w : World) (h : Rd (Value.int .i64) X w v zs) (hx : zs.length ≤ 100000) :
    Calls Try.prog 11 #[v, .int .i64 id] w fun e w' => e = .returned (.int .i64 (fdI zs id)) ∧ w' = w := by
  obtain ⟨p, r, hp, hno, hyes, hr1, hr2, hr⟩ : ∃ (p : Nat) (r : Int), p ≤ zs.length ∧ (∀ i, i < p → zs[i]? ≠ some id) ∧ (p < zs.length → zs[p]? = some id) ∧ (p < zs.length → r = p) ∧ (¬ p < zs.length → r = -1) ∧ fdI zs id = r := by
    rcases fdI_cases zs id with ⟨h1, h2⟩ | ⟨k, h1, h2, h3, h4⟩
    · exact ⟨zs.length, -1, Nat.le_refl _, fun i hi e => h1 (List.mem_of_getElem? e), fun h => absurd h (Nat.lt_irrefl _), fun h => absurd h (Nat.lt_irrefl _), fun _ => rfl, h2⟩
    · exact ⟨k, k, Nat.le_of_lt h4, h3, fun _ => h1, fun _ => rfl, fun h => absurd h4 h, h2⟩
  rw [hr]
  obtain ⟨a, n, c, rfl, hn, -⟩ := h.sliceN
  have H := hide h
  have HN := hide hn.out
  clear h hn
  go_enter Try.func11, Try.ntmps11
  have hpn : p ≤ n := by rw [HN.out]; exact hp
  have hn6 : n ≤ 100000 := by rw [HN.out]; exact hx
  have HNO := hide hno
  have HYES := hide hyes
  have HR1 := hide hr1
  have HR2 := hide hr2
  clear hno hyes hp hx hr1 hr2 hr
  go_wp2_with fail
  go_loopw [5] (fun iv wr => ∃ k : Nat, k ≤ p ∧ iv = .int .i64 k ∧ wr = w) (fun iv _ => n - (intOf iv).toNat)
  case atStart => exact ⟨0, Nat.zero_le _, rfl, rfl⟩
  case round =>
    obtain ⟨k, hk, rfl, hw⟩ := hrel
    subst hw
    by_cases hkn : k < n
    · have k0 : (0 : Int) ≤ (k : Int) := by omega
      have k1 : (k : Int) < (n : Int) := by omega
      have hkx : k < zs.length := by rw [← HN.out]; exact hkn
      obtain ⟨g, o, rfl, y0⟩ := H.out.get (i := k) hkx
      obtain ⟨x, hxe⟩ : ∃ x, x = zs[k] := ⟨_, rfl⟩
      have hxk : zs[k]? = some x := by rw [List.getElem?_eq_getElem hkx, hxe]
      rw [← hxe] at y0
      have ek : IntKind.i64.wrap ((k : Int) + 1) = (k : Int) + 1 := by rw [IntKind.wrap_i64]; omega
      by_cases hkp : k < p
      · have e0 : ¬ x = id := fun e => HNO.out k hkp (by rw [hxk, e])
        clear hxe hxk hkx
        go_wp2
        go_roundw
        case rel => exact ⟨k + 1, by omega, by simp, by simp⟩
        case measure => simp [intOf]; omega
      · obtain rfl : k = p := by omega
        have e0 : x = id := by
          have := HYES.out hkx
          rw [hxk] at this
          injection this with this
        have ER := hide (HR1.out hkx)
        subst e0
        clear hxe hxk hkx
        go_wp2
        go_ret
        exact ⟨by rw [ER.out]; rfl, rfl⟩
    · obtain rfl : p = n := by omega
      obtain rfl : k = p := by omega
      have hkx : ¬ k < zs.length := by rw [← HN.out]; exact hkn
      have ER := hide (HR2.out hkx)
      have k1 : ¬ (k : Int) < (k : Int) := by omega
      clear hkx
      go_wp2
      go_ret
      exact ⟨by rw [ER.out]; rfl, rfl⟩
set_option maxHeartbeats 2000000 in
theorem findR_calls (v : Value) (zs : List Int) (id : Int) (X : Nat → Prop) (w : World) (h : Rd (Value.int .i64) X w v zs) (hx : zs.length ≤ 100000) :
    Calls Try.prog 44 #[v, .int .i64 id] w fun e w' => e = .returned (.int .i64 (fdI zs id)) ∧ w' = w := by
  obtain ⟨p, r, hp, hno, hyes, hr1, hr2, hr⟩ : ∃ (p : Nat) (r : Int), p ≤ zs.length ∧ (∀ i, i < p → zs[i]? ≠ some id) ∧ (p < zs.length → zs[p]? = some id) ∧ (p < zs.length → r = p) ∧ (¬ p < zs.length → r = -1) ∧ fdI zs id = r := by
    rcases fdI_cases zs id with ⟨h1, h2⟩ | ⟨k, h1, h2, h3, h4⟩
    · exact ⟨zs.length, -1, Nat.le_refl _, fun i hi e => h1 (List.mem_of_getElem? e), fun h => absurd h (Nat.lt_irrefl _), fun h => absurd h (Nat.lt_irrefl _), fun _ => rfl, h2⟩
    · exact ⟨k, k, Nat.le_of_lt h4, h3, fun _ => h1, fun _ => rfl, fun h => absurd h4 h, h2⟩
  rw [hr]
  obtain ⟨a, n, c, rfl, hn, -⟩ := h.sliceN
  have H := hide h
  have HN := hide hn.out
  clear h hn
  go_enter Try.func44, Try.ntmps44
  have hpn : p ≤ n := by rw [HN.out]; exact hp
  have hn6 : n ≤ 100000 := by rw [HN.out]; exact hx
  have HNO := hide hno
  have HYES := hide hyes
  have HR1 := hide hr1
  have HR2 := hide hr2
  clear hno hyes hp hx hr1 hr2 hr
  go_wp2_with fail
  go_loopw [5] (fun iv wr => ∃ k : Nat, k ≤ p ∧ iv = .int .i64 k ∧ wr = w) (fun iv _ => n - (intOf iv).toNat)
  case atStart => exact ⟨0, Nat.zero_le _, rfl, rfl⟩
  case round =>
    obtain ⟨k, hk, rfl, hw⟩ := hrel
    subst hw
    by_cases hkn : k < n
    · have k0 : (0 : Int) ≤ (k : Int) := by omega
      have k1 : (k : Int) < (n : Int) := by omega
      have hkx : k < zs.length := by rw [← HN.out]; exact hkn
      obtain ⟨g, o, rfl, y0⟩ := H.out.get (i := k) hkx
      obtain ⟨x, hxe⟩ : ∃ x, x = zs[k] := ⟨_, rfl⟩
      have hxk : zs[k]? = some x := by rw [List.getElem?_eq_getElem hkx, hxe]
      rw [← hxe] at y0
      have ek : IntKind.i64.wrap ((k : Int) + 1) = (k : Int) + 1 := by rw [IntKind.wrap_i64]; omega
      by_cases hkp : k < p
      · have e0 : ¬ x = id := fun e => HNO.out k hkp (by rw [hxk, e])
        clear hxe hxk hkx
        go_wp2
        go_roundw
        case rel => exact ⟨k + 1, by omega, by simp, by simp⟩
        case measure => simp [intOf]; omega
      · obtain rfl : k = p := by omega
        have e0 : x = id := by
          have := HYES.out hkx
          rw [hxk] at this
          injection this with this
        have ER := hide (HR1.out hkx)
        subst e0
        clear hxe hxk hkx
        go_wp2
        go_ret
        exact ⟨by rw [ER.out]; rfl, rfl⟩
    · obtain rfl : p = n := by omega
      obtain rfl : k = p := by omega
      have hkx : ¬ k < zs.length := by rw [← HN.out]; exact hkn
      have ER := hide (HR2.out hkx)
      have k1 : ¬ (k : Int) < (k : Int) := by omega
      clear hkx
      go_wp2
      go_ret
      exact ⟨by rw [ER.out]; rfl, rfl⟩
end Go.Proofs.Ytbnkddnjfkagkaa

/-
  slices.Index, Contains, IndexFunc and ContainsFunc of a row of int64, as the library's text runs.
-/
import Derived.Test.YtbnkddnjfkagkaaSqMov
namespace Go.Proofs.Ytbnkddnjfkagkaa
open Go.ChangeShapes Go.WideShapes Go.ChangeAt Go.RowKit
set_option linter.unusedVariables false
set_option maxRecDepth 100000
attribute [local go_sem ↓] Go.wp_at_zero Go.wp_at_succ

set_option maxHeartbeats 2000000 in
theorem index64_calls (v : Value) (zs : List Int) (id : Int) (X : Nat → Prop) (w : World) (h : Rd (Value.int .i64) X w v zs) (hx : zs.length ≤ 100000) (p : Nat) (hp : p ≤ zs.length) (hno : ∀ i, i < p → zs[i]? ≠ some id) (hyes : p < zs.length → zs[p]? = some id) (r : Int) (hr1 : p < zs.length → r = p) (hr2 : ¬ p < zs.length → r = -1) :
    Calls Try.prog 63 #[v, .int .i64 id] w fun e w' => e = .returned (.int .i64 r) ∧ w' = w := by
  obtain ⟨a, n, c, rfl, hn, -⟩ := h.sliceN
  have H := hide h
  have HN := hide hn.out
  clear h hn
  go_enter Try.func63, Try.ntmps63
  have hpn : p ≤ n := by rw [HN.out]; exact hp
  have hn6 : n ≤ 100000 := by rw [HN.out]; exact hx
  have HNO := hide hno
  have HYES := hide hyes
  have HR1 := hide hr1
  have HR2 := hide hr2
  clear hno hyes hp hx hr1 hr2
  go_wp2_with fail
  go_loopw [8] (fun iv wr => ∃ k : Nat, k ≤ p ∧ iv = .int .i64 k ∧ wr = w) (fun iv _ => n - (intOf iv).toNat)
  case atStart => exact ⟨0, Nat.zero_le _, rfl, rfl⟩
  case round =>
    obtain ⟨k, hk, rfl, hw⟩ := hrel
    subst hw
    by_cases hkn : k < n
    · have k0 : (0 : Int) ≤ (k : Int) := by omega
      have k1 : (k : Int) < (n : Int) := by omega
      have hkx : k < zs.length := by rw [← HN.out]; exact hkn
      obtain ⟨g, o, rfl, y0⟩ := H.out.get (i := k) hkx
      obtain ⟨x, hxe⟩ : ∃ x, x = zs[k] := ⟨_, rfl⟩
      have hxk : zs[k]? = some x := by rw [List.getElem?_eq_getElem hkx, hxe]
      rw [← hxe] at y0
      by_cases hkp : k < p
      · have e0 : ¬ id = x := fun e => HNO.out k hkp (by rw [hxk, e])
        clear hxe hxk hkx
        go_wp2
        go_roundw
        case rel => exact ⟨k + 1, by omega, by simp, by simp⟩
        case measure => simp [intOf]; omega
      · obtain rfl : k = p := by omega
        have e0 : id = x := by
          have := HYES.out hkx
          rw [hxk] at this
          injection this with this
          exact this.symm
        have ER := hide (HR1.out hkx)
        subst e0
        clear hxe hxk hkx
        go_wp2
        go_ret
        exact ⟨by rw [ER.out]; rfl, rfl⟩
    · obtain rfl : p = n := by omega
      obtain rfl : k = p := by omega
      have hkx : ¬ k < zs.length := by rw [← HN.out]; exact hkn
      have ER := hide (HR2.out hkx)
      have k1 : ¬ (k : Int) < (k : Int) := by omega
      clear hkx
      go_wp2
      go_ret
      exact ⟨by rw [ER.out]; rfl, rfl⟩
theorem contains64_calls (v : Value) (zs : List Int) (id : Int) (X : Nat → Prop) (w : World) (h : Rd (Value.int .i64) X w v zs) (hx : zs.length ≤ 100000) (b : Bool) (hb : b = decide (id ∈ zs)) :
    Calls Try.prog 48 #[v, .int .i64 id] w fun e w' => e = .returned (.bool b) ∧ w' = w := by
  have hex : ∃ (p : Nat) (r : Int), p ≤ zs.length ∧ (∀ i, i < p → zs[i]? ≠ some id) ∧ (p < zs.length → zs[p]? = some id) ∧ (p < zs.length → r = p) ∧ (¬ p < zs.length → r = -1) ∧ decide (r ≥ 0) = b := by
    subst hb
    by_cases hm : id ∈ zs
    · have hlt := List.idxOf_lt_length_of_mem hm
      refine ⟨zs.idxOf id, ((zs.idxOf id : Nat) : Int), Nat.le_of_lt hlt, fun i hi e => ?_, fun _ => ?_, fun _ => rfl, fun h => absurd hlt h, ?_⟩
      · obtain ⟨h1, h2⟩ := List.getElem?_eq_some_iff.1 e
        have := List.not_of_lt_findIdx (p := (· == id)) (xs := zs) (i := i) hi
        simp [h2] at this
      · rw [List.getElem?_eq_getElem hlt, List.getElem_idxOf]
      · simp [hm]
    · refine ⟨zs.length, -1, Nat.le_refl _, fun i hi e => ?_, fun h => absurd h (Nat.lt_irrefl _), fun h => absurd h (Nat.lt_irrefl _), fun _ => rfl, by simp [hm]⟩
      exact hm (List.mem_of_getElem? e)
  obtain ⟨p, r, h1, h2, h3, h4, h5, h6⟩ := hex
  have HI := hide (index64_calls v zs id X w h hx p h1 h2 h3 r h4 h5)
  obtain ⟨a, n, c, rfl, -, -⟩ := h.sliceN
  clear h h1 h2 h3 h4 h5 hb hx
  go_enter Try.func48, Try.ntmps48
  go_wp2_with fail
  refine HI.out.mono ?_
  rintro _ w1 ⟨rfl, hw1⟩
  subst hw1
  dsimp only
  go_wp2
  go_ret
  exact ⟨by simp, rfl⟩

variable {Y : Nat → Prop} {p0 T M : Nat} {xs : List Int} {h0 n0 : Nat} {f : Int → Option Nat} {w : World}

set_option maxHeartbeats 2000000 in
theorem indexLacks_calls (v : Value) (zs : List Int) (X : Nat → Prop) (ix : SqIx Y p0 T M xs h0 n0 f w) (h : Rd (Value.int .i64) X w v zs) (hwf : ∀ z ∈ zs, wf64 z) (hx : zs.length ≤ 100000) (p : Nat) (hp : p ≤ zs.length) (hno : ∀ i, i < p → ∀ z, zs[i]? = some z → z ∈ xs) (hyes : ∀ z, zs[p]? = some z → z ∉ xs) (r : Int) (hr1 : p < zs.length → r = p) (hr2 : ¬ p < zs.length → r = -1) :
    Calls Try.prog 61 #[v, .func (.func 47) #[.pointer (some ⟨p0, 0, none⟩)] #[]] w fun e w' => e = .returned (.int .i64 r) ∧ w' = w := by
  obtain ⟨a, n, c, rfl, hn, -⟩ := h.sliceN
  have H := hide h
  have HN := hide hn.out
  have IX := hide ix
  have HW := hide hwf
  clear h hn ix hwf
  go_enter Try.func61, Try.ntmps61
  have hpn : p ≤ n := by rw [HN.out]; exact hp
  have hn6 : n ≤ 100000 := by rw [HN.out]; exact hx
  have HNO := hide hno
  have HYES := hide hyes
  have HR1 := hide hr1
  have HR2 := hide hr2
  clear hno hyes hp hx hr1 hr2
  go_wp2_with fail
  go_loopw [8] (fun iv wr => ∃ k : Nat, k ≤ p ∧ iv = .int .i64 k ∧ wr = w) (fun iv _ => n - (intOf iv).toNat)
  case atStart => exact ⟨0, Nat.zero_le _, rfl, rfl⟩
  case round =>
    obtain ⟨k, hk, rfl, hw⟩ := hrel
    subst hw
    by_cases hkn : k < n
    · have k0 : (0 : Int) ≤ (k : Int) := by omega
      have k1 : (k : Int) < (n : Int) := by omega
      have hkx : k < zs.length := by rw [← HN.out]; exact hkn
      obtain ⟨g, o, rfl, y0⟩ := H.out.get (i := k) hkx
      obtain ⟨x, hxe⟩ : ∃ x, x = zs[k] := ⟨_, rfl⟩
      have hxk : zs[k]? = some x := by rw [List.getElem?_eq_getElem hkx, hxe]
      have hwx := HW.out x (by rw [hxe]; exact List.getElem_mem hkx)
      rw [← hxe] at y0
      by_cases hkp : k < p
      · have HC := hide (lacks_calls x IX.out hwx false (by simp [HNO.out k hkp x hxk]))
        clear hxe hxk hkx hwx
        go_wp2_with fail
        refine HC.out.mono ?_
        rintro _ w5 ⟨rfl, hw5⟩
        subst hw5
        dsimp only
        go_wp2
        go_roundw
        case rel => exact ⟨k + 1, by omega, by simp, by simp⟩
        case measure => simp [intOf]; omega
      · obtain rfl : k = p := by omega
        have HC := hide (lacks_calls x IX.out hwx true (by simp [HYES.out x hxk]))
        have ER := hide (HR1.out hkx)
        clear hxe hxk hkx hwx
        go_wp2_with fail
        refine HC.out.mono ?_
        rintro _ w5 ⟨rfl, hw5⟩
        subst hw5
        dsimp only
        go_wp2
        go_ret
        exact ⟨by rw [ER.out]; rfl, rfl⟩
    · obtain rfl : p = n := by omega
      obtain rfl : k = p := by omega
      have hkx : ¬ k < zs.length := by rw [← HN.out]; exact hkn
      have ER := hide (HR2.out hkx)
      have k1 : ¬ (k : Int) < (k : Int) := by omega
      clear hkx
      go_wp2
      go_ret
      exact ⟨by rw [ER.out]; rfl, rfl⟩
theorem first_not (zs xs : List Int) : ∃ p, p ≤ zs.length ∧ (∀ i, i < p → ∀ z, zs[i]? = some z → z ∈ xs) ∧ (∀ z, zs[p]? = some z → z ∉ xs) ∧ (p < zs.length ↔ ¬ ∀ z ∈ zs, z ∈ xs) := by
  induction zs with
  | nil => exact ⟨0, Nat.le_refl _, fun i hi => absurd hi (Nat.not_lt_zero _), fun z hz => by simp at hz, by simp⟩
  | cons y zs ih =>
    by_cases hy : y ∈ xs
    · obtain ⟨p, h1, h2, h3, h4⟩ := ih
      refine ⟨p + 1, by simp; omega, fun i hi z hz => ?_, fun z hz => h3 z (by simpa using hz), ?_⟩
      · cases i with
        | zero => simp at hz; rw [← hz]; exact hy
        | succ i => exact h2 i (by omega) z (by simpa using hz)
      · have : p + 1 < (y :: zs).length ↔ p < zs.length := by simp
        rw [this, h4]
        simp [hy]
    · exact ⟨0, Nat.zero_le _, fun i hi => absurd hi (Nat.not_lt_zero _), fun z hz => by simp at hz; rw [← hz]; exact hy, by simp [hy]⟩
theorem containsLacks_calls (v : Value) (zs : List Int) (X : Nat → Prop) (ix : SqIx Y p0 T M xs h0 n0 f w) (h : Rd (Value.int .i64) X w v zs) (hwf : ∀ z ∈ zs, wf64 z) (hx : zs.length ≤ 100000) (b : Bool) (hb : b = decide (¬ ∀ z ∈ zs, z ∈ xs)) :
    Calls Try.prog 46 #[v, .func (.func 47) #[.pointer (some ⟨p0, 0, none⟩)] #[]] w fun e w' => e = .returned (.bool b) ∧ w' = w := by
  obtain ⟨p, h1, h2, h3, h4⟩ := first_not zs xs
  obtain ⟨r, hr1, hr2⟩ : ∃ r : Int, (p < zs.length → r = p) ∧ (¬ p < zs.length → r = -1) := by
    by_cases hp : p < zs.length
    · exact ⟨p, fun _ => rfl, fun h => absurd hp h⟩
    · exact ⟨-1, fun h => absurd h hp, fun _ => rfl⟩
  have h6 : decide (r ≥ 0) = b := by
    subst hb
    by_cases hp : p < zs.length
    · rw [hr1 hp, decide_eq_true (h4.1 hp)]; simp
    · rw [hr2 hp, decide_eq_false (fun e => hp (h4.2 e))]; simp
  have HI := hide (indexLacks_calls v zs X ix h hwf hx p h1 h2 h3 r hr1 hr2)
  obtain ⟨a, n, c, rfl, -, -⟩ := h.sliceN
  clear h h1 h2 h3 h4 hr1 hr2 hb hx hwf ix
  go_enter Try.func46, Try.ntmps46
  go_wp2_with fail
  refine HI.out.mono ?_
  rintro _ w1 ⟨rfl, hw1⟩
  subst hw1
  dsimp only
  go_wp2
  go_ret
  exact ⟨by simp, rfl⟩
end Go.Proofs.Ytbnkddnjfkagkaa

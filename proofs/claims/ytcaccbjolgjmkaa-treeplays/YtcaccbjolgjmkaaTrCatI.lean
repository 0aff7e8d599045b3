/-
  slices.Concat of rows of whole numbers, as the library's text runs.
-/
import Derived.Test.YtcaccbjolgjmkaaTrLibI
namespace Go.Proofs.Ytcaccbjolgjmkaa
open Go.ChangeShapes Go.WideShapes Go.ChangeAt Go.RowKit
set_option linter.unusedVariables false
set_option maxRecDepth 100000
attribute [local go_sem ↓] Go.wp_at_zero Go.wp_at_succ

set_option maxHeartbeats 2000000 in
theorem concatI_calls (sb k : Nat) (L : List (Value × List Int)) (X : Nat → Prop) (w : World) (hk : L.length = k) (hk1 : k ≤ 10) (hL : ∀ j (h : j < L.length), w.cell? ⟨sb, j, none⟩ = some L[j].1 ∧ Rd (Value.int .i64) X w L[j].1 L[j].2) (hn : (L.flatMap (·.2)).length ≤ 1000000) :
    Calls Try.prog 72 #[.slice (some ⟨sb, 0, none⟩) k k] w fun e w' => ∃ v', e = .returned v' ∧ Own 3 (Value.int .i64) w' w.heap.size v' (L.flatMap (·.2)) ∧ Up w w' := by
  have H := hide hL
  have HK := hide hk
  have HN := hide hn
  clear hL hk hn
  go_enter Try.func72, Try.ntmps72
  go_wp2_with fail
  go_loopw [3, 11] (fun sv iv wr => ∃ i n : Nat, i ≤ k ∧ n ≤ 1000000 ∧ sv = .int .i64 n ∧ iv = .int .i64 i ∧ Hid (n = ((L.take i).flatMap (·.2)).length) ∧ wr = w) (fun _ iv _ => k - (intOf iv).toNat)
  case atStart => exact ⟨0, 0, Nat.zero_le _, Nat.zero_le _, rfl, rfl, rfl, rfl⟩
  case round =>
    obtain ⟨i, n, hi, hn, rfl, rfl, hs, rfl⟩ := hrel
    by_cases hlt : i < k
    · have hil : i < L.length := by rw [HK.out]; exact hlt
      obtain ⟨hc, hr⟩ := H.out i hil
      have hb := cat_le L i hil
      have hm2 := cat_le2 L (i + 1) HN.out
      obtain ⟨a, cap, hv, h2, h3, -⟩ := hr
      rw [hv] at hc
      obtain ⟨m, hm⟩ : ∃ m, m = L[i].2.length := ⟨_, rfl⟩
      rw [← hm] at hc hb
      have HB := hide hb
      have hnm : n + m ≤ 1000000 := by rw [hs.out, hb]; exact hm2
      have i0 : (0 : Int) ≤ (i : Int) := by omega
      have hlt' : (i : Int) < (k : Int) := by omega
      have e1 : IntKind.i64.wrap ((n : Int) + (m : Int)) = ((n + m : Nat) : Int) := by rw [IntKind.wrap_i64]; omega
      have e2 : IntKind.i64.wrap ((i : Int) + 1) = (i : Int) + 1 := by rw [IntKind.wrap_i64]; omega
      have t2 : decide ((n : Int) + (m : Int) < 0) = false := decide_eq_false (by omega)
      have t3 : decide (((n + m : Nat) : Int) < 0) = false := decide_eq_false (by omega)
      clear hm hv h2 h3 hb hm2 hil
      go_wp2
      go_roundw
      case rel => exact ⟨i + 1, n + m, by omega, hnm, by first | rfl | (congr 1), by first | rfl | (congr 1), by unfold Hid; rw [← HB.out, hs.out], by first | rfl | trivial⟩
      case measure => simp [intOf]; omega
    · obtain rfl : k = i := by omega
      have hlt' : ¬ (k : Int) < (k : Int) := by omega
      go_wp2_with (go_at_call 80; refine (growI_calls n hn _).mono ?_; rintro _ w1 ⟨v1, rfl, ho1, hu1⟩)
      replace hu1 := hide hu1
      obtain ⟨a1, n1, c1, rfl, -, -⟩ := ho1.sliceN
      replace ho1 := hide ho1
      go_wp2_with fail
      obtain ⟨W0, rfl⟩ : ∃ W0, W0 = wr := ⟨_, rfl⟩
      go_loopw [6, 27] (fun vv iv wr => ∃ (i : Nat) (a : Option Addr) (n c : Nat), i ≤ k ∧ vv = .slice a n c ∧ iv = .int .i64 i ∧ Hid (Own 3 (Value.int .i64) wr W0.heap.size (.slice a n c) ((L.take i).flatMap (·.2))) ∧ Hid (Up W0 wr)) (fun _ iv _ => k - (intOf iv).toNat)
      case atStart => exact ⟨0, _, _, _, Nat.zero_le _, rfl, rfl, ho1, hu1⟩
      case round =>
        obtain ⟨i, a, n, c, hi, rfl, rfl, ho, hu⟩ := hrel
        by_cases hlt : i < k
        · have hil : i < L.length := by rw [HK.out]; exact hlt
          obtain ⟨hc, hr⟩ := H.out i hil
          replace hc := hu.out.cell hc
          replace hr := hr.up hu.out
          have hb : (L.take i).flatMap (·.2) ++ L[i].2 = (L.take (i + 1)).flatMap (·.2) := by
            rw [List.take_add_one, List.getElem?_eq_getElem hil, List.flatMap_append]; simp
          have hm2 := cat_le2 L (i + 1) HN.out
          rw [← hb, List.length_append] at hm2
          have hr0 := hr
          obtain ⟨a2, cap2, hv, -, -, -⟩ := hr0
          rw [hv] at hc hr
          obtain ⟨m, hm⟩ : ∃ m, m = L[i].2.length := ⟨_, rfl⟩
          rw [← hm] at hc hr
          obtain ⟨l2, hl2⟩ : ∃ l2, l2 = L[i].2 := ⟨_, rfl⟩
          rw [← hl2] at hr hb hm2
          have HR := hide hr
          have HB := hide hb
          have HM := hide hm2
          have i0 : (0 : Int) ≤ (i : Int) := by omega
          have hlt' : (i : Int) < (k : Int) := by omega
          have e2 : IntKind.i64.wrap ((i : Int) + 1) = (i : Int) + 1 := by rw [IntKind.wrap_i64]; omega
          clear hm hv hl2 hr hb hm2 hil
          go_wp2_with (at_builtin; refine append_rd elemI rfl _ _ rfl W0.heap.size _ _ _ l2 rfl rfl ho.out HR.out (Nat.le_trans HM.out (by decide)) hu.out.size ?_)
          intro v' w' ho' hg' _
          have hu' : Hid (Up W0 w') := Below.grown hu.out.below hg' hu.out.size (fun k hk => (ho.out.lt k hk).1)
          obtain ⟨a3, n3, c3, rfl, -, -⟩ := ho'.sliceN
          replace ho' := hide ho'
          clear hg'
          go_wp2
          go_roundw
          case rel => exact ⟨i + 1, _, _, _, by omega, rfl, by first | rfl | (congr 1), by unfold Hid; rw [← HB.out]; exact ho'.out, hu'⟩
          case measure => simp [intOf]; omega
        · obtain rfl : k = i := by omega
          have hlt' : ¬ (k : Int) < (k : Int) := by omega
          go_wp2
          go_ret
          refine ⟨_, rfl, ?_, hu.out⟩
          have := ho.out
          rwa [List.take_of_length_le (by rw [HK.out]; exact Nat.le_refl _)] at this
/-- Two rows. -/
theorem concatI_two (sb : Nat) (v1 v2 : Value) (l1 l2 : List Int) (X : Nat → Prop) (w : World) (c1 : w.cell? ⟨sb, 0, none⟩ = some v1) (c2 : w.cell? ⟨sb, 1, none⟩ = some v2) (r1 : Rd (Value.int .i64) X w v1 l1) (r2 : Rd (Value.int .i64) X w v2 l2) (hn : l1.length + l2.length ≤ 1000000) :
    Calls Try.prog 72 #[.slice (some ⟨sb, 0, none⟩) 2 2] w fun e w' => ∃ v', e = .returned v' ∧ Own 3 (Value.int .i64) w' w.heap.size v' (l1 ++ l2) ∧ Up w w' := by
  have := concatI_calls sb 2 [(v1, l1), (v2, l2)] X w rfl (by decide) (fun j h => by
    match j, h with
    | 0, _ => exact ⟨c1, r1⟩
    | 1, _ => exact ⟨c2, r2⟩) (by simpa using hn)
  simpa using this
theorem concatI_three (sb : Nat) (v1 v2 v3 : Value) (l1 l2 l3 : List Int) (X : Nat → Prop) (w : World) (c1 : w.cell? ⟨sb, 0, none⟩ = some v1) (c2 : w.cell? ⟨sb, 1, none⟩ = some v2) (c3 : w.cell? ⟨sb, 2, none⟩ = some v3) (r1 : Rd (Value.int .i64) X w v1 l1) (r2 : Rd (Value.int .i64) X w v2 l2) (r3 : Rd (Value.int .i64) X w v3 l3) (hn : l1.length + (l2.length + l3.length) ≤ 1000000) :
    Calls Try.prog 72 #[.slice (some ⟨sb, 0, none⟩) 3 3] w fun e w' => ∃ v', e = .returned v' ∧ Own 3 (Value.int .i64) w' w.heap.size v' (l1 ++ (l2 ++ l3)) ∧ Up w w' := by
  have := concatI_calls sb 3 [(v1, l1), (v2, l2), (v3, l3)] X w rfl (by decide) (fun j h => by
    match j, h with
    | 0, _ => exact ⟨c1, r1⟩
    | 1, _ => exact ⟨c2, r2⟩
    | 2, _ => exact ⟨c3, r3⟩) (by simpa using hn)
  simpa using this
end Go.Proofs.Ytcaccbjolgjmkaa

/-
  slices.Clone, Grow and Concat of rows of entries, as the library's text runs.
  slices.Concat of rows of entries, as the library's text runs.
  slices.Clone, Grow and Concat of rows of nodes, as the library's text runs.
  slices.Concat of rows of nodes, as the library's text runs.
-/
import Derived.Test.YtnokokhbcfkifaaGreatDoorTrRowG
import Derived.Test.YtnokokhbcfkifaaGreatDoorQuietUp
import Derived.Lib.AppendZeros
import Derived.Lib.AppendZerosOnto
import Derived.Laws.Externs
import Derived.Lib.Overlaps
import Derived.Deep.RegionLaw
import Derived.Deep.RegionHeld3
import Derived.Deep.DrawnRows
namespace Go.Proofs.YtnokokhbcfkifaaGreatDoor
open Go.ChangeShapes Go.WideShapes Go.ChangeAt Go.RowKit
set_option linter.unusedVariables false
set_option maxRecDepth 100000
attribute [local go_sem ↓] Go.wp_at_zero Go.wp_at_succ

theorem eqlNilE (a : Option Addr) (n c : Nat) (w : World) : (binOp .eql 36 (.slice a n c) (.slice none 0 0)).run Tryz.prog w = .ok (.bool a.isNone) w := Lib.run_eql_slice_nil w 36 51 a n c 0 0 Tryz.underlying36
theorem cloneE_none (n c : Nat) (w : World) : Calls Tryz.prog 94 #[.slice none n c] w fun e w' => e = .returned (.slice none 0 0) ∧ Up w w' := by
  go_enter Tryz.func94, Tryz.ntmps94
  have hq := eqlNilE none n c
  go_wp2
  go_ret
  exact ⟨rfl, Up.refl _⟩
set_option maxHeartbeats 2000000 in
theorem cloneE_some (A : Addr) (n cap : Nat) (l : List ET) (X : Nat → Prop) (w : World) (hr : RdV eC X w (.slice (some A) n cap) l) (hn : l.length ≤ 1000000) :
    Calls Tryz.prog 94 #[.slice (some A) n cap] w fun e w' => ∃ v', e = .returned v' ∧ OwnV 51 eC w' w.heap.size v' l ∧ Up w w' := by
  have H := hide hr
  have HN := hide hn
  clear hr hn
  have hq := eqlNilE (some A) n cap
  go_enter Tryz.func94, Tryz.ntmps94
  go_wp2_with (at_builtin; refine append_rdV elemE rfl (.tmp 5) (.tmp 6) rfl w.heap.size _ _ [] l rfl rfl (OwnV.emptyRow w) (H.out.up ((Up.refl w).alloc _)) (by simpa using Nat.le_trans HN.out (by decide)) (by simp) ?_)
  intro v' w' ho hg _
  have hu : Hid (Up w w') := (((Up.refl w).alloc _).below.trans (Below.grown (Below.refl _ _) hg (Nat.le_of_lt (by simp)) (fun k hk => by cases hk; exact Nat.le_refl _)))
  replace ho := hide ho
  clear hg
  go_wp2
  go_ret
  exact ⟨_, rfl, by simpa using ho.out, hu.out⟩
/-- Clone tells the same in new memory. -/
theorem cloneE_calls (v : Value) (l : List ET) (X : Nat → Prop) (w : World) (h : RdV eC X w v l) (hn : l.length ≤ 1000000) :
    Calls Tryz.prog 94 #[v] w fun e w' => ∃ v', e = .returned v' ∧ OwnV 51 eC w' w.heap.size v' l ∧ Up w w' := by
  have h0 := h
  obtain ⟨a, cap, rfl, h1, h2, h3⟩ := h
  cases a with
  | none =>
    have : l = [] := by
      rcases h3 with h3 | ⟨g, off, h3, _⟩
      · exact h3
      · cases h3
    subst this
    refine (cloneE_none _ _ w).mono ?_
    rintro e w' ⟨rfl, hu⟩
    exact ⟨_, rfl, OwnV.nil _ _ _ _, hu⟩
  | some A => exact cloneE_some A _ cap l X w h0 hn

theorem growE_zero (w : World) : Calls Tryz.prog 113 #[.slice none 0 0, .int .i64 0] w fun e w' => e = .returned (.slice none 0 0) ∧ Up w w' := by
  go_enter Tryz.func113, Tryz.ntmps113
  go_wp2
  go_ret
  exact ⟨rfl, Up.refl _⟩
set_option maxHeartbeats 2000000 in
theorem growE_some (n : Nat) (h0 : 0 < n) (hn : n ≤ 1000000) (w : World) : Calls Tryz.prog 113 #[.slice none 0 0, .int .i64 n] w fun e w' => ∃ v', e = .returned v' ∧ OwnV (α := ET) 51 eC w' w.heap.size v' [] ∧ Up w w' := by
  obtain ⟨i0, hi0, hz0, hzs, hzb⟩ := info_parts elemE.hi
  have hap : ∀ ty, (Builtin.append_ #[36, 3] ty #[.slice none 0 0, .int .i64 (n : Nat)]).run Tryz.prog w = _ := fun ty =>
    Lib.run_append_nil_zeros w 36 3 ty 51 i0 _ .i64 .i64 Tryz.underlying36 Tryz.underlying3 hi0 hz0 n h0 (by omega) (by omega) (by rw [hzb]; omega)
  have hge := grownCap_ge w n 0 51
  have hle := grownCap_le_maxLen w n 0 51 (by unfold maxLen; omega)
  obtain ⟨G, hG⟩ : ∃ G, G = grownCap w n 0 51 := ⟨_, rfl⟩
  rw [← hG] at hap hge hle
  obtain ⟨R, hR⟩ : ∃ R : Array Value, R = Builtin.zeroCells (.agg #[.slice none 0 0, .int .i64 0] : Value).cells n ++ Builtin.zeroCells (.agg #[.slice none 0 0, .int .i64 0] : Value).cells (G - n) := ⟨_, rfl⟩
  rw [← hR] at hap
  have hRs : R.size = G * 2 := by rw [hR]; simp [Builtin.zeroCells, Value.cells]; omega
  have HO : Hid (OwnV (α := ET) 51 eC (w.drew.alloc (.cells R 51)) w.heap.size (.slice (some ⟨w.heap.size, 0, none⟩) 0 G) []) := OwnV.mk eC_two (Nat.le_refl _) (heap_alloc_new w.drew _) rfl (Nat.zero_le _) hle hRs (by simp)
  have HU : Hid (Up w (w.drew.alloc (.cells R 51))) := (Up.refl w).drew.alloc _
  generalize w.drew.alloc (.cells R 51) = W1 at hap HO HU
  have e1 : IntKind.i64.wrap (n : Int) = n := by rw [IntKind.wrap_i64]; omega
  have t1 : decide ((n : Int) > 0) = true := decide_eq_true (by omega)
  have t1' : decide (0 < n) = true := decide_eq_true (by omega)
  have t2 : decide ((n : Int) < 0) = false := decide_eq_false (by omega)
  have p1 : (0 : Int) ≤ (G : Int) := by omega
  replace hge := hide hge
  replace hle := hide hle
  clear hR hRs hG hi0 hz0 hzs hzb
  go_enter Tryz.func113, Tryz.ntmps113
  go_wp2_with (at_builtin; refine Lib.wpList_append_run _ rfl _ _ _ _ rfl _ _ rfl rfl _ _ (hap _) ?_)
  go_wp2
  go_ret
  exact ⟨_, rfl, HO.out, HU.out⟩
theorem growE_calls (n : Nat) (hn : n ≤ 1000000) (w : World) : Calls Tryz.prog 113 #[.slice none 0 0, .int .i64 n] w fun e w' => ∃ v', e = .returned v' ∧ OwnV (α := ET) 51 eC w' w.heap.size v' [] ∧ Up w w' := by
  cases n with
  | zero =>
    refine (growE_zero w).mono ?_
    rintro e w' ⟨rfl, hu⟩
    exact ⟨_, rfl, OwnV.nil _ _ _ _, hu⟩
  | succ n => exact growE_some (n + 1) (Nat.succ_pos _) hn w
end Go.Proofs.YtnokokhbcfkifaaGreatDoor

namespace Go.Proofs.YtnokokhbcfkifaaGreatDoor
open Go.ChangeShapes Go.WideShapes Go.ChangeAt Go.RowKit
set_option linter.unusedVariables false
set_option maxRecDepth 100000
attribute [local go_sem ↓] Go.wp_at_zero Go.wp_at_succ

set_option maxHeartbeats 2000000 in
theorem concatE_calls (sb k : Nat) (L : List (Value × List ET)) (X : Nat → Prop) (w : World) (hk : L.length = k) (hk1 : k ≤ 10) (hL : ∀ j (h : j < L.length), w.cell? ⟨sb, j, none⟩ = some L[j].1 ∧ RdV eC X w L[j].1 L[j].2) (hn : (L.flatMap (·.2)).length ≤ 1000000) :
    Calls Tryz.prog 104 #[.slice (some ⟨sb, 0, none⟩) k k] w fun e w' => ∃ v', e = .returned v' ∧ OwnV 51 eC w' w.heap.size v' (L.flatMap (·.2)) ∧ Up w w' := by
  have H := hide hL
  have HK := hide hk
  have HN := hide hn
  clear hL hk hn
  go_enter Tryz.func104, Tryz.ntmps104
  go_wp2_with fail
  go_loopw [3, 11] (fun sv iv wr => ∃ i n : Nat, i ≤ k ∧ n ≤ 1000000 ∧ sv = .int .i64 n ∧ iv = .int .i64 i ∧ Hid (n = ((L.take i).flatMap (·.2)).length) ∧ wr = w) (fun _ iv _ => k - (intOf iv).toNat)
  case atStart => exact ⟨0, 0, Nat.zero_le _, Nat.zero_le _, rfl, rfl, rfl, rfl⟩
  case round =>
    obtain ⟨i, n, hi, hn, rfl, rfl, hs, rfl⟩ := hrel
    by_cases hlt : i < k
    · have hil : i < L.length := by rw [HK.out]; exact hlt
      obtain ⟨hc, hr⟩ := H.out i hil
      have hb := cat_le L i hil
      have hm2 := cat_le2 L (i + 1) HN.out
      obtain ⟨a, cap, hv, h2, h3, -⟩ := hr
      rw [hv] at hc
      obtain ⟨m, hm⟩ : ∃ m, m = L[i].2.length := ⟨_, rfl⟩
      rw [← hm] at hc hb
      have HB := hide hb
      have hnm : n + m ≤ 1000000 := by rw [hs.out, hb]; exact hm2
      have i0 : (0 : Int) ≤ (i : Int) := by omega
      have hlt' : (i : Int) < (k : Int) := by omega
      have e1 : IntKind.i64.wrap ((n : Int) + (m : Int)) = ((n + m : Nat) : Int) := by rw [IntKind.wrap_i64]; omega
      have e2 : IntKind.i64.wrap ((i : Int) + 1) = (i : Int) + 1 := by rw [IntKind.wrap_i64]; omega
      have t2 : decide ((n : Int) + (m : Int) < 0) = false := decide_eq_false (by omega)
      have t3 : decide (((n + m : Nat) : Int) < 0) = false := decide_eq_false (by omega)
      clear hm hv h2 h3 hb hm2 hil
      go_wp2
      go_roundw
      case rel => exact ⟨i + 1, n + m, by omega, hnm, by first | rfl | (congr 1), by first | rfl | (congr 1), by unfold Hid; rw [← HB.out, hs.out], by first | rfl | trivial⟩
      case measure => simp [intOf]; omega
    · obtain rfl : k = i := by omega
      have hlt' : ¬ (k : Int) < (k : Int) := by omega
      go_wp2_with (go_at_call 113; refine (growE_calls n hn _).mono ?_; rintro _ w1 ⟨v1, rfl, ho1, hu1⟩)
      replace hu1 := hide hu1
      obtain ⟨a1, n1, c1, rfl, -, -⟩ := ho1.sliceN
      replace ho1 := hide ho1
      go_wp2_with fail
      obtain ⟨W0, rfl⟩ : ∃ W0, W0 = wr := ⟨_, rfl⟩
      go_loopw [6, 27] (fun vv iv wr => ∃ (i : Nat) (a : Option Addr) (n c : Nat), i ≤ k ∧ vv = .slice a n c ∧ iv = .int .i64 i ∧ Hid (OwnV 51 eC wr W0.heap.size (.slice a n c) ((L.take i).flatMap (·.2))) ∧ Hid (Up W0 wr)) (fun _ iv _ => k - (intOf iv).toNat)
      case atStart => exact ⟨0, _, _, _, Nat.zero_le _, rfl, rfl, ho1, hu1⟩
      case round =>
        obtain ⟨i, a, n, c, hi, rfl, rfl, ho, hu⟩ := hrel
        by_cases hlt : i < k
        · have hil : i < L.length := by rw [HK.out]; exact hlt
          obtain ⟨hc, hr⟩ := H.out i hil
          replace hc := hu.out.cell hc
          replace hr := hr.up hu.out
          have hb : (L.take i).flatMap (·.2) ++ L[i].2 = (L.take (i + 1)).flatMap (·.2) := by
            rw [List.take_add_one, List.getElem?_eq_getElem hil, List.flatMap_append]; simp
          have hm2 := cat_le2 L (i + 1) HN.out
          rw [← hb, List.length_append] at hm2
          have hr0 := hr
          obtain ⟨a2, cap2, hv, -, -, -⟩ := hr0
          rw [hv] at hc hr
          obtain ⟨m, hm⟩ : ∃ m, m = L[i].2.length := ⟨_, rfl⟩
          rw [← hm] at hc hr
          obtain ⟨l2, hl2⟩ : ∃ l2, l2 = L[i].2 := ⟨_, rfl⟩
          rw [← hl2] at hr hb hm2
          have HR := hide hr
          have HB := hide hb
          have HM := hide hm2
          have i0 : (0 : Int) ≤ (i : Int) := by omega
          have hlt' : (i : Int) < (k : Int) := by omega
          have e2 : IntKind.i64.wrap ((i : Int) + 1) = (i : Int) + 1 := by rw [IntKind.wrap_i64]; omega
          clear hm hv hl2 hr hb hm2 hil
          go_wp2_with (at_builtin; refine append_rdV elemE rfl _ _ rfl W0.heap.size _ _ _ l2 rfl rfl ho.out HR.out (Nat.le_trans HM.out (by decide)) hu.out.size ?_)
          intro v' w' ho' hg' _
          have hu' : Hid (Up W0 w') := Below.grown hu.out.below hg' hu.out.size (fun k hk => (ho.out.lt k hk).1)
          obtain ⟨a3, n3, c3, rfl, -, -⟩ := ho'.sliceN
          replace ho' := hide ho'
          clear hg'
          go_wp2
          go_roundw
          case rel => exact ⟨i + 1, _, _, _, by omega, rfl, by first | rfl | (congr 1), by unfold Hid; rw [← HB.out]; exact ho'.out, hu'⟩
          case measure => simp [intOf]; omega
        · obtain rfl : k = i := by omega
          have hlt' : ¬ (k : Int) < (k : Int) := by omega
          go_wp2
          go_ret
          refine ⟨_, rfl, ?_, hu.out⟩
          have := ho.out
          rwa [List.take_of_length_le (by rw [HK.out]; exact Nat.le_refl _)] at this
/-- Two rows. -/
theorem concatE_two (sb : Nat) (v1 v2 : Value) (l1 l2 : List ET) (X : Nat → Prop) (w : World) (c1 : w.cell? ⟨sb, 0, none⟩ = some v1) (c2 : w.cell? ⟨sb, 1, none⟩ = some v2) (r1 : RdV eC X w v1 l1) (r2 : RdV eC X w v2 l2) (hn : l1.length + l2.length ≤ 1000000) :
    Calls Tryz.prog 104 #[.slice (some ⟨sb, 0, none⟩) 2 2] w fun e w' => ∃ v', e = .returned v' ∧ OwnV 51 eC w' w.heap.size v' (l1 ++ l2) ∧ Up w w' := by
  have := concatE_calls sb 2 [(v1, l1), (v2, l2)] X w rfl (by decide) (fun j h => by
    match j, h with
    | 0, _ => exact ⟨c1, r1⟩
    | 1, _ => exact ⟨c2, r2⟩) (by simpa using hn)
  simpa using this
theorem concatE_three (sb : Nat) (v1 v2 v3 : Value) (l1 l2 l3 : List ET) (X : Nat → Prop) (w : World) (c1 : w.cell? ⟨sb, 0, none⟩ = some v1) (c2 : w.cell? ⟨sb, 1, none⟩ = some v2) (c3 : w.cell? ⟨sb, 2, none⟩ = some v3) (r1 : RdV eC X w v1 l1) (r2 : RdV eC X w v2 l2) (r3 : RdV eC X w v3 l3) (hn : l1.length + (l2.length + l3.length) ≤ 1000000) :
    Calls Tryz.prog 104 #[.slice (some ⟨sb, 0, none⟩) 3 3] w fun e w' => ∃ v', e = .returned v' ∧ OwnV 51 eC w' w.heap.size v' (l1 ++ (l2 ++ l3)) ∧ Up w w' := by
  have := concatE_calls sb 3 [(v1, l1), (v2, l2), (v3, l3)] X w rfl (by decide) (fun j h => by
    match j, h with
    | 0, _ => exact ⟨c1, r1⟩
    | 1, _ => exact ⟨c2, r2⟩
    | 2, _ => exact ⟨c3, r3⟩) (by simpa using hn)
  simpa using this
end Go.Proofs.YtnokokhbcfkifaaGreatDoor

namespace Go.Proofs.YtnokokhbcfkifaaGreatDoor
open Go.ChangeShapes Go.WideShapes Go.ChangeAt Go.RowKit
set_option linter.unusedVariables false
set_option maxRecDepth 100000
attribute [local go_sem ↓] Go.wp_at_zero Go.wp_at_succ

theorem elemPE : ElemT (α := Nat) Tryz.prog 113 112 pE (.pointer none) 8 where
  ht := Tryz.underlying113
  hi := by kernel_rfl
  hb := by decide
  one := fun _ => rfl
  zc := rfl
  zo := rfl

theorem eqlNilPE (a : Option Addr) (n c : Nat) (w : World) : (binOp .eql 113 (.slice a n c) (.slice none 0 0)).run Tryz.prog w = .ok (.bool a.isNone) w := Lib.run_eql_slice_nil w 113 112 a n c 0 0 Tryz.underlying113
theorem clonePE_none (n c : Nat) (w : World) : Calls Tryz.prog 106 #[.slice none n c] w fun e w' => e = .returned (.slice none 0 0) ∧ Up w w' := by
  go_enter Tryz.func106, Tryz.ntmps106
  have hq := eqlNilPE none n c
  go_wp2
  go_ret
  exact ⟨rfl, Up.refl _⟩
set_option maxHeartbeats 2000000 in
theorem clonePE_some (A : Addr) (n cap : Nat) (l : List Nat) (X : Nat → Prop) (w : World) (hr : Rd pE X w (.slice (some A) n cap) l) (hn : l.length ≤ 1000000) :
    Calls Tryz.prog 106 #[.slice (some A) n cap] w fun e w' => ∃ v', e = .returned v' ∧ Own 112 pE w' w.heap.size v' l ∧ Up w w' := by
  have H := hide hr
  have HN := hide hn
  clear hr hn
  have hq := eqlNilPE (some A) n cap
  go_enter Tryz.func106, Tryz.ntmps106
  go_wp2_with (at_builtin; refine append_rd elemPE rfl (.tmp 5) (.tmp 6) rfl w.heap.size _ _ [] l rfl rfl (Own.emptyRow w) (H.out.up ((Up.refl w).alloc _)) (by simpa using Nat.le_trans HN.out (by decide)) (by simp) ?_)
  intro v' w' ho hg _
  have hu : Hid (Up w w') := (((Up.refl w).alloc _).below.trans (Below.grown (Below.refl _ _) hg (Nat.le_of_lt (by simp)) (fun k hk => by cases hk; exact Nat.le_refl _)))
  replace ho := hide ho
  clear hg
  go_wp2
  go_ret
  exact ⟨_, rfl, by simpa using ho.out, hu.out⟩
/-- Clone tells the same in new memory. -/
theorem clonePE_calls (v : Value) (l : List Nat) (X : Nat → Prop) (w : World) (h : Rd pE X w v l) (hn : l.length ≤ 1000000) :
    Calls Tryz.prog 106 #[v] w fun e w' => ∃ v', e = .returned v' ∧ Own 112 pE w' w.heap.size v' l ∧ Up w w' := by
  have h0 := h
  obtain ⟨a, cap, rfl, h1, h2, h3⟩ := h
  cases a with
  | none =>
    have : l = [] := by
      rcases h3 with h3 | ⟨g, off, h3, _⟩
      · exact h3
      · cases h3
    subst this
    refine (clonePE_none _ _ w).mono ?_
    rintro e w' ⟨rfl, hu⟩
    exact ⟨_, rfl, Own.nil _ _ _ _, hu⟩
  | some A => exact clonePE_some A _ cap l X w h0 hn

theorem growPE_zero (w : World) : Calls Tryz.prog 105 #[.slice none 0 0, .int .i64 0] w fun e w' => e = .returned (.slice none 0 0) ∧ Up w w' := by
  go_enter Tryz.func105, Tryz.ntmps105
  go_wp2
  go_ret
  exact ⟨rfl, Up.refl _⟩
set_option maxHeartbeats 2000000 in
theorem growPE_some (n : Nat) (h0 : 0 < n) (hn : n ≤ 1000000) (w : World) : Calls Tryz.prog 105 #[.slice none 0 0, .int .i64 n] w fun e w' => ∃ v', e = .returned v' ∧ Own (α := Nat) 112 pE w' w.heap.size v' [] ∧ Up w w' := by
  obtain ⟨i0, hi0, hz0, hzs, hzb⟩ := info_parts elemPE.hi
  have hap : ∀ ty, (Builtin.append_ #[113, 3] ty #[.slice none 0 0, .int .i64 (n : Nat)]).run Tryz.prog w = _ := fun ty =>
    Lib.run_append_nil_zeros w 113 3 ty 112 i0 _ .i64 .i64 Tryz.underlying113 Tryz.underlying3 hi0 hz0 n h0 (by omega) (by omega) (by rw [hzb]; omega)
  have hge := grownCap_ge w n 0 112
  have hle := grownCap_le_maxLen w n 0 112 (by unfold maxLen; omega)
  obtain ⟨G, hG⟩ : ∃ G, G = grownCap w n 0 112 := ⟨_, rfl⟩
  rw [← hG] at hap hge hle
  obtain ⟨R, hR⟩ : ∃ R : Array Value, R = Builtin.zeroCells (.pointer none : Value).cells n ++ Builtin.zeroCells (.pointer none : Value).cells (G - n) := ⟨_, rfl⟩
  rw [← hR] at hap
  have hRs : R.size = G := by rw [hR]; simp [Builtin.zeroCells, Value.cells]; omega
  have HO : Hid (Own (α := Nat) 112 pE (w.drew.alloc (.cells R 112)) w.heap.size (.slice (some ⟨w.heap.size, 0, none⟩) 0 G) []) := Own.mk (Nat.le_refl _) (heap_alloc_new w.drew _) rfl (Nat.zero_le _) hle hRs (by simp)
  have HU : Hid (Up w (w.drew.alloc (.cells R 112))) := (Up.refl w).drew.alloc _
  generalize w.drew.alloc (.cells R 112) = W1 at hap HO HU
  have e1 : IntKind.i64.wrap (n : Int) = n := by rw [IntKind.wrap_i64]; omega
  have t1 : decide ((n : Int) > 0) = true := decide_eq_true (by omega)
  have t1' : decide (0 < n) = true := decide_eq_true (by omega)
  have t2 : decide ((n : Int) < 0) = false := decide_eq_false (by omega)
  have p1 : (0 : Int) ≤ (G : Int) := by omega
  replace hge := hide hge
  replace hle := hide hle
  clear hR hRs hG hi0 hz0 hzs hzb
  go_enter Tryz.func105, Tryz.ntmps105
  go_wp2_with (at_builtin; refine Lib.wpList_append_run _ rfl _ _ _ _ rfl _ _ rfl rfl _ _ (hap _) ?_)
  go_wp2
  go_ret
  exact ⟨_, rfl, HO.out, HU.out⟩
theorem growPE_calls (n : Nat) (hn : n ≤ 1000000) (w : World) : Calls Tryz.prog 105 #[.slice none 0 0, .int .i64 n] w fun e w' => ∃ v', e = .returned v' ∧ Own (α := Nat) 112 pE w' w.heap.size v' [] ∧ Up w w' := by
  cases n with
  | zero =>
    refine (growPE_zero w).mono ?_
    rintro e w' ⟨rfl, hu⟩
    exact ⟨_, rfl, Own.nil _ _ _ _, hu⟩
  | succ n => exact growPE_some (n + 1) (Nat.succ_pos _) hn w
end Go.Proofs.YtnokokhbcfkifaaGreatDoor

namespace Go.Proofs.YtnokokhbcfkifaaGreatDoor
open Go.ChangeShapes Go.WideShapes Go.ChangeAt Go.RowKit
set_option linter.unusedVariables false
set_option maxRecDepth 100000
attribute [local go_sem ↓] Go.wp_at_zero Go.wp_at_succ

set_option maxHeartbeats 2000000 in
theorem concatPE_calls (sb k : Nat) (L : List (Value × List Nat)) (X : Nat → Prop) (w : World) (hk : L.length = k) (hk1 : k ≤ 10) (hL : ∀ j (h : j < L.length), w.cell? ⟨sb, j, none⟩ = some L[j].1 ∧ Rd pE X w L[j].1 L[j].2) (hn : (L.flatMap (·.2)).length ≤ 1000000) :
    Calls Tryz.prog 97 #[.slice (some ⟨sb, 0, none⟩) k k] w fun e w' => ∃ v', e = .returned v' ∧ Own 112 pE w' w.heap.size v' (L.flatMap (·.2)) ∧ Up w w' := by
  have H := hide hL
  have HK := hide hk
  have HN := hide hn
  clear hL hk hn
  go_enter Tryz.func97, Tryz.ntmps97
  go_wp2_with fail
  go_loopw [3, 11] (fun sv iv wr => ∃ i n : Nat, i ≤ k ∧ n ≤ 1000000 ∧ sv = .int .i64 n ∧ iv = .int .i64 i ∧ Hid (n = ((L.take i).flatMap (·.2)).length) ∧ wr = w) (fun _ iv _ => k - (intOf iv).toNat)
  case atStart => exact ⟨0, 0, Nat.zero_le _, Nat.zero_le _, rfl, rfl, rfl, rfl⟩
  case round =>
    obtain ⟨i, n, hi, hn, rfl, rfl, hs, rfl⟩ := hrel
    by_cases hlt : i < k
    · have hil : i < L.length := by rw [HK.out]; exact hlt
      obtain ⟨hc, hr⟩ := H.out i hil
      have hb := cat_le L i hil
      have hm2 := cat_le2 L (i + 1) HN.out
      obtain ⟨a, cap, hv, h2, h3, -⟩ := hr
      rw [hv] at hc
      obtain ⟨m, hm⟩ : ∃ m, m = L[i].2.length := ⟨_, rfl⟩
      rw [← hm] at hc hb
      have HB := hide hb
      have hnm : n + m ≤ 1000000 := by rw [hs.out, hb]; exact hm2
      have i0 : (0 : Int) ≤ (i : Int) := by omega
      have hlt' : (i : Int) < (k : Int) := by omega
      have e1 : IntKind.i64.wrap ((n : Int) + (m : Int)) = ((n + m : Nat) : Int) := by rw [IntKind.wrap_i64]; omega
      have e2 : IntKind.i64.wrap ((i : Int) + 1) = (i : Int) + 1 := by rw [IntKind.wrap_i64]; omega
      have t2 : decide ((n : Int) + (m : Int) < 0) = false := decide_eq_false (by omega)
      have t3 : decide (((n + m : Nat) : Int) < 0) = false := decide_eq_false (by omega)
      clear hm hv h2 h3 hb hm2 hil
      go_wp2
      go_roundw
      case rel => exact ⟨i + 1, n + m, by omega, hnm, by first | rfl | (congr 1), by first | rfl | (congr 1), by unfold Hid; rw [← HB.out, hs.out], by first | rfl | trivial⟩
      case measure => simp [intOf]; omega
    · obtain rfl : k = i := by omega
      have hlt' : ¬ (k : Int) < (k : Int) := by omega
      go_wp2_with (go_at_call 105; refine (growPE_calls n hn _).mono ?_; rintro _ w1 ⟨v1, rfl, ho1, hu1⟩)
      replace hu1 := hide hu1
      obtain ⟨a1, n1, c1, rfl, -, -⟩ := ho1.sliceN
      replace ho1 := hide ho1
      go_wp2_with fail
      obtain ⟨W0, rfl⟩ : ∃ W0, W0 = wr := ⟨_, rfl⟩
      go_loopw [6, 27] (fun vv iv wr => ∃ (i : Nat) (a : Option Addr) (n c : Nat), i ≤ k ∧ vv = .slice a n c ∧ iv = .int .i64 i ∧ Hid (Own 112 pE wr W0.heap.size (.slice a n c) ((L.take i).flatMap (·.2))) ∧ Hid (Up W0 wr)) (fun _ iv _ => k - (intOf iv).toNat)
      case atStart => exact ⟨0, _, _, _, Nat.zero_le _, rfl, rfl, ho1, hu1⟩
      case round =>
        obtain ⟨i, a, n, c, hi, rfl, rfl, ho, hu⟩ := hrel
        by_cases hlt : i < k
        · have hil : i < L.length := by rw [HK.out]; exact hlt
          obtain ⟨hc, hr⟩ := H.out i hil
          replace hc := hu.out.cell hc
          replace hr := hr.up hu.out
          have hb : (L.take i).flatMap (·.2) ++ L[i].2 = (L.take (i + 1)).flatMap (·.2) := by
            rw [List.take_add_one, List.getElem?_eq_getElem hil, List.flatMap_append]; simp
          have hm2 := cat_le2 L (i + 1) HN.out
          rw [← hb, List.length_append] at hm2
          have hr0 := hr
          obtain ⟨a2, cap2, hv, -, -, -⟩ := hr0
          rw [hv] at hc hr
          obtain ⟨m, hm⟩ : ∃ m, m = L[i].2.length := ⟨_, rfl⟩
          rw [← hm] at hc hr
          obtain ⟨l2, hl2⟩ : ∃ l2, l2 = L[i].2 := ⟨_, rfl⟩
          rw [← hl2] at hr hb hm2
          have HR := hide hr
          have HB := hide hb
          have HM := hide hm2
          have i0 : (0 : Int) ≤ (i : Int) := by omega
          have hlt' : (i : Int) < (k : Int) := by omega
          have e2 : IntKind.i64.wrap ((i : Int) + 1) = (i : Int) + 1 := by rw [IntKind.wrap_i64]; omega
          clear hm hv hl2 hr hb hm2 hil
          go_wp2_with (at_builtin; refine append_rd elemPE rfl _ _ rfl W0.heap.size _ _ _ l2 rfl rfl ho.out HR.out (Nat.le_trans HM.out (by decide)) hu.out.size ?_)
          intro v' w' ho' hg' _
          have hu' : Hid (Up W0 w') := Below.grown hu.out.below hg' hu.out.size (fun k hk => (ho.out.lt k hk).1)
          obtain ⟨a3, n3, c3, rfl, -, -⟩ := ho'.sliceN
          replace ho' := hide ho'
          clear hg'
          go_wp2
          go_roundw
          case rel => exact ⟨i + 1, _, _, _, by omega, rfl, by first | rfl | (congr 1), by unfold Hid; rw [← HB.out]; exact ho'.out, hu'⟩
          case measure => simp [intOf]; omega
        · obtain rfl : k = i := by omega
          have hlt' : ¬ (k : Int) < (k : Int) := by omega
          go_wp2
          go_ret
          refine ⟨_, rfl, ?_, hu.out⟩
          have := ho.out
          rwa [List.take_of_length_le (by rw [HK.out]; exact Nat.le_refl _)] at this
/-- Two rows. -/
theorem concatPE_two (sb : Nat) (v1 v2 : Value) (l1 l2 : List Nat) (X : Nat → Prop) (w : World) (c1 : w.cell? ⟨sb, 0, none⟩ = some v1) (c2 : w.cell? ⟨sb, 1, none⟩ = some v2) (r1 : Rd pE X w v1 l1) (r2 : Rd pE X w v2 l2) (hn : l1.length + l2.length ≤ 1000000) :
    Calls Tryz.prog 97 #[.slice (some ⟨sb, 0, none⟩) 2 2] w fun e w' => ∃ v', e = .returned v' ∧ Own 112 pE w' w.heap.size v' (l1 ++ l2) ∧ Up w w' := by
  have := concatPE_calls sb 2 [(v1, l1), (v2, l2)] X w rfl (by decide) (fun j h => by
    match j, h with
    | 0, _ => exact ⟨c1, r1⟩
    | 1, _ => exact ⟨c2, r2⟩) (by simpa using hn)
  simpa using this
theorem concatPE_three (sb : Nat) (v1 v2 v3 : Value) (l1 l2 l3 : List Nat) (X : Nat → Prop) (w : World) (c1 : w.cell? ⟨sb, 0, none⟩ = some v1) (c2 : w.cell? ⟨sb, 1, none⟩ = some v2) (c3 : w.cell? ⟨sb, 2, none⟩ = some v3) (r1 : Rd pE X w v1 l1) (r2 : Rd pE X w v2 l2) (r3 : Rd pE X w v3 l3) (hn : l1.length + (l2.length + l3.length) ≤ 1000000) :
    Calls Tryz.prog 97 #[.slice (some ⟨sb, 0, none⟩) 3 3] w fun e w' => ∃ v', e = .returned v' ∧ Own 112 pE w' w.heap.size v' (l1 ++ (l2 ++ l3)) ∧ Up w w' := by
  have := concatPE_calls sb 3 [(v1, l1), (v2, l2), (v3, l3)] X w rfl (by decide) (fun j h => by
    match j, h with
    | 0, _ => exact ⟨c1, r1⟩
    | 1, _ => exact ⟨c2, r2⟩
    | 2, _ => exact ⟨c3, r3⟩) (by simpa using hn)
  simpa using this
end Go.Proofs.YtnokokhbcfkifaaGreatDoor

/-
  PosSwaps of rialtolaw14, as its text runs: it tells true.
-/
import Derived.Test.YtbnkddnjfkagkaaPxKnw
namespace Go.Proofs.Ytbnkddnjfkagkaa
open Go.ChangeShapes Go.WideShapes Go.ChangeAt Go.RowKit
set_option linter.unusedVariables false
set_option maxRecDepth 100000
attribute [local go_sem ↓] Go.wp_at_zero Go.wp_at_succ

/-- The list after the first i swaps. -/
def swsL (k : Nat) (l : List Int) (i : Nat) : List Int := (l.take i).foldl (fun xs y => swL xs (y.toNat % k) (y.toNat / 16 % k)) (ups k)
theorem swsL_zero (k : Nat) (l : List Int) : swsL k l 0 = ups k := rfl
theorem swsL_succ (k : Nat) (l : List Int) {i : Nat} {y : Int} (h : l[i]? = some y) : swsL k l (i + 1) = swL (swsL k l i) (y.toNat % k) (y.toNat / 16 % k) := by
  unfold swsL
  rw [List.take_add_one, h, Option.toList_some, List.foldl_append]
  rfl
theorem swsL_len (k : Nat) (l : List Int) : ∀ i, (swsL k l i).length = k
  | 0 => by rw [swsL_zero, ups_len]
  | i + 1 => by
    cases h : l[i]? with
    | some y => rw [swsL_succ k l h, swL_len]; exact swsL_len k l i
    | none =>
      have : swsL k l (i + 1) = swsL k l i := by
        unfold swsL
        rw [List.take_add_one, h, Option.toList_none, List.append_nil]
      rw [this]; exact swsL_len k l i
set_option maxHeartbeats 8000000 in
theorem posSwaps_few (a0 : Int) (a1 : Option Addr) (n1 c1 : Nat) (l : List Int) (w : World) (h0 : 0 ≤ a0 ∧ a0 ≤ 255) (hl : l.length = n1) (hr : Rd (Value.int .u8) (fun _ => False) w (.slice a1 n1 c1) l) (hs : ∀ x ∈ l, 0 ≤ x ∧ x ≤ 255) (hn : n1 ≤ 40) :
    Calls Try.prog 7 #[.int .u8 a0, .slice a1 n1 c1] w fun e w' => e = .returned (.bool true) ∧ Up w w' := by
  obtain ⟨N, rfl⟩ : ∃ k : Nat, a0 = (k : Int) := ⟨a0.toNat, by omega⟩
  obtain ⟨k, hk⟩ : ∃ k : Nat, k = N % 20 + 1 := ⟨_, rfl⟩
  have ek1 : (N : Int) % 20 = (k : Int) - 1 := by omega
  have ek2 : IntKind.i64.wrap ((k : Int) - 1) = (k : Int) - 1 := by rw [IntKind.wrap_i64]; omega
  have ek3 : IntKind.i64.wrap ((k : Int) - 1 + 1) = (k : Int) := by rw [IntKind.wrap_i64]; omega
  have ek4 : (k : Int) - 1 + 1 = (k : Int) := by omega
  have hk1 : 1 ≤ k := by omega
  have hk2 : k ≤ 20 := by omega
  have HL := hide hl
  have HR := hide hr
  have HS := hide hs
  have g0 : decide ((n1 : Int) > 40) = false := decide_eq_false (by omega)
  have g0' : ¬ ((n1 : Int) > 40) := by omega
  have g0'' : decide (40 < n1) = false := decide_eq_false (by omega)
  clear hl hr hs h0 hk
  go_enter Try.func7, Try.ntmps7
  go_wp2_with fail
  refine (known14_calls w).mono ?_
  rintro _ wk ⟨rfl, huk⟩
  replace huk := hide huk
  dsimp only
  go_wp2_with fail
  refine (pin_new w wk huk.out).mono ?_
  rintro _ w0 ⟨p, T, M, rfl, i0, hT, hM⟩
  have HA0 : Hid (SqIn w p T M (ups 0) (800 * 0) w0) := i0
  clear i0 ek1 ek2 ek3 ek4
  dsimp only
  go_wp2_with fail
  go_loopw [7] (fun iv wr => ∃ i : Nat, i ≤ k ∧ iv = .int .i64 i ∧ Hid (SqIn w p T M (ups i) (800 * i) wr)) (fun iv _ => k - (intOf iv).toNat)
  case atStart => exact ⟨0, Nat.zero_le _, rfl, HA0⟩
  case round =>
    obtain ⟨i, hik, rfl, hin⟩ := hrel
    by_cases hlt : i < k
    · have hlt' : (i : Int) < (k : Int) := by omega
      have HAD := hide (pin_ins i ((i : Int) + 1) hT hM hin.out (wf64_small (by omega)) (by rw [ups_mem]; omega) (by rw [ups_len]; omega) (by rw [ups_len]; omega) (by omega))
      rw [ups_ins] at HAD
      have e1 : IntKind.i64.wrap ((i : Int) + 1) = (i : Int) + 1 := by rw [IntKind.wrap_i64]; omega
      clear hin
      go_wp2_with fail
      refine HAD.out.mono ?_
      rintro _ w1 ⟨rfl, i1⟩
      replace i1 := hide i1
      dsimp only
      go_wp2
      go_roundw
      case rel => exact ⟨i + 1, by omega, by simp, by unfold Hid; rw [Nat.mul_succ]; exact i1.out⟩
      case measure => simp [intOf]; omega
    · obtain rfl : k = i := by omega
      have hjk' : ¬ ((k : Int) < (k : Int)) := by omega
      have HM0 : Hid (SqIn w p T M (swsL k l 0) (20000 + 1600 * 0) wr) := by
        obtain ⟨h, n, f, ix, hn, hu⟩ := hin.out
        exact ⟨h, n, f, ix, by omega, hu⟩
      have z1 : ¬ ((k : Int) = 0) := by omega
      clear hin HA0
      go_wp2_with fail
      go_loopw [8] (fun iv wr => ∃ i : Nat, i ≤ n1 ∧ iv = .int .i64 i ∧ Hid (SqIn w p T M (swsL k l i) (20000 + 1600 * i) wr)) (fun iv _ => n1 - (intOf iv).toNat)
      case atStart => exact ⟨0, Nat.zero_le _, rfl, HM0⟩
      case round =>
        obtain ⟨i, hin, rfl, hmv⟩ := hrel
        by_cases hlt : i < n1
        · have hlt' : (i : Int) < (n1 : Int) := by omega
          have i0 : (0 : Int) ≤ (i : Int) := by omega
          obtain ⟨gm, om, rfl, hcm⟩ := (HR.out.up hmv.out.upw).get (i := i) (by rw [HL.out]; exact hlt)
          obtain ⟨y, hy⟩ : ∃ y, y = l[i]'(by rw [HL.out]; exact hlt) := ⟨_, rfl⟩
          rw [← hy] at hcm
          have hy8 := HS.out y (by rw [hy]; exact List.getElem_mem _)
          have hyl : l[i]? = some y := by rw [hy]; exact List.getElem?_eq_getElem _
          obtain ⟨Y, rfl⟩ : ∃ Y : Nat, y = (Y : Int) := ⟨y.toNat, by omega⟩
          obtain ⟨a, ha⟩ : ∃ a : Nat, a = Y % k := ⟨_, rfl⟩
          obtain ⟨b, hb⟩ : ∃ b : Nat, b = Y / 16 % k := ⟨_, rfl⟩
          have hak : a < k := by rw [ha]; exact Nat.mod_lt _ (by omega)
          have hbk : b < k := by rw [hb]; exact Nat.mod_lt _ (by omega)
          have hss := swsL_succ k l hyl
          rw [Int.toNat_natCast, ← ha, ← hb] at hss
          have hsl := swsL_len k l i
          have HSW : Hid (∀ W, Up wr W → Calls Try.prog 34 #[.pointer (some ⟨p, 0, none⟩), .int .i64 a, .int .i64 b] W fun e w' => e = .returned (.int .i64 0) ∧ SqIn w p T M (swsL k l (i + 1)) (20000 + 1600 * i + 1600) w') := fun W hu => by
            rw [hss]
            exact pin_swap a b hT hM (hmv.out.up hu) (by omega) (by omega) (by omega) (by omega)
          obtain ⟨Q, hQ⟩ : ∃ Q : Nat, Q = Y / 16 := ⟨_, rfl⟩
          have z0 : ¬ (k = 0) := by omega
          have e0 : IntKind.i64.wrap (Y : Int) = (Y : Int) := by rw [IntKind.wrap_i64]; omega
          have e1 : (Y : Int) % (k : Int) = (a : Int) := by rw [ha]; simp
          have e1t : (Y : Int).tmod (k : Int) = (a : Int) := by rw [ha]; rfl
          have e2 : (Y : Int) / 16 = (Q : Int) := by omega
          have e2t : (Y : Int).tdiv 16 = (Q : Int) := by rw [hQ]; rfl
          have e3 : IntKind.i64.wrap (Q : Int) = (Q : Int) := by rw [IntKind.wrap_i64]; omega
          have e3' : IntKind.u8.wrap (Q : Int) = (Q : Int) := by rw [IntKind.wrap_u8]; omega
          have e4 : (Q : Int) % (k : Int) = (b : Int) := by rw [hb, hQ]; simp
          have e4t : (Q : Int).tmod (k : Int) = (b : Int) := by rw [hb, hQ]; rfl
          clear hQ
          clear ha hb hss hsl hy hyl hy8 hmv
          go_wp2_with fail
          go_region_law (go_simp; go_at_call 34; refine (HSW.out _ (by repeat' (with_reducible first | assumption | exact Up.refl _ | apply Up.alloc | apply Up.drew))).mono ?_; rintro _ w5 ⟨rfl, i5⟩; replace i5 := hide i5; dsimp only)
          all_goals
            clear hcm e0 e1 e1t e2 e2t e3 e3' e4 e4t HSW
            go_wp2
            go_roundw
            case rel => exact ⟨i + 1, by omega, by simp, by unfold Hid; rw [Nat.mul_succ, ← Nat.add_assoc]; exact i5.out⟩
            case measure => simp [intOf]; omega
        · obtain rfl : n1 = i := by omega
          have hjn' : ¬ ((n1 : Int) < (n1 : Int)) := by omega
          have en : IntKind.i64.wrap ((n1 : Int) - 1) = (n1 : Int) - 1 := by rw [IntKind.wrap_i64]; omega
          go_wp2_with fail
          go_loopw [9] (fun iv wr => ∃ (z : Int) (i j : Nat), iv = .int .i64 z ∧ Hid (z + 1 = (i : Int)) ∧ Hid (i + j = n1 + n1) ∧ i ≤ n1 ∧ Hid (SqIn w p T M (swsL k l i) (20000 + 1600 * j) wr)) (fun iv _ => (intOf iv + 1).toNat)
          case atStart => exact ⟨(n1 : Int) - 1, n1, n1, rfl, by unfold Hid; omega, rfl, Nat.le_refl _, hmv⟩
          case round =>
            obtain ⟨z, i, j, rfl, hz, hij, hin1, hmv2⟩ := hrel
            by_cases hi0 : i = 0
            · have hz0 : z = -1 := by have := hz.out; omega
              subst hz0
              have HF : Hid (SqIn w p T M (ups k) (20000 + 1600 * j) wr) := by
                have := hmv2.out
                rw [hi0, swsL_zero] at this
                exact this
              have hj80 : j ≤ 80 := by have := hij.out; omega
              clear hz hij hi0 hmv2 hmv en
              go_wp2_with fail
              go_loopw [10] (fun iv wr => ∃ i : Nat, i ≤ k ∧ iv = .int .i64 i ∧ Hid (SqIn w p T M (ups k) (20000 + 1600 * j) wr)) (fun iv _ => k - (intOf iv).toNat)
              case atStart => exact ⟨0, Nat.zero_le _, rfl, HF⟩
              case round =>
                obtain ⟨q, hqk, rfl, hin⟩ := hrel
                by_cases hlt : q < k
                · have hlt' : (q : Int) < (k : Int) := by omega
                  have HAD := hide (pin_at q ((q : Int) + 1) hin.out (ups_get hlt) (by rw [ups_len]; omega))
                  have HUG := hide (ups_get hlt)
                  have e1 : IntKind.i64.wrap ((q : Int) + 1) = (q : Int) + 1 := by rw [IntKind.wrap_i64]; omega
                  clear hin
                  go_wp2_with fail
                  refine HAD.out.mono ?_
                  rintro _ w1 ⟨rfl, i1⟩
                  replace i1 := hide i1
                  dsimp only
                  go_wp2_with fail
                  refine (pin_place q ((q : Int) + 1) i1.out HUG.out (by rw [ups_len]; omega)).mono ?_
                  rintro _ w2 ⟨rfl, i2⟩
                  replace i2 := hide i2
                  dsimp only
                  go_wp2
                  go_roundw
                  case rel => exact ⟨q + 1, by omega, by simp, i2⟩
                  case measure => simp [intOf]; omega
                · obtain rfl : k = q := by omega
                  have hjk' : ¬ ((k : Int) < (k : Int)) := by omega
                  go_wp2
                  go_ret
                  exact ⟨rfl, hin.out.upw⟩
            · obtain ⟨u, hu⟩ : ∃ u : Nat, i = u + 1 := ⟨i - 1, by omega⟩
              have hzu : z = (u : Int) := by have := hz.out; omega
              subst hzu
              have hlt : u < n1 := by omega
              have hlt' : (u : Int) < (n1 : Int) := by omega
              have u0 : (0 : Int) ≤ (u : Int) := by omega
              obtain ⟨gm, om, rfl, hcm⟩ := (HR.out.up hmv2.out.upw).get (i := u) (by rw [HL.out]; exact hlt)
              obtain ⟨y, hy⟩ : ∃ y, y = l[u]'(by rw [HL.out]; exact hlt) := ⟨_, rfl⟩
              rw [← hy] at hcm
              have hy8 := HS.out y (by rw [hy]; exact List.getElem_mem _)
              have hyl : l[u]? = some y := by rw [hy]; exact List.getElem?_eq_getElem _
              obtain ⟨Y, rfl⟩ : ∃ Y : Nat, y = (Y : Int) := ⟨y.toNat, by omega⟩
              obtain ⟨a, ha⟩ : ∃ a : Nat, a = Y % k := ⟨_, rfl⟩
              obtain ⟨b, hb⟩ : ∃ b : Nat, b = Y / 16 % k := ⟨_, rfl⟩
              have hak : a < k := by rw [ha]; exact Nat.mod_lt _ (by omega)
              have hbk : b < k := by rw [hb]; exact Nat.mod_lt _ (by omega)
              have hss := swsL_succ k l hyl
              rw [Int.toNat_natCast, ← ha, ← hb] at hss
              have hsl := swsL_len k l u
              have hbk2 : swL (swsL k l i) a b = swsL k l u := by rw [hu, hss]; exact swL_back _ (by omega) (by omega)
              have hsli := swsL_len k l i
              have hj80 : j ≤ 80 := by have := hij.out; omega
              have HSW : Hid (∀ W, Up wr W → Calls Try.prog 34 #[.pointer (some ⟨p, 0, none⟩), .int .i64 a, .int .i64 b] W fun e w' => e = .returned (.int .i64 0) ∧ SqIn w p T M (swsL k l u) (20000 + 1600 * j + 1600) w') := fun W hu => by
                rw [← hbk2]
                exact pin_swap a b hT hM (hmv2.out.up hu) (by omega) (by omega) (by omega) (by omega)
              have HIJ : Hid (u + (j + 1) = n1 + n1) := by have := hij.out; unfold Hid; omega
              obtain ⟨Q, hQ⟩ : ∃ Q : Nat, Q = Y / 16 := ⟨_, rfl⟩
              have z0 : ¬ (k = 0) := by omega
              have e0 : IntKind.i64.wrap (Y : Int) = (Y : Int) := by rw [IntKind.wrap_i64]; omega
              have e1 : (Y : Int) % (k : Int) = (a : Int) := by rw [ha]; simp
              have e1t : (Y : Int).tmod (k : Int) = (a : Int) := by rw [ha]; rfl
              have e2 : (Y : Int) / 16 = (Q : Int) := by omega
              have e2t : (Y : Int).tdiv 16 = (Q : Int) := by rw [hQ]; rfl
              have e3 : IntKind.i64.wrap (Q : Int) = (Q : Int) := by rw [IntKind.wrap_i64]; omega
              have e3' : IntKind.u8.wrap (Q : Int) = (Q : Int) := by rw [IntKind.wrap_u8]; omega
              have e4 : (Q : Int) % (k : Int) = (b : Int) := by rw [hb, hQ]; simp
              have e4t : (Q : Int).tmod (k : Int) = (b : Int) := by rw [hb, hQ]; rfl
              have eu : IntKind.i64.wrap ((u : Int) - 1) = (u : Int) - 1 := by rw [IntKind.wrap_i64]; omega
              clear hQ ha hb hss hsl hy hyl hy8 hmv2 hmv hu hi0 hij hz hbk2 hsli en hin1
              go_wp2_with fail
              go_region_law (go_simp; go_at_call 34; refine (HSW.out _ (by repeat' (with_reducible first | assumption | exact Up.refl _ | apply Up.alloc | apply Up.drew))).mono ?_; rintro _ w5 ⟨rfl, i5⟩; replace i5 := hide i5; dsimp only)
              all_goals
                clear hcm e0 e1 e1t e2 e2t e3 e3' e4 e4t HSW
                go_wp2
                go_roundw
                case rel => exact ⟨(u : Int) - 1, u, j + 1, rfl, by unfold Hid; omega, HIJ, by omega, by unfold Hid; rw [Nat.mul_succ, ← Nat.add_assoc]; exact i5.out⟩
                case measure => simp [intOf]
set_option maxHeartbeats 4000000 in
theorem posSwaps_many (a0 : Int) (a1 : Option Addr) (n1 c1 : Nat) (w : World) (hn : 40 < n1) :
    Calls Try.prog 7 #[.int .u8 a0, .slice a1 n1 c1] w fun e w' => e = .returned (.bool true) ∧ Up w w' := by
  have g0 : decide ((n1 : Int) > 40) = true := decide_eq_true (by omega)
  have g0' : (n1 : Int) > 40 := by omega
  go_enter Try.func7, Try.ntmps7
  go_wp2_with fail
  refine (known14_calls w).mono ?_
  rintro _ wk ⟨rfl, huk⟩
  replace huk := hide huk
  dsimp only
  go_wp2
  go_ret
  exact ⟨rfl, huk.out⟩
end Go.Proofs.Ytbnkddnjfkagkaa

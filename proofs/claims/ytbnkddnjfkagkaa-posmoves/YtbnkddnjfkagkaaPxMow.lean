/-
  PosMoves of rialtolaw14, as its text runs: it tells true.
-/
import Derived.Test.YtbnkddnjfkagkaaPxKnw
namespace Go.Proofs.Ytbnkddnjfkagkaa
open Go.ChangeShapes Go.WideShapes Go.ChangeAt Go.RowKit
set_option linter.unusedVariables false
set_option maxRecDepth 100000
attribute [local go_sem ↓] Go.wp_at_zero Go.wp_at_succ

set_option maxHeartbeats 8000000 in
theorem posMoves_all (a0 a1 a2 : Int) (w : World) (h0 : 0 ≤ a0 ∧ a0 ≤ 255) (h1 : 0 ≤ a1 ∧ a1 ≤ 255) (h2 : 0 ≤ a2 ∧ a2 ≤ 255) :
    Calls Try.prog 8 #[.int .u8 a0, .int .u8 a1, .int .u8 a2] w fun e w' => e = .returned (.bool true) ∧ Up w w' := by
  obtain ⟨N, rfl⟩ : ∃ k : Nat, a0 = (k : Int) := ⟨a0.toNat, by omega⟩
  obtain ⟨I, rfl⟩ : ∃ k : Nat, a1 = (k : Int) := ⟨a1.toNat, by omega⟩
  obtain ⟨O, rfl⟩ : ∃ k : Nat, a2 = (k : Int) := ⟨a2.toNat, by omega⟩
  obtain ⟨k, hk⟩ : ∃ k : Nat, k = N % 30 + 1 := ⟨_, rfl⟩
  have ek1 : (N : Int) % 30 = (k : Int) - 1 := by omega
  have ek2 : IntKind.i64.wrap ((k : Int) - 1) = (k : Int) - 1 := by rw [IntKind.wrap_i64]; omega
  have ek3 : IntKind.i64.wrap ((k : Int) - 1 + 1) = (k : Int) := by rw [IntKind.wrap_i64]; omega
  have ek4 : (k : Int) - 1 + 1 = (k : Int) := by omega
  have hk1 : 1 ≤ k := by omega
  have hk2 : k ≤ 30 := by omega
  have hI : I ≤ 255 := by omega
  have hO : O ≤ 255 := by omega
  clear h0 h1 h2 hk
  go_enter Try.func8, Try.ntmps8
  go_wp2_with fail
  refine (known14_calls w).mono ?_
  rintro _ wk ⟨rfl, huk⟩
  replace huk := hide huk
  dsimp only
  go_wp2_with fail
  refine (pin_new w wk huk.out).mono ?_
  rintro _ w0 ⟨p, T, M, rfl, i0, hT, hM⟩
  have HA0 : Hid (SqIn w p T M (ups 0) (800 * 0) w0) := i0
  clear i0 ek1 ek2 ek3 ek4
  dsimp only
  go_wp2_with fail
  go_loopw [9] (fun iv wr => ∃ i : Nat, i ≤ k ∧ iv = .int .i64 i ∧ Hid (SqIn w p T M (ups i) (800 * i) wr)) (fun iv _ => k - (intOf iv).toNat)
  case atStart => exact ⟨0, Nat.zero_le _, rfl, HA0⟩
  case round =>
    obtain ⟨i, hik, rfl, hin⟩ := hrel
    by_cases hlt : i < k
    · have hlt' : (i : Int) < (k : Int) := by omega
      have HAD := hide (pin_ins i ((i : Int) + 1) hT hM hin.out (wf64_small (by omega)) (by rw [ups_mem]; omega) (by rw [ups_len]; omega) (by rw [ups_len]; omega) (by omega))
      rw [ups_ins] at HAD
      have e1 : IntKind.i64.wrap ((i : Int) + 1) = (i : Int) + 1 := by rw [IntKind.wrap_i64]; omega
      clear hin
      go_wp2_with fail
      refine HAD.out.mono ?_
      rintro _ w1 ⟨rfl, i1⟩
      replace i1 := hide i1
      dsimp only
      go_wp2
      go_roundw
      case rel => exact ⟨i + 1, by omega, by simp, by unfold Hid; rw [Nat.mul_succ]; exact i1.out⟩
      case measure => simp [intOf]; omega
    · obtain rfl : k = i := by omega
      have hjk' : ¬ ((k : Int) < (k : Int)) := by omega
      obtain ⟨a, ha⟩ : ∃ a : Nat, a = I % k := ⟨_, rfl⟩
      obtain ⟨t, ht⟩ : ∃ t : Nat, t = O % k := ⟨_, rfl⟩
      have hak : a < k := by rw [ha]; exact Nat.mod_lt _ (by omega)
      have htk : t < k := by rw [ht]; exact Nat.mod_lt _ (by omega)
      have e0 : IntKind.i64.wrap (I : Int) = (I : Int) := by rw [IntKind.wrap_i64]; omega
      have e0' : IntKind.i64.wrap (O : Int) = (O : Int) := by rw [IntKind.wrap_i64]; omega
      have e1 : (I : Int) % (k : Int) = (a : Int) := by rw [ha]; simp
      have e1' : (O : Int) % (k : Int) = (t : Int) := by rw [ht]; simp
      have e2 : IntKind.i64.wrap ((a : Int) + 1) = (a : Int) + 1 := by rw [IntKind.wrap_i64]; omega
      have z1 : ¬ ((k : Int) = 0) := by omega
      have E1 := hide e1'
      have S0 : Hid (∀ q, SqIn w p T M (ups k) (800 * k) (wr.drewN q)) := fun q => hin.out.up ((Up.refl wr).drewN q)
      have hul : (ups k).length = k := ups_len k
      have hua : (ups k)[a]? = some ((a : Int) + 1) := ups_get hak
      have HUL := hide hul
      have HUA := hide hua
      clear hin ha ht HA0 hul hua
      go_wp2_with fail
      go_quiet (fail)
      rw [E1.out]
      replace S0 := hide (S0.out nq)
      generalize wr.drewN nq = W0 at *
      obtain ⟨v, hv⟩ : ∃ v : Int, v = (a : Int) + 1 := ⟨_, rfl⟩
      have ev : IntKind.i64.wrap ((a : Int) + 1 - 1) = (a : Int) := by rw [IntKind.wrap_i64]; omega
      have ev1 : IntKind.i64.wrap (v - 1) = (a : Int) := by rw [hv]; exact ev
      rw [← hv] at HUA ⊢
      have HV := hide hv
      clear hv ev e0 e0' e1 e1' e2
      go_wp2_with fail
      obtain ⟨hal, hax⟩ := List.getElem?_eq_some_iff.1 HUA.out
      have HMV := hide (pin_move a t v hT hM S0.out hal hax (by rw [HUL.out]; exact htk) (by rw [HUL.out]; omega) (by omega))
      have hz1 : (mvL (ups k) a t).length = k := by rw [mvL_len hal (by rw [HUL.out]; exact htk)]; exact HUL.out
      have hz2 : (mvL (ups k) a t)[t]? = some v := by rw [mvL_at hal (by rw [HUL.out]; exact htk), getD_in _ hal, hax]
      have hz3 : mvL (mvL (ups k) a t) t a = ups k := mvL_back hal (by rw [HUL.out]; exact htk)
      have HZ1 := hide hz1
      have HZ2 := hide hz2
      have HZ3 := hide hz3
      clear hal hax hz1 hz2 hz3 S0
      refine HMV.out.mono ?_
      rintro _ w1 ⟨rfl, i1⟩
      replace i1 := hide i1
      clear HMV
      dsimp only
      go_wp2_with fail
      refine (pin_place t v i1.out HZ2.out (by rw [HZ1.out]; omega)).mono ?_
      rintro _ w2 ⟨rfl, i2⟩
      replace i2 := hide i2
      clear i1
      dsimp only
      go_wp2_with fail
      refine (pin_move t a v hT hM i2.out (List.getElem?_eq_some_iff.1 HZ2.out).1 (List.getElem?_eq_some_iff.1 HZ2.out).2 (by rw [HZ1.out]; exact hak) (by rw [HZ1.out]; omega) (by omega)).mono ?_
      rintro _ w3 ⟨rfl, i3⟩
      rw [HZ3.out] at i3
      replace i3 := hide i3
      clear i2
      dsimp only
      go_wp2_with fail
      clear ev1
      go_loopw [16] (fun iv wr => ∃ i : Nat, i ≤ k ∧ iv = .int .i64 i ∧ Hid (SqIn w p T M (ups k) (800 * k + 1600 + 1600) wr)) (fun iv _ => k - (intOf iv).toNat)
      case atStart => exact ⟨0, Nat.zero_le _, rfl, i3⟩
      case round =>
        obtain ⟨i, hik, rfl, hin⟩ := hrel
        by_cases hlt : i < k
        · have hlt' : (i : Int) < (k : Int) := by omega
          have HAD := hide (pin_at i ((i : Int) + 1) hin.out (ups_get hlt) (by rw [HUL.out]; omega))
          have e1 : IntKind.i64.wrap ((i : Int) + 1) = (i : Int) + 1 := by rw [IntKind.wrap_i64]; omega
          clear hin
          go_wp2_with fail
          refine HAD.out.mono ?_
          rintro _ w1 ⟨rfl, i1⟩
          replace i1 := hide i1
          dsimp only
          go_wp2
          go_roundw
          case rel => exact ⟨i + 1, by omega, by simp, i1⟩
          case measure => simp [intOf]; omega
        · obtain rfl : k = i := by omega
          have hjk' : ¬ ((k : Int) < (k : Int)) := by omega
          go_wp2
          go_ret
          exact ⟨rfl, hin.out.upw⟩
end Go.Proofs.Ytbnkddnjfkagkaa

/-
  Vals and Entries of the statements' help, of rows that are the same; ordidx's Place, as their texts run.
-/
import Derived.Test.YtnokokhbcfkifaaGreatDoorOxAlm
import Derived.Test.YtnokokhbcfkifaaGreatDoorOwnApp
import Derived.BigQuiet
import Derived.Deep.QuietTactic
namespace Go.Proofs.YtnokokhbcfkifaaGreatDoor
open Go.ChangeShapes Go.WideShapes Go.ChangeAt Go.RowKit
set_option linter.unusedVariables false
set_option maxRecDepth 100000
attribute [local go_sem ↓] Go.wp_at_zero Go.wp_at_succ

set_option maxHeartbeats 2000000 in
theorem vals_same (a0 a1 : Option Addr) (n c0 c1 : Nat) (l : List VT) (w : World) (hn : n ≤ 12) (v0 : Vals w a0 n l) (v1 : Vals w a1 n l) :
    Calls Tryz.prog 45 #[.slice a0 n c0, .slice a1 n c1] w fun e w' => e = .returned (.bool true) ∧ Up w w' := by
  have V0 := hide v0
  have V1 := hide v1
  have hm : n ≤ maxLen := Nat.le_trans hn (by decide)
  clear v0 v1
  go_enter Tryz.func45, Tryz.ntmps45
  go_wp2_with fail
  go_at_call 54
  refine (rvrows_calls _ _ _ _ _ _ l l _ hm hm V0.out V1.out).mono ?_
  rintro _ w1 ⟨rfl, hu1⟩
  have HU := hide hu1
  rw [rowsV_self]
  clear hu1
  go_wp2
  go_ret
  exact ⟨rfl, HU.out⟩
set_option maxHeartbeats 4000000 in
theorem ents_same (X X2 : Nat → Prop) (va vb : Value) (L1 L2 : List EP) (w : World) (h1 : RdV eC X w va (L1.map (·.1))) (h2 : RdV eC X2 w vb (L2.map (·.1))) (k1 : ∀ p ∈ L1, KeyK w p.1.a p.1.n p.2) (k2 : ∀ p ∈ L2, KeyK w p.1.a p.1.n p.2) (he : L1.map idv = L2.map idv) (hl : L1.length ≤ 100000) :
    Calls Tryz.prog 26 #[va, vb] w fun e w' => e = .returned (.bool true) ∧ Up w w' := by
  obtain ⟨a, n, c, rfl, hn, -⟩ := h1.sliceN
  obtain ⟨b, n2, c2, rfl, hn2, -⟩ := h2.sliceN
  have hlen : L1.length = L2.length := by have := congrArg List.length he; simpa using this
  have e1 : n = L1.length := by rw [hn.out]; simp
  have e2 : n2 = n := by rw [hn2.out, e1, hlen]; simp
  subst e2
  have H1 := hide h1
  have H2 := hide h2
  have K1 := hide k1
  have K2 := hide k2
  have HE := hide he
  have HN := hide e1
  have HLE := hide hlen
  have hn6 : n2 ≤ 100000 := by rw [e1]; exact hl
  clear h1 h2 k1 k2 he hn hn2 e1 hlen hl
  go_enter Tryz.func26, Tryz.ntmps26
  go_wp2_with fail
  go_loopw [5] (fun iu wr => ∃ i : Nat, iu = .int .i64 i ∧ i ≤ n2 ∧ Hid (Up w wr)) (fun iu _ => n2 - (intOf iu).toNat)
  case atStart => exact ⟨0, rfl, Nat.zero_le _, Up.refl _⟩
  case round =>
    obtain ⟨i, rfl, hi, HU⟩ := hrel
    by_cases hlt : i < n2
    · have hl1 : i < L1.length := by rw [← HN.out]; exact hlt
      have hl2 : i < L2.length := by rw [← HLE.out]; exact hl1
      obtain ⟨g, o, rfl, y0, y1⟩ := H1.out.ent (i := i) (by simpa using hl1)
      obtain ⟨g2, o2, rfl, y2, y3⟩ := H2.out.ent (i := i) (by simpa using hl2)
      rw [List.getElem_map] at y0 y1 y2 y3
      have kx := K1.out L1[i] (List.getElem_mem hl1)
      have ky := K2.out L2[i] (List.getElem_mem hl2)
      have hxy : idv L1[i] = idv L2[i] := by
        have := congrArg (fun l => l[i]?) HE.out
        simp only [List.getElem?_map, List.getElem?_eq_getElem hl1, List.getElem?_eq_getElem hl2] at this
        exact Option.some.inj this
      generalize L1[i] = x at *
      generalize L2[i] = y at *
      have hid : x.1.id = y.1.id := congrArg (fun q : Int × List VT => q.1) hxy
      have hvs : x.2 = y.2 := congrArg (fun q : Int × List VT => q.2) hxy
      rw [hvs] at kx
      rw [hid] at y1
      have hnn : x.1.n = y.1.n := by rw [← kx.vals.1, ky.vals.1]
      rw [hnn] at y0 kx
      replace y0 := HU.out.cell y0
      replace y1 := HU.out.cell y1
      replace y2 := HU.out.cell y2
      replace y3 := HU.out.cell y3
      have hcm : Hid (∀ w', Up wr w' → Calls Tryz.prog 45 #[.slice x.1.a y.1.n x.1.c, .slice y.1.a y.1.n y.1.c] w' fun e w'' => e = .returned (.bool true) ∧ Up w' w'') := fun w' hw => vals_same _ _ _ _ _ y.2 w' ky.few (kx.vals.up (HU.out.trans hw)) (ky.vals.up (HU.out.trans hw))
      have t1 : decide ((i : Int) < (n2 : Int)) = true := decide_eq_true (by omega)
      have z1 : (i : Int) < (n2 : Int) := by omega
      have z0 : (0 : Int) ≤ (i : Int) := by omega
      have e4 : IntKind.i64.wrap ((i : Int) + 1) = (i : Int) + 1 := by rw [IntKind.wrap_i64]; omega
      clear hxy hid hvs hnn kx ky hl1 hl2
      go_wp2_with fail
      refine region_up (by kernel_rfl) (by kernel_rfl) ?_
      repeat (first
        | go_big_quiet_skip
        | (go_big_quiet_want; go_big_quiet_op; go_big_quiet_on)
        | (go_big_quiet_want
           apply Exists.intro
           refine ⟨fun w' hw' => ?_, ?_⟩
           (skip
            have y0 := hw'.cell y0
            have y1 := hw'.cell y1
            have y2 := hw'.cell y2
            have y3 := hw'.cell y3
            go_simp
            first
            | done
            | with_reducible rfl
            | (go_at_call 45; exact quiet_call hw' (hcm.out w' hw')))
           go_big_quiet_on
           try simp only [Act.put, List.setIfInBounds_toArray, List.set_cons_zero, List.set_cons_succ]))
      refine wpQuiet_nil ?_
      intro w6 hw6
      have HU6 := hide (HU.out.trans hw6)
      clear hw6 hcm y0 y1 y2 y3
      go_wp2
      go_roundw
      case rel => exact ⟨i + 1, by first | rfl | congr 1, by omega, HU6⟩
      case measure => simp [intOf]; omega
    · obtain rfl : i = n2 := by omega
      have t1 : decide ((i : Int) < (i : Int)) = false := decide_eq_false (by omega)
      have t2 : ¬ (i : Int) < (i : Int) := by omega
      go_wp2
      go_ret
      exact ⟨rfl, HU.out⟩
end Go.Proofs.YtnokokhbcfkifaaGreatDoor

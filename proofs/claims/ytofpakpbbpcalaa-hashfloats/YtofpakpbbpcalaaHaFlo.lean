/-
  HashFloats, walked.
-/
import Derived.Test.YtofpakpbbpcalaaHaHlp
import Derived.Test.YtofpakpbbpcalaaHaOpn
namespace Go.Proofs.Ytofpakpbbpcalaa
open Go.ChangeShapes Go.WideShapes Go.ChangeAt Go.RowKit
set_option linter.unusedVariables false
set_option maxRecDepth 100000
attribute [local go_sem ↓] Go.wp_at_zero Go.wp_at_succ
attribute [local go_sem] run_store_float

/-- What stands with each float behind so many rounds. -/
def FlT (l : List Nat) (i : Nat) (T : Tab) : Prop := ∀ b, ((∀ a, a < i → l.getD a 0 ≠ b) → T [fltT b] = []) ∧ (∀ a, a < i → l.getD a 0 = b → ∃ j, j < i ∧ l.getD j 0 = b ∧ T [fltT b] = [(j : Int) + 1])
theorem FlT.start (l : List Nat) : FlT l 0 (fun _ => []) := fun b => ⟨fun _ => rfl, fun a h => absurd h (Nat.not_lt_zero a)⟩
theorem FlT.new {l : List Nat} {i : Nat} {T : Tab} (h : FlT l i T) : (∀ a, a < i → l.getD a 0 ≠ l.getD i 0) → FlT l (i + 1) (setT T [fltT (l.getD i 0)] [(i : Int) + 1]) := fun hf b => by
  by_cases e : l.getD i 0 = b
  · subst e
    rw [setT_same]
    exact ⟨fun hn => absurd rfl (hn i (by omega)), fun a ha _ => ⟨i, by omega, rfl, rfl⟩⟩
  · have hne : [fltT b] ≠ [fltT (l.getD i 0)] := fun q => e (by
      simp only [fltT, List.cons.injEq, Prod.mk.injEq, true_and, and_true] at q
      exact q.symm)
    rw [setT_other _ _ hne]
    refine ⟨fun hn => (h b).1 (fun a ha => hn a (by omega)), fun a ha hb => ?_⟩
    have hai : a < i := by
      rcases Nat.lt_succ_iff_lt_or_eq.1 ha with h | h
      · exact h
      · subst h; exact absurd hb e
    obtain ⟨j, h1, h2, h3⟩ := (h b).2 a hai hb
    exact ⟨j, by omega, h2, h3⟩
theorem FlT.old {l : List Nat} {i : Nat} {T : Tab} (h : FlT l i T) {a : Nat} (ha : a < i) (he : l.getD a 0 = l.getD i 0) : FlT l (i + 1) T := fun b => by
  refine ⟨fun hn => (h b).1 (fun a ha => hn a (by omega)), fun c hc hb => ?_⟩
  have : ∃ c, c < i ∧ l.getD c 0 = b := by
    rcases Nat.lt_succ_iff_lt_or_eq.1 hc with h | h
    · exact ⟨c, h, hb⟩
    · subst h; exact ⟨a, ha, he.trans hb⟩
  obtain ⟨c', h1, h2⟩ := this
  obtain ⟨j, h3, h4, h5⟩ := (h b).2 c' h1 h2
  exact ⟨j, by omega, h4, h5⟩
theorem good_flt {b : Nat} (h : b < whole) : GoodK [fltT b] := good_one (fits_flt h) (by simp [fltT, ByteArray.size])
theorem vals_flt {w : World} {b : Nat} (h : b < whole) : Vals (w.alloc (.cells #[.int .i64 5, .int .i64 0, .string ⟨#[]⟩, .float .f64 b] 52)) (some ⟨w.heap.size, 0, none⟩) 1 [fltT b] := by
  refine ⟨rfl, (good_flt h).2.2, .inr ⟨w.heap.size, 0, rfl, fun i hi => ?_⟩⟩
  obtain rfl : i = 0 := by omega
  exact ⟨by go_simp; rfl, by go_simp; rfl, by go_simp; rfl, by go_simp; rfl⟩

set_option maxHeartbeats 16000000 in
theorem hashFloats_some (g off n cap : Nat) (l : List Nat) (w : World) (hl : l.length = n) (hn : n ≤ 40) (hw : ∀ i, l.getD i 0 < whole) (hx : ∀ i, i < n → w.cell? ⟨g, off + i, none⟩ = some (.int .u64 ((l.getD i 0 : Nat) : Int))) :
    Calls Try.prog 4 #[.slice (some ⟨g, off, none⟩) n cap] w fun e w' => e = .returned (.bool true) ∧ Up w w' := by
  have H := hide hx
  have HW := hide hw
  have HL := hide hl
  have e1 : decide ((n : Int) > 40) = false := decide_eq_false (by omega)
  clear hx hw hl
  go_enter Try.func4, Try.ntmps4
  go_wp2_with fail
  go_at_call 7
  refine (known_calls _).mono ?_
  rintro _ w1 ⟨rfl, hu1⟩
  have U1 := hide hu1
  clear hu1
  go_wp2_with fail
  go_at_call 8
  refine (newX_calls true w _ U1.out).mono ?_
  rintro _ w2 ⟨p, rfl, hi2⟩
  have I2 := hide hi2
  clear hi2 U1
  go_wp2_with fail
  go_loopw [4] (fun iv wr => ∃ i : Nat, i ≤ n ∧ iv = .int .i64 i ∧ ∃ T c, c ≤ i ∧ Hid (Ix p w wr true T c c) ∧ Hid (FlT l i T)) (fun iv _ => n - (intOf iv).toNat)
  case atStart => exact ⟨0, Nat.zero_le _, rfl, _, 0, Nat.le_refl _, I2, FlT.start l⟩
  case round =>
    obtain ⟨i, hi, rfl, T, c, hc, hI, hT⟩ := hrel
    by_cases hlt : i < n
    · have hlt' : (i : Int) < (n : Int) := by omega
      have i0 : (0 : Int) ≤ (i : Int) := by omega
      obtain ⟨wr0, rfl⟩ : ∃ x, x = wr := ⟨_, rfl⟩
      obtain ⟨b, hb⟩ : ∃ b, b = l.getD i 0 := ⟨_, rfl⟩
      have HB := hide hb
      have hbw : b < whole := by rw [hb]; exact HW.out i
      have HBW := hide hbw
      clear hb hbw
      go_wp2_with fail
      go_loopw [5, 6] (fun fv kv wr => ∃ k : Nat, k ≤ i ∧ kv = .int .i64 k ∧ ∃ fb : Bool, fv = .bool fb ∧ Hid (fb = true ↔ ∀ a, a < k → l.getD a 0 ≠ b) ∧ Hid (Ix p w wr true T c c)) (fun _ kv _ => i - (intOf kv).toNat)
      case atStart => exact ⟨0, Nat.zero_le _, rfl, true, rfl, ⟨fun _ a h => absurd h (Nat.not_lt_zero a), fun _ => rfl⟩, hI⟩
      case round =>
        obtain ⟨k, hk, rfl, fb, rfl, hf, hI2⟩ := hrel
        by_cases hkl : k < i
        · have hkl' : (k : Int) < (i : Int) := by omega
          have hkn : (k : Int) < (n : Int) := by omega
          have k0 : (0 : Int) ≤ (k : Int) := by omega
          have s1 := hI2.out.1.cell (H.out k (by omega))
          have s2 := hI2.out.1.cell (H.out i hlt)
          rw [← HB.out] at s2
          obtain ⟨y, hy⟩ : ∃ y, y = l.getD k 0 := ⟨_, rfl⟩
          rw [← hy] at s1
          have HY := hide hy
          clear hy
          cases fb
          · go_wp2_with fail
            go_quiet (fail)
            go_wp2
            go_roundw
            case rel => exact ⟨k + 1, by omega, by go_num, false, rfl, ⟨fun h => (by cases h), fun h => hf.out.2 (fun a ha => h a (by omega))⟩, hI2.out.up ((Up.refl _).drewN _)⟩
            case measure => simp [intOf]; omega
          · have hf1 : Hid (∀ a, a < k → l.getD a 0 ≠ b) := hf.out.1 rfl
            cases hd : ((y : Int) != (b : Int))
            · have hyb : y = b := by simp at hd; omega
              go_wp2_with fail
              go_quiet (fail)
              go_wp2
              go_roundw
              case rel => exact ⟨k + 1, by omega, by go_num, false, rfl, ⟨fun h => (by cases h), fun h => absurd (HY.out.symm.trans hyb) (h k (by omega))⟩, hI2.out.up ((Up.refl _).drewN _)⟩
              case measure => simp [intOf]; omega
            · have hyb : ¬ y = b := by simp at hd; omega
              go_wp2_with fail
              go_quiet (fail)
              go_wp2
              go_roundw
              case rel => exact ⟨k + 1, by omega, by go_num, true, rfl, ⟨fun _ a ha => (by
                by_cases e : a = k
                · subst e; rw [← HY.out]; exact hyb
                · exact hf1.out a (by omega)), fun _ => rfl⟩, hI2.out.up ((Up.refl _).drewN _)⟩
              case measure => simp [intOf]; omega
        · obtain rfl : k = i := by omega
          have s2 := hI2.out.1.cell (H.out k hlt)
          rw [← HB.out] at s2
          have hrf := run_from b
          have ei : IntKind.i64.wrap ((k : Int) + 1) = (k : Int) + 1 := by simp [IntKind.wrap, IntKind.bits, IntKind.signed]; omega
          --F1
          cases fb
          · have hex : ∃ a, a < k ∧ l.getD a 0 = b := by
              have h1 : ¬ ∀ a, a < k → l.getD a 0 ≠ b := fun h => by cases hf.out.2 h
              exact Classical.byContradiction fun h => h1 (fun a ha e => h ⟨a, ha, e⟩)
            obtain ⟨a, ha, hab⟩ := hex
            obtain ⟨j, hj1, hj2, hj3⟩ := (hT.out b).2 a ha hab
            have hm : ((k : Int) + 1) ∉ T [fltT b] ∧ T [fltT b] ≠ [] := by rw [hj3]; simp; omega
            have HM := hide hm
            have hT2 : Hid (FlT l (k + 1) T) := hT.out.old ha (hab.trans HB.out)
            clear hm hj1 hj2 hj3 ha hab
            go_wp2_with fail
            go_at_call 11
            refine (insX_not (hI2.out.up ((Up.refl _).alloc _)) _ 1 1 [fltT b] _ (good_flt HBW.out) (vals_flt HBW.out) (.inr ⟨HM.out.1, HM.out.2, rfl⟩)).mono ?_
            rintro _ w5 ⟨rfl, hu5⟩
            rw [if_neg HM.out.1]
            have I5 := hide ((hI2.out.up ((Up.refl _).alloc _)).up hu5)
            clear hu5
            go_wp2
            go_roundw
            case rel => exact ⟨k + 1, by omega, by go_num, T, c, by omega, I5, hT2⟩
            case measure => simp [intOf]; omega
          · have hm : T [fltT b] = [] := (hT.out b).1 (hf.out.1 rfl)
            have hT2 : Hid (FlT l (k + 1) (setT T [fltT b] [(k : Int) + 1])) := by
              rw [HB.out]
              exact hT.out.new (fun a ha => by rw [← HB.out]; exact hf.out.1 rfl a ha)
            have HM := hide hm
            clear hm
            go_wp2_with fail
            go_at_call 11
            refine (insX_new (hI2.out.up ((Up.refl _).alloc _)) _ 1 1 [fltT b] _ (good_flt HBW.out) (vals_flt HBW.out) HM.out (by omega) (by omega)).mono ?_
            rintro _ w5 ⟨rfl, hi5⟩
            have I5 := hide hi5
            clear hi5
            go_wp2
            go_roundw
            case rel => exact ⟨k + 1, by omega, by go_num, _, c + 1, by omega, I5, hT2⟩
            case measure => simp [intOf]; omega
    · obtain rfl : n = i := by omega
      --F2
      go_wp2_with fail
      go_loopw [8] (fun iv wr => ∃ i : Nat, i ≤ n ∧ iv = .int .i64 i ∧ Hid (Ix p w wr true T c c)) (fun iv _ => n - (intOf iv).toNat)
      case atStart => exact ⟨0, Nat.zero_le _, rfl, hI⟩
      case round =>
        obtain ⟨i, hi, rfl, hI2⟩ := hrel
        by_cases hlt : i < n
        · have hlt' : (i : Int) < (n : Int) := by omega
          have i0 : (0 : Int) ≤ (i : Int) := by omega
          obtain ⟨b, hb⟩ : ∃ b, b = l.getD i 0 := ⟨_, rfl⟩
          have hbw : b < whole := by rw [hb]; exact HW.out i
          obtain ⟨j, hj1, hj2, hj3⟩ := (hT.out b).2 i hlt hb.symm
          have HBW := hide hbw
          have HT3 := hide hj3
          have s1 := H.out i hlt
          have s2 := H.out j hj1
          rw [← hb] at s1
          rw [hj2] at s2
          obtain ⟨x, hx⟩ : ∃ x, x = (j : Int) + 1 := ⟨_, rfl⟩
          have x1 : decide (x < 1) = false := decide_eq_false (by omega)
          have x2 : decide (x > (n : Int)) = false := decide_eq_false (by omega)
          have x2' : decide ((n : Int) < x) = false := decide_eq_false (by omega)
          have x3 : IntKind.i64.wrap (x - 1) = (j : Int) := by simp [IntKind.wrap, IntKind.bits, IntKind.signed]; omega
          have j0 : (0 : Int) ≤ (j : Int) := by omega
          have j1 : (j : Int) < (n : Int) := by omega
          have x4 : x - 1 = (j : Int) := by omega
          rw [← hx] at HT3
          have hrf := run_from b
          have s1' := hI2.out.1.cell s1
          have S1 := hide s1
          have S2 := hide s2
          clear s1 s2 hb hbw hj1 hj2 hj3 hx
          go_wp2_with fail
          go_at_call 16
          refine (findX_calls (hI2.out.up ((Up.refl _).alloc _)) _ 1 1 [fltT b] (good_flt HBW.out) (vals_flt HBW.out)).mono ?_
          rintro _ w5 ⟨v5, rfl, ho5, hu5⟩
          rw [HT3.out] at ho5
          have I5 := hide ((hI2.out.up ((Up.refl _).alloc _)).up hu5)
          obtain ⟨q, cq, rfl⟩ : ∃ q cq, v5 = .slice (some ⟨q, 0, none⟩) 1 cq := by
            rcases ho5.2 with ⟨_, h⟩ | ⟨q, cq, cur, rfl, _⟩
            · simp at h
            · exact ⟨q, cq, rfl⟩
          have f0 : w5.cell? ⟨q, 0, none⟩ = some (.int .i64 x) := World.ownsRow.cellAt ho5 0 (by simp)
          have s1 := I5.out.1.cell S1.out
          have s2 := I5.out.1.cell S2.out
          clear ho5 hu5 s1' hI2 hI hrf
          --F3
          go_wp2_with fail
          go_quiet (fail)
          go_wp2
          go_roundw
          case rel => exact ⟨i + 1, by omega, by go_num, I5.out.up ((Up.refl _).drewN _)⟩
          case measure => simp [intOf]; omega
        · obtain rfl : i = n := by omega
          go_wp2
          go_ret
          exact ⟨rfl, hI2.out.1⟩

set_option maxHeartbeats 4000000 in
theorem hashFloats_none (a : Option Addr) (cap : Nat) (w : World) : Calls Try.prog 4 #[.slice a 0 cap] w fun e w' => e = .returned (.bool true) ∧ Up w w' := by
  go_enter Try.func4, Try.ntmps4
  go_wp2_with fail
  go_at_call 7
  refine (known_calls _).mono ?_
  rintro _ w1 ⟨rfl, hu1⟩
  have U1 := hide hu1
  clear hu1
  go_wp2_with fail
  go_at_call 8
  refine (newX_calls true w _ U1.out).mono ?_
  rintro _ w2 ⟨p, rfl, hi2⟩
  have I2 := hide hi2
  clear hi2 U1
  go_wp2_with fail
  refine wp_loop_rounds 1 ?_
  rw [rounds_succ]
  go_wp2_with fail
  refine wp_loop_rounds 1 ?_
  rw [rounds_succ]
  go_wp2
  go_ret
  exact ⟨rfl, I2.out.1⟩
set_option maxHeartbeats 4000000 in
theorem hashFloats_many (a : Option Addr) (n cap : Nat) (w : World) (h : 40 < n) : Calls Try.prog 4 #[.slice a n cap] w fun e w' => e = .returned (.bool true) ∧ Up w w' := by
  have e1 : decide ((n : Int) > 40) = true := decide_eq_true (by omega)
  go_enter Try.func4, Try.ntmps4
  go_wp2_with fail
  go_at_call 7
  refine (known_calls _).mono ?_
  rintro _ w1 ⟨rfl, hu1⟩
  have U1 := hide hu1
  clear hu1
  go_wp2
  go_ret
  exact ⟨rfl, U1.out⟩
theorem hashFloats_all (a : Option Addr) (n cap : Nat) (l : List Nat) (w : World) (h : Words w a n l) : Calls Try.prog 4 #[.slice a n cap] w fun e w' => e = .returned (.bool true) ∧ Up w w' := by
  obtain ⟨h1, h2, h3⟩ := h
  by_cases hn : n ≤ 40
  · rcases h3 with rfl | ⟨b, off, rfl, h3⟩
    · exact hashFloats_none a cap w
    · exact hashFloats_some b off n cap l w h1 hn h2 h3
  · exact hashFloats_many a n cap w (by omega)

end Go.Proofs.Ytofpakpbbpcalaa

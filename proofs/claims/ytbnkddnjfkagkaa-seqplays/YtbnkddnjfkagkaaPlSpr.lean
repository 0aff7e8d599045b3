/-
  spread of a list, as its text runs: other marks, with room where it was asked for.
-/
import Derived.Test.YtbnkddnjfkagkaaPlIx
import Derived.Lib.MinMax
namespace Go.Proofs.Ytbnkddnjfkagkaa
open Go.ChangeShapes Go.WideShapes Go.ChangeAt Go.RowKit
set_option linter.unusedVariables false
set_option maxRecDepth 100000
attribute [local go_sem ↓] Go.wp_at_zero Go.wp_at_succ

variable {Y : Nat → Prop} {p T M : Nat} {xs zs : List Int} {h n h' n' : Nat} {f f' : Int → Option Nat} {w w' : World}
/-- What spread leaves: the same numbers, with room for a mark at i. -/
def SprPost (Y : Nat → Prop) (p T M : Nat) (xs : List Int) (h n i : Nat) (w : World) (e : Ending) (w' : World) : Prop :=
  e = .returned (.tuple #[]) ∧ ∃ f', PlIx Y p T M xs h n f' w' ∧ mkN f' xs i + 2 ≤ mkN f' xs (i + 1) ∧ Chg (fun y => y = M) w w'
theorem wrap_u64 {z : Int} (h0 : 0 ≤ z) (h1 : z ≤ 18446744073709551615) : IntKind.u64.wrap z = z := by rw [IntKind.wrap_u64]; omega
theorem cutL_len {xs : List Int} {F G : Nat} (h1 : F ≤ G) (h2 : G ≤ xs.length) : (cutL xs F G).length = G - F := by
  rw [cutL_nat, List.length_drop, List.length_take]; omega
theorem cutL_get {xs : List Int} {F G j : Nat} (h2 : G ≤ xs.length) (hj : j < (cutL xs F G).length) : (cutL xs F G)[j] = xs.getD (F + j) 0 := by
  have hl : (cutL xs F G).length = G - F := by rw [cutL_nat, List.length_drop, List.length_take]; omega
  have hk : F + j < xs.length := by omega
  rw [getD_in xs hk]
  have : (cutL xs (F : Int) (G : Int))[j] = ((xs.take G).drop F)[j]'(by rw [cutL_nat] at hj; exact hj) := by
    congr 1
  rw [this, List.getElem_drop, List.getElem_take]
set_option maxHeartbeats 4000000 in
theorem spread_calls (i : Nat) (ix : PlIx Y p T M xs h n f w) (hi : i ≤ xs.length) (hx : xs.length ≤ 1000) :
    Calls Try.prog 78 #[.pointer (some ⟨p, 0, none⟩), .int .i64 i] w fun e w' => SprPost Y p T M xs h n i w e w' := by
  have IX := hide ix
  have c0 := ix.c0
  clear ix
  go_enter Try.func78, Try.ntmps78
  go_wp2_with fail
  go_loopw [4] (fun u wr => ∃ W : Nat, u = .int .i64 W ∧ 1 ≤ W ∧ W ≤ 2000 ∧ Hid (Up w wr)) (fun u _ => 4096 - (intOf u).toNat)
  case atStart => exact ⟨1, rfl, by omega, by omega, Up.refl _⟩
  case round =>
    obtain ⟨W, rfl, hW1, hW2, hu⟩ := hrel
    obtain ⟨F, hF⟩ : ∃ F : Nat, F = i - W := ⟨_, rfl⟩
    obtain ⟨G, hG⟩ : ∃ G : Nat, G = min (i + W) xs.length := ⟨_, rfl⟩
    obtain ⟨lo, hlo⟩ : ∃ lo : Nat, lo = mkN f xs F := ⟨_, rfl⟩
    obtain ⟨hg, hhg⟩ : ∃ hg : Nat, hg = mkN f xs (G + 1) := ⟨_, rfl⟩
    have hFi : F ≤ i := by omega
    have hiG : i ≤ G := by omega
    have hGx : G ≤ xs.length := by omega
    have hlt : lo < hg := by rw [hlo, hhg]; exact IX.out.ok.lt (by omega) (by omega)
    have hgt : hg ≤ topM := by rw [hhg]; exact IX.out.ok.le_top (by omega)
    unfold topM at hgt
    obtain ⟨D, hD⟩ : ∃ D : Nat, D = hg - lo := ⟨_, rfl⟩
    obtain ⟨Q, hQ⟩ : ∃ Q : Nat, Q = G - F + 1 := ⟨_, rfl⟩
    obtain ⟨A, hA⟩ : ∃ A : Nat, A = D / Q := ⟨_, rfl⟩
    have hAD : A ≤ D := by rw [hA]; exact Nat.div_le_self _ _
    have eF : max ((i : Int) - (W : Int)) 0 = (F : Int) := by omega
    have eG : min ((i : Int) + (W : Int)) (xs.length : Int) = (G : Int) := by omega
    have e1 : IntKind.i64.wrap ((i : Int) - (W : Int)) = (i : Int) - (W : Int) := by rw [IntKind.wrap_i64]; omega
    have e2 : IntKind.i64.wrap ((i : Int) + (W : Int)) = (i : Int) + (W : Int) := by rw [IntKind.wrap_i64]; omega
    have e3 : IntKind.i64.wrap ((F : Int) - 1) = (F : Int) - 1 := by rw [IntKind.wrap_i64]; omega
    have e4 : IntKind.u64.wrap ((hg : Int) - (lo : Int)) = (D : Int) := by rw [IntKind.wrap_u64]; omega
    have e5 : IntKind.i64.wrap ((G : Int) - (F : Int)) = (G : Int) - (F : Int) := by rw [IntKind.wrap_i64]; omega
    have e6 : IntKind.i64.wrap ((G : Int) - (F : Int) + 1) = (Q : Int) := by rw [IntKind.wrap_i64]; omega
    have e7 : IntKind.u64.wrap (Q : Int) = (Q : Int) := wrap_u64 (by omega) (by omega)
    have e8 : (D : Int).tdiv (Q : Int) = (A : Int) := by rw [hA]; rfl
    have e8' : (D : Int) / (Q : Int) = (A : Int) := by rw [hA]; rfl
    have e9 : IntKind.u64.wrap (A : Int) = (A : Int) := wrap_u64 (by omega) (by omega)
    have e10 : IntKind.u64.wrap (W : Int) = (W : Int) := wrap_u64 (by omega) (by omega)
    have q0 : (Q : Int) ≠ 0 := by omega
    have q1 : ¬ (Q : Int) = 0 := by omega
    have HLN := hide (pllen_calls (IX.out.up hu.out))
    have HM1 : Hid (∀ w', Up w w' → Calls Try.prog 77 #[.pointer (some ⟨p, 0, none⟩), .int .i64 ((F : Int) - 1)] w' fun e w'' => e = .returned (.int .u64 lo) ∧ Up w' w'') := fun w' h => by rw [hlo]; exact mark_calls F _ (IX.out.up h) (by omega) (by omega) (by omega)
    have HM2 : Hid (∀ w', Up w w' → Calls Try.prog 77 #[.pointer (some ⟨p, 0, none⟩), .int .i64 (G : Int)] w' fun e w'' => e = .returned (.int .u64 hg) ∧ Up w' w'') := fun w' h => by rw [hhg]; exact mark_calls (G + 1) _ (IX.out.up h) (by omega) (by omega) (by omega)
    have HHD := hide hD
    have HHQ := hide hQ
    have HHA := hide hA
    have HLO := hide hlo
    have HHG := hide hhg
    have HHF := hide hF
    have HGG := hide hG
    clear hD hQ hA hlo hhg hF hG
    go_wp2_with fail
    refine HLN.out.mono ?_
    rintro _ w1 ⟨rfl, hw1⟩
    obtain rfl : wr = w1 := hw1.symm
    clear hw1
    dsimp only
    go_wp2_with fail
    refine (HM1.out _ hu.out).mono ?_
    rintro _ w2 ⟨rfl, hw2⟩
    have hu2 := hide (hu.out.trans hw2)
    clear hw2
    dsimp only
    go_wp2_with fail
    refine (HM2.out _ hu2.out).mono ?_
    rintro _ w3 ⟨rfl, hw3⟩
    have hu3 := hide (hu2.out.trans hw3)
    clear hw3
    dsimp only
    by_cases hAW : A ≤ W
    · have hWx : W < xs.length := by
        rcases Nat.lt_or_ge W xs.length with h1 | h1
        · exact h1
        · exfalso
          have f0 : F = 0 := by have := HHF.out; omega
          have g0 : G = xs.length := by have := HGG.out; omega
          have l0 : lo = 0 := by rw [HLO.out, f0]; rfl
          have k0 : hg = 18446744073709551615 := by rw [HHG.out, g0, mkN_out _ _ (Nat.le_refl _)]; rfl
          have d0 : D = 18446744073709551615 := by have := HHD.out; omega
          have r0 : Q ≤ 1001 := by have := HHQ.out; omega
          have : 2001 ≤ A := by
            rw [HHA.out, d0]
            exact (Nat.le_div_iff_mul_le (by omega)).2 (Nat.le_trans (Nat.mul_le_mul_left _ r0) (by decide))
          omega
      go_wp2_with fail
      go_roundw
      case rel => exact ⟨W * 2, by simp, by omega, by omega, hu3⟩
      case measure => simp [intOf]; omega
    · have hc0 := hu3.out.cell c0
      have HIX := hide (IX.out.up hu3.out)
      have HSL := hide (tslice_calls T h n xs (F : Int) (G : Int) w3 HIX.out.tr.tr (by omega))
      go_wp2_with fail
      refine HSL.out.mono ?_
      rintro _ w4 ⟨v4, rfl, ho4, hu4⟩
      have hMl := HIX.out.mp.lt
      have HR4 := hide (ho4.rd (X := fun y => y = M) (fun g hg e => by have := (ho4.lt g hg).1; have e' : g = M := e; omega))
      obtain ⟨a4, n4, k4, rfl, hn4, -⟩ := ho4.sliceN
      have hn4' : n4 = G - F := by rw [hn4.out]; exact cutL_len (by omega) hGx
      have HIX4 := hide (HIX.out.up hu4)
      have c4 := HIX4.out.c1
      have hAQ : A * (G - F + 1) ≤ D := by rw [HHA.out, HHQ.out]; exact Nat.div_mul_le_self _ _
      have HAQ := hide hAQ
      have hn46 : n4 ≤ 1000 := by omega
      have HN4 := hide hn4'
      have HU4 := hide (hu3.out.trans hu4)
      clear hn4 hn4' hAQ ho4 hc0 HSL hu4 hMl
      dsimp only
      go_wp2_with fail
      go_loopw [7, 52] (fun lv iv wr => ∃ j lw : Nat, j ≤ n4 ∧ lv = .int .u64 lw ∧ iv = .int .i64 j ∧ Hid (lw = lo + A * j) ∧ Hid (MapU wr M (spF f xs F lo A j) xs.length) ∧ Hid (Chg (fun y => y = M) w4 wr)) (fun lv iv _ => n4 - (intOf iv).toNat)
      case atStart => exact ⟨0, lo, Nat.zero_le _, rfl, rfl, by simp [Hid], HIX4.out.mp, Chg.refl _ _⟩
      case round =>
        obtain ⟨j, lw, hj, rfl, rfl, hlw, hmp, hch⟩ := hrel
        have c1 := hch.out.cell c4 HIX4.out.pM
        by_cases hjn : j < n4
        · have hjn' : (j : Int) < (n4 : Int) := by omega
          have hjd : decide (j < n4) = true := decide_eq_true hjn
          have hlen : (cutL xs (F : Int) (G : Int)).length = n4 := by rw [HN4.out]; exact cutL_len (by omega) hGx
          obtain ⟨g, off, rfl, hcell⟩ := (HR4.out.chg hch.out).get (i := j) (by omega)
          rw [cutL_get hGx] at hcell
          have hk : F + j < xs.length := by have := HN4.out; omega
          obtain ⟨v, hv⟩ : ∃ v, v = xs.getD (F + j) 0 := ⟨_, rfl⟩
          rw [← hv] at hcell
          have hvx : v ∈ xs := by rw [hv, getD_in xs hk]; exact List.getElem_mem hk
          have hwv := IX.out.ok.wf v hvx
          obtain ⟨lw', hlw'⟩ : ∃ q : Nat, q = lw + A := ⟨_, rfl⟩
          have elw : lw' = lo + A * (j + 1) := by rw [hlw', hlw.out, Nat.mul_succ]; omega
          have hle : lw' ≤ 18446744073709551615 := by
            have h1 : A * (j + 1) ≤ A * (G - F + 1) := Nat.mul_le_mul_left _ (by have := HN4.out; omega)
            have h2 := HAQ.out
            have h3 := HHD.out
            omega
          have ea : IntKind.u64.wrap ((lw : Int) + (A : Int)) = (lw' : Int) := by rw [IntKind.wrap_u64]; omega
          obtain ⟨w5, hrun, hmp5, hch5⟩ := hmp.out.store (s := lw') hwv hle (by omega) xs.length (by
            rw [spF_has IX.out.ok F lo A j (by omega), (IX.out.ok.has v).2 hvx]; rfl)
          have HMP5 := hide hmp5
          have HCH5 := hide (hch.out.trans hch5 (fun _ _ h => h))
          have HV := hide hv
          have HEL := hide elw
          clear hmp5 hch5 hv elw hlw' hlen hk hvx hle hwv
          go_wp2_with fail
          go_roundw
          case rel =>
            refine ⟨j + 1, lw', by omega, rfl, by simp, HEL, ?_, HCH5⟩
            unfold Hid
            have := HMP5.out
            rw [HV.out, HEL.out] at this
            exact this
          case measure => simp [intOf]; omega
        · obtain rfl : n4 = j := by omega
          have hjd : decide (n4 < n4) = false := decide_eq_false (by omega)
          go_wp2_with fail
          refine bodyPost_ret (results_none rfl _ _ _) rfl ?_
          have hd : A = (mkN f xs (G + 1) - mkN f xs F) / (G - F + 1) := by rw [HHA.out, HHD.out, HHQ.out, HLO.out, HHG.out]
          obtain ⟨hok, hgap⟩ := spF_ok IX.out.ok (by omega) hGx hd (by omega)
          have hm := hmp.out
          rw [HN4.out, HLO.out] at hm
          have hg := hgap i hFi hiG
          refine ⟨rfl, _, HIX4.out.map hch.out hm hok, by omega, ?_⟩
          exact (Chg.of_up (C := fun y => y = M) HU4.out).trans hch.out (fun _ _ h => h)
end Go.Proofs.Ytbnkddnjfkagkaa

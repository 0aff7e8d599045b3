/-
  TreeParts of rialtolaw11, as its text runs.
-/
import Derived.Test.YtcaccbjolgjmkaaTrSli
import Derived.Test.YtcaccbjolgjmkaaTrLog
import Derived.Deep.CutRange
namespace Go.Proofs.Ytcaccbjolgjmkaa
open Go.ChangeShapes Go.WideShapes Go.ChangeAt Go.RowKit
set_option linter.unusedVariables false
set_option maxRecDepth 100000
attribute [local go_sem ↓] Go.wp_at_zero Go.wp_at_succ

theorem wrap64_nat (n : Nat) (h : n ≤ 1000000) : wrap64 (n : Int) = (n : Int) := wrap64_id _ (by omega)
/-- Threefold numbers, rising. -/
def tri (i : Nat) : List Int := (List.range i).map (fun (j : Nat) => 3 * (j : Int))
theorem tri_len (i : Nat) : (tri i).length = i := by unfold tri; simp
theorem tri_put (i : Nat) : insL (3 * (i : Int)) (tri i) i = tri (i + 1) := by
  unfold insL
  rw [List.take_of_length_le (by rw [tri_len]; exact Nat.le_refl _), List.drop_eq_nil_of_le (by rw [tri_len]; exact Nat.le_refl _)]
  unfold tri
  rw [List.range_succ, List.map_append]
  rfl
theorem tri_cut (k a b : Nat) (h : b ≤ k) : (cutL (tri k) a b).length = b - a ∧ ∀ j (hj : j < (cutL (tri k) a b).length), (cutL (tri k) a b)[j] = 3 * ((a + j : Nat) : Int) := by
  rw [cutL_nat]
  refine ⟨by rw [List.length_drop, List.length_take, tri_len]; omega, fun j hj => ?_⟩
  rw [List.getElem_drop, List.getElem_take]
  unfold tri
  rw [List.getElem_map, List.getElem_range]
/-- What holds from round to round. -/
def ParIn (w : World) (T i : Nat) (wr : World) : Prop := ∃ (h n : Nat), TrI wr T (tri i) h n ∧ n ≤ 20 * i ∧ Up w wr
set_option maxHeartbeats 8000000 in
theorem treeParts_few (a0 : Int) (a1 : Option Addr) (n1 c1 : Nat) (l : List Int) (w : World) (h0 : 0 ≤ a0 ∧ a0 ≤ 255) (hl : l.length = n1) (hr : Rd (Value.int .u8) (fun _ => False) w (.slice a1 n1 c1) l) (hs : ∀ x ∈ l, 0 ≤ x ∧ x ≤ 255) (hn : n1 ≤ 20) :
    Calls Try.prog 8 #[.int .u8 a0, .slice a1 n1 c1] w fun e w' => e = .returned (.bool true) ∧ Up w w' := by
  obtain ⟨k, rfl⟩ : ∃ k : Nat, a0 = (k : Int) := ⟨a0.toNat, by omega⟩
  have hk : k ≤ 255 := by omega
  have ek : IntKind.i64.wrap (k : Int) = (k : Int) := by rw [IntKind.wrap_i64]; omega
  have HL := hide hl
  have HR := hide hr
  have HS := hide hs
  have g0 : decide ((n1 : Int) > 20) = false := decide_eq_false (by omega)
  have g0' : ¬ ((n1 : Int) > 20) := by omega
  have g0'' : decide (20 < n1) = false := decide_eq_false (by omega)
  clear hl hr hs h0
  go_enter Try.func8, Try.ntmps8
  go_wp2_with fail
  refine (known11_calls w).mono ?_
  rintro _ wk ⟨rfl, huk⟩
  replace huk := hide huk
  dsimp only
  go_wp2_with fail
  refine (tnewI_calls wk).mono ?_
  rintro _ w0 ⟨T, rfl, t0, hTw, hu0⟩
  have hT : w.heap.size ≤ T := Nat.le_trans huk.out.size hTw
  have HA0 : Hid (ParIn w T 0 w0) := ⟨0, 0, t0, Nat.le_refl _, huk.out.trans hu0⟩
  clear t0 hu0
  dsimp only
  go_wp2_with fail
  go_loopw [7] (fun iv wr => ∃ i : Nat, i ≤ k ∧ iv = .int .i64 i ∧ Hid (ParIn w T i wr)) (fun iv _ => k - (intOf iv).toNat)
  case atStart => exact ⟨0, Nat.zero_le _, rfl, HA0⟩
  case round =>
    obtain ⟨i, hi, rfl, hA⟩ := hrel
    by_cases hlt : i < k
    · have hlt' : (i : Int) < (k : Int) := by omega
      obtain ⟨h, n, t, hnn, hu⟩ := hA.out
      have e1 : IntKind.i64.wrap ((i : Int) + 1) = (i : Int) + 1 := by rw [IntKind.wrap_i64]; omega
      have e2 : IntKind.i64.wrap (3 * (i : Int)) = 3 * (i : Int) := by rw [IntKind.wrap_i64]; omega
      have hh : h ≤ 8 := t.hle (by rw [tri_len]; omega)
      have HI := hide (insertAtI_ok T h n i (3 * (i : Int)) (tri i) wr t (by rw [tri_len]; exact Nat.le_refl _) (by rw [tri_len]; omega) (by omega))
      have HU := hide hu
      clear hA t hu
      go_wp2_with fail
      refine HI.out.mono ?_
      rintro _ w2 ⟨rfl, h2, k2, t2, hk1, hk2, hc2⟩
      have hu2 := hide (up_of_tree HU.out hT hc2)
      rw [tri_put] at t2
      have T2 := hide t2
      obtain ⟨m2, hm2⟩ : ∃ m, m = n + k2 := ⟨_, rfl⟩
      rw [← hm2] at T2
      have hm20 : m2 ≤ 20 * (i + 1) := by omega
      clear t2 hc2 hm2 HI
      dsimp only
      go_wp2
      go_roundw
      case rel => exact ⟨i + 1, by omega, by first | rfl | congr 1, h2, m2, T2.out, hm20, hu2.out⟩
      case measure => simp [intOf]; omega
    · obtain rfl : k = i := by omega
      have hlt' : ¬ (k : Int) < (k : Int) := by omega
      obtain ⟨W0, rfl⟩ : ∃ W0, W0 = wr := ⟨_, rfl⟩
      go_wp2_with fail
      go_loopw [8, 9] (fun av iv wr => ∃ a i : Nat, a ≤ k ∧ i ≤ n1 + 1 ∧ (i = n1 + 1 → a = k) ∧ av = .int .i64 a ∧ iv = .int .i64 i ∧ Hid (ParIn w T k wr)) (fun _ iv _ => n1 + 1 - (intOf iv).toNat)
      case atStart => exact ⟨0, 0, Nat.zero_le _, Nat.zero_le _, fun h => by omega, rfl, rfl, hA⟩
      case round =>
        obtain ⟨a, i, ha, hi2, hend, rfl, rfl, hA⟩ := hrel
        obtain ⟨W1, rfl⟩ : ∃ W1, W1 = wr := ⟨_, rfl⟩
        obtain ⟨h, n, t, hnn, hu⟩ := hA.out
        have HT := hide t
        have HU := hide hu
        have HEND := hide hend
        clear hA t hu hend
        by_cases hin : i ≤ n1
        · have hin' : (i : Int) ≤ (n1 : Int) := by omega
          have hin2 : decide (i ≤ n1) = true := decide_eq_true hin
          have e1 : IntKind.i64.wrap ((i : Int) + 1) = (i : Int) + 1 := by rw [IntKind.wrap_i64]; omega
          have key : ∀ b : Nat, a ≤ b → b ≤ k → Hid (Calls Try.prog 16 #[.pointer (some ⟨T, 0, none⟩), .int .i64 a, .int .i64 b] W1 fun e w' => AppPost W1 (cutL (tri k) a b) e w') := fun b _ hb => tslice_calls T h n (tri k) a b W1 HT.out (by rw [tri_len]; omega)
          go_upto_if 42 with fail
          go_cut [10] from 42 to 52 (fun bv wx => ∃ b : Nat, bv = .int .i64 b ∧ a ≤ b ∧ b ≤ k ∧ (i = n1 → b = k) ∧ wx = W1)
          case first =>
            by_cases hlt2 : i < n1
            · have g1 : (i : Int) < (n1 : Int) := by omega
              have g2 : decide (i < n1) = true := decide_eq_true hlt2
              have hil : i < l.length := by rw [HL.out]; exact hlt2
              obtain ⟨gb, ob, rfl, hg⟩ := (HR.out.up HU.out).get (i := i) hil
              have hx := HS.out _ (List.getElem_mem hil)
              obtain ⟨x, hxx, hg1⟩ : ∃ x, x = l[i] ∧ W1.cell? ⟨gb, ob + i, none⟩ = some (.int .u8 x) := ⟨l[i], rfl, hg⟩
              rw [← hxx] at hx
              obtain ⟨r, hr⟩ : ∃ r : Nat, (r : Int) = x % 40 := ⟨(x % 40).toNat, by omega⟩
              have m1 : x % 40 = (r : Int) := hr.symm
              have m2 : x.tmod 40 = (r : Int) := by rw [Int.tmod_eq_emod_of_nonneg hx.1]; exact m1
              have hr40 : r < 40 := by omega
              have m3 : IntKind.u8.wrap (r : Int) = (r : Int) := by simp [IntKind.wrap, IntKind.signed, IntKind.bits]; omega
              have m4 : IntKind.i64.wrap (r : Int) = (r : Int) := by rw [IntKind.wrap_i64]; omega
              obtain ⟨ar, har⟩ : ∃ x : Nat, x = a + r := ⟨_, rfl⟩
              have m5 : IntKind.i64.wrap ((a : Int) + (r : Int)) = (ar : Int) := by rw [IntKind.wrap_i64]; omega
              have M6 : Hid ((a : Int) + (r : Int) = (ar : Int)) := by unfold Hid; omega
              have m9 : wrap64 (ar : Int) = (ar : Int) := wrap64_id _ (by omega)
              have har2 : a ≤ ar := by omega
              clear har hr
              obtain ⟨b, m7, m8, hb1⟩ : ∃ b : Nat, min (k : Int) (ar : Int) = (b : Int) ∧ min k ar = b ∧ a ≤ b ∧ b ≤ k := by
                by_cases h : k ≤ ar
                · exact ⟨k, Int.min_eq_left (Int.ofNat_le.2 h), Nat.min_eq_left h, ha, Nat.le_refl _⟩
                · exact ⟨ar, Int.min_eq_right (Int.ofNat_le.2 (Nat.le_of_lt (Nat.lt_of_not_le h))), Nat.min_eq_right (Nat.le_of_lt (Nat.lt_of_not_le h)), har2, Nat.le_of_lt (Nat.lt_of_not_le h)⟩
              have i0 : (0 : Int) ≤ (i : Int) := by omega
              clear hg hxx hx hil
              go_wp2_with fail
              go_meet
              case rel => exact ⟨b, by first | (rw [M6.out, m7]) | (rw [m7]) | rfl, hb1.1, hb1.2, fun h => absurd h (Nat.ne_of_lt hlt2), rfl⟩
            · have g1 : ¬ (i : Int) < (n1 : Int) := by omega
              have g2 : decide (i < n1) = false := decide_eq_false hlt2
              go_wp2_with fail
              go_meet
              case rel => exact ⟨k, rfl, ha, Nat.le_refl _, fun _ => rfl, rfl⟩
          case rest =>
            obtain ⟨b, rfl, hab, hbk, hbe, rfl⟩ := hcut
            obtain ⟨hcl, hcg⟩ := tri_cut k a b hbk
            have HCG := hide hcg
            have HCL := hide hcl
            have hbe' := hide hbe
            clear hcl hcg hbe
            go_wp2_with fail
            refine (key b hab hbk).out.mono ?_
            rintro _ w3 ⟨v3, rfl, ho3, hu3⟩
            have hr3 := ho3.rd (X := fun _ => False) (fun _ _ h => h)
            obtain ⟨a3, n3, c3, rfl, hn3, -⟩ := ho3.sliceN
            have hn3' : n3 = b - a := by rw [hn3.out, HCL.out]
            have HR3 := hide hr3
            have HP : Hid (ParIn w T k w3) := ⟨h, n, HT.out.up hu3, hnn, HU.out.trans hu3⟩
            have hn36 : n3 ≤ 255 := by rw [hn3']; exact Nat.le_trans (Nat.sub_le _ _) (Nat.le_trans hbk hk)
            have g3 : ((n3 : Int) != (b : Int) - (a : Int)) = false := by simp; omega
            have g4 : IntKind.i64.wrap ((b : Int) - (a : Int)) = (n3 : Int) := by rw [IntKind.wrap_i64]; omega
            have g4' : wrap64 ((b : Int) - (a : Int)) = (b : Int) - (a : Int) := wrap64_id _ ⟨by omega, by omega⟩
            have g4'' : IntKind.i64.wrap ((b : Int) - (a : Int)) = (b : Int) - (a : Int) := by rw [g4]; omega
            clear g4
            have HN3 := hide hn3'
            clear ho3 hu3 hr3 hn3 hn3' key
            obtain ⟨W3, rfl⟩ : ∃ W3, W3 = w3 := ⟨_, rfl⟩
            dsimp only
            go_wp2_with fail
            go_loopw [12] (fun jv wr => ∃ j : Nat, j ≤ n3 ∧ jv = .int .i64 j ∧ wr = W3) (fun jv _ => n3 - (intOf jv).toNat)
            case atStart => exact ⟨0, Nat.zero_le _, rfl, rfl⟩
            case round =>
              obtain ⟨j, hj, rfl, rfl⟩ := hrel
              by_cases hjn : j < n3
              · have hjn' : (j : Int) < (n3 : Int) := by omega
                have j0 : (0 : Int) ≤ (j : Int) := by omega
                have hjl : j < (cutL (tri k) a b).length := by rw [HCL.out, ← HN3.out]; exact hjn
                obtain ⟨g8, o8, rfl, hg8⟩ := HR3.out.get (i := j) hjl
                rw [HCG.out j hjl] at hg8
                have e5 : IntKind.i64.wrap ((a : Int) + (j : Int)) = ((a + j : Nat) : Int) := by rw [IntKind.wrap_i64]; omega
                have e6 : IntKind.i64.wrap (3 * ((a + j : Nat) : Int)) = 3 * ((a + j : Nat) : Int) := by rw [IntKind.wrap_i64]; omega
                have e8 : IntKind.i64.wrap ((j : Int) + 1) = (j : Int) + 1 := by rw [IntKind.wrap_i64]; omega
                obtain ⟨aj, haj⟩ : ∃ x, x = a + j := ⟨_, rfl⟩
                rw [← haj] at hg8 e5 e6
                clear haj hjl
                go_wp2
                go_roundw
                case rel => exact ⟨j + 1, by omega, by first | rfl | congr 1, by first | rfl | trivial⟩
                case measure => simp [intOf]; omega
              · obtain rfl : n3 = j := by omega
                have hjn' : ¬ (n3 : Int) < (n3 : Int) := by omega
                go_wp2
                go_roundw
                case rel => exact ⟨b, i + 1, hbk, by omega, fun h => hbe'.out (by omega), rfl, by first | rfl | congr 1, HP⟩
                case measure => simp [intOf]; omega
        · obtain rfl : i = n1 + 1 := by omega
          have hin' : ¬ ((n1 : Int) + 1 ≤ (n1 : Int)) := by omega
          have hin2 : decide (n1 + 1 ≤ n1) = false := decide_eq_false hin
          obtain rfl : a = k := HEND.out rfl
          go_wp2
          go_ret
          exact ⟨rfl, HU.out⟩
theorem treeParts_many (a0 : Int) (a1 : Option Addr) (n1 c1 : Nat) (w : World) (hn : 20 < n1) :
    Calls Try.prog 8 #[.int .u8 a0, .slice a1 n1 c1] w fun e w' => e = .returned (.bool true) ∧ Up w w' := by
  have g0 : decide ((n1 : Int) > 20) = true := decide_eq_true (by omega)
  have g0' : (n1 : Int) > 20 := by omega
  have g0'' : decide (20 < n1) = true := decide_eq_true hn
  go_enter Try.func8, Try.ntmps8
  go_wp2_with fail
  refine (known11_calls w).mono ?_
  rintro _ wk ⟨rfl, huk⟩
  replace huk := hide huk
  dsimp only
  go_wp2
  go_ret
  exact ⟨rfl, huk.out⟩
end Go.Proofs.Ytcaccbjolgjmkaa

/-
  What the law's own known and named answer (package rialtolaw5), as their text runs.
-/
import Derived.Test.YteigjboelhcaiaaSchCalls
import Derived.Test.YteigjboelhcaiaaNewVals
namespace Go.Proofs.Yteigjboelhcaiaa
open Go.ChangeShapes Go.WideShapes Go.ChangeAt Go.RowKit
attribute [local go_sem ↓] Go.wp_at_zero Go.wp_at_succ
attribute [local go_sem] run_store_float

set_option maxHeartbeats 4000000 in
theorem named_calls (s : ByteArray) (hs : s.size ≤ maxLen) (w : World) :
    Calls Try.prog 21 #[.string s] w fun e w' => e = .returned (.bool (nameB s)) ∧ w' = w := by
  unfold maxLen at hs
  go_enter Try.func21, Try.ntmps21
  go_wp2_with fail
  go_loop [3] (fun i => ∃ k : Nat, k ≤ s.size ∧ i = .int .i64 k ∧ Hid (∀ j (hj : j < s.size), j < k → nameC s[j] = true)) (fun i => s.size - (intOf i).toNat)
  case atStart => exact ⟨0, Nat.zero_le _, rfl, fun j _ hj => absurd hj (Nat.not_lt_zero j)⟩
  case round =>
    obtain ⟨k, hk, rfl, he⟩ := hrel
    by_cases hlt : k < s.size
    · have t3 : decide ((k : Int) < s.size) = true := decide_eq_true (by omega)
      go_wp2
      all_goals first
        | (have hC : nameC s[k] = false := nameC_not (by (first | simp only [Bool.not_eq_true', Bool.not_eq_false', beq_iff_eq, beq_eq_false_iff_ne, decide_eq_true_eq, decide_eq_false_iff_not, ne_eq] at * | skip); omega)
           go_ret
           exact ⟨ret_bool (nameB_bad hlt hC), rfl⟩)
        | (have hC : nameC s[k] = true := nameC_iff.2 (by (first | simp only [Bool.not_eq_false', beq_iff_eq, decide_eq_true_eq] at * | skip); omega)
           refine ⟨⟨k + 1, by omega, by go_num, fun j hj hjk => ?_⟩, by simp [intOf]; omega⟩
           rcases Nat.lt_succ_iff_lt_or_eq.1 hjk with h | rfl
           · exact he.out j hj h
           · exact hC)
    · have t3 : decide ((k : Int) < s.size) = false := decide_eq_false (by omega)
      have e : Hid (nameB s = (decide ((1 : Int) ≤ s.size) && decide ((s.size : Int) ≤ 20))) := by
        show _ = _
        by_cases h1 : s.size < 1
        · rw [nameB_short h1, decide_eq_false (by omega)]; rfl
        by_cases h2 : 20 < s.size
        · rw [nameB_long h2, decide_eq_false (by omega : ¬ (s.size : Int) ≤ 20), Bool.and_false]
        · rw [nameB_good (by omega) (by omega) (fun j hj => he.out j hj (by omega)), decide_eq_true (by omega : (1 : Int) ≤ s.size), decide_eq_true (by omega : (s.size : Int) ≤ 20)]; rfl
      go_wp2
      all_goals go_ret
      all_goals exact ⟨ret_bool (e.out.trans (by simp_all <;> omega)), rfl⟩

theorem slc_nil {α : Type} {k : Nat} {cs : α → List Value} {z : α} {ok : α → Prop} (hz : ok z) (w : World) (a : Option Addr) : Slc k cs z ok w a 0 [] := ⟨rfl, fun i => by simpa using hz, .inl rfl⟩
theorem flds_new2 (w : World) (s s' : ByteArray) (k k' : Int) (t : TypeId) (h : FitsF (s, k)) (h' : FitsF (s', k')) :
    Flds (w.alloc (.cells #[.string s, .int .i64 k, .string s', .int .i64 k'] t)) (some ⟨w.heap.size, 0, none⟩) 2 [(s, k), (s', k')] := by
  refine ⟨rfl, fun i => ?_, .inr ⟨_, _, rfl, fun i hi j v hv => ?_⟩⟩
  · match i with
    | 0 => exact h
    | 1 => exact h'
    | i + 2 => exact fits_zeroF
  · match i, hi, j with
    | 0, _, 0 => cases hv; simp
    | 0, _, 1 => cases hv; simp
    | 0, _, j + 2 => cases hv
    | 1, _, 0 => cases hv; simp
    | 1, _, 1 => cases hv; simp
    | 1, _, j + 2 => cases hv

set_option maxHeartbeats 4000000 in
theorem known_calls (w : World) : Calls Try.prog 6 #[] w fun e w' => e = .returned (.bool true) ∧ Up w w' := by
  obtain ⟨L, hL⟩ : ∃ L : List FT, L = [(⟨#[105, 100]⟩, 1), (⟨#[110, 97, 109, 101]⟩, 3)] := ⟨_, rfl⟩
  obtain ⟨M, hM⟩ : ∃ M : List VT, M = [(1, 5, ⟨#[]⟩, 0), (3, 0, ⟨#[97]⟩, 0)] := ⟨_, rfl⟩
  have r1 : isF L = true := by rw [hL]; decide +kernel
  have r2 : checkN L M = 0 := by rw [hL, hM]; decide +kernel
  have r3 : checkN L (M.take 1) = 41 := by rw [hL, hM]; decide +kernel
  have r4 : defN L ⟨#[120]⟩ 5 [] (-1) [] [] = 0 := by rw [hL]; decide +kernel
  go_enter Try.func6, Try.ntmps6
  go_wp2_with fail
  have HL := (flds_new2 w ⟨#[105, 100]⟩ ⟨#[110, 97, 109, 101]⟩ 1 3 49 (by refine ⟨?_, ?_, ?_⟩ <;> decide) (by refine ⟨?_, ?_, ?_⟩ <;> decide)).up
    ((Up.refl _).alloc (.cells #[.int .i64 1, .int .i64 5, .string ⟨#[]⟩, .float .f64 0, .int .i64 3, .int .i64 0, .string ⟨#[97]⟩, .float .f64 0] 56))
  have HM := vals_new2 (w.alloc (.cells #[.string ⟨#[105, 100]⟩, .int .i64 1, .string ⟨#[110, 97, 109, 101]⟩, .int .i64 3] 49)) 1 5 3 0 ⟨#[]⟩ ⟨#[97]⟩ 0 0 56
    (by refine ⟨?_, ?_, ?_, ?_, ?_, ?_⟩ <;> decide +kernel) (by refine ⟨?_, ?_, ?_, ?_, ?_, ?_⟩ <;> decide +kernel)
  rw [← hL] at HL
  rw [← hM, show (w.alloc (.cells #[.string ⟨#[105, 100]⟩, .int .i64 1, .string ⟨#[110, 97, 109, 101]⟩, .int .i64 3] 49)).heap.size = w.heap.size + 1 by simp] at HM
  go_at_call 13
  refine (sis_calls _ _ _ L _ (by decide) (by decide) HL).mono ?_
  rintro _ w1 ⟨rfl, hu1⟩
  replace HL := hide (HL.up hu1)
  replace HM := hide (HM.up hu1)
  have hu := hide ((((Up.refl w).alloc _).alloc _).trans hu1)
  clear hu1 hL hM
  go_wp2_with fail
  go_at_call 15
  refine (check_calls _ _ _ L _ _ _ M _ (by decide) (by decide) HL.out HM.out).mono ?_
  rintro _ w2 ⟨rfl, hu2⟩
  replace HL := hide (HL.out.up hu2)
  replace HM := hide (HM.out.up hu2)
  replace hu := hide (hu.out.trans hu2)
  clear hu2
  go_wp2_with fail
  go_at_call 15
  refine (check_calls _ _ _ L _ _ _ (M.take 1) _ (by decide) (by decide) HL.out (HM.out.take 1 (by decide))).mono ?_
  rintro _ w3 ⟨rfl, hu3⟩
  replace HL := hide (HL.out.up hu3)
  replace hu := hide (hu.out.trans hu3)
  clear hu3 HM
  go_wp2_with fail
  go_at_call 17
  refine (def_calls _ _ _ L _ _ _ _ _ [] _ _ _ _ [] _ _ _ [] _ (by decide) (by decide) (by decide) (by decide) HL.out (slc_nil fits_zeroP _ _) (slc_nil (.inl rfl) _ _) (slc_nil (.inl rfl) _ _)).mono ?_
  rintro _ w4 ⟨rfl, hu4⟩
  replace hu := hide (hu.out.trans hu4)
  clear hu4 HL
  go_wp2
  go_ret
  exact ⟨rfl, hu.out⟩

end Go.Proofs.Yteigjboelhcaiaa

/-
  What container/heap's functions do with whatever they are handed: down, up, Init, Fix, Pop, Push, as their text runs; what is handed in is told by its methods alone.
-/
import Derived.Test.YtcemdiloiachlaaRows
import Derived.Test.YtcemdiloiachlaaHeapMath
import Derived.Test.YtcemdiloiachlaaChgs
import Derived.WalkKit
import Derived.WalkLawsBesides
import Derived.ProofKit
import Derived.OpenShut
import Derived.Deep.RegionHeld3
namespace Go.Proofs.Ytcemdiloiachlaa
open Go.ChangeShapes Go.WideShapes Go.ChangeAt Go.RowKit
set_option linter.unusedVariables false

/-- A method is found, and is a function with a body. -/
def Meth (T : TypeId) (v : Value) (name : String) (w : World) (f : FuncId) (r : Value) : Prop :=
  (method 214 T v name).run Try.prog w = .ok (f, r) w ∧ ∀ args w', (callFunc f args).run Try.prog w' = .ok (.enter f args) w'

/-- What a heap is handed: a row of elements in memory, told by its methods; C: the blocks that it writes. -/
structure Pile {α : Type} (z : α) (ah : α → α → Bool) (ok : α → Prop) (T : TypeId) (v : Value) (C : Nat → Prop) (st : World → List α → Prop) : Prop where
  len : ∀ w xs, st w xs → ∃ f r, Meth T v "Len" w f r ∧ Calls Try.prog f #[r] w fun e w' => e = .returned (.int .i64 xs.length) ∧ w' = w
  less : ∀ w xs (i j : Nat), st w xs → i < xs.length → j < xs.length → ok (xs.getD i z) → ok (xs.getD j z) → ∃ f r, Meth T v "Less" w f r ∧ Calls Try.prog f #[r, .int .i64 i, .int .i64 j] w fun e w' => e = .returned (.bool (ah (xs.getD i z) (xs.getD j z))) ∧ Up w w'
  swap : ∀ w xs (i j : Nat), st w xs → i < xs.length → j < xs.length → (i ≠ j ∨ i = 0 ∧ j = 0) → ∃ f r, Meth T v "Swap" w f r ∧ Calls Try.prog f #[r, .int .i64 i, .int .i64 j] w fun e w' => e = .returned (.tuple #[]) ∧ st w' (swapL z xs i j) ∧ Chg C w w'
  up : ∀ w w' xs, st w xs → Up w w' → st w' xs
  small : ∀ w xs, st w xs → xs.length ≤ 1000000

section
variable {α : Type} {z : α} {ah : α → α → Bool} {ok : α → Prop} {T : TypeId} {v : Value} {C : Nat → Prop} {st : World → List α → Prop}

set_option maxRecDepth 20000 in
set_option maxHeartbeats 8000000 in
theorem down_calls (P : Pile z ah ok T v C st) (i n : Nat) (w : World) (xs : List α) (hs : st w xs) (hi : i < 1000000) (hn : n ≤ xs.length) (hok : ∀ k, k < n → ok (xs.getD k z)) :
    Calls Try.prog 34 #[.iface T v, .int .i64 i, .int .i64 n] w fun e w' => (∃ b, e = .returned (.bool b)) ∧ st w' (downL z ah n xs i n) ∧ Chg C w w' := by
  have hsm := P.small w xs hs
  obtain ⟨R, hR⟩ : ∃ R, R = downL z ah n xs i n := ⟨_, rfl⟩
  rw [← hR]
  have HS := hide hs
  have HO := hide hok
  have HR := hide hR
  clear hs hok hR
  have hP := hide P
  clear P
  go_enter Try.func34, Try.ntmps34
  go_wp2_with fail
  go_loopw [7] (fun u wr => ∃ (k f : Nat) (ys : List α), k < 1000000 ∧ u = .int .i64 k ∧ n - k ≤ f ∧ n ≤ ys.length ∧ st wr ys ∧ (∀ j, j < n → ok (ys.getD j z)) ∧ R = downL z ah f ys k n ∧ Chg C w wr) (fun u _ => 1000000 - (intOf u).toNat)
  case atStart => exact ⟨i, n, xs, hi, rfl, by omega, hn, HS.out, HO.out, HR.out, Chg.refl _ _⟩
  case round =>
    obtain ⟨k, f, ys, hk, rfl, hf, hn', hst, hok, hR, hc⟩ := hrel
    have hsm' := hP.out.small wr ys hst
    by_cases h1 : 2 * k + 1 < n
    · have t1 : decide ((2 * (k : Int) + 1) ≥ n) = false := decide_eq_false (by omega)
      have t2 : decide ((2 * (k : Int) + 1) < 0) = false := decide_eq_false (by omega)
      obtain ⟨f, rfl⟩ : ∃ g, f = g + 1 := ⟨f - 1, by omega⟩
      have HST := hide hst
      have HOK := hide hok
      replace HR := hide hR
      have HC := hide hc
      clear hst hok hR hc
      by_cases h2 : 2 * k + 2 < n
      · have t3 : decide ((2 * (k : Int) + 1 + 1) < n) = true := decide_eq_true (by omega)
        obtain ⟨fl, r, ⟨hm, hcf⟩, hcl⟩ := hP.out.less wr ys (2 * k + 2) (2 * k + 1) HST.out (by omega) (by omega) (HOK.out _ h2) (HOK.out _ h1)
        rw [show ((2 * k + 2 : Nat) : Int) = 2 * (k : Int) + 1 + 1 by omega, show ((2 * k + 1 : Nat) : Int) = 2 * (k : Int) + 1 by omega] at hcl
        replace hcl := hide hcl
        go_wp2_with fail
        refine hcl.out.mono ?_
        rintro _ w1 ⟨rfl, hu1⟩
        replace HST := hide (hP.out.up _ _ _ HST.out hu1)
        replace HC := hide (HC.out.andUp hu1)
        clear hcl hm hu1
        have hcd : ∀ B, B = ah (ys.getD (2 * k + 2) z) (ys.getD (2 * k + 1) z) → childL z ah ys k n = if B then 2 * k + 2 else 2 * k + 1 := fun B hB => by
          unfold childL
          rw [decide_eq_true h2, Bool.true_and, hB]
        generalize ah (ys.getD (2 * k + 2) z) (ys.getD (2 * k + 1) z) = B at hcd ⊢
        replace hcd := hcd B rfl
        cases B with
        | true =>
          rw [if_pos rfl] at hcd
          obtain ⟨fl2, r2, ⟨hm2, hcf2⟩, hcl2⟩ := hP.out.less w1 ys (2 * k + 2) k HST.out (by omega) (by omega) (HOK.out _ h2) (HOK.out _ (by omega))
          rw [show ((2 * k + 2 : Nat) : Int) = 2 * (k : Int) + 1 + 1 by omega] at hcl2
          replace hcl2 := hide hcl2
          go_wp2_with fail
          refine hcl2.out.mono ?_
          rintro _ w2 ⟨rfl, hu2⟩
          replace HST := hide (hP.out.up _ _ _ HST.out hu2)
          replace HC := hide (HC.out.andUp hu2)
          clear hcl2 hm2 hu2
          have hdn : Hid (∀ B, B = ah (ys.getD (2 * k + 2) z) (ys.getD k z) → R = if B then downL z ah f (swapL z ys k (2 * k + 2)) (2 * k + 2) n else ys) := fun B hB => by
            rw [HR.out, downL, hcd, decide_eq_true h1, Bool.true_and, hB]
          clear HR
          generalize ah (ys.getD (2 * k + 2) z) (ys.getD k z) = B at hdn ⊢
          replace hdn := hide (hdn.out B rfl)
          clear hcd
          cases B with
          | true =>
            replace hdn := hide ((hdn.out).trans (if_pos rfl))
            obtain ⟨fs, r3, ⟨hm3, hcf3⟩, hcl3⟩ := hP.out.swap w2 ys k (2 * k + 2) HST.out (by omega) (by omega) (.inl (by omega))
            rw [show ((2 * k + 2 : Nat) : Int) = 2 * (k : Int) + 1 + 1 by omega] at hcl3
            replace hcl3 := hide hcl3
            go_wp2_with fail
            refine hcl3.out.mono ?_
            rintro _ w3 ⟨rfl, hs3, hc3⟩
            replace HC := hide (HC.out.trans hc3 (fun _ _ h => h))
            replace hs3 := hide hs3
            clear hcl3 hm3 hc3
            go_wp2
            go_roundw
            case rel =>
              refine ⟨2 * k + 2, f, swapL z ys k (2 * k + 2), by omega, by go_num, by omega, by rw [swapL_length]; exact hn', hs3.out, swapL_ok z (by omega) h2 hn' HOK.out, hdn.out, HC.out⟩
            case measure => simp [intOf]; omega
          | false =>
            replace hdn := (hdn.out).trans (if_neg (by decide))
            subst hdn
            clear HOK HS HO
            go_wp2
            go_ret
            exact ⟨⟨_, rfl⟩, HST.out, HC.out⟩
        | false =>
          rw [if_neg (by decide)] at hcd
          obtain ⟨fl2, r2, ⟨hm2, hcf2⟩, hcl2⟩ := hP.out.less w1 ys (2 * k + 1) k HST.out (by omega) (by omega) (HOK.out _ h1) (HOK.out _ (by omega))
          rw [show ((2 * k + 1 : Nat) : Int) = 2 * (k : Int) + 1 by omega] at hcl2
          replace hcl2 := hide hcl2
          go_wp2_with fail
          refine hcl2.out.mono ?_
          rintro _ w2 ⟨rfl, hu2⟩
          replace HST := hide (hP.out.up _ _ _ HST.out hu2)
          replace HC := hide (HC.out.andUp hu2)
          clear hcl2 hm2 hu2
          have hdn : Hid (∀ B, B = ah (ys.getD (2 * k + 1) z) (ys.getD k z) → R = if B then downL z ah f (swapL z ys k (2 * k + 1)) (2 * k + 1) n else ys) := fun B hB => by
            rw [HR.out, downL, hcd, decide_eq_true h1, Bool.true_and, hB]
          clear HR
          generalize ah (ys.getD (2 * k + 1) z) (ys.getD k z) = B at hdn ⊢
          replace hdn := hide (hdn.out B rfl)
          clear hcd
          cases B with
          | true =>
            replace hdn := hide ((hdn.out).trans (if_pos rfl))
            obtain ⟨fs, r3, ⟨hm3, hcf3⟩, hcl3⟩ := hP.out.swap w2 ys k (2 * k + 1) HST.out (by omega) (by omega) (.inl (by omega))
            rw [show ((2 * k + 1 : Nat) : Int) = 2 * (k : Int) + 1 by omega] at hcl3
            replace hcl3 := hide hcl3
            go_wp2_with fail
            refine hcl3.out.mono ?_
            rintro _ w3 ⟨rfl, hs3, hc3⟩
            replace HC := hide (HC.out.trans hc3 (fun _ _ h => h))
            replace hs3 := hide hs3
            clear hcl3 hm3 hc3
            go_wp2
            go_roundw
            case rel =>
              refine ⟨2 * k + 1, f, swapL z ys k (2 * k + 1), by omega, by go_num, by omega, by rw [swapL_length]; exact hn', hs3.out, swapL_ok z (by omega) h1 hn' HOK.out, hdn.out, HC.out⟩
            case measure => simp [intOf]; omega
          | false =>
            replace hdn := (hdn.out).trans (if_neg (by decide))
            subst hdn
            clear HOK HS HO
            go_wp2
            go_ret
            exact ⟨⟨_, rfl⟩, HST.out, HC.out⟩
      · have t3 : decide ((2 * (k : Int) + 1 + 1) < n) = false := decide_eq_false (by omega)
        have hcd : childL z ah ys k n = 2 * k + 1 := by
          unfold childL
          rw [decide_eq_false h2, Bool.false_and, if_neg (by decide)]
        obtain ⟨fl2, r2, ⟨hm2, hcf2⟩, hcl2⟩ := hP.out.less wr ys (2 * k + 1) k HST.out (by omega) (by omega) (HOK.out _ h1) (HOK.out _ (by omega))
        rw [show ((2 * k + 1 : Nat) : Int) = 2 * (k : Int) + 1 by omega] at hcl2
        replace hcl2 := hide hcl2
        go_wp2_with fail
        refine hcl2.out.mono ?_
        rintro _ w2 ⟨rfl, hu2⟩
        replace HST := hide (hP.out.up _ _ _ HST.out hu2)
        replace HC := hide (HC.out.andUp hu2)
        clear hcl2 hm2 hu2
        have hdn : Hid (∀ B, B = ah (ys.getD (2 * k + 1) z) (ys.getD k z) → R = if B then downL z ah f (swapL z ys k (2 * k + 1)) (2 * k + 1) n else ys) := fun B hB => by
          rw [HR.out, downL, hcd, decide_eq_true h1, Bool.true_and, hB]
        clear HR
        generalize ah (ys.getD (2 * k + 1) z) (ys.getD k z) = B at hdn ⊢
        replace hdn := hide (hdn.out B rfl)
        clear hcd
        cases B with
        | true =>
          replace hdn := hide ((hdn.out).trans (if_pos rfl))
          obtain ⟨fs, r3, ⟨hm3, hcf3⟩, hcl3⟩ := hP.out.swap w2 ys k (2 * k + 1) HST.out (by omega) (by omega) (.inl (by omega))
          rw [show ((2 * k + 1 : Nat) : Int) = 2 * (k : Int) + 1 by omega] at hcl3
          replace hcl3 := hide hcl3
          go_wp2_with fail
          refine hcl3.out.mono ?_
          rintro _ w3 ⟨rfl, hs3, hc3⟩
          replace HC := hide (HC.out.trans hc3 (fun _ _ h => h))
          replace hs3 := hide hs3
          clear hcl3 hm3 hc3
          go_wp2
          go_roundw
          case rel =>
            refine ⟨2 * k + 1, f, swapL z ys k (2 * k + 1), by omega, by go_num, by omega, by rw [swapL_length]; exact hn', hs3.out, swapL_ok z (by omega) h1 hn' HOK.out, hdn.out, HC.out⟩
          case measure => simp [intOf]; omega
        | false =>
          replace hdn := (hdn.out).trans (if_neg (by decide))
          subst hdn
          clear HOK HS HO
          go_wp2
          go_ret
          exact ⟨⟨_, rfl⟩, HST.out, HC.out⟩
    · have t1 : decide ((2 * (k : Int) + 1) ≥ n) = true := decide_eq_true (by omega)
      have e : R = ys := by
        cases f with
        | zero => exact hR
        | succ f => rw [hR, downL, decide_eq_false h1, Bool.false_and, if_neg (by decide)]
      subst e
      replace hst := hide hst
      replace hc := hide hc
      clear hok hR HR HO HS
      go_wp2
      go_ret
      exact ⟨⟨_, rfl⟩, hst.out, hc.out⟩

set_option maxRecDepth 20000 in
set_option maxHeartbeats 8000000 in
theorem up_calls (P : Pile z ah ok T v C st) (j : Nat) (w : World) (xs : List α) (hs : st w xs) (hj : j < xs.length ∨ j = 0) (hok : ∀ k, k < xs.length → ok (xs.getD k z)) :
    Calls Try.prog 33 #[.iface T v, .int .i64 j] w fun e w' => e = .returned (.tuple #[]) ∧ st w' (upL z ah j xs j) ∧ Chg C w w' := by
  have hsm := P.small w xs hs
  obtain ⟨R, hR⟩ : ∃ R, R = upL z ah j xs j := ⟨_, rfl⟩
  obtain ⟨N, hN⟩ : ∃ N, N = xs.length := ⟨_, rfl⟩
  rw [← hR]
  rw [← hN] at hj hsm hok
  have HS := hide hs
  have HO := hide hok
  have HR := hide hR
  have HN := hide hN
  clear hs hok hR hN
  have hP := hide P
  clear P
  go_enter Try.func33, Try.ntmps33
  go_wp2_with fail
  go_loopw [1] (fun u wr => ∃ (k f : Nat) (ys : List α), (k < N ∨ k = 0) ∧ u = .int .i64 k ∧ k ≤ f ∧ N = ys.length ∧ st wr ys ∧ (∀ j, j < N → ok (ys.getD j z)) ∧ R = upL z ah f ys k ∧ Chg C w wr) (fun u _ => (intOf u).toNat)
  case atStart => exact ⟨j, j, xs, hj, rfl, Nat.le_refl _, HN.out, HS.out, HO.out, HR.out, Chg.refl _ _⟩
  case round =>
    obtain ⟨k, f, ys, hk, rfl, hf, hn', hst, hok, hR, hc⟩ := hrel
    by_cases h1 : k = 0
    · subst h1
      have e : R = ys := by
        cases f with
        | zero => exact hR
        | succ f => rw [hR, upL, decide_eq_false (by omega), Bool.false_and, if_neg (by decide)]
      subst e
      replace hst := hide hst
      replace hc := hide hc
      clear hok hR HR HO HS
      go_wp2
      go_end0
      exact ⟨rfl, hst.out, hc.out⟩
    · have hkN : k < N := by omega
      obtain ⟨p, hp⟩ : ∃ p, p = (k - 1) / 2 := ⟨_, rfl⟩
      have hpk : p < k := by omega
      have q1 : ((k : Int) - 1).tdiv 2 = (p : Int) := by
        rw [show (k : Int) - 1 = ((k - 1 : Nat) : Int) by omega]
        rw [hp]
        exact Int.ofNat_tdiv (k - 1) 2 |>.symm
      have q2 : ((p : Int) == k) = false := by rw [beq_eq_false_iff_ne]; omega
      have HP := hide hp
      clear hp
      obtain ⟨f, rfl⟩ : ∃ g, f = g + 1 := ⟨f - 1, by omega⟩
      have HST := hide hst
      have HOK := hide hok
      replace HR := hide hR
      have HC := hide hc
      clear hst hok hR hc
      obtain ⟨fl2, r2, ⟨hm2, hcf2⟩, hcl2⟩ := hP.out.less wr ys k p HST.out (by omega) (by omega) (HOK.out _ hkN) (HOK.out _ (by omega))
      replace hcl2 := hide hcl2
      go_wp2_with fail
      refine hcl2.out.mono ?_
      rintro _ w2 ⟨rfl, hu2⟩
      replace HST := hide (hP.out.up _ _ _ HST.out hu2)
      replace HC := hide (HC.out.andUp hu2)
      clear hcl2 hm2 hu2
      have hdn : Hid (∀ B, B = ah (ys.getD k z) (ys.getD p z) → R = if B then upL z ah f (swapL z ys p k) p else ys) := fun B hB => by
        rw [HR.out, upL, ← HP.out, decide_eq_true (by omega), Bool.true_and, hB]
      clear HR
      generalize ah (ys.getD k z) (ys.getD p z) = B at hdn ⊢
      replace hdn := hide (hdn.out B rfl)
      cases B with
      | true =>
        replace hdn := hide ((hdn.out).trans (if_pos rfl))
        obtain ⟨fs, r3, ⟨hm3, hcf3⟩, hcl3⟩ := hP.out.swap w2 ys p k HST.out (by omega) (by omega) (.inl (by omega))
        replace hcl3 := hide hcl3
        go_wp2_with fail
        refine hcl3.out.mono ?_
        rintro _ w3 ⟨rfl, hs3, hc3⟩
        replace HC := hide (HC.out.trans hc3 (fun _ _ h => h))
        replace hs3 := hide hs3
        clear hcl3 hm3 hc3
        go_wp2
        go_roundw
        case rel =>
          refine ⟨p, f, swapL z ys p k, by omega, by go_num, by omega, by rw [swapL_length]; exact hn', hs3.out, swapL_ok z (by omega) hkN (by omega) HOK.out, hdn.out, HC.out⟩
        case measure => have := HP.out; simp [intOf]; omega
      | false =>
        replace hdn := (hdn.out).trans (if_neg (by decide))
        subst hdn
        clear HOK HS HO
        go_wp2
        go_end0
        exact ⟨rfl, HST.out, HC.out⟩

end

end Go.Proofs.Ytcemdiloiachlaa

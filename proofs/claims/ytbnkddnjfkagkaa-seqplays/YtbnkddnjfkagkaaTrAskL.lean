/-
  New, Writes, Height and At of a counted tree of numbers, as their text runs.
-/
import Derived.Test.YtbnkddnjfkagkaaTrActL
import Derived.Deep.LoopGhost
namespace Go.Proofs.Ytbnkddnjfkagkaa
open Go.ChangeShapes Go.WideShapes Go.ChangeAt Go.RowKit
set_option linter.unusedVariables false
set_option maxRecDepth 100000
attribute [local go_sem ↓] Go.wp_at_zero Go.wp_at_succ

theorem tnewL_calls (w : World) : Calls Try.prog 58 #[] w fun e w' => ∃ T, e = .returned (.pointer (some ⟨T, 0, none⟩)) ∧ TrL w' T [] 0 0 ∧ w.heap.size ≤ T ∧ Up w w' := by
  go_enter Try.func58, Try.ntmps58
  go_wp2
  go_ret
  refine ⟨w.heap.size + 1, rfl, ⟨w.heap.size, ⟨by go_simp; rfl, by go_simp, by go_simp, by go_simp⟩, 0, ⟨.slice none 0 0, .slice none 0 0, ⟨by simp, by go_simp, by go_simp, by go_simp⟩, Rd.nil _ _ _, Emp.nil, rfl⟩, by omega, fun h => absurd rfl h⟩, by omega, ((Up.refl w).alloc _).alloc _⟩
theorem twritesL_calls (T h n : Nat) (xs : List Int) (w : World) (t : TrL w T xs h n) :
    Calls Try.prog 59 #[.pointer (some ⟨T, 0, none⟩)] w fun e w' => e = .returned (.int .i64 n) ∧ w' = w := by
  obtain ⟨b, ⟨c0, c1, _, _⟩, _⟩ := t.top
  clear t
  go_enter Try.func59, Try.ntmps59
  go_wp2
  go_ret
  exact ⟨rfl, rfl⟩
theorem tatL_not (T h n : Nat) (i : Int) (xs : List Int) (w : World) (t : TrL w T xs h n) (hi : i < 0 ∨ (xs.length : Int) ≤ i) :
    Calls Try.prog 71 #[.pointer (some ⟨T, 0, none⟩), .int .i64 i] w fun e w' => e = .returned (.tuple #[(.int .i64 0), .bool false]) ∧ Up w w' := by
  have HT := hide t
  clear t
  by_cases h0 : i < 0
  · have hd : decide (i < 0) = true := decide_eq_true h0
    go_enter Try.func71, Try.ntmps71
    go_wp2
    go_ret2
    exact ⟨rfl, Up.refl _⟩
  · have hd : decide (i < 0) = false := decide_eq_false h0
    have h1 : (xs.length : Int) ≤ i := by omega
    have hd2 : decide (i ≥ (xs.length : Int)) = true := decide_eq_true (by omega)
    go_enter Try.func71, Try.ntmps71
    go_wp2_with (go_at_call 67; refine (tlenL_calls T h n xs _ HT.out).mono ?_; rintro _ w1 ⟨rfl, hw1⟩; subst hw1)
    go_ret2
    exact ⟨rfl, Up.refl _⟩
set_option maxHeartbeats 4000000 in
theorem tatL_ok (T h n i : Nat) (z : Int) (xs : List Int) (w : World) (t : TrL w T xs h n) (hi : i < xs.length) (hx : xs.length ≤ 100000) :
    Calls Try.prog 71 #[.pointer (some ⟨T, 0, none⟩), .int .i64 i] w fun e w' => e = .returned (.tuple #[(Value.int .i64) (xs.getD i z), .bool true]) ∧ Up w w' := by
  have HT := hide t
  obtain ⟨b, ⟨c0, _, _, _⟩, s, hnd, hs8, hs2⟩ := t.top
  have HND := hide hnd
  have HX := hide hx
  have HI := hide hi
  unfold pE at c0
  have hd : decide ((i : Int) < 0) = false := decide_eq_false (by omega)
  have hd0 : ¬ ((i : Int) < 0) := by omega
  have hd2 : decide ((i : Int) ≥ (xs.length : Int)) = false := decide_eq_false (by omega)
  have hd3 : ¬ ((xs.length : Int) ≤ (i : Int)) := by omega
  have hd4 : decide (xs.length ≤ i) = false := decide_eq_false (by omega)
  obtain ⟨val, hval⟩ : ∃ v, v = xs.getD i z := ⟨_, rfl⟩
  rw [← hval]
  replace hval := hide hval
  clear t hnd hx hi
  go_enter Try.func71, Try.ntmps71
  go_wp2_with (go_at_call 67; refine (tlenL_calls T h n xs _ HT.out).mono ?_; rintro _ w1 ⟨rfl, hw1⟩; obtain rfl : w = w1 := hw1.symm)
  go_loopg [1, 7] h (fun k iv nv wr => ∃ (j b : Nat) (ys : List Int) (s : Nat), iv = .int .i64 j ∧ nv = .pointer (some ⟨b, 0, none⟩) ∧ Hid (Nd (Value.int .i64) (fun y => y = T) wr k b ys s ∧ s ≤ 8 ∧ (k ≠ 0 → 2 ≤ s) ∧ j < ys.length ∧ ys.length ≤ 100000 ∧ ys.getD j z = val) ∧ Hid (Up w wr))
  case atStart => exact ⟨i, b, xs, s, rfl, rfl, ⟨HND.out, hs8, hs2, HI.out, HX.out, hval.out.symm⟩, Up.refl _⟩
  case round =>
    obtain ⟨j, b, ys, s, rfl, rfl, hN, hu⟩ := hrel
    obtain ⟨hnd, hs8, hs2, hj, hyl, hv⟩ := hN.out
    have hnd0 := hide hnd
    cases gk with
    | zero =>
      obtain ⟨ve, vb, ⟨hX, d0, d1, d2⟩, hr, _, _⟩ := hnd
      obtain ⟨ae, ne, ce, rfl, hne, -⟩ := hr.sliceN
      obtain ⟨g, o, rfl, hg⟩ := hr.get (i := j) hj
      obtain ⟨x, hxx, hg1⟩ : ∃ x, x = ys[j] ∧ wr.cell? ⟨g, o + j, none⟩ = some ((Value.int .i64) x) := ⟨ys[j], rfl, hg⟩
      have HXX : Hid (x = val) := by
        unfold Hid; rw [hxx, ← hv, List.getD_eq_getElem?_getD, List.getElem?_eq_getElem hj]; rfl
      have j0 : (0 : Int) ≤ (j : Int) := by omega
      have j1 : (j : Int) < (ne : Int) := by rw [hne.out]; omega
      have hdz : decide ((0 : Nat) = 0) = true := by decide
      clear hN hr hg hxx hj hyl hv hs8 hs2 hne
      go_wp2_with (go_at_call 84; refine (leafL_calls (fun y => y = T) 0 b ys _ _ hnd0.out (fun h => absurd rfl h)).mono ?_; rintro _ w1 ⟨rfl, hw1⟩; obtain rfl : wr = w1 := hw1.symm; rw [hdz])
      go_ret2
      exact ⟨by rw [← HXX.out]; rfl, hu.out⟩
    | succ gk =>
      obtain ⟨ve, vb, L, hcn, he, hr, hk, hys, hsL⟩ := hnd
      have HCN := hide hcn
      obtain ⟨hX, d0, d1, d2⟩ := hcn
      have hL0 : L ≠ [] := fun e => by rw [e] at hsL; have := hs2 (Nat.succ_ne_zero _); simp at hsL; omega
      obtain ⟨ab, nb, cb, rfl, hnb, -⟩ := hr.sliceN
      have hnbL : nb = L.length := by rw [hnb.out]; simp
      have HNB := hide hnbL
      have HR := hide hr
      have HK : Hid (Kids (Value.int .i64) (fun y => y = T) wr gk L) := hk
      have HY := hide hys
      have HV := hide hv
      have HJ := hide hj
      have HYL := hide hyl
      have hdz : decide (gk + 1 = 0) = false := decide_eq_false (Nat.succ_ne_zero _)
      have hs0 : s ≠ 0 := by have := hs2 (Nat.succ_ne_zero _); omega
      have hfind := findL_calls (fun y => y = T) gk b j _ _ L _ wr HCN.out hr hk hL0 (by rw [← hys]; omega) (by rw [← hys]; omega)
      have HF := hide hfind
      clear hfind hN hr hk hys hv hj hyl hsL hs8 hs2 hnb hnbL d0 d2 he
      go_wp2_with (go_at_call 84; refine (leafL_calls (fun y => y = T) (gk + 1) b ys _ _ hnd0.out (fun _ => hs0)).mono ?_; rintro _ w1 ⟨rfl, hw1⟩; obtain rfl : wr = w1 := hw1.symm; rw [hdz])
      refine HF.out.mono ?_
      rintro _ w2 ⟨at_, j', hat, rfl, hj2, hj3, hj4, hu2⟩
      obtain ⟨gk', o, rfl, hg⟩ := HR.out.get (i := at_) (by rw [List.length_map]; exact hat)
      rw [List.getElem_map] at hg
      replace hg := hu2.cell hg
      replace d1 := hu2.cell d1
      obtain ⟨sq, sq4, sq8, hnq⟩ := HK.out _ (List.getElem_mem hat)
      have HNQ := hide (hnq.chg (Chg.of_up (C := fun y => y = T) hu2))
      have hsp := flat_split L at_ hat
      have HV2 : Hid (L[at_].2.getD j' z = val) := by
        unfold Hid
        have hjl : j' < L[at_].2.length := hj4 (by rw [← HY.out]; exact HJ.out)
        rw [← HV.out, HY.out, hsp, hj2]
        exact (get_mid z _ _ _ j' hjl).symm
      have HJ2 : Hid (j' < L[at_].2.length) := hj4 (by rw [← HY.out]; exact HJ.out)
      have HYL2 : Hid (L[at_].2.length ≤ 100000) := by
        unfold Hid
        have h1 := congrArg List.length hsp
        have h2 := HYL.out
        have h3 := congrArg List.length HY.out
        rw [List.length_append, List.length_append] at h1
        omega
      have HU := hide (hu.out.trans hu2)
      have a0 : (0 : Int) ≤ (at_ : Int) := by omega
      have a1 : (at_ : Int) < (nb : Int) := by rw [HNB.out]; omega
      obtain ⟨kb, hkb⟩ : ∃ kb, kb = L[at_].1 := ⟨_, rfl⟩
      rw [← hkb] at hg HNQ
      unfold pE at hg
      clear hj2 hj3 hj4 hu2 hnq hsp hkb
      dsimp only
      go_wp2
      go_roundg gk
      case measure => omega
      case rel => exact ⟨j', kb, L[at_].2, sq, rfl, rfl, ⟨HNQ.out, sq8, fun _ => by omega, HJ2.out, HYL2.out, HV2.out⟩, HU⟩
end Go.Proofs.Ytbnkddnjfkagkaa

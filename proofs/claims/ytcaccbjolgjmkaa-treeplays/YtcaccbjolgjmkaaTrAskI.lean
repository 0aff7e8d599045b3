/-
  New, Writes, Height and At of a counted tree of whole numbers, as their text runs.
-/
import Derived.Test.YtcaccbjolgjmkaaTrActI
import Derived.Deep.LoopGhost
namespace Go.Proofs.Ytcaccbjolgjmkaa
open Go.ChangeShapes Go.WideShapes Go.ChangeAt Go.RowKit
set_option linter.unusedVariables false
set_option maxRecDepth 100000
attribute [local go_sem ↓] Go.wp_at_zero Go.wp_at_succ

theorem tnewI_calls (w : World) : Calls Try.prog 10 #[] w fun e w' => ∃ T, e = .returned (.pointer (some ⟨T, 0, none⟩)) ∧ TrI w' T [] 0 0 ∧ w.heap.size ≤ T ∧ Up w w' := by
  go_enter Try.func10, Try.ntmps10
  go_wp2
  go_ret
  refine ⟨w.heap.size + 1, rfl, ⟨w.heap.size, ⟨by go_simp; rfl, by go_simp, by go_simp, by go_simp⟩, 0, ⟨.slice none 0 0, .slice none 0 0, ⟨by simp, by go_simp, by go_simp, by go_simp⟩, Rd.nil _ _ _, Emp.nil, rfl⟩, by omega, fun h => absurd rfl h⟩, by omega, ((Up.refl w).alloc _).alloc _⟩
theorem twritesI_calls (T h n : Nat) (xs : List Int) (w : World) (t : TrI w T xs h n) :
    Calls Try.prog 11 #[.pointer (some ⟨T, 0, none⟩)] w fun e w' => e = .returned (.int .i64 n) ∧ w' = w := by
  obtain ⟨b, ⟨c0, c1, _, _⟩, _⟩ := t.top
  clear t
  go_enter Try.func11, Try.ntmps11
  go_wp2
  go_ret
  exact ⟨rfl, rfl⟩
theorem tatI_not (T h n : Nat) (i : Int) (xs : List Int) (w : World) (t : TrI w T xs h n) (hi : i < 0 ∨ (xs.length : Int) ≤ i) :
    Calls Try.prog 21 #[.pointer (some ⟨T, 0, none⟩), .int .i64 i] w fun e w' => e = .returned (.tuple #[(.int .i64 0), .bool false]) ∧ Up w w' := by
  have HT := hide t
  clear t
  by_cases h0 : i < 0
  · have hd : decide (i < 0) = true := decide_eq_true h0
    go_enter Try.func21, Try.ntmps21
    go_wp2
    go_ret2
    exact ⟨rfl, Up.refl _⟩
  · have hd : decide (i < 0) = false := decide_eq_false h0
    have h1 : (xs.length : Int) ≤ i := by omega
    have hd2 : decide (i ≥ (xs.length : Int)) = true := decide_eq_true (by omega)
    go_enter Try.func21, Try.ntmps21
    go_wp2_with (go_at_call 18; refine (tlenI_calls T h n xs _ HT.out).mono ?_; rintro _ w1 ⟨rfl, hw1⟩; subst hw1)
    go_ret2
    exact ⟨rfl, Up.refl _⟩
set_option maxHeartbeats 4000000 in
theorem tatI_ok (T h n i : Nat) (z : Int) (xs : List Int) (w : World) (t : TrI w T xs h n) (hi : i < xs.length) (hx : xs.length ≤ 100000) :
    Calls Try.prog 21 #[.pointer (some ⟨T, 0, none⟩), .int .i64 i] w fun e w' => e = .returned (.tuple #[(Value.int .i64) (xs.getD i z), .bool true]) ∧ Up w w' := by
  have HT := hide t
  obtain ⟨b, ⟨c0, _, _, _⟩, s, hnd, hs8, hs2⟩ := t.top
  have HND := hide hnd
  have HX := hide hx
  have HI := hide hi
  unfold pE at c0
  have hd : decide ((i : Int) < 0) = false := decide_eq_false (by omega)
  have hd0 : ¬ ((i : Int) < 0) := by omega
  have hd2 : decide ((i : Int) ≥ (xs.length : Int)) = false := decide_eq_false (by omega)
  have hd3 : ¬ ((xs.length : Int) ≤ (i : Int)) := by omega
  have hd4 : decide (xs.length ≤ i) = false := decide_eq_false (by omega)
  obtain ⟨val, hval⟩ : ∃ v, v = xs.getD i z := ⟨_, rfl⟩
  rw [← hval]
  replace hval := hide hval
  clear t hnd hx hi
  go_enter Try.func21, Try.ntmps21
  go_wp2_with (go_at_call 18; refine (tlenI_calls T h n xs _ HT.out).mono ?_; rintro _ w1 ⟨rfl, hw1⟩; obtain rfl : w = w1 := hw1.symm)
  go_loopg [1, 7] h (fun k iv nv wr => ∃ (j b : Nat) (ys : List Int) (s : Nat), iv = .int .i64 j ∧ nv = .pointer (some ⟨b, 0, none⟩) ∧ Hid (Nd (Value.int .i64) (fun y => y = T) wr k b ys s ∧ s ≤ 8 ∧ (k ≠ 0 → 2 ≤ s) ∧ j < ys.length ∧ ys.length ≤ 100000 ∧ ys.getD j z = val) ∧ Hid (Up w wr))
  case atStart => exact ⟨i, b, xs, s, rfl, rfl, ⟨HND.out, hs8, hs2, HI.out, HX.out, hval.out.symm⟩, Up.refl _⟩
  case round =>
    obtain ⟨j, b, ys, s, rfl, rfl, hN, hu⟩ := hrel
    obtain ⟨hnd, hs8, hs2, hj, hyl, hv⟩ := hN.out
    have hnd0 := hide hnd
    cases gk with
    | zero =>
      obtain ⟨ve, vb, ⟨hX, d0, d1, d2⟩, hr, _, _⟩ := hnd
      obtain ⟨ae, ne, ce, rfl, hne, -⟩ := hr.sliceN
      obtain ⟨g, o, rfl, hg⟩ := hr.get (i := j) hj
      obtain ⟨x, hxx, hg1⟩ : ∃ x, x = ys[j] ∧ wr.cell? ⟨g, o + j, none⟩ = some ((Value.int .i64) x) := ⟨ys[j], rfl, hg⟩
      have HXX : Hid (x = val) := by
        unfold Hid; rw [hxx, ← hv, List.getD_eq_getElem?_getD, List.getElem?_eq_getElem hj]; rfl
      have j0 : (0 : Int) ≤ (j : Int) := by omega
      have j1 : (j : Int) < (ne : Int) := by rw [hne.out]; omega
      have hdz : decide ((0 : Nat) = 0) = true := by decide
      clear hN hr hg hxx hj hyl hv hs8 hs2 hne
      go_wp2_with (go_at_call 39; refine (leafI_calls (fun y => y = T) 0 b ys _ _ hnd0.out (fun h => absurd rfl h)).mono ?_; rintro _ w1 ⟨rfl, hw1⟩; obtain rfl : wr = w1 := hw1.symm; rw [hdz])
      go_ret2
      exact ⟨by rw [← HXX.out]; rfl, hu.out⟩
    | succ gk =>
      obtain ⟨ve, vb, L, hcn, he, hr, hk, hys, hsL⟩ := hnd
      have HCN := hide hcn
      obtain ⟨hX, d0, d1, d2⟩ := hcn
      have hL0 : L ≠ [] := fun e => by rw [e] at hsL; have := hs2 (Nat.succ_ne_zero _); simp at hsL; omega
      obtain ⟨ab, nb, cb, rfl, hnb, -⟩ := hr.sliceN
      have hnbL : nb = L.length := by rw [hnb.out]; simp
      have HNB := hide hnbL
      have HR := hide hr
      have HK : Hid (Kids (Value.int .i64) (fun y => y = T) wr gk L) := hk
      have HY := hide hys
      have HV := hide hv
      have HJ := hide hj
      have HYL := hide hyl
      have hdz : decide (gk + 1 = 0) = false := decide_eq_false (Nat.succ_ne_zero _)
      have hs0 : s ≠ 0 := by have := hs2 (Nat.succ_ne_zero _); omega
      have hfind := findI_calls (fun y => y = T) gk b j _ _ L _ wr HCN.out hr hk hL0 (by rw [← hys]; omega) (by rw [← hys]; omega)
      have HF := hide hfind
      clear hfind hN hr hk hys hv hj hyl hsL hs8 hs2 hnb hnbL d0 d2 he
      go_wp2_with (go_at_call 39; refine (leafI_calls (fun y => y = T) (gk + 1) b ys _ _ hnd0.out (fun _ => hs0)).mono ?_; rintro _ w1 ⟨rfl, hw1⟩; obtain rfl : wr = w1 := hw1.symm; rw [hdz])
      refine HF.out.mono ?_
      rintro _ w2 ⟨at_, j', hat, rfl, hj2, hj3, hj4, hu2⟩
      obtain ⟨gk', o, rfl, hg⟩ := HR.out.get (i := at_) (by rw [List.length_map]; exact hat)
      rw [List.getElem_map] at hg
      replace hg := hu2.cell hg
      replace d1 := hu2.cell d1
      obtain ⟨sq, sq4, sq8, hnq⟩ := HK.out _ (List.getElem_mem hat)
      have HNQ := hide (hnq.chg (Chg.of_up (C := fun y => y = T) hu2))
      have hsp := flat_split L at_ hat
      have HV2 : Hid (L[at_].2.getD j' z = val) := by
        unfold Hid
        have hjl : j' < L[at_].2.length := hj4 (by rw [← HY.out]; exact HJ.out)
        rw [← HV.out, HY.out, hsp, hj2]
        exact (get_mid z _ _ _ j' hjl).symm
      have HJ2 : Hid (j' < L[at_].2.length) := hj4 (by rw [← HY.out]; exact HJ.out)
      have HYL2 : Hid (L[at_].2.length ≤ 100000) := by
        unfold Hid
        have h1 := congrArg List.length hsp
        have h2 := HYL.out
        have h3 := congrArg List.length HY.out
        rw [List.length_append, List.length_append] at h1
        omega
      have HU := hide (hu.out.trans hu2)
      have a0 : (0 : Int) ≤ (at_ : Int) := by omega
      have a1 : (at_ : Int) < (nb : Int) := by rw [HNB.out]; omega
      obtain ⟨kb, hkb⟩ : ∃ kb, kb = L[at_].1 := ⟨_, rfl⟩
      rw [← hkb] at hg HNQ
      unfold pE at hg
      clear hj2 hj3 hj4 hu2 hnq hsp hkb
      dsimp only
      go_wp2
      go_roundg gk
      case measure => omega
      case rel => exact ⟨j', kb, L[at_].2, sq, rfl, rfl, ⟨HNQ.out, sq8, fun _ => by omega, HJ2.out, HYL2.out, HV2.out⟩, HU⟩
theorem theightI_zero (T h n : Nat) (w : World) (t : TrI w T [] h n) :
    Calls Try.prog 19 #[.pointer (some ⟨T, 0, none⟩)] w fun e w' => e = .returned (.int .i64 0) ∧ Up w w' := by
  have HT := hide t
  clear t
  go_enter Try.func19, Try.ntmps19
  go_wp2_with (go_at_call 18; refine (tlenI_calls T h n [] _ HT.out).mono ?_; rintro _ w1 ⟨rfl, hw1⟩; subst hw1)
  go_ret
  exact ⟨rfl, Up.refl _⟩
set_option maxHeartbeats 4000000 in
theorem theightI_some (T h n : Nat) (xs : List Int) (w : World) (t : TrI w T xs h n) (hx : xs ≠ []) (hh : h ≤ 1000) :
    Calls Try.prog 19 #[.pointer (some ⟨T, 0, none⟩)] w fun e w' => e = .returned (.int .i64 ((h : Int) + 1)) ∧ Up w w' := by
  have HT := hide t
  obtain ⟨b, ⟨c0, _, _, _⟩, s, hnd, hs8, hs2⟩ := t.top
  have HND := hide hnd
  unfold pE at c0
  have hd : ((xs.length : Int) == 0) = false := by
    have : xs.length ≠ 0 := fun e => hx (List.length_eq_zero_iff.1 e)
    simp; exact hx
  have hd' : ¬ ((xs.length : Int) = 0) := by
    have : xs.length ≠ 0 := fun e => hx (List.length_eq_zero_iff.1 e)
    omega
  obtain ⟨xl, hxl⟩ : ∃ xl, xl = xs.length := ⟨_, rfl⟩
  have hl : Hid (Calls Try.prog 18 #[.pointer (some ⟨T, 0, none⟩)] w fun e w' => e = .returned (.int .i64 xl) ∧ w' = w) := by
    have := tlenI_calls T h n xs w t
    rw [← hxl] at this
    exact this
  rw [← hxl] at hd hd'
  clear t hnd hx hxl
  go_enter Try.func19, Try.ntmps19
  go_wp2_with (go_at_call 18; refine hl.out.mono ?_; rintro _ w1 ⟨rfl, hw1⟩; obtain rfl : w = w1 := hw1.symm)
  go_loopg [3, 4] h (fun k hv nv wr => ∃ (m b : Nat) (ys : List Int) (s : Nat), hv = .int .i64 m ∧ nv = .pointer (some ⟨b, 0, none⟩) ∧ m + k = h + 1 ∧ Hid (Nd (Value.int .i64) (fun y => y = T) wr k b ys s ∧ s ≤ 8 ∧ (k ≠ 0 → 2 ≤ s)) ∧ Hid (Up w wr))
  case atStart => exact ⟨1, b, xs, s, rfl, rfl, by omega, ⟨HND.out, hs8, hs2⟩, Up.refl _⟩
  case round =>
    obtain ⟨m, b, ys, s, rfl, rfl, hm, hN, hu⟩ := hrel
    obtain ⟨hnd, hs8, hs2⟩ := hN.out
    have hnd0 := hide hnd
    cases gk with
    | zero =>
      have hdz : decide ((0 : Nat) = 0) = true := by decide
      have hm' : m = h + 1 := by omega
      have HM := hide hm'
      clear hN hnd hm hm' hs8 hs2
      go_wp2_with (go_at_call 39; refine (leafI_calls (fun y => y = T) 0 b ys _ _ hnd0.out (fun h => absurd rfl h)).mono ?_; rintro _ w1 ⟨rfl, hw1⟩; obtain rfl : wr = w1 := hw1.symm; rw [hdz])
      go_ret
      exact ⟨by rw [HM.out]; rfl, hu.out⟩
    | succ gk =>
      obtain ⟨ve, vb, L, ⟨hX, d0, d1, d2⟩, he, hr, hk, hys, hsL⟩ := hnd
      have hs0 : s ≠ 0 := by have := hs2 (Nat.succ_ne_zero _); omega
      have hL0 : 0 < L.length := by omega
      obtain ⟨ab, nb, cb, rfl, hnb, -⟩ := hr.sliceN
      have hnbL : nb = L.length := by rw [hnb.out]; simp
      obtain ⟨gk', o, rfl, hg⟩ := hr.get (i := 0) (by rw [List.length_map]; exact hL0)
      rw [List.getElem_map] at hg
      obtain ⟨sq, sq4, sq8, hnq⟩ := hk _ (List.getElem_mem hL0)
      have hg' : wr.cell? ⟨gk', o, none⟩ = some (.pointer (some ⟨L[0].1, 0, none⟩)) := hg
      obtain ⟨kb, hkb⟩ : ∃ kb, kb = L[0].1 := ⟨_, rfl⟩
      rw [← hkb] at hg' hnq
      have HNQ := hide hnq
      have n0 : (0 : Int) < (nb : Int) := by omega
      have e1 : IntKind.i64.wrap ((m : Int) + 1) = (m : Int) + 1 := by rw [IntKind.wrap_i64]; omega
      have hdz : decide (gk + 1 = 0) = false := decide_eq_false (Nat.succ_ne_zero _)
      have HM := hide hm
      clear hN hr hk hys hsL hnb hnbL hg hnq hkb hm d0 d2 he hs8 hs2
      go_wp2_with (go_at_call 39; refine (leafI_calls (fun y => y = T) (gk + 1) b ys _ _ hnd0.out (fun _ => hs0)).mono ?_; rintro _ w1 ⟨rfl, hw1⟩; obtain rfl : wr = w1 := hw1.symm; rw [hdz])
      go_roundg gk
      case measure => omega
      case rel => exact ⟨m + 1, kb, _, sq, by first | rfl | congr 1, rfl, by have := HM.out; omega, ⟨HNQ.out, sq8, fun _ => by omega⟩, hu⟩
end Go.Proofs.Ytcaccbjolgjmkaa

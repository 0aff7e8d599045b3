/-
  appendTo and Slice of a counted tree of entries, as their text runs.
-/
import Derived.Test.YtnokokhbcfkifaaGreatDoorTrAskEG
import Derived.Lib.MinMax
namespace Go.Proofs.YtnokokhbcfkifaaGreatDoor
open Go.ChangeShapes Go.WideShapes Go.ChangeAt Go.RowKit
set_option linter.unusedVariables false
set_option maxRecDepth 100000
attribute [local go_sem ↓] Go.wp_at_zero Go.wp_at_succ

/-- The elements from one place up to another. -/
def cutL {α : Type} (l : List α) (f t : Int) : List α := (l.take t.toNat).drop f.toNat
theorem cutL_norm {α : Type} (l : List α) (f t : Int) : cutL l (max f 0) (min t (l.length : Int)) = cutL l f t := by
  unfold cutL
  have h1 : (max f 0).toNat = f.toNat := by omega
  have h2 : l.take (min t (l.length : Int)).toNat = l.take t.toNat := by
    rcases Int.lt_or_le t (l.length : Int) with h | h
    · rw [Int.min_eq_left (by omega)]
    · rw [Int.min_eq_right h, Int.toNat_natCast, List.take_of_length_le (Nat.le_refl _), List.take_of_length_le (by omega)]
  rw [h1, h2]
theorem cutL_none {α : Type} (l : List α) (f t : Int) (h : t ≤ f) : cutL l f t = [] := by
  unfold cutL
  exact List.drop_eq_nil_of_le (by rw [List.length_take]; omega)
theorem cutL_append {α : Type} (a b : List α) (f t : Int) : cutL (a ++ b) f t = cutL a f t ++ cutL b (f - a.length) (t - a.length) := by
  unfold cutL
  have e1 : (t - (a.length : Int)).toNat = t.toNat - a.length := by omega
  have e2 : (f - (a.length : Int)).toNat = f.toNat - a.length := by omega
  rw [e1, e2, List.take_append, List.drop_append, List.length_take]
  congr 1
  by_cases h : a.length ≤ t.toNat
  · rw [Nat.min_eq_right h]
  · rw [show t.toNat - a.length = 0 by omega]
    simp
theorem cutL_nat {α : Type} (l : List α) (f t : Nat) : cutL l f t = (l.take t).drop f := by unfold cutL; simp
theorem cutL_nil {α : Type} (f t : Int) : cutL ([] : List α) f t = [] := by unfold cutL; simp

/-- What appendTo tells. -/
def AppPost (w0 : World) (l : List ET) (e : Ending) (w' : World) : Prop := ∃ v', e = .returned v' ∧ OwnV 51 eC w' w0.heap.size v' l ∧ Up w0 w'
set_option maxHeartbeats 4000000 in
theorem appendTo_none (X : Nat → Prop) (h b s : Nat) (ys l : List ET) (v : Value) (f t : Int) (w0 w : World) (hN : Nd eC X w0 h b ys s) (hu : Up w0 w) (ho : OwnV 51 eC w w0.heap.size v l) (hft : min t (ys.length : Int) ≤ max f 0) :
    Calls Tryz.prog 90 #[.pointer (some ⟨b, 0, none⟩), v, .int .i64 f, .int .i64 t] w fun e w' => AppPost w0 (l ++ cutL ys f t) e w' := by
  have hc : cutL ys f t = [] := by rw [← cutL_norm]; exact cutL_none _ _ _ hft
  rw [hc, List.append_nil]
  obtain ⟨ve, vb, ⟨_, d0, d1, d2⟩, _⟩ := nd_iff.1 hN
  replace d2 := hu.cell d2
  obtain ⟨a1, n1, c1, rfl, -, -⟩ := ho.sliceN
  have HO := hide ho
  have HU := hide hu
  obtain ⟨F, hF⟩ : ∃ F, F = max f 0 := ⟨_, rfl⟩
  obtain ⟨G, hG⟩ : ∃ G, G = min t (ys.length : Int) := ⟨_, rfl⟩
  have hF' := hF.symm
  have hG' := hG.symm
  rw [← hF, ← hG] at hft
  have g1 : decide (F ≥ G) = true := decide_eq_true hft
  clear hN hu ho hc d0 d1 hF hG
  go_enter Tryz.func90, Tryz.ntmps90
  go_wp2_with fail
  go_quiet (fail)
  have HU2 := hide (HU.out.drewN nq)
  have HO2 := hide (HO.out.up ((Up.refl w).drewN nq))
  go_wp2
  go_ret
  exact ⟨_, rfl, HO2.out, HU2.out⟩
set_option maxHeartbeats 4000000 in
theorem appendTo_leaf (X : Nat → Prop) (b s : Nat) (ys l : List ET) (v : Value) (f t : Int) (w0 w : World) (hN : Nd eC X w0 0 b ys s) (hu : Up w0 w) (ho : OwnV 51 eC w w0.heap.size v l) (hl : l.length + ys.length ≤ 1000000) (hft : max f 0 < min t (ys.length : Int)) :
    Calls Tryz.prog 90 #[.pointer (some ⟨b, 0, none⟩), v, .int .i64 f, .int .i64 t] w fun e w' => AppPost w0 (l ++ cutL ys f t) e w' := by
  rw [← cutL_norm]
  obtain ⟨F, hF⟩ : ∃ F : Nat, (F : Int) = max f 0 := ⟨(max f 0).toNat, by omega⟩
  obtain ⟨G, hG⟩ : ∃ G : Nat, (G : Int) = min t (ys.length : Int) := ⟨(min t (ys.length : Int)).toNat, by omega⟩
  rw [← hF, ← hG] at hft ⊢
  rw [cutL_nat]
  have hFG : F < G := by omega
  have hGy : G ≤ ys.length := by omega
  have HND := hide (hN.chg (Chg.of_up (C := X) hu))
  obtain ⟨ve, vb, ⟨_, d0, d1, d2⟩, hr, _, _⟩ := hN
  replace d0 := hu.cell d0
  replace d2 := hu.cell d2
  replace hr := hr.up hu
  obtain ⟨ae, ne, ce, rfl, hne, hce⟩ := hr.sliceN
  have hrs : RdV eC X w (.slice (if ce = F then ae else Option.map (fun x => x.add (F * 2)) ae) (G - F) (ce - F)) ((ys.take G).drop F) := by
    have := (hr.take (m := G) (by rw [hne.out]; exact hGy)).drop (m := F) (by omega)
    exact this
  have hcF : ¬ (ce = F) := by have := hce.out; have := hne.out; omega
  rw [if_neg hcF] at hrs
  obtain ⟨A, hA⟩ : ∃ A, Option.map (fun x => x.add (F * 2)) ae = A := ⟨_, rfl⟩
  rw [hA] at hrs
  obtain ⟨a1, n1, c1, rfl, -, -⟩ := ho.sliceN
  have HRS := hide hrs
  have HO := hide ho
  have HU := hide hu
  have hF' := hF.symm
  have hG' := hG.symm
  have g1 : decide ((F : Int) ≥ (G : Int)) = false := decide_eq_false (by omega)
  have g1' : ¬ ((F : Int) ≥ (G : Int)) := by omega
  have g2 : decide (G ≤ F) = false := decide_eq_false (by omega)
  have b1 : (0 : Int) ≤ (F : Int) := by omega
  have b2 : (F : Int) ≤ (G : Int) := by omega
  have b3 : (G : Int) ≤ (ce : Int) := by have := hce.out; have := hne.out; omega
  have hdl : ((ys.take G).drop F).length ≤ ys.length := by rw [List.length_drop, List.length_take]; omega
  have HDL := hide (show l.length + ((ys.take G).drop F).length ≤ 10000000 by omega)
  have hdz : decide ((0 : Nat) = 0) = true := by decide
  clear hr hrs ho hu hF hG hne hce d1 hdl hl hGy hft
  go_enter Tryz.func90, Tryz.ntmps90
  go_wp2_with fail
  go_quiet (fail)
  have HU2 := hide (HU.out.drewN nq)
  have HO2 := hide (HO.out.up ((Up.refl w).drewN nq))
  have HRS2 := hide (HRS.out.up ((Up.refl w).drewN nq))
  have HND2 := hide (HND.out.chg (Chg.of_up (C := X) ((Up.refl w).drewN nq)))
  have d0' := ((Up.refl w).drewN nq).cell d0
  generalize w.drewN nq = W at *
  go_wp2_with fail
  refine (leafE_calls X 0 b ys _ _ HND2.out (fun h => absurd rfl h)).mono ?_
  rintro _ w1 ⟨rfl, hw1⟩
  obtain rfl : W = w1 := hw1.symm
  simp only [hdz]
  go_wp2_with (at_builtin; refine append_rdV elemE rfl _ _ rfl w0.heap.size _ _ l ((ys.take G).drop F) rfl rfl HO2.out HRS2.out HDL.out HU2.out.size ?_)
  intro v' w' ho' hg' _
  have hu' : Hid (Up w0 w') := Below.grown HU2.out.below hg' HU2.out.size (fun k hk => (HO2.out.lt k hk).1)
  obtain ⟨a3, n3, c3, rfl, -, -⟩ := ho'.sliceN
  replace ho' := hide ho'
  clear hg'
  go_wp2
  go_ret
  exact ⟨_, rfl, ho'.out, hu'.out⟩
set_option maxHeartbeats 8000000 in
theorem appendTo_inner (X : Nat → Prop) (h b s : Nat) (ys l : List ET) (v : Value) (f t : Int) (w0 w : World)
    (ih : ∀ (b s : Nat) (ys l : List ET) (v : Value) (f t : Int) (w : World), Nd eC X w0 h b ys s → (h ≠ 0 → 2 ≤ s) → Up w0 w → OwnV 51 eC w w0.heap.size v l → l.length + ys.length ≤ 1000000 →
      Calls Tryz.prog 90 #[.pointer (some ⟨b, 0, none⟩), v, .int .i64 f, .int .i64 t] w fun e w' => AppPost w0 (l ++ cutL ys f t) e w')
    (hN : Nd eC X w0 (h + 1) b ys s) (hs : 2 ≤ s) (hu : Up w0 w) (ho : OwnV 51 eC w w0.heap.size v l) (hl : l.length + ys.length ≤ 1000000) (hft : max f 0 < min t (ys.length : Int)) :
    Calls Tryz.prog 90 #[.pointer (some ⟨b, 0, none⟩), v, .int .i64 f, .int .i64 t] w fun e w' => AppPost w0 (l ++ cutL ys f t) e w' := by
  rw [← cutL_norm]
  obtain ⟨F, hF⟩ : ∃ F : Nat, (F : Int) = max f 0 := ⟨(max f 0).toNat, by omega⟩
  obtain ⟨G, hG⟩ : ∃ G : Nat, (G : Int) = min t (ys.length : Int) := ⟨(min t (ys.length : Int)).toNat, by omega⟩
  rw [← hF, ← hG] at hft ⊢
  have hFG : F < G := by omega
  have hGy : G ≤ ys.length := by omega
  have HND := hide (hN.chg (Chg.of_up (C := X) hu))
  obtain ⟨ve, vb, L, ⟨_, d0, d1, d2⟩, he, hr, hk, hys, hsL⟩ := hN
  have HY := hide hys
  have d1w := hide d1
  replace d1 := hu.cell d1
  replace d2 := hu.cell d2
  have hL0 : s ≠ 0 := by omega
  obtain ⟨ab, nb, cb, rfl, hnb, -⟩ := hr.sliceN
  have hnbL : nb = L.length := by rw [hnb.out]; simp
  have HR := hide hr
  have HK : Hid (Kids eC X w0 h L) := hk
  obtain ⟨a1, n1, c1, rfl, -, -⟩ := ho.sliceN
  have HO := hide ho
  have HU := hide hu
  have HNB := hide hnbL
  have hy6 : ys.length ≤ 1000000 := by omega
  have HLY := hide hl
  have hF' := hF.symm
  have hG' := hG.symm
  have g1 : decide ((F : Int) ≥ (G : Int)) = false := decide_eq_false (by omega)
  have g1' : ¬ ((F : Int) ≥ (G : Int)) := by omega
  have g2 : decide (G ≤ F) = false := decide_eq_false (by omega)
  have hnb6 : nb ≤ 1000000 := by
    have h1 := flat_ge (c := 1) (L := L) (fun q hq => Nat.le_trans (by decide) (HK.out.some q hq))
    rw [hnbL]; rw [hys] at hy6; omega
  have hF6 : F ≤ 1000000 := by omega
  have hG6 : G ≤ 1000000 := by omega
  have hdz : decide (h + 1 = 0) = false := decide_eq_false (Nat.succ_ne_zero _)
  clear hr hk ho hu hF hG hnb hnbL hl hGy hft d0 he hys hsL hy6
  go_enter Tryz.func90, Tryz.ntmps90
  go_wp2_with fail
  go_quiet (fail)
  have HU2 := hide (HU.out.drewN nq)
  have HO2 := hide (HO.out.up ((Up.refl w).drewN nq))
  have HND2 := hide (HND.out.chg (Chg.of_up (C := X) ((Up.refl w).drewN nq)))
  have d1' := ((Up.refl w).drewN nq).cell d1
  generalize w.drewN nq = W at *
  go_wp2_with fail
  refine (leafE_calls X (h + 1) b ys _ _ HND2.out (fun _ => hL0)).mono ?_
  rintro _ w1 ⟨rfl, hw1⟩
  obtain rfl : W = w1 := hw1.symm
  simp only [hdz]
  clear d1 d2 g1 g1' g2
  go_wp2_with fail
  go_loopw [1, 2, 3, 41] (fun lv fv tv iv wr => ∃ (i : Nat) (a : Option Addr) (n c : Nat) (F' G' : Int), i ≤ nb ∧ lv = .slice a n c ∧ fv = .int .i64 F' ∧ tv = .int .i64 G' ∧ iv = .int .i64 i ∧ (-1000000 ≤ F' ∧ F' ≤ 1000000) ∧ (-1000000 ≤ G' ∧ G' ≤ 1000000) ∧ Hid (F' = (F : Int) - (((L.take i).flatMap (·.2)).length : Int)) ∧ Hid (G' = (G : Int) - (((L.take i).flatMap (·.2)).length : Int)) ∧ Hid (OwnV 51 eC wr w0.heap.size (.slice a n c) (l ++ cutL ((L.take i).flatMap (·.2)) F G)) ∧ Hid (Up w0 wr)) (fun _ _ _ iv _ => nb - (intOf iv).toNat)
  case atStart => exact ⟨0, _, _, _, F, G, Nat.zero_le _, rfl, rfl, rfl, rfl, by omega, by omega, by unfold Hid; simp, by unfold Hid; simp, by unfold Hid; simpa [cutL_nil] using HO2.out, HU2⟩
  case round =>
    obtain ⟨i, a, n, c, F', G', hi, rfl, rfl, rfl, rfl, hFb, hGb, hF2, hG2, ho, hu⟩ := hrel
    by_cases hlt : i < nb
    · have hil : i < L.length := by rw [← HNB.out]; exact hlt
      obtain ⟨gb, ob, rfl, hg⟩ := HR.out.get (i := i) (by rw [List.length_map]; exact hil)
      rw [List.getElem_map] at hg
      replace hg := hu.out.cell hg
      obtain ⟨sq, sq4, sq8, hnq⟩ := HK.out _ (List.getElem_mem hil)
      obtain ⟨ve', vb', ⟨_, _, _, e2⟩, _⟩ := nd_iff.1 hnq
      have HNQ := hide hnq
      have E2 := hide e2
      have hcat := cat_le L i hil
      have hcat2 := cat_le2 L (i + 1) (n := (L.flatMap (·.2)).length) (Nat.le_refl _)
      have hylen := congrArg List.length HY.out
      have hyl := HLY.out
      have htk : (L.take (i + 1)).flatMap (·.2) = (L.take i).flatMap (·.2) ++ L[i].2 := by
        rw [List.take_add_one, List.getElem?_eq_getElem hil, List.flatMap_append]; simp
      have hcut : cutL ((L.take (i + 1)).flatMap (·.2)) F G = cutL ((L.take i).flatMap (·.2)) F G ++ cutL L[i].2 F' G' := by
        rw [htk, cutL_append, ← hF2.out, ← hG2.out]
      have hcl : (cutL ((L.take i).flatMap (·.2)) (F : Int) G).length ≤ ((L.take i).flatMap (·.2)).length := by
        unfold cutL; rw [List.length_drop, List.length_take]; omega
      have hlen : (l ++ cutL ((L.take i).flatMap (·.2)) (F : Int) G).length + L[i].2.length ≤ 1000000 := by rw [List.length_append]; omega
      obtain ⟨kb, hkb⟩ : ∃ kb, kb = L[i].1 := ⟨_, rfl⟩
      obtain ⟨kl, hkl⟩ : ∃ kl, kl = L[i].2 := ⟨_, rfl⟩
      obtain ⟨kn, hkn⟩ : ∃ kn, kn = kl.length := ⟨_, rfl⟩
      rw [← hkb] at hg HNQ E2
      rw [← hkl] at HNQ E2 hcut hlen hcat
      rw [← hkn] at E2 hcat
      have hkn6 : kn ≤ 1000000 := by omega
      have HCUT := hide hcut
      have HLEN := hide hlen
      have HCAT := hide hcat
      have i0 : (0 : Int) ≤ (i : Int) := by omega
      have i1 : (i : Int) < (nb : Int) := by omega
      have w1 : IntKind.i64.wrap (F' - (kn : Int)) = F' - (kn : Int) := by rw [IntKind.wrap_i64]; omega
      have w2 : IntKind.i64.wrap (G' - (kn : Int)) = G' - (kn : Int) := by rw [IntKind.wrap_i64]; omega
      have w3 : IntKind.i64.wrap ((i : Int) + 1) = (i : Int) + 1 := by rw [IntKind.wrap_i64]; omega
      have hb1 : -1000000 ≤ F' - (kn : Int) := by have := hF2.out; omega
      have hb2 : -1000000 ≤ G' - (kn : Int) := by have := hG2.out; omega
      unfold pE at hg
      clear hkb hkl hkn hcat hcat2 hylen hyl htk hcut hcl hlen hnq e2
      go_wp2_with fail
      refine (ih kb sq kl _ _ F' G' wr HNQ.out (fun _ => by omega) hu.out ho.out HLEN.out).mono ?_
      rintro _ w4 ⟨v4, rfl, ho4, hu4⟩
      rw [List.append_assoc, ← HCUT.out] at ho4
      obtain ⟨a4, n4, c4, rfl, -, -⟩ := ho4.sliceN
      have HO4 := hide ho4
      have HU4 := hide hu4
      have e2 := hu4.cell E2.out
      clear ho4 hu4
      dsimp only
      go_wp2_with fail
      go_quiet (fail)
      have HU5 := hide (HU4.out.drewN nq)
      have HO5 := hide (HO4.out.up ((Up.refl w4).drewN nq))
      generalize w4.drewN nq = W4 at *
      go_wp2
      go_roundw
      case rel => exact ⟨i + 1, _, _, _, F' - kn, G' - kn, by omega, rfl, by first | rfl | congr 1, by first | rfl | congr 1, by first | rfl | congr 1, ⟨hb1, by omega⟩, ⟨hb2, by omega⟩, by unfold Hid; rw [← HCAT.out, hF2.out]; omega, by unfold Hid; rw [← HCAT.out, hG2.out]; omega, HO5, HU5⟩
      case measure => simp [intOf]; omega
    · obtain rfl : nb = i := by omega
      have hlt' : ¬ (nb : Int) < (nb : Int) := by omega
      go_wp2
      go_ret
      refine ⟨_, rfl, ?_, hu.out⟩
      have := ho.out
      rw [List.take_of_length_le (by rw [← HNB.out]; exact Nat.le_refl _), ← HY.out] at this
      exact this
theorem appendTo_calls (X : Nat → Prop) (w0 : World) : ∀ (h b s : Nat) (ys l : List ET) (v : Value) (f t : Int) (w : World), Nd eC X w0 h b ys s → (h ≠ 0 → 2 ≤ s) → Up w0 w → OwnV 51 eC w w0.heap.size v l → l.length + ys.length ≤ 1000000 →
      Calls Tryz.prog 90 #[.pointer (some ⟨b, 0, none⟩), v, .int .i64 f, .int .i64 t] w fun e w' => AppPost w0 (l ++ cutL ys f t) e w' := by
  intro h
  induction h with
  | zero =>
    intro b s ys l v f t w hN _ hu ho hl
    by_cases hft : max f 0 < min t (ys.length : Int)
    · exact appendTo_leaf X b s ys l v f t w0 w hN hu ho hl hft
    · exact appendTo_none X 0 b s ys l v f t w0 w hN hu ho (by omega)
  | succ h ih =>
    intro b s ys l v f t w hN hs hu ho hl
    by_cases hft : max f 0 < min t (ys.length : Int)
    · exact appendTo_inner X h b s ys l v f t w0 w ih hN (hs (Nat.succ_ne_zero _)) hu ho hl hft
    · exact appendTo_none X (h + 1) b s ys l v f t w0 w hN hu ho (by omega)
theorem tslice_calls (T h n : Nat) (xs : List ET) (f t : Int) (w : World) (tr : TrE w T xs h n) (hx : xs.length ≤ 100000) :
    Calls Tryz.prog 71 #[.pointer (some ⟨T, 0, none⟩), .int .i64 f, .int .i64 t] w fun e w' => AppPost w (cutL xs f t) e w' := by
  obtain ⟨b, ⟨c0, _, _, _⟩, s, hnd, hs8, hs2⟩ := tr.top
  have HA := hide (appendTo_calls (fun y => y = T) w h b s xs [] (.slice none 0 0) f t w hnd hs2 (Up.refl _) (OwnV.nil _ _ _ _) (by simp; omega))
  unfold pE at c0
  clear tr hnd
  go_enter Tryz.func71, Tryz.ntmps71
  go_wp2_with fail
  refine HA.out.mono ?_
  rintro _ w1 ⟨v1, rfl, ho, hu⟩
  obtain ⟨a1, n1, c1, rfl, -, -⟩ := ho.sliceN
  have HO := hide ho
  have HU := hide hu
  clear ho hu
  dsimp only
  go_wp2
  go_ret
  exact ⟨_, rfl, by simpa using HO.out, HU.out⟩
end Go.Proofs.YtnokokhbcfkifaaGreatDoor

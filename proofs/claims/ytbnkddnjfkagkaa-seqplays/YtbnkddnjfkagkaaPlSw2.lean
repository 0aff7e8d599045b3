/-
  Swap of a list with marks, as its text runs.
-/
import Derived.Test.YtbnkddnjfkagkaaPlMov
import Derived.Test.YtbnkddnjfkagkaaPlEnt
namespace Go.Proofs.Ytbnkddnjfkagkaa
open Go.ChangeShapes Go.WideShapes Go.ChangeAt Go.RowKit
set_option linter.unusedVariables false
set_option maxRecDepth 100000
attribute [local go_sem ↓] Go.wp_at_zero Go.wp_at_succ

variable {Y : Nat → Prop} {p T M : Nat} {xs zs : List Int} {h n h' n' : Nat} {f f' : Int → Option Nat} {w w' : World}
set_option maxHeartbeats 4000000 in
theorem plswap_ok (i k : Nat) (ix : PlIx Y p T M xs h n f w) (hi : i < xs.length) (hk : k < xs.length) (hik : i ≠ k) (hx : xs.length ≤ 1000) (hn : n ≤ 9000000) :
    Calls Try.prog 57 #[.pointer (some ⟨p, 0, none⟩), .int .i64 i, .int .i64 k] w fun e w' => e = .returned (.int .i64 0) ∧ PlDone Y p T M (swL xs i k) n (16 * bitsN (xs.length + 1)) w w' := by
  have H1 := hide (isPlace_calls (i : Int) ix true (by symm; exact decide_eq_true ⟨by omega, by omega⟩))
  have H2 := hide (isPlace_calls (k : Int) ix true (by symm; exact decide_eq_true ⟨by omega, by omega⟩))
  have HA1 := hide (plat_ok i ix hi (by omega))
  have HA2 : Hid (∀ w', Up w w' → Calls Try.prog 55 #[.pointer (some ⟨p, 0, none⟩), .int .i64 k] w' fun e w'' => e = .returned (.tuple #[.int .i64 (xs.getD k 0), .bool true]) ∧ Up w' w'') := fun w' hu => plat_ok k (ix.up hu) hk (by omega)
  have HOK := hide (ix.ok.swap hi hk hik)
  have hfa := ix.ok.tell hi
  have hfb := ix.ok.tell hk
  have hwa := ix.ok.wf _ (List.getElem_mem hi)
  have hwb := ix.ok.wf _ (List.getElem_mem hk)
  have hta := ix.ok.le_top (k := i + 1) (by omega)
  have htb := ix.ok.le_top (k := k + 1) (by omega)
  have hab : xs[i] ≠ xs[k] := fun e => hik (nodup_at ix.ok.nd e)
  rw [← getD_in xs hi] at hfa hwa hab
  rw [← getD_in xs hk] at hfb hwb hab
  have HSW : Hid (swL xs i k = setL (xs.getD i 0) (setL (xs.getD k 0) xs i) k) := rfl
  generalize xs.getD i 0 = a at *
  generalize xs.getD k 0 = b at *
  generalize mkN f xs (i + 1) = ma at *
  generalize mkN f xs (k + 1) = mb at *
  unfold topM at hta htb
  have HIX := hide ix
  have HC0 := hide ix.c0
  have hne : ((i : Int) == (k : Int)) = false := by simp; omega
  have hne2 : ¬ (i = k) := hik
  clear ix
  go_enter Try.func57, Try.ntmps57
  go_wp2_with fail
  refine H1.out.mono ?_
  rintro _ w1 ⟨rfl, hw1⟩
  subst hw1
  dsimp only
  go_wp2_with fail
  refine H2.out.mono ?_
  rintro _ w2 ⟨rfl, hw2⟩
  subst hw2
  dsimp only
  go_wp2_with fail
  refine HA1.out.mono ?_
  rintro _ w3 ⟨rfl, hu3⟩
  replace hu3 := hide hu3
  dsimp only
  go_wp2_with fail
  refine (HA2.out _ hu3.out).mono ?_
  rintro _ w4 ⟨rfl, hu4⟩
  have hu := hide (hu3.out.trans hu4)
  clear hu4 hu3
  have IX4 := hide (HIX.out.up hu.out)
  have c0 := IX4.out.c0
  have HS1 := hide (setAtM_ok (SY p M Y) T h n i b xs w4 IX4.out.sT IX4.out.sl IX4.out.tr hi (by omega) (by omega))
  have HLG := hide IX4.out.tr.tr.logs.1
  dsimp only
  go_wp2_with fail
  refine HS1.out.mono ?_
  rintro _ w5 ⟨rfl, h5, k5, t5, hk51, hk52, hc5⟩
  have c5 := hc5.cell c0 IX4.out.pT
  have hl5 : (setL b xs i).length = xs.length := setL_len _ _ _
  have HLG5 := hide t5.tr.logs.1
  have hsl5 : ∀ y, SY p M Y y → y < w5.heap.size := fun y hy => Nat.lt_of_lt_of_le (IX4.out.sl y hy) hc5.size
  have hb8 := bitsN_le (m := xs.length + 1) (by omega)
  have hlg := HLG.out
  have HS2 := hide (setAtM_ok (SY p M Y) T h5 (n + k5) k a (setL b xs i) w5 IX4.out.sT hsl5 t5 (by omega) (by omega) (by omega))
  rw [← HSW.out] at HS2
  have HC5 := hide hc5
  clear hc5 t5 hsl5 c0 hlg
  dsimp only
  go_wp2_with fail
  refine HS2.out.mono ?_
  rintro _ w6 ⟨rfl, h6, k6, t6, hk61, hk62, hc6⟩
  have HC6 := hide (HC5.out.trans hc6 (fun _ _ h => h))
  have c6 := HC6.out.cell IX4.out.c1 IX4.out.pT
  have HM6 := hide (IX4.out.mp.chg HC6.out IX4.out.MT)
  have HT6 := hide t6
  clear t6 hc6 HC5 c5
  dsimp only
  go_wp2_with fail
  obtain ⟨v1, st1, w7, hen1, hes1, hm7, hc7⟩ := HM6.out.entry (s' := mb) hwa hfa htb (by omega)
  have hlb : ∀ q, (Instr.lookup 82 (.map (some M)) (.int .i64 b) false).run Try.prog (w6.drewN q) = .ok (.int .u64 mb) (w6.drewN q) := fun q => (HM6.out.up ((Up.refl w6).drewN q)).look_it hwb hfb
  have hla : ∀ q, (Instr.lookup 82 (.map (some M)) (.int .i64 a) false).run Try.prog (w6.drewN q) = .ok (.int .u64 ma) (w6.drewN q) := fun q => (HM6.out.up ((Up.refl w6).drewN q)).look_it hwa hfa
  obtain ⟨v2, st2, w8, hen2, hes2, hm8, hc8⟩ := hm7.entry (x := b) (s := mb) (s' := ma) hwb (by rw [upd_other _ _ (fun e => hab e.symm)]; exact hfb) hta (by omega)
  have c7 := hc7.cell c6 IX4.out.pM
  have HM8 := hide hm8
  have HC8 := hide (hc7.trans hc8 (fun _ _ h => h))
  replace hen1 := hen1 1
  replace hes1 := hes1 1
  replace hlb := hlb 1
  replace hla := hla 1
  replace hen2 := hen2 1
  replace hes2 := hes2 1
  replace c7 : (w7.drewN 1).cell? ⟨p, 1, none⟩ = some (.map (some M)) := c7
  replace c6 : (w6.drewN 1).cell? ⟨p, 1, none⟩ = some (.map (some M)) := c6
  have HD6 : Hid (w6.drew = w6.drewN 1) := rfl
  clear hm7 hm8 hc7 hc8
  rw [← HD6.out] at hen1 hes1 hlb hla c6
  obtain ⟨W7, hW7⟩ : ∃ W7, W7 = w7.drewN 1 := ⟨_, rfl⟩
  obtain ⟨W8, hW8⟩ : ∃ W8, W8 = w8.drewN 1 := ⟨_, rfl⟩
  rw [← hW7] at hes1 hen2 hes2 c7
  rw [← hW8] at hes2
  replace hW7 := hide hW7
  replace hW8 := hide hW8
  go_region
  clear hen1 hes1 hlb hla hen2 hes2 c6 c7
  go_wp2
  go_ret
  have hu8 : Up w8 W8 := by rw [hW8.out]; exact (Up.refl _).drewN 1
  have hT8 : TrM (SY p M Y) W8 T (swL xs i k) h6 (n + k5 + k6) := ((HT6.out.chg (HC8.out.mono (fun y _ e => .inl (.inr e))) IX4.out.sT)).up hu8
  have hz8 := Nat.le_trans HC6.out.size (Nat.le_trans HC8.out.size hu8.size)
  have hl5' := HLG5.out
  rw [hl5] at hl5'
  refine ⟨rfl, h6, k5 + k6, _, ⟨?_, ?_, ?_, ?_, HOK.out, IX4.out.pT, IX4.out.MT, IX4.out.pM, IX4.out.yT, IX4.out.yM, IX4.out.yp, fun g hg => ?_⟩, ?_, ?_⟩
  · exact hu8.cell (HC8.out.cell (HC6.out.cell IX4.out.c0 IX4.out.pT) IX4.out.pM)
  · exact hu8.cell (HC8.out.cell (HC6.out.cell IX4.out.c1 IX4.out.pT) IX4.out.pM)
  · rw [← Nat.add_assoc]; exact hT8
  · rw [swL_len]; exact HM8.out.up hu8
  · exact Nat.lt_of_lt_of_le (IX4.out.yl g hg) hz8
  · have := HLG.out; omega
  · exact (((Chg.of_up (C := TM T M) hu.out).trans (HC6.out.mono (D := TM T M) (fun _ _ e => .inl e)) (fun _ _ h => h)).trans (HC8.out.mono (D := TM T M) (fun _ _ e => .inr e)) (fun _ _ h => h)).andUp hu8
/-- Swap of a place with itself, or of two. -/
theorem plswap_all (i k : Nat) (ix : PlIx Y p T M xs h n f w) (hi : i < xs.length) (hk : k < xs.length) (hx : xs.length ≤ 1000) (hn : n ≤ 9000000) :
    Calls Try.prog 57 #[.pointer (some ⟨p, 0, none⟩), .int .i64 i, .int .i64 k] w fun e w' => e = .returned (.int .i64 0) ∧ PlDone Y p T M (swL xs i k) n (16 * bitsN (xs.length + 1)) w w' := by
  by_cases hik : i = k
  · subst hik
    have H1 := hide (isPlace_calls (i : Int) ix true (by symm; exact decide_eq_true ⟨by omega, by omega⟩))
    rw [swL_self xs hi]
    have hdone : Hid (PlDone Y p T M xs n (16 * bitsN (xs.length + 1)) w w) := ⟨h, 0, f, ix, Nat.zero_le _, Chg.refl _ _⟩
    clear ix
    go_enter Try.func57, Try.ntmps57
    go_wp2_with fail
    refine H1.out.mono ?_
    rintro _ w1 ⟨rfl, hw1⟩
    subst hw1
    dsimp only
    go_wp2_with fail
    refine H1.out.mono ?_
    rintro _ w2 ⟨rfl, hw2⟩
    subst hw2
    dsimp only
    go_wp2
    go_ret
    exact ⟨rfl, hdone.out⟩
  · exact plswap_ok i k ix hi hk hik hx hn
end Go.Proofs.Ytbnkddnjfkagkaa

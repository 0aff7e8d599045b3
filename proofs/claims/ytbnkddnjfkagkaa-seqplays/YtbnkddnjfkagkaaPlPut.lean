/-
  A list with marks is changed: freeMark, InsertAt, EraseAt, as their text runs.
-/
import Derived.Test.YtbnkddnjfkagkaaPlSpr
namespace Go.Proofs.Ytbnkddnjfkagkaa
open Go.ChangeShapes Go.WideShapes Go.ChangeAt Go.RowKit
set_option linter.unusedVariables false
set_option maxRecDepth 100000
attribute [local go_sem ↓] Go.wp_at_zero Go.wp_at_succ

theorem step_mapUpdate {P : Program} {ops : Array Oper} {o : Oper} {a : Act} {w : World} {K : Act → World → Prop} {Q : Exit → Act → World → Prop} {E : Prop}
    (hg : o.guard = none) (m x v : Operand) (t : TypeId) (hop : o.op = .mapUpdate t m x v)
    (vm vx vv : Value) (hm : a.eval m = vm) (hx : a.eval x = vx) (hv : a.eval v = vv) {w' : World} (hr : (Instr.mapUpdate t vm vx vv).run P w = .ok () w') (hK : K (a.put o.dst undef) w') :
    if Region.wanted o (yielded ops a.tmps) = true then Oper.wp P o a w K Q else E := by
  have hw : Region.wanted o (yielded ops a.tmps) = true := by simp [Region.wanted, hg]
  rw [if_pos hw]
  unfold Oper.wp
  simp [execOp, hop, hm, hx, hv, hr, Result.andThen]
  exact hK
variable {Y : Nat → Prop} {p T M : Nat} {xs zs : List Int} {h n h' n' : Nat} {f f' : Int → Option Nat} {w w' : World}
/-- What freeMark tells: a mark between those at i. -/
def FrePost (Y : Nat → Prop) (p T M : Nat) (xs : List Int) (h n i : Nat) (w : World) (e : Ending) (w' : World) : Prop :=
  ∃ (m : Nat) (f' : Int → Option Nat), e = .returned (.int .u64 m) ∧ PlIx Y p T M xs h n f' w' ∧ mkN f' xs i < m ∧ m < mkN f' xs (i + 1) ∧ Chg (fun y => y = M) w w'
set_option maxHeartbeats 4000000 in
/-- .. where there is room. -/
theorem freeMark_tail (i : Nat) (ix : PlIx Y p T M xs h n f w) (hi : i ≤ xs.length) (hx : xs.length ≤ 1000) (hr : mkN f xs i + 2 ≤ mkN f xs (i + 1)) :
    ∃ lo hg m : Nat, lo = mkN f xs i ∧ hg = mkN f xs (i + 1) ∧ lo < m ∧ m < hg ∧ IntKind.u64.wrap ((hg : Int) - (lo : Int)) = ((hg - lo : Nat) : Int) ∧ IntKind.u64.wrap (((hg - lo) / 2 : Nat) : Int) = (((hg - lo) / 2 : Nat) : Int) ∧ IntKind.u64.wrap ((lo : Int) + (((hg - lo) / 2 : Nat) : Int)) = (m : Int) := by
  have ht := ix.ok.le_top (k := i + 1) (by omega)
  unfold topM at ht
  refine ⟨_, _, mkN f xs i + (mkN f xs (i + 1) - mkN f xs i) / 2, rfl, rfl, by omega, by omega, ?_, ?_, ?_⟩
  · rw [IntKind.wrap_u64]; omega
  · exact wrap_u64 (by omega) (by omega)
  · rw [IntKind.wrap_u64]; omega
set_option maxHeartbeats 4000000 in
theorem freeMark_calls (i : Nat) (ix : PlIx Y p T M xs h n f w) (hi : i ≤ xs.length) (hx : xs.length ≤ 1000) :
    Calls Try.prog 65 #[.pointer (some ⟨p, 0, none⟩), .int .i64 i] w fun e w' => FrePost Y p T M xs h n i w e w' := by
  obtain ⟨lo, hlo⟩ : ∃ lo : Nat, lo = mkN f xs i := ⟨_, rfl⟩
  obtain ⟨hg, hhg⟩ : ∃ hg : Nat, hg = mkN f xs (i + 1) := ⟨_, rfl⟩
  have hlt : lo < hg := by rw [hlo, hhg]; exact ix.ok.lt (by omega) (by omega)
  have ht := ix.ok.le_top (k := i + 1) (by omega)
  unfold topM at ht
  rw [← hhg] at ht
  obtain ⟨D, hD⟩ : ∃ D : Nat, D = hg - lo := ⟨_, rfl⟩
  have e4 : IntKind.u64.wrap ((hg : Int) - (lo : Int)) = (D : Int) := by rw [IntKind.wrap_u64]; omega
  have e1 : IntKind.i64.wrap ((i : Int) - 1) = (i : Int) - 1 := by rw [IntKind.wrap_i64]; omega
  have HMK : Hid (∀ (f : Int → Option Nat) (w' : World), PlIx Y p T M xs h n f w' → Calls Try.prog 77 #[.pointer (some ⟨p, 0, none⟩), .int .i64 ((i : Int) - 1)] w' fun e w'' => e = .returned (.int .u64 (mkN f xs i)) ∧ Up w' w'') := fun f w' h => mark_calls i _ h (by omega) (by omega) (by omega)
  have HMG : Hid (∀ (f : Int → Option Nat) (w' : World), PlIx Y p T M xs h n f w' → Calls Try.prog 77 #[.pointer (some ⟨p, 0, none⟩), .int .i64 (i : Int)] w' fun e w'' => e = .returned (.int .u64 (mkN f xs (i + 1))) ∧ Up w' w'') := fun f w' h => mark_calls (i + 1) _ h (by omega) (by omega) (by omega)
  have IX := hide ix
  have HLO := hide hlo
  have HHG := hide hhg
  have HD := hide hD
  clear ix hlo hhg hD
  go_enter Try.func65, Try.ntmps65
  go_wp2_with fail
  refine (HMG.out f w IX.out).mono ?_
  rintro _ w1 ⟨rfl, hw1⟩
  have IX1 := hide (IX.out.up hw1)
  have HU1 := hide hw1
  clear hw1
  rw [← HHG.out]
  dsimp only
  go_wp2_with fail
  refine (HMK.out f w1 IX1.out).mono ?_
  rintro _ w2 ⟨rfl, hw2⟩
  have IX2 := hide (IX1.out.up hw2)
  have HU2 := hide (HU1.out.trans hw2)
  clear hw2
  rw [← HLO.out]
  dsimp only
  -- behind it all
  have tail : Hid (∀ (f' : Int → Option Nat) (w3 : World), PlIx Y p T M xs h n f' w3 → mkN f' xs i + 2 ≤ mkN f' xs (i + 1) → Chg (fun y => y = M) w w3 → True) := fun _ _ _ _ _ => trivial
  by_cases hr : D < 2
  · have hr' : decide ((D : Int) < 2) = true := decide_eq_true (by omega)
    go_wp2_with fail
    refine (spread_calls i IX2.out hi hx).mono ?_
    rintro _ w3 ⟨rfl, f', ix3, hroom, hch⟩
    obtain ⟨lo', hg', m, hlo', hhg', h1, h2, d1, d2, d3⟩ := freeMark_tail i ix3 hi hx hroom
    have IX3 := hide ix3
    have HCH := hide ((Chg.of_up (C := fun y => y = M) HU2.out).trans hch (fun _ _ h => h))
    have HLO' := hide hlo'
    have HHG' := hide hhg'
    obtain ⟨D', hD'⟩ : ∃ D' : Nat, D' = hg' - lo' := ⟨_, rfl⟩
    obtain ⟨E', hE'⟩ : ∃ E' : Nat, E' = D' / 2 := ⟨_, rfl⟩
    rw [← hD'] at d1 d2 d3
    rw [← hE'] at d2 d3
    have e7 : (D' : Int).tdiv 2 = (E' : Int) := by rw [hE']; rfl
    have e8 : (D' : Int) / 2 = (E' : Int) := by rw [hE']; rfl
    clear hlo' hhg' ix3 hroom hch hD' hE'
    dsimp only
    go_wp2_with fail
    refine (HMK.out f' w3 IX3.out).mono ?_
    rintro _ w4 ⟨rfl, hw4⟩
    have IX4 := hide (IX3.out.up hw4)
    have HC4 := hide (HCH.out.andUp hw4)
    clear hw4
    rw [← HLO'.out]
    dsimp only
    go_wp2_with fail
    refine (HMG.out f' w4 IX4.out).mono ?_
    rintro _ w5 ⟨rfl, hw5⟩
    have IX5 := hide (IX4.out.up hw5)
    have HC5 := hide (HC4.out.andUp hw5)
    clear hw5
    rw [← HHG'.out]
    dsimp only
    go_wp2
    go_ret
    exact ⟨m, f', rfl, IX5.out, by rw [← HLO'.out]; exact h1, by rw [← HHG'.out]; exact h2, HC5.out⟩
  · have hr' : decide ((D : Int) < 2) = false := decide_eq_false (by omega)
    have hr2 : ¬ ((D : Int) < 2) := by omega
    obtain ⟨lo', hg', m, hlo', hhg', h1, h2, d1, d2, d3⟩ := freeMark_tail i IX2.out hi hx (by rw [← HLO.out, ← HHG.out]; have := HD.out; omega)
    obtain rfl : lo = lo' := by rw [hlo', HLO.out]
    obtain rfl : hg = hg' := by rw [hhg', HHG.out]
    obtain ⟨E', hE'⟩ : ∃ E' : Nat, E' = D / 2 := ⟨_, rfl⟩
    rw [← HD.out] at d2 d3
    rw [← hE'] at d2 d3
    have e7 : (D : Int).tdiv 2 = (E' : Int) := by rw [hE']; rfl
    have e8 : (D : Int) / 2 = (E' : Int) := by rw [hE']; rfl
    clear hlo' hhg' hE' d1
    go_wp2_with fail
    refine (HMK.out f w2 IX2.out).mono ?_
    rintro _ w4 ⟨rfl, hw4⟩
    have IX4 := hide (IX2.out.up hw4)
    have HU4 := hide (HU2.out.trans hw4)
    clear hw4
    rw [← HLO.out]
    dsimp only
    go_wp2_with fail
    refine (HMG.out f w4 IX4.out).mono ?_
    rintro _ w5 ⟨rfl, hw5⟩
    have IX5 := hide (IX4.out.up hw5)
    have HU5 := hide (HU4.out.trans hw5)
    clear hw5
    rw [← HHG.out]
    dsimp only
    go_wp2
    go_ret
    exact ⟨m, f, rfl, IX5.out, by rw [← HLO.out]; exact h1, by rw [← HHG.out]; exact h2, Chg.of_up HU5.out⟩
/-- What a change leaves: at most K nodes more were written. -/
def PlDone (Y : Nat → Prop) (p T M : Nat) (zs : List Int) (n K : Nat) (w w' : World) : Prop := ∃ h' k f', PlIx Y p T M zs h' (n + k) f' w' ∧ k ≤ K ∧ Chg (TM T M) w w'
/-- Behind the map's store, ahead of the tree's change. -/
def PutMid (Y : Nat → Prop) (p T M : Nat) (xs : List Int) (h n i : Nat) (id : Int) (w w6 : World) : Prop :=
  ∃ (f5 : Int → Option Nat) (m : Nat) (w5 : World), PlIx Y p T M xs h n f5 w5 ∧ mkN f5 xs i < m ∧ m < mkN f5 xs (i + 1) ∧ MapU w6 M (upd f5 id (some m)) (xs.length + 1) ∧ Chg (fun y => y = M) w5 w6 ∧ Chg (fun y => y = M) w w5
theorem plinsert_there (j id : Int) (ix : PlIx Y p T M xs h n f w) (hw : wf64 id) (hid : id ∈ xs) :
    Calls Try.prog 51 #[.pointer (some ⟨p, 0, none⟩), .int .i64 j, .int .i64 id] w fun e w' => e = .returned (.int .i64 72) ∧ Up w w' := by
  have HLK := hide (plhas_calls id ix hw true (by simp [hid]))
  clear ix hid
  go_enter Try.func51, Try.ntmps51
  go_wp2_with (go_at_call 62; refine HLK.out.mono ?_; rintro _ w1 ⟨rfl, hw1⟩; subst hw1)
  go_ret
  exact ⟨rfl, Up.refl _⟩
theorem plinsert_not (j id : Int) (ix : PlIx Y p T M xs h n f w) (hw : wf64 id) (hid : id ∉ xs) (hj : j < 0 ∨ (xs.length : Int) < j) :
    Calls Try.prog 51 #[.pointer (some ⟨p, 0, none⟩), .int .i64 j, .int .i64 id] w fun e w' => e = .returned (.int .i64 73) ∧ Up w w' := by
  have HLK := hide (plhas_calls id ix hw false (by simp [hid]))
  have HLN := hide (pllen_calls ix)
  clear ix hid
  by_cases h0 : j < 0
  · have hd : decide (j < 0) = true := decide_eq_true h0
    clear hj
    go_enter Try.func51, Try.ntmps51
    go_wp2_with (go_at_call 62; refine HLK.out.mono ?_; rintro _ w1 ⟨rfl, hw1⟩; subst hw1)
    go_ret
    exact ⟨rfl, Up.refl _⟩
  · have hd : decide (j < 0) = false := decide_eq_false h0
    have h1 : (xs.length : Int) < j := by omega
    have hd2 : decide (j > (xs.length : Int)) = true := decide_eq_true (by omega)
    clear hj
    go_enter Try.func51, Try.ntmps51
    go_wp2_with (first
      | (go_at_call 62; refine HLK.out.mono ?_; rintro _ w1 ⟨rfl, hw1⟩; subst hw1)
      | (go_at_call 52; refine HLN.out.mono ?_; rintro _ w2 ⟨rfl, hw2⟩; subst hw2))
    go_ret
    exact ⟨rfl, Up.refl _⟩
set_option maxHeartbeats 4000000 in
theorem plinsert_ok (i : Nat) (id : Int) (ix : PlIx Y p T M xs h n f w) (hi : i ≤ xs.length) (hw : wf64 id) (hid : id ∉ xs) (hx : xs.length ≤ 1000) (hn : n ≤ 10000000) :
    Calls Try.prog 51 #[.pointer (some ⟨p, 0, none⟩), .int .i64 i, .int .i64 id] w fun e w' => e = .returned (.int .i64 0) ∧ PlDone Y p T M (insL id xs i) n (8 * bitsN (xs.length + 1)) w w' := by
  have HFM : Hid (∀ w', Up w w' → Calls Try.prog 65 #[.pointer (some ⟨p, 0, none⟩), .int .i64 i] w' fun e w'' => ∃ (m : Nat) (w6 : World), e = .returned (.int .u64 m) ∧ w''.cell? ⟨p, 1, none⟩ = some (.map (some M)) ∧ (Instr.mapUpdate 82 (.map (some M)) (.int .i64 id) (.int .u64 m)).run Try.prog w'' = .ok () w6 ∧ Hid (PutMid Y p T M xs h n i id w w6)) := fun w' hu => by
    refine (freeMark_calls i (ix.up hu) hi hx).mono ?_
    rintro _ w5 ⟨m, f5, rfl, ix5, hm1, hm2, hc5⟩
    have ht := ix5.ok.le_top (k := i + 1) (by omega)
    unfold topM at ht
    obtain ⟨w6, hrun, hm6, hc6⟩ := ix5.mp.store (x := id) (s := m) hw (by omega) (by omega) (xs.length + 1) (by rw [ix5.ok.untold hid]; rfl)
    exact ⟨m, w6, rfl, ix5.c1, hrun, f5, m, w5, ix5, hm1, hm2, hm6, hc6, (Chg.of_up (C := fun y => y = M) hu).trans hc5 (fun _ _ h => h)⟩
  have HLK := hide (plhas_calls id ix hw false (by simp [hid]))
  have HLN := hide (pllen_calls ix)
  have hd : decide ((i : Int) < 0) = false := decide_eq_false (by omega)
  have hd' : ¬ ((i : Int) < 0) := by omega
  have hd2 : decide ((i : Int) > (xs.length : Int)) = false := decide_eq_false (by omega)
  have hd3 : ¬ (xs.length < i) := by omega
  have hd4 : decide (xs.length < i) = false := decide_eq_false (by omega)
  have c1 := ix.c1
  have hxl := hide hx
  clear ix
  go_enter Try.func51, Try.ntmps51
  go_wp2_with (first
    | (go_at_call 62; refine HLK.out.mono ?_; rintro _ w1 ⟨rfl, hw1⟩; subst hw1)
    | (go_at_call 52; refine HLN.out.mono ?_; rintro _ w2 ⟨rfl, hw2⟩; subst hw2))
  go_region_law (go_simp; go_at_call 65; refine (HFM.out _ (by repeat' (with_reducible first | assumption | exact Up.refl _ | apply Up.alloc | apply Up.drew))).mono ?_; rintro _ w5 ⟨m, w6, rfl, k5, hrun, hmid⟩; dsimp only)
  all_goals
    have hmid := hmid
    clear k5 hrun
    obtain ⟨f5, m', w5', ix5, hm1, hm2, hm6, hc6, hc5⟩ := hmid.out
    have c6 := hc6.cell ix5.c0 ix5.pM
    have ht6 := ix5.tr.chg (hc6.mono (fun y _ e => .inl (.inr e))) ix5.sT
    have hsl : ∀ y, SY p M Y y → y < w6.heap.size := fun y hy => Nat.lt_of_lt_of_le (ix5.sl y hy) hc6.size
    have HIN := hide (insertAtM_ok (SY p M Y) T h n i id xs w6 ix5.sT hsl ht6 hi (by omega) hn)
    have HLG := hide ix5.tr.tr.logs.1
    have HOK := hide (ix5.ok.ins hi hid hw hm1 hm2)
    have H6 := hide hm6
    have HIX := hide ix5
    have HC5 := hide hc5
    have HC6 := hide hc6
    clear hm6 ix5 hc5 hc6 ht6 hsl hmid hm1 hm2
    go_wp2_with fail
    refine HIN.out.mono ?_
    rintro _ w7 ⟨rfl, h7, k7, t7, hk71, hk72, hc7⟩
    have HT7 := hide t7
    have HC7 := hide hc7
    clear t7 hc7
    dsimp only
    go_wp2
    go_ret
    refine ⟨rfl, h7, k7, _, ⟨?_, ?_, HT7.out, ?_, HOK.out, HIX.out.pT, HIX.out.MT, HIX.out.pM, HIX.out.yT, HIX.out.yM, HIX.out.yp, fun g hg => ?_⟩, by have := HLG.out; omega, ?_⟩
    · exact HC7.out.cell c6 HIX.out.pT
    · exact HC7.out.cell (HC6.out.cell HIX.out.c1 HIX.out.pM) HIX.out.pT
    · rw [insL_len _ _ _ hi]
      exact H6.out.chg HC7.out HIX.out.MT
    · exact Nat.lt_of_lt_of_le (HIX.out.yl g hg) (Nat.le_trans HC6.out.size HC7.out.size)
    · exact ((HC5.out.mono (D := TM T M) (fun _ _ e => .inr e)).trans HC6.out (fun _ _ e => .inr e)).trans HC7.out (fun _ _ e => .inl e)
set_option maxHeartbeats 4000000 in
theorem plerase_ok (i : Nat) (ix : PlIx Y p T M xs h n f w) (hi : i < xs.length) (hx : xs.length ≤ 1000) (hn : n ≤ 10000000) :
    Calls Try.prog 41 #[.pointer (some ⟨p, 0, none⟩), .int .i64 i] w fun e w' => e = .returned (.tuple #[.int .i64 (xs.getD i 0), .int .i64 0]) ∧ PlDone Y p T M (delL xs i) n (8 * bitsN (xs.length + 1)) w w' := by
  have HER := hide (eraseAtM_ok (SY p M Y) T h n i 0 xs w ix.sT ix.sl ix.tr hi (by omega) hn)
  have hv := getD_in xs hi
  have hwv := ix.ok.wf xs[i] (List.getElem_mem hi)
  have hfv := ix.ok.tell hi
  have HOK := hide (ix.ok.del hi)
  rw [← hv] at hwv hfv HOK
  clear hv
  generalize xs.getD i 0 = v at *
  have c0 := ix.c0
  have c1 := ix.c1
  have IX := hide ix
  clear ix
  go_enter Try.func41, Try.ntmps41
  go_wp2_with fail
  refine HER.out.mono ?_
  rintro _ w7 ⟨rfl, h7, k7, t7, hk71, hk72, hc7⟩
  replace c1 := hc7.cell c1 IX.out.pT
  obtain ⟨w8, hrun, hm8, hc8, -⟩ := (IX.out.mp.chg hc7 IX.out.MT).drop hwv hfv 0
  have HLG := hide IX.out.tr.tr.logs.1
  have HT7 := hide t7
  have HC7 := hide hc7
  have HM8 := hide hm8
  have HC8 := hide hc8
  clear t7 hc7 hm8 hc8
  dsimp only
  go_wp2
  go_ret2
  refine ⟨rfl, h7, k7, _, ⟨?_, ?_, ?_, ?_, HOK.out, IX.out.pT, IX.out.MT, IX.out.pM, IX.out.yT, IX.out.yM, IX.out.yp, fun g hg => ?_⟩, by have := HLG.out; omega, ?_⟩
  · exact HC8.out.cell (HC7.out.cell c0 IX.out.pT) IX.out.pM
  · exact HC8.out.cell c1 IX.out.pM
  · exact HT7.out.chg (HC8.out.mono (fun y _ e => .inl (.inr e))) IX.out.sT
  · rw [show (delL xs i).length = xs.length - 1 by have := delL_len xs i hi; omega]
    exact HM8.out
  · exact Nat.lt_of_lt_of_le (IX.out.yl g hg) (Nat.le_trans HC7.out.size HC8.out.size)
  · exact (HC7.out.mono (D := TM T M) (fun _ _ e => .inl e)).trans HC8.out (fun _ _ e => .inr e)
theorem plerase_not (j : Int) (ix : PlIx Y p T M xs h n f w) (hj : j < 0 ∨ (xs.length : Int) ≤ j) :
    Calls Try.prog 41 #[.pointer (some ⟨p, 0, none⟩), .int .i64 j] w fun e w' => e = .returned (.tuple #[.int .i64 0, .int .i64 73]) ∧ Up w w' := by
  have HER := hide (eraseAtL_not T h n j xs w ix.tr.tr hj)
  have c0 := ix.c0
  clear ix hj
  go_enter Try.func41, Try.ntmps41
  go_wp2_with fail
  refine HER.out.mono ?_
  rintro _ w7 ⟨rfl, hu7⟩
  replace hu7 := hide hu7
  dsimp only
  go_wp2
  go_ret2
  exact ⟨rfl, hu7.out⟩
end Go.Proofs.Ytbnkddnjfkagkaa

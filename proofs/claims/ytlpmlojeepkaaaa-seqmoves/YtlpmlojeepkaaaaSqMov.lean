/-
  A sequence is changed: InsertAt, Add, Erase, shift, target, Move, as their text runs.
-/
import Derived.Test.YtlpmlojeepkaaaaSqPut
namespace Go.Proofs.Ytlpmlojeepkaaaa
open Go.ChangeShapes Go.WideShapes Go.ChangeAt Go.RowKit
set_option linter.unusedVariables false
set_option maxRecDepth 100000
attribute [local go_sem ↓] Go.wp_at_zero Go.wp_at_succ

variable {Y : Nat → Prop} {p T M : Nat} {xs zs : List Int} {h n h' n' : Nat} {f f' : Int → Option Nat} {w w' : World}
theorem sqinsertAt_there (j id : Int) (ix : SqIx Y p T M xs h n f w) (hw : wf64 id) (hid : id ∈ xs) :
    Calls Try.prog 16 #[.pointer (some ⟨p, 0, none⟩), .int .i64 j, .int .i64 id] w fun e w' => e = .returned (.int .i64 72) ∧ Up w w' := by
  have HLK := hide (lacks_calls id ix hw false (by simp [hid]))
  clear ix hid
  go_enter Try.func16, Try.ntmps16
  go_wp2_with (go_at_call 31; refine HLK.out.mono ?_; rintro _ w1 ⟨rfl, hw1⟩; subst hw1)
  go_ret
  exact ⟨rfl, Up.refl _⟩
theorem sqinsertAt_not (j id : Int) (ix : SqIx Y p T M xs h n f w) (hw : wf64 id) (hid : id ∉ xs) (hj : j < 0 ∨ (xs.length : Int) < j) :
    Calls Try.prog 16 #[.pointer (some ⟨p, 0, none⟩), .int .i64 j, .int .i64 id] w fun e w' => e = .returned (.int .i64 73) ∧ Up w w' := by
  have HLK := hide (lacks_calls id ix hw true (by simp [hid]))
  have HLN := hide (sqlen_calls ix)
  clear ix hid
  by_cases h0 : j < 0
  · have hd : decide (j < 0) = true := decide_eq_true h0
    clear hj
    go_enter Try.func16, Try.ntmps16
    go_wp2_with (go_at_call 31; refine HLK.out.mono ?_; rintro _ w1 ⟨rfl, hw1⟩; subst hw1)
    go_ret
    exact ⟨rfl, Up.refl _⟩
  · have hd : decide (j < 0) = false := decide_eq_false h0
    have h1 : (xs.length : Int) < j := by omega
    have hd2 : decide (j > (xs.length : Int)) = true := decide_eq_true (by omega)
    clear hj
    go_enter Try.func16, Try.ntmps16
    go_wp2_with (first
      | (go_at_call 31; refine HLK.out.mono ?_; rintro _ w1 ⟨rfl, hw1⟩; subst hw1)
      | (go_at_call 18; refine HLN.out.mono ?_; rintro _ w2 ⟨rfl, hw2⟩; subst hw2))
    go_ret
    exact ⟨rfl, Up.refl _⟩
set_option maxHeartbeats 2000000 in
theorem sqinsertAt_ok (i : Nat) (id : Int) (ix : SqIx Y p T M xs h n f w) (hw : wf64 id) (hid : id ∉ xs) (hi : i ≤ xs.length) (hx : xs.length ≤ 1000) (hn : n ≤ 10000000) :
    Calls Try.prog 16 #[.pointer (some ⟨p, 0, none⟩), .int .i64 i, .int .i64 id] w fun e w' => e = .returned (.int .i64 0) ∧ SqDone Y p T M (insL id xs i) n (8 * bitsN (xs.length + 1)) w w' := by
  have HLK := hide (lacks_calls id ix hw true (by simp [hid]))
  have HLN := hide (sqlen_calls ix)
  have HPU := hide (put_calls i id ix hi hw hid hx hn)
  have hd : decide ((i : Int) < 0) = false := decide_eq_false (by omega)
  have hd' : ¬ ((i : Int) < 0) := by omega
  have hd2 : decide ((i : Int) > (xs.length : Int)) = false := decide_eq_false (by omega)
  have hd3 : ¬ (xs.length < i) := by omega
  have hd4 : decide (xs.length < i) = false := decide_eq_false (by omega)
  clear ix hid
  go_enter Try.func16, Try.ntmps16
  go_wp2_with (first
    | (go_at_call 31; refine HLK.out.mono ?_; rintro _ w1 ⟨rfl, hw1⟩; subst hw1)
    | (go_at_call 18; refine HLN.out.mono ?_; rintro _ w2 ⟨rfl, hw2⟩; subst hw2)
    | (go_at_call 35; refine HPU.out.mono ?_; rintro _ w3 ⟨rfl, hw3⟩; replace hw3 := hide hw3))
  go_ret
  exact ⟨rfl, hw3.out⟩
theorem sqadd_there (id : Int) (ix : SqIx Y p T M xs h n f w) (hw : wf64 id) (hid : id ∈ xs) :
    Calls Try.prog 10 #[.pointer (some ⟨p, 0, none⟩), .int .i64 id] w fun e w' => e = .returned (.int .i64 72) ∧ Up w w' := by
  have HLN := hide (sqlen_calls ix)
  have HIN := hide (sqinsertAt_there (xs.length : Int) id ix hw hid)
  clear ix hid
  go_enter Try.func10, Try.ntmps10
  go_wp2_with (first
    | (go_at_call 18; refine HLN.out.mono ?_; rintro _ w2 ⟨rfl, hw2⟩; subst hw2)
    | (go_at_call 16; refine HIN.out.mono ?_; rintro _ w3 ⟨rfl, hw3⟩; replace hw3 := hide hw3))
  go_ret
  exact ⟨rfl, hw3.out⟩
theorem insL_last {α : Type} (v : α) (l : List α) : insL v l l.length = l ++ [v] := by
  unfold insL
  rw [List.take_of_length_le (Nat.le_refl _), List.drop_eq_nil_of_le (Nat.le_refl _)]
theorem sqadd_ok (id : Int) (ix : SqIx Y p T M xs h n f w) (hw : wf64 id) (hid : id ∉ xs) (hx : xs.length ≤ 1000) (hn : n ≤ 10000000) :
    Calls Try.prog 10 #[.pointer (some ⟨p, 0, none⟩), .int .i64 id] w fun e w' => e = .returned (.int .i64 0) ∧ SqDone Y p T M (xs ++ [id]) n (8 * bitsN (xs.length + 1)) w w' := by
  have HLN := hide (sqlen_calls ix)
  have HIN := hide (sqinsertAt_ok xs.length id ix hw hid (Nat.le_refl _) hx hn)
  rw [insL_last] at HIN
  clear ix hid
  go_enter Try.func10, Try.ntmps10
  go_wp2_with (first
    | (go_at_call 18; refine HLN.out.mono ?_; rintro _ w2 ⟨rfl, hw2⟩; subst hw2)
    | (go_at_call 16; refine HIN.out.mono ?_; rintro _ w3 ⟨rfl, hw3⟩; replace hw3 := hide hw3))
  go_ret
  exact ⟨rfl, hw3.out⟩
theorem sqerase_not (id : Int) (ix : SqIx Y p T M xs h n f w) (hw : wf64 id) (hid : id ∉ xs) :
    Calls Try.prog 11 #[.pointer (some ⟨p, 0, none⟩), .int .i64 id] w fun e w' => e = .returned (.tuple #[.int .i64 0, .int .i64 71]) ∧ Up w w' := by
  have HPL := hide (place_no id ix hw hid)
  clear ix hid
  go_enter Try.func11, Try.ntmps11
  go_wp2_with (go_at_call 21; refine HPL.out.mono ?_; rintro _ w1 ⟨rfl, hw1⟩; replace hw1 := hide hw1)
  go_ret2
  exact ⟨rfl, hw1.out⟩
theorem SqDone.after {K : Nat} {w0 : World} (hu : Up w0 w) (d : SqDone Y p T M zs n K w w') : SqDone Y p T M zs n K w0 w' := by
  obtain ⟨h', k, f', i, hk, hc⟩ := d
  exact ⟨h', k, f', i, hk, (Chg.of_up (C := TM T M) hu).trans hc (fun _ _ h => h)⟩
theorem sqerase_ok (k : Nat) (id : Int) (ix : SqIx Y p T M xs h n f w) (hk : k < xs.length) (hid : xs[k] = id) (hx : xs.length ≤ 1000) (hn : n ≤ 10000000) :
    Calls Try.prog 11 #[.pointer (some ⟨p, 0, none⟩), .int .i64 id] w fun e w' => e = .returned (.tuple #[.int .i64 k, .int .i64 0]) ∧ SqDone Y p T M (delL xs k) n (8 * bitsN (xs.length + 1)) w w' := by
  have HPL := hide (place_yes k id ix hk hid (by omega))
  have IX := hide ix
  clear ix hid
  go_enter Try.func11, Try.ntmps11
  go_wp2_with fail
  refine HPL.out.mono ?_
  rintro _ w1 ⟨rfl, hw1⟩
  have HTK := hide (take_calls k (IX.out.up hw1) hk hx hn)
  replace hw1 := hide hw1
  dsimp only
  go_wp2_with fail
  refine HTK.out.mono ?_
  rintro _ w2 ⟨rfl, hw2⟩
  replace hw2 := hide hw2
  dsimp only
  go_wp2
  go_ret2
  exact ⟨rfl, hw2.out.after hw1.out⟩
/-- Where it stands then: right ahead of what stood at t. -/
def shN (a t : Nat) : Nat := if a < t then t - 1 else t
/-- The list with what stands at a right ahead of what stands at t. -/
def shL (xs : List Int) (a t : Nat) : List Int := if shN a t = a then xs else insL (xs.getD a 0) (delL xs a) (shN a t)
set_option maxHeartbeats 4000000 in
theorem shift_calls (a t q : Nat) (ix : SqIx Y p T M xs h n f w) (ha : a < xs.length) (ht : t ≤ xs.length) (hq : q = shN a t) (hx : xs.length ≤ 1000) (hn : n ≤ 9000000) :
    Calls Try.prog 27 #[.pointer (some ⟨p, 0, none⟩), .int .i64 a, .int .i64 t] w fun e w' => e = .returned (.int .i64 q) ∧ SqDone Y p T M (shL xs a t) n (16 * bitsN (xs.length + 1)) w w' := by
  have hlb := delL_len xs a ha
  have hb8 := bitsN_le (m := xs.length + 1) (by omega)
  have HTK := hide (take_calls a ix ha hx (by omega))
  have hvx : xs.getD a 0 ∈ xs ∧ xs.getD a 0 ∉ delL xs a := by
    rw [getD_in xs ha]
    exact ⟨List.getElem_mem ha, fun e => ((delL_mem ha ix.ok.nd).1 e).2 rfl⟩
  have hwv := ix.ok.wf _ hvx.1
  have hbm : bitsN ((delL xs a).length + 1) ≤ bitsN (xs.length + 1) := bitsN_mono (by omega)
  have hql : q ≤ (delL xs a).length := by rw [hq]; unfold shN; split <;> omega
  have IX := hide ix
  by_cases e0 : q = a
  · have hsh : shL xs a t = xs := by unfold shL; rw [if_pos (by rw [← hq, e0])]
    rw [hsh]
    have hdone : Hid (SqDone Y p T M xs n (16 * bitsN (xs.length + 1)) w w) := ⟨h, 0, f, ix, Nat.zero_le _, Chg.refl _ _⟩
    clear ix
    by_cases h1 : a < t
    · have h1' : (a : Int) < (t : Int) := by omega
      have h1d : decide (a < t) = true := decide_eq_true h1
      have h2 : IntKind.i64.wrap ((t : Int) - 1) = (a : Int) := by
        rw [IntKind.wrap_i64]; unfold shN at hq; rw [if_pos h1] at hq; omega
      have h3 : (a == a) = true := by simp
      obtain rfl : q = a := e0
      clear hq hql
      go_enter Try.func27, Try.ntmps27
      go_wp2
      go_ret
      exact ⟨rfl, hdone.out⟩
    · have h1' : ¬ (a : Int) < (t : Int) := by omega
      have h1d : decide (a < t) = false := decide_eq_false h1
      obtain rfl : a = t := by unfold shN at hq; rw [if_neg h1] at hq; omega
      obtain rfl : q = a := e0
      clear hq hql
      go_enter Try.func27, Try.ntmps27
      go_wp2
      go_ret
      exact ⟨rfl, hdone.out⟩
  · have hsh : shL xs a t = insL (xs.getD a 0) (delL xs a) q := by unfold shL; rw [if_neg (by rw [← hq]; exact e0), ← hq]
    rw [hsh]
    clear hsh
    have hne : ((a : Int) == (q : Int)) = false := by simp; omega
    have hne2 : ¬ (a = q) := fun e => e0 e.symm
    have hne3 : ((a : Int) != (q : Int)) = true := by simp; omega
    have hcase : (a < t ∧ IntKind.i64.wrap ((t : Int) - 1) = (q : Int)) ∨ (¬ a < t ∧ t = q) := by
      unfold shN at hq
      by_cases h1 : a < t
      · rw [if_pos h1] at hq; exact .inl ⟨h1, by rw [IntKind.wrap_i64]; omega⟩
      · rw [if_neg h1] at hq; exact .inr ⟨h1, hq.symm⟩
    clear hq ix
    have tail : Hid (∀ w1, SqDone Y p T M (delL xs a) n (8 * bitsN (xs.length + 1)) w w1 → Calls Try.prog 35 #[.pointer (some ⟨p, 0, none⟩), .int .i64 q, .int .i64 (xs.getD a 0)] w1 fun e w' => e = .returned (.tuple #[]) ∧ SqDone Y p T M (insL (xs.getD a 0) (delL xs a) q) n (16 * bitsN (xs.length + 1)) w w') := by
      rintro w1 ⟨h1, k1, f1, ix1, hk1, hc1⟩
      refine (put_calls q _ ix1 hql hwv hvx.2 (by omega) (by omega)).mono ?_
      rintro _ w2 ⟨rfl, h2, k2, f2, ix2, hk2, hc2⟩
      exact ⟨rfl, h2, k1 + k2, f2, by rw [← Nat.add_assoc]; exact ix2, by omega, hc1.trans hc2 (fun _ _ h => h)⟩
    generalize xs.getD a 0 = v at *
    rcases hcase with ⟨h1, h2⟩ | ⟨h1, rfl⟩
    · have h1' : (a : Int) < (t : Int) := by omega
      have h1d : decide (a < t) = true := decide_eq_true h1
      go_enter Try.func27, Try.ntmps27
      go_wp2_with fail
      refine HTK.out.mono ?_
      rintro _ w1 ⟨rfl, hd1⟩
      replace hd1 := hide hd1
      dsimp only
      go_wp2_with fail
      refine (tail.out w1 hd1.out).mono ?_
      rintro _ w2 ⟨rfl, hd2⟩
      replace hd2 := hide hd2
      dsimp only
      go_wp2
      go_ret
      exact ⟨rfl, hd2.out⟩
    · have h1' : ¬ (a : Int) < (t : Int) := by omega
      have h1d : decide (a < t) = false := decide_eq_false h1
      go_enter Try.func27, Try.ntmps27
      go_wp2_with fail
      refine HTK.out.mono ?_
      rintro _ w1 ⟨rfl, hd1⟩
      replace hd1 := hide hd1
      dsimp only
      go_wp2_with fail
      refine (tail.out w1 hd1.out).mono ?_
      rintro _ w2 ⟨rfl, hd2⟩
      replace hd2 := hide hd2
      dsimp only
      go_wp2
      go_ret
      exact ⟨rfl, hd2.out⟩
/-- The place that before names: the end, or where it stands. -/
def TgtAt (xs : List Int) (b : Int) (t : Nat) : Prop := (b = 0 ∧ t = xs.length) ∨ (b ≠ 0 ∧ xs[t]? = some b)
theorem TgtAt.le {b : Int} {t : Nat} (h : TgtAt xs b t) : t ≤ xs.length := by
  rcases h with ⟨_, h⟩ | ⟨_, h⟩
  · omega
  · have := (List.getElem?_eq_some_iff.1 h).1; omega
theorem target_yes (b : Int) (t : Nat) (ix : SqIx Y p T M xs h n f w) (ht : TgtAt xs b t) (hx : xs.length ≤ 1000) :
    Calls Try.prog 26 #[.pointer (some ⟨p, 0, none⟩), .int .i64 b] w fun e w' => e = .returned (.tuple #[.int .i64 t, .bool true]) ∧ Up w w' := by
  rcases ht with ⟨rfl, rfl⟩ | ⟨hb, ht⟩
  · have HLN := hide (sqlen_calls ix)
    clear ix
    go_enter Try.func26, Try.ntmps26
    go_wp2_with (go_at_call 18; refine HLN.out.mono ?_; rintro _ w2 ⟨rfl, hw2⟩; subst hw2)
    go_ret2
    exact ⟨rfl, Up.refl _⟩
  · obtain ⟨h1, h2⟩ := List.getElem?_eq_some_iff.1 ht
    have HPL := hide (place_yes t b ix h1 h2 (by omega))
    have hb' : (b == 0) = false := by simpa using hb
    clear ix ht h2
    go_enter Try.func26, Try.ntmps26
    go_wp2_with (go_at_call 21; refine HPL.out.mono ?_; rintro _ w1 ⟨rfl, hw1⟩; replace hw1 := hide hw1)
    go_ret2
    exact ⟨rfl, hw1.out⟩
theorem target_no (b : Int) (ix : SqIx Y p T M xs h n f w) (hw : wf64 b) (hb : b ≠ 0) (hbx : b ∉ xs) :
    Calls Try.prog 26 #[.pointer (some ⟨p, 0, none⟩), .int .i64 b] w fun e w' => e = .returned (.tuple #[.int .i64 0, .bool false]) ∧ Up w w' := by
  have HPL := hide (place_no b ix hw hbx)
  have hb' : (b == 0) = false := by simpa using hb
  clear ix hbx
  go_enter Try.func26, Try.ntmps26
  go_wp2_with (go_at_call 21; refine HPL.out.mono ?_; rintro _ w1 ⟨rfl, hw1⟩; replace hw1 := hide hw1)
  go_ret2
  exact ⟨rfl, hw1.out⟩
set_option maxHeartbeats 2000000 in
theorem sqmove_ok (a t : Nat) (id b : Int) (ix : SqIx Y p T M xs h n f w) (ha : a < xs.length) (hid : xs[a] = id) (ht : TgtAt xs b t) (hx : xs.length ≤ 1000) (hn : n ≤ 9000000) :
    Calls Try.prog 12 #[.pointer (some ⟨p, 0, none⟩), .int .i64 id, .int .i64 b] w fun e w' => e = .returned (.tuple #[.int .i64 a, .int .i64 0]) ∧ SqDone Y p T M (shL xs a t) n (16 * bitsN (xs.length + 1)) w w' := by
  have HPL := hide (place_yes a id ix ha hid (by omega))
  have HTG : Hid (∀ w', Up w w' → Calls Try.prog 26 #[.pointer (some ⟨p, 0, none⟩), .int .i64 b] w' fun e w'' => e = .returned (.tuple #[.int .i64 t, .bool true]) ∧ Up w' w'') := fun w' hu => target_yes b t (ix.up hu) ht hx
  have HSH : Hid (∀ w', Up w w' → Calls Try.prog 27 #[.pointer (some ⟨p, 0, none⟩), .int .i64 a, .int .i64 t] w' fun e w'' => e = .returned (.int .i64 (shN a t : Nat)) ∧ SqDone Y p T M (shL xs a t) n (16 * bitsN (xs.length + 1)) w' w'') := fun w' hu => shift_calls a t _ (ix.up hu) ha ht.le rfl hx hn
  generalize shN a t = q at *
  clear ix hid ht
  go_enter Try.func12, Try.ntmps12
  go_wp2_with fail
  refine HPL.out.mono ?_
  rintro _ w1 ⟨rfl, hw1⟩
  replace hw1 := hide hw1
  dsimp only
  go_wp2_with fail
  refine (HTG.out _ hw1.out).mono ?_
  rintro _ w2 ⟨rfl, hw2⟩
  replace hw2 := hide (hw1.out.trans hw2)
  dsimp only
  go_wp2_with fail
  refine (HSH.out _ hw2.out).mono ?_
  rintro _ w3 ⟨rfl, hw3⟩
  replace hw3 := hide (hw3.after hw2.out)
  dsimp only
  go_wp2
  go_ret2
  exact ⟨rfl, hw3.out⟩
set_option maxHeartbeats 2000000 in
theorem sqmove_no (id b : Int) (ix : SqIx Y p T M xs h n f w) (hwi : wf64 id) (hwb : wf64 b) (hno : id ∉ xs ∨ (b ≠ 0 ∧ b ∉ xs)) (hx : xs.length ≤ 1000) :
    Calls Try.prog 12 #[.pointer (some ⟨p, 0, none⟩), .int .i64 id, .int .i64 b] w fun e w' => e = .returned (.tuple #[.int .i64 0, .int .i64 71]) ∧ Up w w' := by
  have HPL : Hid (∃ (a : Nat) (y : Bool), (y = true → ∃ h : a < xs.length, xs[a] = id) ∧ (y = false → id ∉ xs) ∧ Calls Try.prog 21 #[.pointer (some ⟨p, 0, none⟩), .int .i64 id] w fun e w' => e = .returned (.tuple #[.int .i64 a, .bool y]) ∧ Up w w') := by
    by_cases h1 : id ∈ xs
    · obtain ⟨a, ha, e⟩ := List.getElem_of_mem h1
      exact ⟨a, true, fun _ => ⟨ha, e⟩, (fun h => by cases h), place_yes a id ix ha e (by omega)⟩
    · exact ⟨0, false, (fun h => by cases h), fun _ => h1, place_no id ix hwi h1⟩
  have HTG : Hid (∃ (t : Nat) (y : Bool), (y = false ↔ (b ≠ 0 ∧ b ∉ xs)) ∧ ∀ w', Up w w' → Calls Try.prog 26 #[.pointer (some ⟨p, 0, none⟩), .int .i64 b] w' fun e w'' => e = .returned (.tuple #[.int .i64 t, .bool y]) ∧ Up w' w'') := by
    by_cases h1 : b ≠ 0 ∧ b ∉ xs
    · exact ⟨0, false, ⟨fun _ => h1, fun _ => rfl⟩, fun w' hu => target_no b (ix.up hu) hwb h1.1 h1.2⟩
    · have : ∃ t, TgtAt xs b t := by
        by_cases h2 : b = 0
        · exact ⟨xs.length, .inl ⟨h2, rfl⟩⟩
        · have h3 : b ∈ xs := by
            by_cases h4 : b ∈ xs
            · exact h4
            · exact absurd ⟨h2, h4⟩ h1
          obtain ⟨a, ha, e⟩ := List.getElem_of_mem h3
          exact ⟨a, .inr ⟨h2, by rw [List.getElem?_eq_getElem ha, e]⟩⟩
      obtain ⟨t, ht⟩ := this
      exact ⟨t, true, ⟨(fun h => by cases h), fun h => absurd h h1⟩, fun w' hu => target_yes b t (ix.up hu) ht hx⟩
  obtain ⟨a, y, hy1, hy2, HP⟩ := HPL.out
  obtain ⟨t, z, hz, HT⟩ := HTG.out
  replace HP := hide HP
  replace HT := hide HT
  have hyz : y = false ∨ z = false := by
    rcases hno with h1 | h1
    · refine .inl ?_
      cases y with
      | false => rfl
      | true => obtain ⟨ha, e⟩ := hy1 rfl; exact absurd (e ▸ List.getElem_mem ha) h1
    · exact .inr (hz.2 h1)
  clear HPL HTG ix hno hy1 hy2 hz
  cases y with
  | false =>
    clear hyz
    go_enter Try.func12, Try.ntmps12
    go_wp2_with fail
    refine HP.out.mono ?_
    rintro _ w1 ⟨rfl, hw1⟩
    replace hw1 := hide hw1
    dsimp only
    go_wp2_with fail
    refine (HT.out _ hw1.out).mono ?_
    rintro _ w2 ⟨rfl, hw2⟩
    replace hw2 := hide (hw1.out.trans hw2)
    dsimp only
    go_wp2
    go_ret2
    exact ⟨rfl, hw2.out⟩
  | true =>
    obtain rfl : z = false := by
      rcases hyz with h | h
      · cases h
      · exact h
    clear hyz
    go_enter Try.func12, Try.ntmps12
    go_wp2_with fail
    refine HP.out.mono ?_
    rintro _ w1 ⟨rfl, hw1⟩
    replace hw1 := hide hw1
    dsimp only
    go_wp2_with fail
    refine (HT.out _ hw1.out).mono ?_
    rintro _ w2 ⟨rfl, hw2⟩
    replace hw2 := hide (hw1.out.trans hw2)
    dsimp only
    go_wp2
    go_ret2
    exact ⟨rfl, hw2.out⟩
end Go.Proofs.Ytlpmlojeepkaaaa

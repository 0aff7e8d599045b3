/-
  A sequence is changed: InsertAt, Add, Erase, shift, target, Move, as their text runs.
-/
import Derived.Test.YtbnkddnjfkagkaaSqWr
namespace Go.Proofs.Ytbnkddnjfkagkaa
open Go.ChangeShapes Go.WideShapes Go.ChangeAt Go.RowKit
set_option linter.unusedVariables false
set_option maxRecDepth 100000
attribute [local go_sem ↓] Go.wp_at_zero Go.wp_at_succ

variable {Y : Nat → Prop} {p T M : Nat} {xs zs : List Int} {h n h' n' : Nat} {f f' : Int → Option Nat} {w w' : World}
theorem sqadd_there (id : Int) (ix : SqIx Y p T M xs h n f w) (hw : wf64 id) (hid : id ∈ xs) :
    Calls Try.prog 13 #[.pointer (some ⟨p, 0, none⟩), .int .i64 id] w fun e w' => e = .returned (.int .i64 72) ∧ Up w w' := by
  have HLN := hide (sqlen_calls ix)
  have HIN := hide (sqinsertAt_there (xs.length : Int) id ix hw hid)
  clear ix hid
  go_enter Try.func13, Try.ntmps13
  go_wp2_with (first
    | (go_at_call 21; refine HLN.out.mono ?_; rintro _ w2 ⟨rfl, hw2⟩; subst hw2)
    | (go_at_call 19; refine HIN.out.mono ?_; rintro _ w3 ⟨rfl, hw3⟩; replace hw3 := hide hw3))
  go_ret
  exact ⟨rfl, hw3.out⟩
theorem sqadd_ok (id : Int) (ix : SqIx Y p T M xs h n f w) (hw : wf64 id) (hid : id ∉ xs) (hx : xs.length ≤ 1000) (hn : n ≤ 10000000) :
    Calls Try.prog 13 #[.pointer (some ⟨p, 0, none⟩), .int .i64 id] w fun e w' => e = .returned (.int .i64 0) ∧ SqDone Y p T M (xs ++ [id]) n (8 * bitsN (xs.length + 1)) w w' := by
  have HLN := hide (sqlen_calls ix)
  have HIN := hide (sqinsertAt_ok xs.length id ix hw hid (Nat.le_refl _) hx hn)
  rw [insL_last] at HIN
  clear ix hid
  go_enter Try.func13, Try.ntmps13
  go_wp2_with (first
    | (go_at_call 21; refine HLN.out.mono ?_; rintro _ w2 ⟨rfl, hw2⟩; subst hw2)
    | (go_at_call 19; refine HIN.out.mono ?_; rintro _ w3 ⟨rfl, hw3⟩; replace hw3 := hide hw3))
  go_ret
  exact ⟨rfl, hw3.out⟩
theorem sqerase_not (id : Int) (ix : SqIx Y p T M xs h n f w) (hw : wf64 id) (hid : id ∉ xs) :
    Calls Try.prog 14 #[.pointer (some ⟨p, 0, none⟩), .int .i64 id] w fun e w' => e = .returned (.tuple #[.int .i64 0, .int .i64 71]) ∧ Up w w' := by
  have HPL := hide (sqplace_no id ix hw hid)
  clear ix hid
  go_enter Try.func14, Try.ntmps14
  go_wp2_with (go_at_call 24; refine HPL.out.mono ?_; rintro _ w1 ⟨rfl, hw1⟩; replace hw1 := hide hw1)
  go_ret2
  exact ⟨rfl, hw1.out⟩
theorem sqerase_ok (k : Nat) (id : Int) (ix : SqIx Y p T M xs h n f w) (hk : k < xs.length) (hid : xs[k] = id) (hx : xs.length ≤ 1000) (hn : n ≤ 10000000) :
    Calls Try.prog 14 #[.pointer (some ⟨p, 0, none⟩), .int .i64 id] w fun e w' => e = .returned (.tuple #[.int .i64 k, .int .i64 0]) ∧ SqDone Y p T M (delL xs k) n (8 * bitsN (xs.length + 1)) w w' := by
  have HPL := hide (sqplace_yes k id ix hk hid (by omega))
  have IX := hide ix
  clear ix hid
  go_enter Try.func14, Try.ntmps14
  go_wp2_with fail
  refine HPL.out.mono ?_
  rintro _ w1 ⟨rfl, hw1⟩
  have i1 := IX.out.up hw1
  obtain ⟨p1, cq, ix1⟩ := i1.ex
  have HTK := hide (plerase_ok k ix1 hk hx hn)
  have HD : Hid (∀ {zs : List Int} {K : Nat} {w' : World}, PlDone Y p1 T M zs n K w1 w' → SqDone Y p T M zs n K w w') := fun d => (SqDone.of cq i1.qT i1.qM i1.yq d).after hw1
  generalize xs.getD k 0 = v at *
  clear ix1 i1 hw1
  dsimp only
  go_wp2_with fail
  refine HTK.out.mono ?_
  rintro _ w2 ⟨rfl, hw2⟩
  replace hw2 := hide (HD.out hw2)
  dsimp only
  go_wp2
  go_ret2
  exact ⟨rfl, hw2.out⟩
/-- Where it stands then: right ahead of what stood at t. -/
def shN (a t : Nat) : Nat := if a < t then t - 1 else t
/-- The list with what stands at a right ahead of what stands at t. -/
def shL (xs : List Int) (a t : Nat) : List Int := if shN a t = a then xs else insL (xs.getD a 0) (delL xs a) (shN a t)
theorem shN_lt {a t m : Nat} (ha : a < m) (ht : t ≤ m) : shN a t < m := by unfold shN; split <;> omega
set_option maxHeartbeats 4000000 in
theorem shift_calls (a t q : Nat) (ix : SqIx Y p T M xs h n f w) (ha : a < xs.length) (ht : t ≤ xs.length) (hq : q = shN a t) (hx : xs.length ≤ 1000) (hn : n ≤ 9000000) :
    Calls Try.prog 43 #[.pointer (some ⟨p, 0, none⟩), .int .i64 a, .int .i64 t] w fun e w' => e = .returned (.int .i64 q) ∧ SqDone Y p T M (shL xs a t) n (16 * bitsN (xs.length + 1)) w w' := by
  obtain ⟨p1, cq, ix1⟩ := ix.ex
  have hqx : q < xs.length := by rw [hq]; exact shN_lt ha ht
  have HMV := hide (plmove_ok a q ix1 ha hqx hx hn)
  have hsh : shL xs a t = mvL xs a q := by rw [hq]; rfl
  rw [hsh]
  have HD : Hid (∀ {zs : List Int} {K : Nat} {w' : World}, PlDone Y p1 T M zs n K w w' → SqDone Y p T M zs n K w w') := SqDone.of cq ix.qT ix.qM ix.yq
  have hcase : (a < t ∧ IntKind.i64.wrap ((t : Int) - 1) = (q : Int)) ∨ (¬ a < t ∧ t = q) := by
    unfold shN at hq
    by_cases h1 : a < t
    · rw [if_pos h1] at hq; exact .inl ⟨h1, by rw [IntKind.wrap_i64]; omega⟩
    · rw [if_neg h1] at hq; exact .inr ⟨h1, hq.symm⟩
  clear hq ix ix1 hsh
  rcases hcase with ⟨h1, h2⟩ | ⟨h1, rfl⟩
  · have h1' : (a : Int) < (t : Int) := by omega
    have h1d : decide (a < t) = true := decide_eq_true h1
    go_enter Try.func43, Try.ntmps43
    go_wp2_with fail
    refine HMV.out.mono ?_
    rintro _ w1 ⟨rfl, hd1⟩
    replace hd1 := hide (HD.out hd1)
    dsimp only
    go_wp2
    go_ret
    exact ⟨rfl, hd1.out⟩
  · have h1' : ¬ (a : Int) < (t : Int) := by omega
    have h1d : decide (a < t) = false := decide_eq_false h1
    go_enter Try.func43, Try.ntmps43
    go_wp2_with fail
    refine HMV.out.mono ?_
    rintro _ w1 ⟨rfl, hd1⟩
    replace hd1 := hide (HD.out hd1)
    dsimp only
    go_wp2
    go_ret
    exact ⟨rfl, hd1.out⟩
/-- The place that before names: the end, or where it stands. -/
def TgtAt (xs : List Int) (b : Int) (t : Nat) : Prop := (b = 0 ∧ t = xs.length) ∨ (b ≠ 0 ∧ xs[t]? = some b)
theorem TgtAt.le {b : Int} {t : Nat} (h : TgtAt xs b t) : t ≤ xs.length := by
  rcases h with ⟨_, h⟩ | ⟨_, h⟩
  · omega
  · have := (List.getElem?_eq_some_iff.1 h).1; omega
theorem target_yes (b : Int) (t : Nat) (ix : SqIx Y p T M xs h n f w) (ht : TgtAt xs b t) (hx : xs.length ≤ 1000) :
    Calls Try.prog 42 #[.pointer (some ⟨p, 0, none⟩), .int .i64 b] w fun e w' => e = .returned (.tuple #[.int .i64 t, .bool true]) ∧ Up w w' := by
  rcases ht with ⟨rfl, rfl⟩ | ⟨hb, ht⟩
  · have HLN := hide (sqlen_calls ix)
    clear ix
    go_enter Try.func42, Try.ntmps42
    go_wp2_with (go_at_call 21; refine HLN.out.mono ?_; rintro _ w2 ⟨rfl, hw2⟩; subst hw2)
    go_ret2
    exact ⟨rfl, Up.refl _⟩
  · obtain ⟨h1, h2⟩ := List.getElem?_eq_some_iff.1 ht
    have HPL := hide (sqplace_yes t b ix h1 h2 (by omega))
    have hb' : (b == 0) = false := by simpa using hb
    clear ix ht h2
    go_enter Try.func42, Try.ntmps42
    go_wp2_with (go_at_call 24; refine HPL.out.mono ?_; rintro _ w1 ⟨rfl, hw1⟩; replace hw1 := hide hw1)
    go_ret2
    exact ⟨rfl, hw1.out⟩
theorem target_no (b : Int) (ix : SqIx Y p T M xs h n f w) (hw : wf64 b) (hb : b ≠ 0) (hbx : b ∉ xs) :
    Calls Try.prog 42 #[.pointer (some ⟨p, 0, none⟩), .int .i64 b] w fun e w' => e = .returned (.tuple #[.int .i64 0, .bool false]) ∧ Up w w' := by
  have HPL := hide (sqplace_no b ix hw hbx)
  have hb' : (b == 0) = false := by simpa using hb
  clear ix hbx
  go_enter Try.func42, Try.ntmps42
  go_wp2_with (go_at_call 24; refine HPL.out.mono ?_; rintro _ w1 ⟨rfl, hw1⟩; replace hw1 := hide hw1)
  go_ret2
  exact ⟨rfl, hw1.out⟩
set_option maxHeartbeats 2000000 in
theorem sqmove_ok (a t : Nat) (id b : Int) (ix : SqIx Y p T M xs h n f w) (ha : a < xs.length) (hid : xs[a] = id) (ht : TgtAt xs b t) (hx : xs.length ≤ 1000) (hn : n ≤ 9000000) :
    Calls Try.prog 15 #[.pointer (some ⟨p, 0, none⟩), .int .i64 id, .int .i64 b] w fun e w' => e = .returned (.tuple #[.int .i64 a, .int .i64 0]) ∧ SqDone Y p T M (shL xs a t) n (16 * bitsN (xs.length + 1)) w w' := by
  have HPL := hide (sqplace_yes a id ix ha hid (by omega))
  have HTG : Hid (∀ w', Up w w' → Calls Try.prog 42 #[.pointer (some ⟨p, 0, none⟩), .int .i64 b] w' fun e w'' => e = .returned (.tuple #[.int .i64 t, .bool true]) ∧ Up w' w'') := fun w' hu => target_yes b t (ix.up hu) ht hx
  have HSH : Hid (∀ w', Up w w' → Calls Try.prog 43 #[.pointer (some ⟨p, 0, none⟩), .int .i64 a, .int .i64 t] w' fun e w'' => e = .returned (.int .i64 (shN a t : Nat)) ∧ SqDone Y p T M (shL xs a t) n (16 * bitsN (xs.length + 1)) w' w'') := fun w' hu => shift_calls a t _ (ix.up hu) ha ht.le rfl hx hn
  generalize shN a t = q at *
  clear ix hid ht
  go_enter Try.func15, Try.ntmps15
  go_wp2_with fail
  refine HPL.out.mono ?_
  rintro _ w1 ⟨rfl, hw1⟩
  replace hw1 := hide hw1
  dsimp only
  go_wp2_with fail
  refine (HTG.out _ hw1.out).mono ?_
  rintro _ w2 ⟨rfl, hw2⟩
  replace hw2 := hide (hw1.out.trans hw2)
  dsimp only
  go_wp2_with fail
  refine (HSH.out _ hw2.out).mono ?_
  rintro _ w3 ⟨rfl, hw3⟩
  replace hw3 := hide (hw3.after hw2.out)
  dsimp only
  go_wp2
  go_ret2
  exact ⟨rfl, hw3.out⟩
set_option maxHeartbeats 2000000 in
theorem sqmove_no (id b : Int) (ix : SqIx Y p T M xs h n f w) (hwi : wf64 id) (hwb : wf64 b) (hno : id ∉ xs ∨ (b ≠ 0 ∧ b ∉ xs)) (hx : xs.length ≤ 1000) :
    Calls Try.prog 15 #[.pointer (some ⟨p, 0, none⟩), .int .i64 id, .int .i64 b] w fun e w' => e = .returned (.tuple #[.int .i64 0, .int .i64 71]) ∧ Up w w' := by
  have HPL : Hid (∃ (a : Nat) (y : Bool), (y = true → ∃ h : a < xs.length, xs[a] = id) ∧ (y = false → id ∉ xs) ∧ Calls Try.prog 24 #[.pointer (some ⟨p, 0, none⟩), .int .i64 id] w fun e w' => e = .returned (.tuple #[.int .i64 a, .bool y]) ∧ Up w w') := by
    by_cases h1 : id ∈ xs
    · obtain ⟨a, ha, e⟩ := List.getElem_of_mem h1
      exact ⟨a, true, fun _ => ⟨ha, e⟩, (fun h => by cases h), sqplace_yes a id ix ha e (by omega)⟩
    · exact ⟨0, false, (fun h => by cases h), fun _ => h1, sqplace_no id ix hwi h1⟩
  have HTG : Hid (∃ (t : Nat) (y : Bool), (y = false ↔ (b ≠ 0 ∧ b ∉ xs)) ∧ ∀ w', Up w w' → Calls Try.prog 42 #[.pointer (some ⟨p, 0, none⟩), .int .i64 b] w' fun e w'' => e = .returned (.tuple #[.int .i64 t, .bool y]) ∧ Up w' w'') := by
    by_cases h1 : b ≠ 0 ∧ b ∉ xs
    · exact ⟨0, false, ⟨fun _ => h1, fun _ => rfl⟩, fun w' hu => target_no b (ix.up hu) hwb h1.1 h1.2⟩
    · have : ∃ t, TgtAt xs b t := by
        by_cases h2 : b = 0
        · exact ⟨xs.length, .inl ⟨h2, rfl⟩⟩
        · have h3 : b ∈ xs := by
            by_cases h4 : b ∈ xs
            · exact h4
            · exact absurd ⟨h2, h4⟩ h1
          obtain ⟨a, ha, e⟩ := List.getElem_of_mem h3
          exact ⟨a, .inr ⟨h2, by rw [List.getElem?_eq_getElem ha, e]⟩⟩
      obtain ⟨t, ht⟩ := this
      exact ⟨t, true, ⟨(fun h => by cases h), fun h => absurd h h1⟩, fun w' hu => target_yes b t (ix.up hu) ht hx⟩
  obtain ⟨a, y, hy1, hy2, HP⟩ := HPL.out
  obtain ⟨t, z, hz, HT⟩ := HTG.out
  replace HP := hide HP
  replace HT := hide HT
  have hyz : y = false ∨ z = false := by
    rcases hno with h1 | h1
    · refine .inl ?_
      cases y with
      | false => rfl
      | true => obtain ⟨ha, e⟩ := hy1 rfl; exact absurd (e ▸ List.getElem_mem ha) h1
    · exact .inr (hz.2 h1)
  clear HPL HTG ix hno hy1 hy2 hz
  cases y with
  | false =>
    clear hyz
    go_enter Try.func15, Try.ntmps15
    go_wp2_with fail
    refine HP.out.mono ?_
    rintro _ w1 ⟨rfl, hw1⟩
    replace hw1 := hide hw1
    dsimp only
    go_wp2_with fail
    refine (HT.out _ hw1.out).mono ?_
    rintro _ w2 ⟨rfl, hw2⟩
    replace hw2 := hide (hw1.out.trans hw2)
    dsimp only
    go_wp2
    go_ret2
    exact ⟨rfl, hw2.out⟩
  | true =>
    obtain rfl : z = false := by
      rcases hyz with h | h
      · cases h
      · exact h
    clear hyz
    go_enter Try.func15, Try.ntmps15
    go_wp2_with fail
    refine HP.out.mono ?_
    rintro _ w1 ⟨rfl, hw1⟩
    replace hw1 := hide hw1
    dsimp only
    go_wp2_with fail
    refine (HT.out _ hw1.out).mono ?_
    rintro _ w2 ⟨rfl, hw2⟩
    replace hw2 := hide (hw1.out.trans hw2)
    dsimp only
    go_wp2
    go_ret2
    exact ⟨rfl, hw2.out⟩
end Go.Proofs.Ytbnkddnjfkagkaa

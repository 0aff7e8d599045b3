/-
  A row's text is read value by value: what each step leaves. No program is named here.
-/
import Derived.Test.YtjnnmghehoodhaaGreatDoorTextRows
namespace Go.Proofs.YtjnnmghehoodhaaGreatDoor

theorem getT_unfold (n : Nat) (s : List UInt8) (hs : s ≠ []) : getT (n + 1) s = match parT (s.take (endT false s)) with
    | none => none
    | some v => match s.drop (endT false s) with
      | [] => some [v]
      | a :: b :: c :: q => if a = 44 ∧ b = 32 then (getT n (c :: q)).map (v :: ·) else none
      | _ => none := by
  rw [getT, if_neg hs]
  rfl
theorem getT_fuel : ∀ (n m : Nat) (s : List UInt8), s.length < n → s.length < m → getT n s = getT m s
  | 0, _, _, h, _ => by omega
  | _ + 1, 0, _, _, h => by omega
  | n + 1, m + 1, s, hn, hm => by
    by_cases hs : s = []
    · subst hs; rw [getT_nil, getT_nil]
    · rw [getT_unfold n s hs, getT_unfold m s hs]
      cases parT (s.take (endT false s)) with
      | none => rfl
      | some v =>
        cases hd : s.drop (endT false s) with
        | nil => rfl
        | cons a r =>
          cases r with
          | nil => rfl
          | cons b r =>
            cases r with
            | nil => rfl
            | cons c q =>
              have hl := congrArg List.length hd
              rw [List.length_drop] at hl
              simp only [List.length_cons] at hl
              have ih := getT_fuel n m (c :: q) (by simp only [List.length_cons]; omega) (by simp only [List.length_cons]; omega)
              simp only [ih]
/-- All of a text. -/
def allT (s : List UInt8) : Option (List VT) := getT (s.length + 1) s
theorem allT_nil : allT [] = some [] := getT_nil 0
theorem allT_none {s : List UInt8} (hs : s ≠ []) (h : parT (s.take (endT false s)) = none) : allT s = none := by
  unfold allT
  rw [getT_unfold _ _ hs, h]
theorem allT_last {s : List UInt8} {v : VT} (hs : s ≠ []) (h : parT (s.take (endT false s)) = some v) (hd : s.drop (endT false s) = []) : allT s = some [v] := by
  unfold allT
  rw [getT_unfold _ _ hs, h, hd]
theorem allT_bad {s r : List UInt8} {v : VT} (hs : s ≠ []) (h : parT (s.take (endT false s)) = some v) (hd : s.drop (endT false s) = r) (hr : r ≠ []) (hb : r.length < 3 ∨ r.take 2 ≠ [44, 32]) : allT s = none := by
  unfold allT
  rw [getT_unfold _ _ hs, h, hd]
  match r, hr, hb with
  | [_], _, _ => rfl
  | [_, _], _, _ => rfl
  | a :: b :: c :: q, _, hb =>
    show (if a = 44 ∧ b = 32 then (getT s.length (c :: q)).map (v :: ·) else none) = none
    refine if_neg ?_
    rintro ⟨rfl, rfl⟩
    rcases hb with hb | hb
    · simp at hb; omega
    · exact hb rfl
theorem allT_next {s r : List UInt8} {v : VT} (hs : s ≠ []) (h : parT (s.take (endT false s)) = some v) (hd : s.drop (endT false s) = r) (h3 : 3 ≤ r.length) (hb : r.take 2 = [44, 32]) : allT s = (allT (r.drop 2)).map (v :: ·) := by
  unfold allT
  rw [getT_unfold _ _ hs, h, hd]
  have hl := congrArg List.length hd
  rw [List.length_drop] at hl
  match r, h3, hb with
  | a :: b :: c :: q, _, hb =>
    have e : a = 44 ∧ b = 32 := by simpa using hb
    show (if a = 44 ∧ b = 32 then (getT s.length (c :: q)).map (v :: ·) else none) = _
    rw [if_pos e]
    simp only [List.length_cons] at hl
    rw [getT_fuel s.length ((c :: q).length + 1) (c :: q) (by simp only [List.length_cons]; omega) (by omega)]
    rfl
/-- Where a text ends, by steps. -/
theorem endT_end {o : Bool} {s : List UInt8} (j : Nat) (h : s.length ≤ j) : endT o (s.drop j) = 0 := by
  rw [List.drop_eq_nil_of_le h, endT_nil]
theorem redT_all (s : List UInt8) (h2 : 2 ≤ s.length) (hh : s.head? = some 40) (hl : s.getLast? = some 41) : redT s = allT s.tail.dropLast := by
  unfold redT allT
  rw [if_pos ⟨h2, hh, hl⟩]
  exact getT_fuel _ _ _ (by rw [List.length_dropLast, List.length_tail]; omega) (by omega)
theorem redT_no (s : List UInt8) (h : ¬ (2 ≤ s.length ∧ s.head? = some 40 ∧ s.getLast? = some 41)) : redT s = none := by
  unfold redT
  exact if_neg h

end Go.Proofs.YtjnnmghehoodhaaGreatDoor

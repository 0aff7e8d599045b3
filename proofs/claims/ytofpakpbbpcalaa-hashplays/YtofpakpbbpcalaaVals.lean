/-
  Values and rows of values as they lie in memory, and how rows stand: plain facts, no function of the program.
-/
import Derived.Test.YtofpakpbbpcalaaValCmp
namespace Go.Proofs.Ytofpakpbbpcalaa
open Go.RowKit

/-- Four cells that hold a value. -/
def At (w : World) (b off : Nat) (v : VT) : Prop :=
  w.cell? ⟨b, off, none⟩ = some (.int .i64 v.1) ∧ w.cell? ⟨b, off + 1, none⟩ = some (.int .i64 v.2.1) ∧
  w.cell? ⟨b, off + 2, none⟩ = some (.string v.2.2.1) ∧ w.cell? ⟨b, off + 3, none⟩ = some (.float .f64 v.2.2.2)
theorem At.up {w w' : World} {b off : Nat} {v : VT} (h : At w b off v) (hu : Up w w') : At w' b off v :=
  ⟨hu.cell h.1, hu.cell h.2.1, hu.cell h.2.2.1, hu.cell h.2.2.2⟩

/-- What every value of Go's keeps: its numbers fit, its string is no longer than memory. -/
def Fits (v : VT) : Prop := IntKind.i64.min ≤ v.1 ∧ v.1 ≤ IntKind.i64.max ∧ IntKind.i64.min ≤ v.2.1 ∧ v.2.1 ≤ IntKind.i64.max ∧ v.2.2.1.size ≤ maxLen ∧ v.2.2.2 < whole

def zeroT : VT := (0, 0, ByteArray.empty, 0)
theorem fits_zero : Fits zeroT := by
  refine ⟨by decide, by decide, by decide, by decide, ?_, ?_⟩
  · simp [zeroT, maxLen]
  · simp [zeroT, whole]

/-- A slice of values: nothing, or a row of them in memory. -/
def Vals (w : World) (a : Option Addr) (n : Nat) (l : List VT) : Prop :=
  l.length = n ∧ (∀ i, Fits (l.getD i zeroT)) ∧ (n = 0 ∨ ∃ b off, a = some ⟨b, off, none⟩ ∧ ∀ i, i < n → At w b (off + i * 4) (l.getD i zeroT))
theorem Vals.up {w w' : World} {a : Option Addr} {n : Nat} {l : List VT} (h : Vals w a n l) (hu : Up w w') : Vals w' a n l := by
  refine ⟨h.1, h.2.1, ?_⟩
  rcases h.2.2 with h0 | ⟨b, off, ha, hx⟩
  · exact .inl h0
  · exact .inr ⟨b, off, ha, fun i hi => (hx i hi).up hu⟩

/-- How two rows stand: by the first pair that isn't the same, else by length. -/
def rowsV : List VT → List VT → Int
  | [], [] => 0
  | [], _ :: _ => -1
  | _ :: _, [] => 1
  | a :: l, b :: m => if cmpV a b = 0 then rowsV l m else cmpV a b

theorem rowsV_nil_left (m : List VT) : rowsV [] m = cmpI 0 m.length := by
  cases m with
  | nil => rfl
  | cons b m => rw [rowsV, cmpI, if_pos (by simp)]
theorem rowsV_nil_right (l : List VT) : rowsV l [] = cmpI l.length 0 := by
  cases l with
  | nil => rfl
  | cons a l => rw [rowsV, cmpI, if_neg (by simp; omega), if_pos (by simp)]

theorem rowsV_differ (l m : List VT) (k : Nat) (hl : k < l.length) (hm : k < m.length) (he : ∀ j, j < k → cmpV (l.getD j zeroT) (m.getD j zeroT) = 0)
    (hd : cmpV (l.getD k zeroT) (m.getD k zeroT) ≠ 0) : rowsV l m = cmpV (l.getD k zeroT) (m.getD k zeroT) := by
  induction l generalizing m k with
  | nil => simp at hl
  | cons a l ih =>
    cases m with
    | nil => simp at hm
    | cons b m =>
      cases k with
      | zero =>
        simp only [List.getD_cons_zero] at hd ⊢
        rw [rowsV, if_neg hd]
      | succ k =>
        have h0 := he 0 (by omega)
        simp only [List.getD_cons_zero] at h0
        simp only [List.getD_cons_succ] at hd ⊢
        rw [rowsV, if_pos h0]
        refine ih m k (by simpa using hl) (by simpa using hm) (fun j hj => ?_) hd
        have := he (j + 1) (by omega)
        simpa only [List.getD_cons_succ] using this

theorem cmpI_succ (x y : Nat) : cmpI ((x + 1 : Nat) : Int) ((y + 1 : Nat) : Int) = cmpI x y := by
  unfold cmpI
  by_cases h1 : (x : Int) < y
  · rw [if_pos h1, if_pos (by omega)]
  · by_cases h2 : (y : Int) < x
    · rw [if_neg h1, if_pos h2, if_neg (by omega), if_pos (by omega)]
    · rw [if_neg h1, if_neg h2, if_neg (by omega), if_neg (by omega)]

theorem rowsV_alike (l m : List VT) (he : ∀ j, j < l.length → j < m.length → cmpV (l.getD j zeroT) (m.getD j zeroT) = 0) : rowsV l m = cmpI l.length m.length := by
  induction l generalizing m with
  | nil => exact rowsV_nil_left m
  | cons a l ih =>
    cases m with
    | nil => exact rowsV_nil_right (a :: l)
    | cons b m =>
      have h0 := he 0 (by simp) (by simp)
      simp only [List.getD_cons_zero] at h0
      rw [rowsV, if_pos h0, List.length_cons, List.length_cons, cmpI_succ]
      refine ih m fun j h1 h2 => ?_
      have := he (j + 1) (by simpa using h1) (by simpa using h2)
      simpa only [List.getD_cons_succ] using this

end Go.Proofs.Ytofpakpbbpcalaa

/-
  What value.Compare and value.Same answer, for every two values and whatever is none, as their text runs; nothing that was there is written.
  Values and rows of values as they lie in memory, and how rows stand: plain facts, no function of the program.
  What value.Is and value.Zero answer, of whatever they are handed, as their text runs.
-/
import Derived.Test.YtnokokhbcfkifaaGreatDoorBitsG
import Derived.Test.YtnokokhbcfkifaaGreatDoorUps
namespace Go.Proofs.YtnokokhbcfkifaaGreatDoor
open Go.ChangeShapes Go.WideShapes Go.ChangeAt Go.RowKit
attribute [local go_sem ↓] Go.wp_at_zero Go.wp_at_succ

/-- A value's four fields. -/
abbrev VT := Int × Int × ByteArray × Nat
/-- How two values stand. -/
def cmpV (a b : VT) : Int := orI (cmpI a.1 b.1) (cmpI a.2.1 b.2.1) (cmpS a.2.2.1 b.2.2.1) (cmpN a.2.2.2 b.2.2.2)

theorem or_new (c0 c1 c2 c3 : Int) (w : World) :
    Calls Tryz.prog 114 #[.slice (some ⟨w.heap.size, 0, none⟩) 4 4] (w.alloc (.cells #[.int .i64 c0, .int .i64 c1, .int .i64 c2, .int .i64 c3] 3)).drew
      fun e w' => e = .returned (.int .i64 (orI c0 c1 c2 c3)) ∧ w' = (w.alloc (.cells #[.int .i64 c0, .int .i64 c1, .int .i64 c2, .int .i64 c3] 3)).drew := by
  refine or_calls _ _ _ _ _ _ ?_ ?_ ?_ ?_ <;> go_simp

theorem vcompare_calls (k n k' n' : Int) (s s' : ByteArray) (f f' : Nat) (hf : f < whole) (hf' : f' < whole) (w : World) :
    Calls Tryz.prog 108 #[.agg #[.int .i64 k, .int .i64 n, .string s, .float .f64 f], .agg #[.int .i64 k', .int .i64 n', .string s', .float .f64 f']] w
      fun e w' => e = .returned (.int .i64 (cmpV (k, n, s, f) (k', n', s', f'))) ∧ Up w w' := by
  obtain ⟨W, hW⟩ : ∃ W, (w.alloc (.cells #[.int .i64 k, .int .i64 n, .string s, .float .f64 f] 77)).alloc (.cells #[.int .i64 k', .int .i64 n', .string s', .float .f64 f'] 77) = W := ⟨_, rfl⟩
  have hb : Up w W := by
    rw [← hW]
    exact ((Up.refl _).alloc _).alloc _
  have l0 : W.cell? ⟨w.heap.size, 0, none⟩ = some (.int .i64 k) := by subst hW; go_simp
  have l1 : W.cell? ⟨w.heap.size, 1, none⟩ = some (.int .i64 n) := by subst hW; go_simp
  have l2 : W.cell? ⟨w.heap.size, 2, none⟩ = some (.string s) := by subst hW; go_simp
  have l3 : W.cell? ⟨w.heap.size, 3, none⟩ = some (.float .f64 f) := by subst hW; go_simp
  have r0 : W.cell? ⟨w.heap.size + 1, 0, none⟩ = some (.int .i64 k') := by subst hW; go_simp
  have r1 : W.cell? ⟨w.heap.size + 1, 1, none⟩ = some (.int .i64 n') := by subst hW; go_simp
  have r2 : W.cell? ⟨w.heap.size + 1, 2, none⟩ = some (.string s') := by subst hW; go_simp
  have r3 : W.cell? ⟨w.heap.size + 1, 3, none⟩ = some (.float .f64 f') := by subst hW; go_simp
  have hb' : Hid (Up w W) := hb
  clear hb
  have hne0 := World.new_ne W _ l0
  have hne1 := World.new_ne W _ r0
  go_enter Tryz.func108, Tryz.ntmps108
  go_wp2
  clear hW
  go_region_held3 (fun w' => w'.cell? ⟨w.heap.size, 0, none⟩ = some (.int .i64 k) ∧ w'.cell? ⟨w.heap.size, 1, none⟩ = some (.int .i64 n) ∧ w'.cell? ⟨w.heap.size, 2, none⟩ = some (.string s) ∧ w'.cell? ⟨w.heap.size, 3, none⟩ = some (.float .f64 f)
      ∧ w'.cell? ⟨w.heap.size + 1, 0, none⟩ = some (.int .i64 k') ∧ w'.cell? ⟨w.heap.size + 1, 1, none⟩ = some (.int .i64 n') ∧ w'.cell? ⟨w.heap.size + 1, 2, none⟩ = some (.string s') ∧ w'.cell? ⟨w.heap.size + 1, 3, none⟩ = some (.float .f64 f')) (go_keep)
    (first
      | (go_at_call 109; refine (cmpInt_calls _ _ _).mono ?_; rintro _ _ ⟨rfl, rfl⟩)
      | (go_at_call 115; refine (cmpInt64_calls _ _ _).mono ?_; rintro _ _ ⟨rfl, rfl⟩)
      | (go_at_call 116; refine (cmpStr_calls _ _ _).mono ?_; rintro _ _ ⟨rfl, rfl⟩)
      | (go_at_call 117; refine (compare_calls _ _ (by with_reducible assumption) (by with_reducible assumption) _).mono ?_; rintro _ _ ⟨rfl, rfl⟩)
      | (go_at_call 114; refine (or_new _ _ _ _ _).mono ?_; rintro _ _ ⟨rfl, rfl⟩))
  all_goals go_wp2
  all_goals go_ret
  all_goals exact ⟨rfl, (hb'.out.alloc _).drew⟩

end Go.Proofs.YtnokokhbcfkifaaGreatDoor

namespace Go.Proofs.YtnokokhbcfkifaaGreatDoor
open Go.RowKit

/-- Four cells that hold a value. -/
def At (w : World) (b off : Nat) (v : VT) : Prop :=
  w.cell? ⟨b, off, none⟩ = some (.int .i64 v.1) ∧ w.cell? ⟨b, off + 1, none⟩ = some (.int .i64 v.2.1) ∧
  w.cell? ⟨b, off + 2, none⟩ = some (.string v.2.2.1) ∧ w.cell? ⟨b, off + 3, none⟩ = some (.float .f64 v.2.2.2)
theorem At.up {w w' : World} {b off : Nat} {v : VT} (h : At w b off v) (hu : Up w w') : At w' b off v :=
  ⟨hu.cell h.1, hu.cell h.2.1, hu.cell h.2.2.1, hu.cell h.2.2.2⟩

/-- What every value of Go's keeps: its numbers fit, its string is no longer than memory. -/
def Fits (v : VT) : Prop := IntKind.i64.min ≤ v.1 ∧ v.1 ≤ IntKind.i64.max ∧ IntKind.i64.min ≤ v.2.1 ∧ v.2.1 ≤ IntKind.i64.max ∧ v.2.2.1.size ≤ maxLen ∧ v.2.2.2 < whole

def zeroT : VT := (0, 0, ByteArray.empty, 0)
theorem fits_zero : Fits zeroT := by
  refine ⟨by decide, by decide, by decide, by decide, ?_, ?_⟩
  · simp [zeroT, maxLen]
  · simp [zeroT, whole]

/-- A slice of values: nothing, or a row of them in memory. -/
def Vals (w : World) (a : Option Addr) (n : Nat) (l : List VT) : Prop :=
  l.length = n ∧ (∀ i, Fits (l.getD i zeroT)) ∧ (n = 0 ∨ ∃ b off, a = some ⟨b, off, none⟩ ∧ ∀ i, i < n → At w b (off + i * 4) (l.getD i zeroT))
theorem Vals.up {w w' : World} {a : Option Addr} {n : Nat} {l : List VT} (h : Vals w a n l) (hu : Up w w') : Vals w' a n l := by
  refine ⟨h.1, h.2.1, ?_⟩
  rcases h.2.2 with h0 | ⟨b, off, ha, hx⟩
  · exact .inl h0
  · exact .inr ⟨b, off, ha, fun i hi => (hx i hi).up hu⟩

/-- How two rows stand: by the first pair that isn't the same, else by length. -/
def rowsV : List VT → List VT → Int
  | [], [] => 0
  | [], _ :: _ => -1
  | _ :: _, [] => 1
  | a :: l, b :: m => if cmpV a b = 0 then rowsV l m else cmpV a b

theorem rowsV_nil_left (m : List VT) : rowsV [] m = cmpI 0 m.length := by
  cases m with
  | nil => rfl
  | cons b m => rw [rowsV, cmpI, if_pos (by simp)]
theorem rowsV_nil_right (l : List VT) : rowsV l [] = cmpI l.length 0 := by
  cases l with
  | nil => rfl
  | cons a l => rw [rowsV, cmpI, if_neg (by simp; omega), if_pos (by simp)]

theorem rowsV_differ (l m : List VT) (k : Nat) (hl : k < l.length) (hm : k < m.length) (he : ∀ j, j < k → cmpV (l.getD j zeroT) (m.getD j zeroT) = 0)
    (hd : cmpV (l.getD k zeroT) (m.getD k zeroT) ≠ 0) : rowsV l m = cmpV (l.getD k zeroT) (m.getD k zeroT) := by
  induction l generalizing m k with
  | nil => simp at hl
  | cons a l ih =>
    cases m with
    | nil => simp at hm
    | cons b m =>
      cases k with
      | zero =>
        simp only [List.getD_cons_zero] at hd ⊢
        rw [rowsV, if_neg hd]
      | succ k =>
        have h0 := he 0 (by omega)
        simp only [List.getD_cons_zero] at h0
        simp only [List.getD_cons_succ] at hd ⊢
        rw [rowsV, if_pos h0]
        refine ih m k (by simpa using hl) (by simpa using hm) (fun j hj => ?_) hd
        have := he (j + 1) (by omega)
        simpa only [List.getD_cons_succ] using this

theorem cmpI_succ (x y : Nat) : cmpI ((x + 1 : Nat) : Int) ((y + 1 : Nat) : Int) = cmpI x y := by
  unfold cmpI
  by_cases h1 : (x : Int) < y
  · rw [if_pos h1, if_pos (by omega)]
  · by_cases h2 : (y : Int) < x
    · rw [if_neg h1, if_pos h2, if_neg (by omega), if_pos (by omega)]
    · rw [if_neg h1, if_neg h2, if_neg (by omega), if_neg (by omega)]

theorem rowsV_alike (l m : List VT) (he : ∀ j, j < l.length → j < m.length → cmpV (l.getD j zeroT) (m.getD j zeroT) = 0) : rowsV l m = cmpI l.length m.length := by
  induction l generalizing m with
  | nil => exact rowsV_nil_left m
  | cons a l ih =>
    cases m with
    | nil => exact rowsV_nil_right (a :: l)
    | cons b m =>
      have h0 := he 0 (by simp) (by simp)
      simp only [List.getD_cons_zero] at h0
      rw [rowsV, if_pos h0, List.length_cons, List.length_cons, cmpI_succ]
      refine ih m fun j h1 h2 => ?_
      have := he (j + 1) (by simpa using h1) (by simpa using h2)
      simpa only [List.getD_cons_succ] using this

end Go.Proofs.YtnokokhbcfkifaaGreatDoor

namespace Go.Proofs.YtnokokhbcfkifaaGreatDoor
open Go.ChangeShapes Go.WideShapes Go.ChangeAt Go.RowKit
attribute [local go_sem ↓] Go.wp_at_zero Go.wp_at_succ
attribute [local go_sem] run_store_float

/-- Whether it is a value: of a kind, with nothing in the fields that its kind leaves out. -/
def isB (v : VT) : Bool :=
  if v.1 = 1 then v.2.2.1.toList.isEmpty && ((v.2.2.2 : Int) == 0)
  else if v.1 = 2 then (v.2.1 == 0 || v.2.1 == 1) && v.2.2.1.toList.isEmpty && ((v.2.2.2 : Int) == 0)
  else if v.1 = 3 ∨ v.1 = 4 then v.2.1 == 0 && decide ((v.2.2.1.size : Int) ≤ 60) && ((v.2.2.2 : Int) == 0)
  else if v.1 = 5 then v.2.1 == 0 && v.2.2.1.toList.isEmpty
  else false

/-- Whether there is such a kind. -/
def kindB (k : Int) : Bool := decide (1 ≤ k) && decide (k ≤ 5)

theorem isB_zero (k : Int) : isB (k, 0, ⟨#[]⟩, 0) = kindB k := by
  by_cases h1 : k = 1
  · subst h1; decide +kernel
  by_cases h2 : k = 2
  · subst h2; decide +kernel
  by_cases h3 : k = 3
  · subst h3; decide +kernel
  by_cases h4 : k = 4
  · subst h4; decide +kernel
  by_cases h5 : k = 5
  · subst h5; decide +kernel
  have : kindB k = false := by
    unfold kindB
    rw [Bool.and_eq_false_iff, decide_eq_false_iff_not, decide_eq_false_iff_not]
    omega
  rw [this]
  simp [isB, h1, h2, h3, h4, h5]

end Go.Proofs.YtnokokhbcfkifaaGreatDoor

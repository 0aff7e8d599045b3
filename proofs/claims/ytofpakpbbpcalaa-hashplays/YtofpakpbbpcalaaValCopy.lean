/-
  What rialtohelp.Copy answers of every row of values: a row of its own with the same values; and rows of values that a call owns.
-/
import Derived.Test.YtofpakpbbpcalaaVals
import Derived.OwnWalk
import Derived.ProofKit
namespace Go.Proofs.Ytofpakpbbpcalaa
open Go.ChangeShapes Go.WideShapes Go.ChangeAt Go.RowKit
attribute [local go_sem ↓] Go.wp_at_zero Go.wp_at_succ
attribute [local go_sem] run_store_float

/-- A row's cells. -/
def cellsT (v : VT) : List Value := [.int .i64 v.1, .int .i64 v.2.1, .string v.2.2.1, .float .f64 v.2.2.2]
def flat : List VT → List Value
  | [] => []
  | v :: l => cellsT v ++ flat l
theorem flat_length (l : List VT) : (flat l).length = l.length * 4 := by
  induction l with
  | nil => rfl
  | cons v l ih => simp only [flat, List.length_append, ih, List.length_cons, cellsT, List.length_nil]; omega
theorem flat_append (l m : List VT) : flat (l ++ m) = flat l ++ flat m := by
  induction l with
  | nil => rfl
  | cons v l ih => simp only [flat, List.cons_append, ih, List.append_assoc]
theorem flat_get (l : List VT) : ∀ (i j : Nat), i < l.length → j < 4 → (flat l)[i * 4 + j]? = (cellsT (l.getD i zeroT))[j]? := by
  induction l with
  | nil => intro i j hi; simp at hi
  | cons v l ih =>
    intro i j hi hj
    cases i with
    | zero =>
      rw [Nat.zero_mul, Nat.zero_add]
      show (cellsT v ++ flat l)[j]? = _
      rw [List.getElem?_append_left (by simp [cellsT]; omega)]
      rfl
    | succ i =>
      show (cellsT v ++ flat l)[(i + 1) * 4 + j]? = _
      rw [List.getElem?_append_right (by simp [cellsT]; omega)]
      have e : (i + 1) * 4 + j - (cellsT v).length = i * 4 + j := by simp [cellsT]; omega
      rw [e, ih i j (by simpa using hi) hj]
      rfl
theorem flat_one (l : List VT) : ∀ u ∈ flat l, u.oneCell' = true := by
  induction l with
  | nil => intro u hu; cases hu
  | cons v l ih =>
    intro u hu
    rcases List.mem_append.1 hu with h | h
    · simp only [cellsT, List.mem_cons, List.not_mem_nil, or_false] at h
      rcases h with rfl | rfl | rfl | rfl <;> rfl
    · exact ih u h

theorem at_get {w : World} {b off : Nat} {v : VT} (h : At w b off v) (j : Nat) (hj : j < 4) : w.cell? ⟨b, off + j, none⟩ = (cellsT v)[j]? := by
  match j, hj with
  | 0, _ => exact h.1
  | 1, _ => exact h.2.1
  | 2, _ => exact h.2.2.1
  | 3, _ => exact h.2.2.2

theorem row_news {w : World} {b off : Nat} {l : List VT} (h : ∀ i, i < l.length → At w b (off + i * 4) (l.getD i zeroT)) (j : Nat) (u : Value) (hj : (flat l)[j]? = some u) :
    w.cell? ((⟨b, off, none⟩ : Addr).add j) = some u := by
  rw [add_plain]
  have hlt : j < (flat l).length := by
    by_cases x : j < (flat l).length
    · exact x
    · rw [List.getElem?_eq_none (by omega)] at hj; cases hj
  rw [flat_length] at hlt
  have e : j = j / 4 * 4 + j % 4 := by omega
  have h1 := flat_get l (j / 4) (j % 4) (by omega) (by omega)
  rw [← e] at h1
  have h2 := at_get (h (j / 4) (by omega)) (j % 4) (by omega)
  rw [show off + j / 4 * 4 + j % 4 = off + j by omega] at h2
  rw [h2, ← h1, hj]

/-- A row that the call owns is a row of values. -/
theorem owns_vals {w : World} {base n : Nat} {v : Value} {l : List VT} (h : w.ownsRow base 52 4 v n (flat l)) (hf : ∀ i, Fits (l.getD i zeroT)) :
    ∃ a cap, v = .slice a n cap ∧ n ≤ cap ∧ cap ≤ maxLen ∧ l.length = n ∧ Vals w a n l ∧ ∀ k, v.ownBlock = some k → base ≤ k := by
  have hlen : l.length = n := by have := h.1; rw [flat_length] at this; omega
  have hlt := h.lt
  rcases h.2 with ⟨rfl, rfl⟩ | ⟨g, cap, cur, rfl, hb, hg, hc, hm, hs, ht⟩
  · exact ⟨none, 0, rfl, Nat.le_refl _, Nat.zero_le _, hlen, ⟨hlen, hf, .inl rfl⟩, fun k hk => (hlt k hk).1⟩
  · refine ⟨some ⟨g, 0, none⟩, cap, rfl, hc, hm, hlen, ⟨hlen, hf, ?_⟩, fun k hk => (hlt k hk).1⟩
    refine .inr ⟨g, 0, rfl, fun i hi => ?_⟩
    have key : ∀ j, j < 4 → w.cell? ⟨g, 0 + i * 4 + j, none⟩ = (cellsT (l.getD i zeroT))[j]? := by
      intro j hj
      rw [show 0 + i * 4 + j = i * 4 + j by omega, h.cellAt (i * 4 + j) (by omega)]
      exact flat_get l i j (by omega) hj
    exact ⟨key 0 (by omega), key 1 (by omega), key 2 (by omega), key 3 (by omega)⟩

theorem info_value : (Try.prog.info? 52).map (fun i => (i.zero, i.size, i.bytes)) = some (some (.agg #[.int .i64 0, .int .i64 0, .string ⟨#[]⟩, .float .f64 0]), 4, 40) := by kernel_rfl

theorem copy_nil (c : Nat) (w : World) :
    Calls Try.prog 12 #[.slice none 0 c] w fun e w' => e = .returned (.slice none 0 0) ∧ w' = w := by
  go_enter Try.func12, Try.ntmps12
  go_wp2
  go_ret
  exact ⟨rfl, rfl⟩

theorem copy_some (x : Addr) (n c : Nat) (l : List VT) (w : World) (hn : n ≤ 1000) (hl : l.length = n) (hnews : ∀ j u, (flat l)[j]? = some u → w.cell? (x.add j) = some u) :
    Calls Try.prog 12 #[.slice (some x) n c] w fun e w' => ∃ v, e = .returned v ∧ w'.ownsRow w.heap.size 52 4 v n (flat l) ∧ Up w w' := by
  obtain ⟨i0, hi, hz0, hz1, hz2⟩ := info_parts info_value
  have H := hide hnews
  clear hnews
  go_enter Try.func12, Try.ntmps12
  go_wp2_with (at_builtin; refine wpList_append_own _ rfl _ _ 27 rfl w.heap.size 52 i0 (.agg #[.int .i64 0, .int .i64 0, .string ⟨#[]⟩, .float .f64 0]) 4 40 Try.underlying27 hi hz0 hz1 hz2 rfl (by decide) _ _ _ rfl (World.ownsRow_nil _ _ _ _) x n c (flat l) rfl (by rw [flat_length, hl]) H.out (flat_one l) (by unfold maxLen; omega) (by omega) (Nat.le_refl _) ?_)
  intro v' w1 hown hgrow _
  replace hown := hide hown
  replace hgrow := hide hgrow
  go_wp2
  go_ret
  exact ⟨_, rfl, hown.out, (Below.refl _ _).grown hgrow.out (Nat.le_refl _) (fun k hk => by cases hk)⟩

theorem copy_calls (a : Option Addr) (n c : Nat) (l : List VT) (w : World) (hn : n ≤ 1000) (hv : Vals w a n l) (ha : a = none → n = 0) :
    Calls Try.prog 12 #[.slice a n c] w fun e w' => ∃ v, e = .returned v ∧ w'.ownsRow w.heap.size 52 4 v n (flat l) ∧ Up w w' := by
  obtain ⟨hl, _, h⟩ := hv
  cases a with
  | none =>
    obtain rfl : n = 0 := ha rfl
    obtain rfl : l = [] := List.length_eq_zero_iff.1 hl
    refine (copy_nil c w).mono ?_
    rintro _ w1 ⟨rfl, rfl⟩
    exact ⟨_, rfl, World.ownsRow_nil _ _ _ _, Up.refl _⟩
  | some x =>
    refine copy_some x n c l w hn hl ?_
    rcases h with rfl | ⟨b, off, hx, hx2⟩
    · obtain rfl : l = [] := List.length_eq_zero_iff.1 hl
      intro j u hj
      simp [flat] at hj
    · obtain rfl : x = ⟨b, off, none⟩ := by simpa using hx
      exact row_news (fun i hi => hx2 i (by omega))

end Go.Proofs.Ytofpakpbbpcalaa

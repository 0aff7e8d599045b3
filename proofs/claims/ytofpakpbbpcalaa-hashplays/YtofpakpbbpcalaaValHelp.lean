/-
  What the statements' own helps answer (num, float, Few, known), as their text runs.
-/
import Derived.Test.YtofpakpbbpcalaaValIs
namespace Go.Proofs.Ytofpakpbbpcalaa
open Go.ChangeShapes Go.WideShapes Go.ChangeAt Go.RowKit
attribute [local go_sem ↓] Go.wp_at_zero Go.wp_at_succ
attribute [local go_sem] run_store_float

/-- Whether the strings of a row are short. -/
def shortB (l : List VT) : Bool := l.all fun v => decide (v.2.2.1.size ≤ 200)
/-- Whether there are few, with short strings. -/
def fewB (l : List VT) (many : Int) : Bool := shortB l && decide ((l.length : Int) ≤ many)

theorem shortB_long {l : List VT} {k : Nat} (hk : k < l.length) (h : 200 < (l.getD k zeroT).2.2.1.size) : shortB l = false := by
  unfold shortB
  rw [List.all_eq_false]
  refine ⟨l.getD k zeroT, ?_, by simpa using h⟩
  rw [List.getD_eq_getElem?_getD, List.getElem?_eq_getElem hk]
  exact List.getElem_mem hk
theorem shortB_all {l : List VT} (h : ∀ j, j < l.length → (l.getD j zeroT).2.2.1.size ≤ 200) : shortB l = true := by
  unfold shortB
  rw [List.all_eq_true]
  intro v hv
  obtain ⟨k, hk, rfl⟩ := List.getElem_of_mem hv
  have := h k hk
  rw [List.getD_eq_getElem?_getD, List.getElem?_eq_getElem hk] at this
  simpa using this
theorem shortB_get {l : List VT} (h : shortB l = true) (j : Nat) : (l.getD j zeroT).2.2.1.size ≤ 200 := by
  unfold shortB at h
  rw [List.all_eq_true] at h
  by_cases hj : j < l.length
  · rw [List.getD_eq_getElem?_getD, List.getElem?_eq_getElem hj]
    simpa using h _ (List.getElem_mem hj)
  · rw [List.getD_eq_getElem?_getD, List.getElem?_eq_none (by omega)]
    simp [zeroT]

theorem few_none (a : Option Addr) (c : Nat) (many : Int) (w : World) :
    Calls Try.prog 9 #[.slice a 0 c, .int .i64 many] w fun e w' => e = .returned (.bool (decide ((0 : Int) ≤ many))) ∧ w' = w := by
  go_enter Try.func9, Try.ntmps9
  go_wp2_with fail
  refine wp_loop_rounds 1 ?_
  rw [rounds_succ]
  go_wp2
  go_ret
  exact ⟨rfl, rfl⟩

theorem few_some (b off n c : Nat) (l : List VT) (many : Int) (w : World) (hl : l.length = n) (hn : n ≤ maxLen) (hx : ∀ i, i < n → At w b (off + i * 4) (l.getD i zeroT)) :
    Calls Try.prog 9 #[.slice (some ⟨b, off, none⟩) n c, .int .i64 many] w fun e w' => e = .returned (.bool (fewB l many)) ∧ w' = w := by
  have H := hide hx
  have HL := hide hl
  clear hx hl
  unfold maxLen at hn
  go_enter Try.func9, Try.ntmps9
  go_wp2_with fail
  go_loop [5] (fun i => ∃ k : Nat, k ≤ n ∧ i = .int .i64 k ∧ Hid (∀ j, j < k → (l.getD j zeroT).2.2.1.size ≤ 200)) (fun i => n - (intOf i).toNat)
  case atStart => exact ⟨0, Nat.zero_le _, rfl, fun j hj => absurd hj (Nat.not_lt_zero j)⟩
  case round =>
    obtain ⟨k, hk, rfl, he⟩ := hrel
    by_cases hlt : k < n
    · obtain ⟨_, _, l2, _⟩ := H.out k hlt
      obtain ⟨s, hs⟩ : ∃ s, s = (l.getD k zeroT).2.2.1 := ⟨_, rfl⟩
      rw [← hs] at l2
      replace hs := hide hs
      by_cases hlong : (200 : Int) < (s.size : Int)
      · go_wp2
        go_ret
        refine ⟨?_, rfl⟩
        have : shortB l = false := shortB_long (k := k) (by rw [HL.out]; exact hlt) (by rw [← hs.out]; omega)
        unfold fewB
        rw [this]
        rfl
      · go_wp2
        refine ⟨⟨k + 1, by omega, by go_num, fun j hj => ?_⟩, by simp [intOf]; omega⟩
        rcases Nat.lt_succ_iff_lt_or_eq.1 hj with hj | rfl
        · exact he.out j hj
        · rw [← hs.out]; omega
    · obtain rfl : k = n := by omega
      have hs : shortB l = true := shortB_all (fun j hj => he.out j (by rw [HL.out] at hj; exact hj))
      replace hs := hide hs
      go_wp2
      go_ret
      refine ⟨?_, rfl⟩
      unfold fewB
      rw [hs.out, HL.out]
      rfl

theorem few_calls (a : Option Addr) (n c : Nat) (l : List VT) (many : Int) (w : World) (hn : n ≤ maxLen) (hv : Vals w a n l) :
    Calls Try.prog 9 #[.slice a n c, .int .i64 many] w fun e w' => e = .returned (.bool (fewB l many)) ∧ w' = w := by
  obtain ⟨hl, _, h⟩ := hv
  rcases h with rfl | ⟨b, off, rfl, hx⟩
  · obtain rfl : l = [] := List.length_eq_zero_iff.1 hl
    exact few_none _ _ _ _
  · exact few_some _ _ _ _ l _ w hl hn hx

end Go.Proofs.Ytofpakpbbpcalaa

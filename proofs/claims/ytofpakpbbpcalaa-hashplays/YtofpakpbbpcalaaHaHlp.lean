/-
  Vals and Copy of the laws' helps, of every two rows of values, as their text runs.
-/
import Derived.Test.YtofpakpbbpcalaaHaKnw
import Derived.Test.YtofpakpbbpcalaaRowsOrd
import Derived.Test.YtofpakpbbpcalaaValHelp
namespace Go.Proofs.Ytofpakpbbpcalaa
open Go.ChangeShapes Go.WideShapes Go.ChangeAt Go.RowKit
set_option linter.unusedVariables false
set_option maxRecDepth 100000
attribute [local go_sem ↓] Go.wp_at_zero Go.wp_at_succ

theorem vals_calls (a0 a1 : Option Addr) (n0 n1 c0 c1 : Nat) (l m : List VT) (w : World) (h0 : n0 ≤ maxLen) (h1 : n1 ≤ maxLen) (v0 : Vals w a0 n0 l) (v1 : Vals w a1 n1 m) :
    Calls Try.prog 23 #[.slice a0 n0 c0, .slice a1 n1 c1] w fun e w' => e = .returned (.bool (decide (l = m))) ∧ Up w w' := by
  have V0 := hide v0
  have V1 := hide v1
  by_cases hn : n0 = n1
  · subst hn
    have hz : (rowsV l m == 0) = decide (l = m) := by
      by_cases e : l = m
      · subst e; rw [rowsV_self, decide_eq_true rfl]; rfl
      · rw [decide_eq_false e]
        have : rowsV l m ≠ 0 := fun h => e (rowsV_zero l m (fun v hv => mem_getD v0.2.1 hv) (fun v hv => mem_getD v1.2.1 hv) h)
        simpa using this
    rw [← hz]
    clear hz v0 v1
    go_enter Try.func23, Try.ntmps23
    go_wp2_with fail
    go_at_call 13
    refine (rvrows_calls _ _ _ _ _ _ l m _ h0 h1 V0.out V1.out).mono ?_
    rintro _ w1 ⟨rfl, hu1⟩
    have HU := hide hu1
    clear hu1
    go_wp2
    go_ret
    exact ⟨rfl, HU.out⟩
  · have hd : decide (l = m) = false := decide_eq_false (fun e => hn (by rw [← v0.1, ← v1.1, e]))
    rw [hd]
    have hb : ((n0 : Int) == (n1 : Int)) = false := by simp; omega
    clear hd v0 v1
    go_enter Try.func23, Try.ntmps23
    go_wp2
    go_ret
    exact ⟨rfl, Up.refl _⟩
theorem copyX_calls (a : Option Addr) (n c : Nat) (l : List VT) (w : World) (hn : n ≤ 1000) (hv : Vals w a n l) :
    Calls Try.prog 12 #[.slice a n c] w fun e w' => ∃ a' c', e = .returned (.slice a' n c') ∧ Vals w' a' n l ∧ Up w w' := by
  refine (copy_calls a n c l w hn hv (fun e => ?_)).mono ?_
  · rcases hv.2.2 with h | ⟨b, off, h, _⟩
    · exact h
    · rw [e] at h; cases h
  · rintro e w' ⟨v, rfl, ho, hu⟩
    have ho' : OwnV w' w.heap.size v l := by unfold OwnV; rw [hv.1]; exact ho
    obtain ⟨a', c', rfl, _, _, h⟩ := ho'.vals hv.2.1
    rw [hv.1] at h
    exact ⟨a', c', by rw [hv.1], h, hu⟩
theorem good_few {l : List VT} {many : Nat} (h : fewB l many = true) (hm : many ≤ 12) (hf : ∀ i, Fits (l.getD i zeroT)) : GoodK l := by
  simp only [fewB, Bool.and_eq_true, decide_eq_true_eq] at h
  exact ⟨by omega, fun i => shortB_get h.1 i, hf⟩
theorem few_len {l : List VT} {many : Nat} (h : fewB l many = true) : l.length ≤ many := by
  simp only [fewB, Bool.and_eq_true, decide_eq_true_eq] at h
  omega
theorem good_take {l : List VT} (h : GoodK l) (k : Nat) : GoodK (l.take k) := by
  refine ⟨by rw [List.length_take]; have := h.1; omega, fun i => ?_, fun i => ?_⟩
  · rw [List.getD_eq_getElem?_getD, List.getElem?_take]
    split
    · rw [← List.getD_eq_getElem?_getD]; exact h.2.1 i
    · simp [zeroT]
  · rw [List.getD_eq_getElem?_getD, List.getElem?_take]
    split
    · rw [← List.getD_eq_getElem?_getD]; exact h.2.2 i
    · exact fits_zero
theorem Vals.takeK {w : World} {a : Option Addr} {n : Nat} {l : List VT} (h : Vals w a n l) {k : Nat} (hk : k ≤ n) : Vals w a k (l.take k) := by
  obtain ⟨h1, h2, h3⟩ := h
  refine ⟨by rw [List.length_take]; omega, fun i => ?_, ?_⟩
  · rw [List.getD_eq_getElem?_getD, List.getElem?_take]
    split
    · rw [← List.getD_eq_getElem?_getD]; exact h2 i
    · exact fits_zero
  · rcases h3 with h3 | ⟨b, off, h4, h5⟩
    · exact .inl (by omega)
    · refine .inr ⟨b, off, h4, fun i hi => ?_⟩
      rw [List.getD_eq_getElem?_getD, List.getElem?_take, if_pos hi, ← List.getD_eq_getElem?_getD]
      exact h5 i (by omega)
theorem hasX_calls {p : Nat} {w0 w : World} {u : Bool} {T : Tab} {len c : Nat} (h : Ix p w0 w u T len c) (a : Option Addr) (n cp : Nat) (m : List VT) (x : Int) (hm : GoodK m) (hv : Vals w a n m) :
    Calls Try.prog 17 #[.pointer (some ⟨p, 0, none⟩), .slice a n cp, .int .i64 x] w fun e w' => e = .returned (.bool (decide (x ∈ T m))) ∧ Up w w' := by
  obtain ⟨h1, O, h2, h3⟩ := h
  exact has_calls p O u T len c a n cp m x w h2 hm hv

end Go.Proofs.Ytofpakpbbpcalaa

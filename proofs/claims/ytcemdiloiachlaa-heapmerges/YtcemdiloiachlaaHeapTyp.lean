/-
  Texts by their lengths, the longest ones first: the orders that HeapTypes hands over; which one a look from the end finds; plain facts for the law.
-/
import Derived.Test.YtcemdiloiachlaaHeapKnw
import Derived.Test.YtcemdiloiachlaaHeapLstS
namespace Go.Proofs.Ytcemdiloiachlaa
open Go.ChangeShapes Go.WideShapes Go.ChangeAt Go.RowKit
set_option linter.unusedVariables false

/-- A text's rank: the longest ones first. -/
def rkS (s : ETS) : Int := -(s.size : Int)
theorem before_types1 : BeforeS 21 rkS where
  enter _ _ := by kernel_rfl
  asks a b w := by
    have e : askB rkS a b = decide ((a.size : Int) > b.size) := by
      unfold askB rkS
      rw [Bool.eq_iff_iff]
      simp only [decide_eq_true_eq]
      omega
    rw [e]
    unfold eValS
    go_enter Try.func21, Try.ntmps21
    go_wp2
    go_ret
    first
    | exact ⟨rfl, Up.refl _⟩
    | (refine ⟨?_, Up.refl _⟩; simp)
theorem before_types2 : BeforeS 23 rkS where
  enter _ _ := by kernel_rfl
  asks a b w := by
    have e : askB rkS a b = decide ((a.size : Int) > b.size) := by
      unfold askB rkS
      rw [Bool.eq_iff_iff]
      simp only [decide_eq_true_eq]
      omega
    rw [e]
    unfold eValS
    go_enter Try.func23, Try.ntmps23
    go_wp2
    go_ret
    first
    | exact ⟨rfl, Up.refl _⟩
    | (refine ⟨?_, Up.refl _⟩; simp)

/-- What is left of a row of which some were used: the others, as they stand. -/
def leftL {E : Type} (l : List E) (used : List Bool) : List E := (l.zip used).filterMap (fun p => if p.2 then none else some p.1)
theorem leftL_none {E : Type} (l : List E) : leftL l (List.replicate l.length false) = l := by
  induction l with
  | nil => rfl
  | cons x l ih =>
    show leftL (x :: l) (false :: List.replicate l.length false) = _
    unfold leftL at *
    simp only [List.zip_cons_cons, List.filterMap_cons]
    simpa using ih
/-- The first one that wasn't used parts the row that is left. -/
theorem leftL_at {E : Type} : ∀ (l : List E) (used : List Bool) (k : Nat), used.length = l.length → (hk : k < l.length) → used.getD k true = false →
    leftL l used = leftL (l.take k) (used.take k) ++ l[k] :: leftL (l.drop (k + 1)) (used.drop (k + 1)) ∧ leftL l (used.set k true) = leftL (l.take k) (used.take k) ++ leftL (l.drop (k + 1)) (used.drop (k + 1))
  | [], _, _, _, hk, _ => by simp at hk
  | x :: l, [], _, h, _, _ => by simp at h
  | x :: l, u :: us, 0, h, _, hu => by
    simp at hu
    subst hu
    unfold leftL
    simp
  | x :: l, u :: us, k + 1, h, hk, hu => by
    obtain ⟨h1, h2⟩ := leftL_at l us k (by simpa using h) (by simpa using hk) (by simpa using hu)
    unfold leftL at *
    cases u <;> simp [h1, h2]
/-- A row's least one, found as the law finds it: the first of its rank among what is left. -/
theorem left_least {E : Type} (rk : E → Int) {R a b : List E} {y : E} {s : E} {t : List E} (e : isort rk R = s :: t) (hR : R = a ++ y :: b) (hy : rk y = rk s) (ha : ∀ z ∈ a, rk z ≠ rk s) : y = s ∧ isort rk (a ++ b) = t := by
  have hmin : ∀ z ∈ R, rk s ≤ rk z := fun z hz => by
    have h1 := isort_srt rk R
    rw [e] at h1
    have h2 := (isort_perm rk R).mem_iff.2 hz
    rw [e] at h2
    rcases List.mem_cons.1 h2 with rfl | h2
    · exact Int.le_refl _
    · exact (List.pairwise_cons.1 h1).1 z h2
  have h3 := isort_first rk (a := a) (b := b) (x := y) (fun z hz => by
    have h4 := hmin z (by rw [hR]; exact List.mem_append_left _ hz)
    have h5 := ha z hz
    omega) (fun z hz => by
    have h4 := hmin z (by rw [hR]; exact List.mem_append_right _ (List.mem_cons_of_mem _ hz))
    omega)
  rw [← hR, e] at h3
  exact ⟨(List.cons.inj h3).1.symm, (List.cons.inj h3).2.symm⟩

end Go.Proofs.Ytcemdiloiachlaa

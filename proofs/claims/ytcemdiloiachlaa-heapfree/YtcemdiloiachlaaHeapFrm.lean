/-
  A bag of numbers beside a row of them that stands in order: plain facts; rows of integers that a call owns, written into.
-/
import Derived.Test.YtcemdiloiachlaaHeapKnw
import Derived.Test.YtcemdiloiachlaaHeapSrt
namespace Go.Proofs.Ytcemdiloiachlaa
open Go.ChangeShapes Go.WideShapes Go.ChangeAt Go.RowKit
set_option linter.unusedVariables false

def rkN (x : ETN) : Int := x
theorem size_int : (Try.prog.info? 3).map (·.size) = some 1 := by kernel_rfl
theorem eN_one (v : ETN) : ∀ u ∈ eCellsN v, u.oneCell' = true := fun u hu => by simp only [eCellsN, List.mem_cons, List.not_mem_nil, or_false] at hu; subst hu; rfl
theorem flat_set1 : ∀ (l : List ETN) (k : Nat) (x : ETN), (l.flatMap eCellsN).set k (.int .i64 x) = (l.set k x).flatMap eCellsN
  | [], k, x => by simp
  | y :: l, 0, x => by simp [eCellsN]
  | y :: l, k + 1, x => by
    rw [List.flatMap_cons, List.set_cons_succ, List.flatMap_cons, ← flat_set1 l k x]
    simp [eCellsN]
theorem own_set1 {w : World} {base g cap : Nat} {l : List ETN} (h : OwnEN w base (.slice (some ⟨g, 0, none⟩) l.length cap) l) (k : Nat) (x : ETN) (w' : World) (e : w' = w.setCell ⟨g, k, none⟩ (.int .i64 x)) :
    OwnEN w' base (.slice (some ⟨g, 0, none⟩) l.length cap) (l.set k x) := by
  have h1 := (World.ownsRow.stored h k (.int .i64 x)).1
  rw [flat_set1] at h1
  rw [e]
  unfold OwnEN OwnG
  rw [List.length_set]
  exact h1
theorem insN_at {S : List ETN} {x : ETN} {k : Nat} (hs : Srt rkN S) (hk : k ≤ S.length) (h1 : ∀ j, k ≤ j → j < S.length → x < S.getD j 0) (h2 : k = 0 ∨ S.getD (k - 1) 0 ≤ x) : S.take k ++ x :: S.drop k = insS rkN x S := by
  have hg : ∀ j (h : j < S.length), S.getD j 0 = S[j] := fun j h => by rw [List.getD_eq_getElem?_getD, List.getElem?_eq_getElem h]; rfl
  refine insS_at rkN hk (fun j h hj => ?_) (fun j h hj => by have := h1 j hj h; rw [hg j h] at this; exact this)
  rcases h2 with h2 | h2
  · omega
  · rw [hg (k - 1) (by omega)] at h2
    by_cases e : j = k - 1
    · subst e; exact h2
    · exact Int.le_trans (List.pairwise_iff_getElem.1 hs j (k - 1) h (by omega) (by omega)) h2
/-- It wasn't touched. -/
theorem OwnG.chg2 {α : Type} {e : TypeId} {k : Nat} {cs : α → List Value} {C : Nat → Prop} {w w' : World} {base : Nat} {v : Value} {l : List α} (h : OwnG e k cs w base v l) (hu : Chg C w w') (hC : ∀ g, v.ownBlock = some g → ¬ C g) : OwnG e k cs w' base v l := by
  refine ⟨h.1, ?_⟩
  rcases h.2 with h0 | ⟨g, cap, cur, rfl, hb, hg, hr⟩
  · exact .inl h0
  · have hlt := (h.lt g rfl).2
    exact .inr ⟨g, cap, cur, rfl, hb, (hu.2 g hlt (hC g rfl)).trans hg, hr⟩
/-- The least one of a bag and of a row that stands in order. -/
theorem bag_least {xs S : List Int} (hp : xs.Perm S) (hs : Srt rkN S) (hh : HeapFrom 0 ahN xs xs.length 0) {s : Int} {S' : List Int} (e : S = s :: S') : xs.getD 0 0 = s ∧ (popL 0 ahN xs).Perm S' := by
  subst e
  cases xs with
  | nil => exact absurd hp.length_eq (by simp)
  | cons x t =>
    have hx : ∀ y ∈ x :: t, x ≤ y := fun y hy => by
      obtain ⟨j, hj, ej⟩ := List.mem_iff_getElem.1 hy
      have h1 := heap_least 0 ahN ahN_order hh j hj
      rw [List.getD_eq_getElem?_getD, List.getElem?_eq_getElem hj, ej] at h1
      simp only [Option.getD_some, ahN, decide_eq_false_iff_not, show (x :: t).getD 0 0 = x from rfl] at h1
      omega
    have h2 : x ≤ s := hx s (hp.mem_iff.2 (List.mem_cons_self ..))
    have h3 : s ≤ x := by
      rcases List.mem_cons.1 (hp.mem_iff.1 (List.mem_cons_self (a := x) (l := t))) with h | h
      · omega
      · exact (List.pairwise_cons.1 hs).1 x h
    have h4 : x = s := by omega
    subst h4
    exact ⟨rfl, (popL_perm 0 ahN x t).trans (List.Perm.cons_inv hp)⟩
theorem bag_put {xs S : List Int} (hp : xs.Perm S) (x : Int) : (pushL 0 ahN xs x).Perm (insS rkN x S) :=
  (pushL_perm 0 ahN xs x).trans ((hp.cons x).trans (insS_perm rkN x S).symm)

end Go.Proofs.Ytcemdiloiachlaa

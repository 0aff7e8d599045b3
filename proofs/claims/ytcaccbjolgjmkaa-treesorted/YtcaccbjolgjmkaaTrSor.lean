/-
  TreeSorted of rialtolaw11, as its text runs.
-/
import Derived.Test.YtcaccbjolgjmkaaTrSee
import Derived.Test.YtcaccbjolgjmkaaTrSli
namespace Go.Proofs.Ytcaccbjolgjmkaa
open Go.ChangeShapes Go.WideShapes Go.ChangeAt Go.RowKit
set_option linter.unusedVariables false
set_option maxRecDepth 100000
attribute [local go_sem ↓] Go.wp_at_zero Go.wp_at_succ

/-- In order. -/
def Asc (l : List Int) : Prop := l.Pairwise (· ≤ ·)
/-- How many stand ahead of v; not behind it. -/
def lowN (l : List Int) (v : Int) : Nat := (l.filter (fun x => decide (x < v))).length
def topN (l : List Int) (v : Int) : Nat := (l.filter (fun x => decide (x ≤ v))).length
theorem Asc.split {l : List Int} (h : Asc l) (p : Int → Bool) (hp : ∀ x y, x ≤ y → p y = true → p x = true) : (l.filter p).length ≤ l.length ∧ (∀ i, i < (l.filter p).length → p (l.getD i 0) = true) ∧ ∀ i, (l.filter p).length ≤ i → i < l.length → p (l.getD i 0) = false := by
  induction l with
  | nil => exact ⟨by simp, fun i hi => by simp at hi, fun i _ hi => by simp at hi⟩
  | cons a l ih =>
    obtain ⟨h1, h2⟩ := List.pairwise_cons.1 h
    obtain ⟨i1, i2, i3⟩ := ih h2
    cases hpa : p a with
    | true =>
      rw [List.filter_cons_of_pos hpa]
      refine ⟨by simp; omega, fun i hi => ?_, fun i hi hl => ?_⟩
      · cases i with
        | zero => exact hpa
        | succ i => exact i2 i (by simpa using hi)
      · cases i with
        | zero => simp at hi
        | succ i => exact i3 i (by simpa using hi) (by simpa using hl)
    | false =>
      have hall : ∀ x ∈ l, p x = false := fun x hx => by
        cases hpx : p x with
        | false => rfl
        | true => rw [hp a x (h1 x hx) hpx] at hpa; cases hpa
      have hf : l.filter p = [] := List.filter_eq_nil_iff.2 (fun x hx => by rw [hall x hx]; simp)
      rw [List.filter_cons_of_neg (by rw [hpa]; simp), hf]
      refine ⟨by simp, fun i hi => by simp at hi, fun i _ hl => ?_⟩
      cases i with
      | zero => exact hpa
      | succ i =>
        have hi : i < l.length := by simpa using hl
        have : (a :: l).getD (i + 1) 0 = l[i] := by rw [List.getD_cons_succ, List.getD_eq_getElem?_getD, List.getElem?_eq_getElem hi]; rfl
        rw [this]
        exact hall _ (List.getElem_mem hi)
theorem lowN_split {l : List Int} (h : Asc l) (v : Int) : lowN l v ≤ l.length ∧ (∀ i, i < lowN l v → l.getD i 0 < v) ∧ ∀ i, lowN l v ≤ i → i < l.length → v ≤ l.getD i 0 := by
  obtain ⟨h1, h2, h3⟩ := h.split (fun x => decide (x < v)) (fun x y hxy hy => decide_eq_true (by have := of_decide_eq_true hy; omega))
  exact ⟨h1, fun i hi => of_decide_eq_true (h2 i hi), fun i hi hl => by have := of_decide_eq_false (h3 i hi hl); omega⟩
theorem topN_split {l : List Int} (h : Asc l) (v : Int) : topN l v ≤ l.length ∧ (∀ i, i < topN l v → l.getD i 0 ≤ v) ∧ ∀ i, topN l v ≤ i → i < l.length → v < l.getD i 0 := by
  obtain ⟨h1, h2, h3⟩ := h.split (fun x => decide (x ≤ v)) (fun x y hxy hy => decide_eq_true (by have := of_decide_eq_true hy; omega))
  exact ⟨h1, fun i hi => of_decide_eq_true (h2 i hi), fun i hi hl => by have := of_decide_eq_false (h3 i hi hl); omega⟩
theorem insL_asc {l : List Int} (h : Asc l) (v : Int) : Asc (insL v l (lowN l v)) := by
  obtain ⟨h1, h2, h3⟩ := lowN_split h v
  have hd : ∀ x ∈ l.take (lowN l v), x < v := fun x hx => by
    obtain ⟨i, hi, rfl⟩ := List.getElem_of_mem hx
    rw [List.length_take] at hi
    have := h2 i (by omega)
    rw [List.getD_eq_getElem?_getD, List.getElem?_eq_getElem (by omega)] at this
    rw [List.getElem_take]
    exact this
  have hu : ∀ x ∈ l.drop (lowN l v), v ≤ x := fun x hx => by
    obtain ⟨i, hi, rfl⟩ := List.getElem_of_mem hx
    rw [List.length_drop] at hi
    have := h3 (lowN l v + i) (by omega) (by omega)
    rw [List.getD_eq_getElem?_getD, List.getElem?_eq_getElem (by omega)] at this
    rw [List.getElem_drop]
    exact this
  unfold insL Asc
  rw [List.pairwise_append]
  refine ⟨List.Pairwise.sublist (List.take_sublist _ _) h, ?_, fun x hx y hy => ?_⟩
  · rw [List.pairwise_cons]
    exact ⟨hu, List.Pairwise.sublist (List.drop_sublist _ _) h⟩
  · have := hd x hx
    rcases List.mem_cons.1 hy with rfl | hy
    · omega
    · have := hu y hy; omega
theorem insL_perm {l : List Int} (v : Int) (p : Nat) : (insL v l p).Perm (v :: l) := by
  unfold insL
  have := (List.perm_middle (a := v) (l₁ := l.take p) (l₂ := l.drop p))
  rwa [List.take_append_drop] at this
theorem low_top {l m : List Int} (h : l.Perm m) (v : Int) : topN l v = lowN l v + m.count v := by
  unfold topN lowN
  rw [← h.count_eq v]
  induction l generalizing m with
  | nil => rfl
  | cons a l ih =>
    have ih' := ih (List.Perm.refl l)
    rw [List.count_cons]
    simp only [List.filter_cons]
    by_cases h1 : a < v
    · have : a ≤ v := by omega
      have hne : (a == v) = false := by simp; omega
      simp [h1, this, hne]; omega
    · by_cases h2 : a = v
      · subst h2
        simp; omega
      · have : ¬ a ≤ v := by omega
        have hne : (a == v) = false := by simpa using h2
        simp [h1, this, hne]; omega
/-- Search where the question only reads. -/
theorem tsearchU (T h n p vb : Nat) (g : FuncId) (xs : List Int) (qv : Int → Bool) (w : World) (t : TrI w T xs h n) (hx : xs.length ≤ 100000) (hg : ∀ args w, (callFunc g args).run Try.prog w = .ok (.enter g args) w)
    (hA : ∀ W, Up w W → AskV g #[.pointer (some ⟨vb, 0, none⟩)] qv (fun _ w' => Up W w')) (hp : p ≤ xs.length) (hlo : ∀ i, i < p → qv (xs.getD i 0) = false) (hhi : ∀ i, p ≤ i → i < xs.length → qv (xs.getD i 0) = true) :
    Calls Try.prog 22 #[.pointer (some ⟨T, 0, none⟩), .func (.func g) #[] #[.pointer (some ⟨vb, 0, none⟩)]] w fun e w' => e = .returned (.int .i64 p) ∧ Up w w' := by
  obtain ⟨W, hW⟩ : ∃ W, W = (w.alloc (.cells #[.pointer (some ⟨T, 0, none⟩)] 24)).alloc (.cells #[.func (.func g) #[] #[.pointer (some ⟨vb, 0, none⟩)]] 42) := ⟨_, rfl⟩
  have u : Up w W := by rw [hW]; exact ((Up.refl _).alloc _).alloc _
  have b1 : W.cell? ⟨w.heap.size, 0, none⟩ = some (.pointer (some ⟨T, 0, none⟩)) := by rw [hW]; go_simp
  have b2 : W.cell? ⟨w.heap.size + 1, 0, none⟩ = some (.func (.func g) #[] #[.pointer (some ⟨vb, 0, none⟩)]) := by rw [hW]; go_simp
  refine (tsearch_calls T h n p g _ xs qv (fun _ w' => Up W w') w W hW hx hg (hA W u) (fun _ _ _ a b => a.trans b) (fun _ w' hu => ⟨t.up (u.trans hu), hu.cell b1, hu.cell b2⟩) (Up.refl _) hp hlo hhi).mono ?_
  rintro e w' ⟨k, he, hI, _⟩
  exact ⟨he, u.trans hI⟩
theorem ask1_ge (vb : Nat) (v : Int) (w W : World) (hc : w.cell? ⟨vb, 0, none⟩ = some (.int .i64 v)) (hu : Up w W) : AskV 29 #[.pointer (some ⟨vb, 0, none⟩)] (fun x => decide (v ≤ x)) (fun _ w' => Up W w') := by
  intro k x w1 _ h1
  have c := (hu.trans h1).cell hc
  have H1 := hide h1
  clear hu h1 hc
  go_enter Try.func29, Try.ntmps29
  go_wp2
  go_ret
  exact ⟨rfl, H1.out⟩
theorem ask2_ge (vb : Nat) (v : Int) (w W : World) (hc : w.cell? ⟨vb, 0, none⟩ = some (.int .i64 v)) (hu : Up w W) : AskV 30 #[.pointer (some ⟨vb, 0, none⟩)] (fun x => decide (v ≤ x)) (fun _ w' => Up W w') := by
  intro k x w1 _ h1
  have c := (hu.trans h1).cell hc
  have H1 := hide h1
  clear hu h1 hc
  go_enter Try.func30, Try.ntmps30
  go_wp2
  go_ret
  exact ⟨rfl, H1.out⟩
theorem ask3_gt (vb : Nat) (v : Int) (w W : World) (hc : w.cell? ⟨vb, 0, none⟩ = some (.int .i64 v)) (hu : Up w W) : AskV 31 #[.pointer (some ⟨vb, 0, none⟩)] (fun x => decide (v < x)) (fun _ w' => Up W w') := by
  intro k x w1 _ h1
  have c := (hu.trans h1).cell hc
  have H1 := hide h1
  clear hu h1 hc
  go_enter Try.func31, Try.ntmps31
  go_wp2
  go_ret
  exact ⟨rfl, H1.out⟩
/-- The first place of what isn't below v; of what is above it. -/
theorem slow_calls (T h n vb : Nat) (v : Int) (xs : List Int) (w : World) (t : TrI w T xs h n) (hx : xs.length ≤ 100000) (hs : Asc xs) (hc : w.cell? ⟨vb, 0, none⟩ = some (.int .i64 v)) :
    Calls Try.prog 22 #[.pointer (some ⟨T, 0, none⟩), .func (.func 29) #[] #[.pointer (some ⟨vb, 0, none⟩)]] w fun e w' => e = .returned (.int .i64 (lowN xs v : Nat)) ∧ Up w w' := by
  obtain ⟨h1, h2, h3⟩ := lowN_split hs v
  exact tsearchU T h n _ vb _ xs (fun x => decide (v ≤ x)) w t hx (enters_of Try.func29 (by kernel_rfl) rfl) (fun W hu => ask1_ge vb v w W hc hu) h1 (fun i hi => decide_eq_false (by have := h2 i hi; omega)) (fun i hi hl => decide_eq_true (h3 i hi hl))
theorem slow2_calls (T h n vb : Nat) (v : Int) (xs : List Int) (w : World) (t : TrI w T xs h n) (hx : xs.length ≤ 100000) (hs : Asc xs) (hc : w.cell? ⟨vb, 0, none⟩ = some (.int .i64 v)) :
    Calls Try.prog 22 #[.pointer (some ⟨T, 0, none⟩), .func (.func 30) #[] #[.pointer (some ⟨vb, 0, none⟩)]] w fun e w' => e = .returned (.int .i64 (lowN xs v : Nat)) ∧ Up w w' := by
  obtain ⟨h1, h2, h3⟩ := lowN_split hs v
  exact tsearchU T h n _ vb _ xs (fun x => decide (v ≤ x)) w t hx (enters_of Try.func30 (by kernel_rfl) rfl) (fun W hu => ask2_ge vb v w W hc hu) h1 (fun i hi => decide_eq_false (by have := h2 i hi; omega)) (fun i hi hl => decide_eq_true (h3 i hi hl))
theorem stop_calls (T h n vb : Nat) (v : Int) (xs : List Int) (w : World) (t : TrI w T xs h n) (hx : xs.length ≤ 100000) (hs : Asc xs) (hc : w.cell? ⟨vb, 0, none⟩ = some (.int .i64 v)) :
    Calls Try.prog 22 #[.pointer (some ⟨T, 0, none⟩), .func (.func 31) #[] #[.pointer (some ⟨vb, 0, none⟩)]] w fun e w' => e = .returned (.int .i64 (topN xs v : Nat)) ∧ Up w w' := by
  obtain ⟨h1, h2, h3⟩ := topN_split hs v
  exact tsearchU T h n _ vb _ xs (fun x => decide (v < x)) w t hx (enters_of Try.func31 (by kernel_rfl) rfl) (fun W hu => ask3_gt vb v w W hc hu) h1 (fun i hi => decide_eq_false (by have := h2 i hi; omega)) (fun i hi hl => decide_eq_true (h3 i hi hl))
end Go.Proofs.Ytcaccbjolgjmkaa

/-
  Chains, told plainly: which numbers stand with which key, and how many there are. No function of the program.
-/
import Derived.Test.YtofpakpbbpcalaaHaDel
import Derived.Test.YtofpakpbbpcalaaHaKnw
namespace Go.Proofs.Ytofpakpbbpcalaa
open Go.RowKit
set_option linter.unusedVariables false

/-- The numbers up to some that stand with key k. -/
def chainU (th : Nat → Bool) (n k i : Nat) : List Int := ((List.range i).filter (fun j => th j && decide ((j + 1) % n = k))).map (fun j => ((j + 1 : Nat) : Int))
def chainL (th : Nat → Bool) (n k : Nat) : List Int := chainU th n k 256
theorem chainU_zero (th : Nat → Bool) (n k : Nat) : chainU th n k 0 = [] := rfl
theorem chainU_yes {th : Nat → Bool} {n k i : Nat} (h : th i = true) (hk : (i + 1) % n = k) : chainU th n k (i + 1) = chainU th n k i ++ [((i + 1 : Nat) : Int)] := by
  unfold chainU
  rw [List.range_succ, List.filter_append, List.map_append]
  simp [h, hk]
theorem chainU_no {th : Nat → Bool} {n k i : Nat} (h : (th i && decide ((i + 1) % n = k)) = false) : chainU th n k (i + 1) = chainU th n k i := by
  unfold chainU
  rw [List.range_succ, List.filter_append, List.map_append]
  simp [h]
theorem chainU_length (th : Nat → Bool) (n k i : Nat) : (chainU th n k i).length ≤ i := by
  unfold chainU
  rw [List.length_map]
  have := List.length_filter_le (fun j => th j && decide ((j + 1) % n = k)) (List.range i)
  simpa using this
theorem chainU_mem {th : Nat → Bool} {n k i : Nat} {x : Int} : x ∈ chainU th n k i ↔ ∃ j, j < i ∧ th j = true ∧ (j + 1) % n = k ∧ x = ((j + 1 : Nat) : Int) := by
  simp only [chainU, List.mem_map, List.mem_filter, List.mem_range, Bool.and_eq_true, decide_eq_true_eq]
  constructor
  · rintro ⟨j, ⟨h1, h2, h3⟩, rfl⟩; exact ⟨j, h1, h2, h3, rfl⟩
  · rintro ⟨j, h1, h2, h3, rfl⟩; exact ⟨j, ⟨h1, h2, h3⟩, rfl⟩
theorem chainU_rise (th : Nat → Bool) (n k i : Nat) : Rise (chainU th n k i) := by
  unfold Rise chainU
  rw [List.pairwise_map]
  refine (List.pairwise_lt_range.filter _).imp fun h => ?_
  omega
/-- One more. -/
def setB (th : Nat → Bool) (b : Nat) : Nat → Bool := fun j => if j = b then true else th j
theorem setB_same (th : Nat → Bool) (b : Nat) : setB th b b = true := if_pos rfl
theorem setB_other (th : Nat → Bool) {b j : Nat} (h : j ≠ b) : setB th b j = th j := if_neg h
theorem chain_ins {th : Nat → Bool} {n b : Nat} (hb : b < 256) : insF (chainL th n ((b + 1) % n)) ((b + 1 : Nat) : Int) = chainL (setB th b) n ((b + 1) % n) := by
  refine rise_unique (insF_rise (chainU_rise _ _ _ _)) (chainU_rise _ _ _ _) fun y => ?_
  rw [insF_mem, chainL, chainL, chainU_mem, chainU_mem]
  constructor
  · rintro (rfl | ⟨⟨j, h1, h2, h3, rfl⟩, _⟩)
    · exact ⟨b, hb, setB_same _ _, rfl, rfl⟩
    · refine ⟨j, h1, ?_, h3, rfl⟩
      by_cases e : j = b
      · rw [e]; exact setB_same _ _
      · rw [setB_other _ e]; exact h2
  · rintro ⟨j, h1, h2, h3, rfl⟩
    by_cases e : j = b
    · exact .inl (by rw [e])
    · rw [setB_other _ e] at h2
      exact .inr ⟨⟨j, h1, h2, h3, rfl⟩, by omega⟩
theorem chain_other {th : Nat → Bool} {n b k : Nat} (hk : k ≠ (b + 1) % n) : chainL (setB th b) n k = chainL th n k := by
  refine rise_unique (chainU_rise _ _ _ _) (chainU_rise _ _ _ _) fun y => ?_
  rw [chainL, chainL, chainU_mem, chainU_mem]
  constructor
  · rintro ⟨j, h1, h2, h3, rfl⟩
    by_cases e : j = b
    · subst e; exact absurd h3 (fun h => hk h.symm)
    · rw [setB_other _ e] at h2; exact ⟨j, h1, h2, h3, rfl⟩
  · rintro ⟨j, h1, h2, h3, rfl⟩
    have e : j ≠ b := fun e => by subst e; exact hk h3.symm
    exact ⟨j, h1, by rw [setB_other _ e]; exact h2, h3, rfl⟩
theorem chain_same {th : Nat → Bool} {n b k : Nat} (hb : th b = true) : chainL (setB th b) n k = chainL th n k := by
  have : setB th b = th := by
    funext j
    by_cases e : j = b
    · subst e; rw [setB_same, hb]
    · rw [setB_other _ e]
  rw [this]

/-- A key of a number. -/
def kI (k : Nat) : List VT := [intT ((k : Nat) : Int)]
theorem kI_inj {j k : Nat} (h : kI j = kI k) : j = k := by
  simp only [kI, intT, List.cons.injEq, Prod.mk.injEq, true_and, and_true] at h
  omega
theorem good_kI {k : Nat} (h : k < 1000) : GoodK (kI k) := good_int (by omega) (by omega)
/-- How many there are. -/
def sumT (T : Tab) : Nat → Nat
  | 0 => 0
  | n + 1 => sumT T n + (T (kI n)).length
theorem sumT_set (T : Tab) (k : Nat) (l : List Int) : ∀ n, (k < n → sumT (setT T (kI k) l) n + (T (kI k)).length = sumT T n + l.length) ∧ (n ≤ k → sumT (setT T (kI k) l) n = sumT T n)
  | 0 => ⟨fun h => absurd h (Nat.not_lt_zero _), fun _ => rfl⟩
  | n + 1 => by
    obtain ⟨h1, h2⟩ := sumT_set T k l n
    refine ⟨fun h => ?_, fun h => ?_⟩
    · by_cases e : k = n
      · subst e
        rw [sumT, sumT, setT_same, h2 (Nat.le_refl _)]
        omega
      · have := h1 (by omega)
        rw [sumT, sumT, setT_other _ _ (fun q => e (kI_inj q).symm)]
        omega
    · rw [sumT, sumT, setT_other _ _ (fun q => by have := kI_inj q; omega), h2 (by omega)]
theorem sumT_nil {T : Tab} (h : ∀ m, T m = []) : ∀ n, sumT T n = 0
  | 0 => rfl
  | n + 1 => by rw [sumT, sumT_nil h n, h]; rfl
theorem sumT_le {T : Tab} {B : Nat} (h : ∀ m, (T m).length ≤ B) : ∀ n, sumT T n ≤ n * B
  | 0 => by simp [sumT]
  | n + 1 => by have := sumT_le h n; have := h (kI n); rw [sumT, Nat.add_mul]; omega
/-- What stands with each key, those below k struck. -/
structure CT (th : Nat → Bool) (n k : Nat) (T : Tab) : Prop where
  low : ∀ j, j < n → j < k → T (kI j) = []
  high : ∀ j, j < n → k ≤ j → T (kI j) = chainL th n j
  none : ∀ m, (∀ j, j < n → m ≠ kI j) → T m = []
theorem CT.start (n : Nat) : CT (fun _ => false) n 0 (fun _ => []) :=
  ⟨fun _ _ _ => rfl, fun j _ _ => (by
    refine (List.eq_nil_iff_forall_not_mem.2 fun x hx => ?_).symm
    obtain ⟨_, _, h, _⟩ := chainU_mem.1 hx
    cases h), fun _ _ => rfl⟩
theorem CT.short {th : Nat → Bool} {n k : Nat} {T : Tab} (h : CT th n k T) (m : List VT) : (T m).length ≤ 256 := by
  by_cases hm : ∃ j, j < n ∧ m = kI j
  · obtain ⟨j, hj, rfl⟩ := hm
    by_cases hk : j < k
    · rw [h.low j hj hk]; simp
    · rw [h.high j hj (by omega)]; exact chainU_length _ _ _ _
  · rw [h.none m (fun j hj e => hm ⟨j, hj, e⟩)]; simp
theorem CT.insert {th : Nat → Bool} {n b : Nat} {T : Tab} (h : CT th n 0 T) (hn : 0 < n) (hb : b < 256) : CT (setB th b) n 0 (setT T (kI ((b + 1) % n)) (chainL (setB th b) n ((b + 1) % n))) := by
  have hk : (b + 1) % n < n := Nat.mod_lt _ hn
  refine ⟨fun j _ hj => absurd hj (Nat.not_lt_zero _), fun j hj _ => ?_, fun m hm => ?_⟩
  · by_cases e : j = (b + 1) % n
    · rw [e, setT_same]
    · rw [setT_other _ _ (fun q => e (kI_inj q)), h.high j hj (Nat.zero_le _), chain_other e]
  · rw [setT_other _ _ (hm _ hk)]
    exact h.none m hm
theorem CT.again {th : Nat → Bool} {n b : Nat} {T : Tab} (h : CT th n 0 T) (hb : th b = true) : CT (setB th b) n 0 T :=
  ⟨fun j _ hj => absurd hj (Nat.not_lt_zero _), fun j hj h0 => (h.high j hj h0).trans (chain_same hb).symm, h.none⟩
theorem CT.struck {th : Nat → Bool} {n k : Nat} {T : Tab} (h : CT th n k T) (hk : k < n) : CT th n (k + 1) (setT T (kI k) []) := by
  refine ⟨fun j hj hjk => ?_, fun j hj hjk => ?_, fun m hm => ?_⟩
  · by_cases e : j = k
    · rw [e, setT_same]
    · rw [setT_other _ _ (fun q => e (kI_inj q))]; exact h.low j hj (by omega)
  · rw [setT_other _ _ (fun q => by have := kI_inj q; omega)]; exact h.high j hj (by omega)
  · rw [setT_other _ _ (hm k hk)]; exact h.none m hm
theorem CT.all {th : Nat → Bool} {n : Nat} {T : Tab} (h : CT th n n T) (m : List VT) : T m = [] := by
  by_cases hm : ∃ j, j < n ∧ m = kI j
  · obtain ⟨j, hj, rfl⟩ := hm; exact h.low j hj hj
  · exact h.none m (fun j hj e => hm ⟨j, hj, e⟩)
theorem setT_setT (T : Tab) (m : List VT) (a b : List Int) : setT (setT T m a) m b = setT T m b := by
  funext x
  by_cases e : x = m
  · rw [e, setT_same, setT_same]
  · rw [setT_other _ _ e, setT_other _ _ e, setT_other _ _ e]
theorem setT_self {T : Tab} {m : List VT} {l : List Int} (h : T m = l) : setT T m l = T := by
  funext x
  by_cases e : x = m
  · rw [e, setT_same, h]
  · rw [setT_other _ _ e]
/-- The first goes. -/
theorem eraF_head {x : Int} {l : List Int} (h : Rise (x :: l)) : eraF (x :: l) x = l := by
  obtain ⟨h1, _⟩ := List.pairwise_cons.1 h
  unfold eraF
  rw [List.filter_cons]
  simp only [decide_true, Bool.not_true, Bool.false_eq_true, if_false]
  exact List.filter_eq_self.2 fun y hy => by have := h1 y hy; simp; omega

/-- The array of what is there. -/
def ArrB (w : World) (A : Nat) (th : Nat → Bool) : Prop := (∀ i, i < 256 → w.cell? ⟨A, i, none⟩ = some (.bool (th i))) ∧ ∀ i, w.frozen? ⟨A, i, none⟩ = false
theorem ArrB.lt {w : World} {A : Nat} {th : Nat → Bool} (h : ArrB w A th) : A < w.heap.size := World.block_lt_of_cell? w ⟨A, 0, none⟩ (h.1 0 (by decide))
theorem ArrB.chg {C : Nat → Prop} {w w' : World} {A : Nat} {th : Nat → Bool} (h : ArrB w A th) (hc : Chg C w w') (hA : ¬ C A) : ArrB w' A th :=
  ⟨fun i hi => hc.cell (h.1 i hi) hA, fun i => (hc.frozen (p := ⟨A, i, none⟩) h.lt hA).trans (h.2 i)⟩
theorem ArrB.up {w w' : World} {A : Nat} {th : Nat → Bool} (h : ArrB w A th) (hu : Up w w') : ArrB w' A th := h.chg (Chg.of_up (C := fun _ => False) hu) (fun h => h)
theorem ArrB.set {w : World} {A b : Nat} {th : Nat → Bool} (h : ArrB w A th) (hb : b < 256) : ArrB (w.setCell ⟨A, b, none⟩ (.bool true)) A (setB th b) := by
  refine ⟨fun i hi => ?_, fun i => by rw [World.frozen?_setCell]; exact h.2 i⟩
  by_cases e : i = b
  · subst e
    rw [setB_same]
    exact World.cell?_setCell_same _ _ _ (h.1 i hi)
  · rw [setB_other _ e, World.cell?_setCell_other _ _ _ _ (fun q => e (by cases q; rfl))]
    exact h.1 i hi

end Go.Proofs.Ytofpakpbbpcalaa

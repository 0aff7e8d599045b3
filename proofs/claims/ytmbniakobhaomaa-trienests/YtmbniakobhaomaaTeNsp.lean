/-
  Strings each of which begins with the one ahead of it: plain things for TrieNests. No function of the program.
-/
import Derived.Test.YtmbniakobhaomaaTeKnw
namespace Go.Proofs.Ytmbniakobhaomaa
set_option linter.unusedVariables false

/-- The statement's text. -/
def nAll : ByteArray := ⟨#[97, 98, 97, 98, 97, 98, 98, 97, 98, 97, 97, 98, 97, 98, 97, 98, 98, 97, 97, 98, 98, 97, 98, 97, 98, 97, 98, 97, 97, 98, 98, 98, 97, 98, 97, 98, 97, 98, 97, 97, 98, 98]⟩
def nL : List UInt8 := nAll.data.toList
theorem nL_len : nL.length = 42 := by decide
/-- Which are there: those from 1 up to j that d doesn't part. -/
def thU (d j i : Nat) : Bool := decide (1 ≤ i ∧ i < j ∧ ¬ i % d = 0)
def nE (d j : Nat) (s : List UInt8) : List Int := if thU d j s.length = true ∧ s = nL.take s.length then [(s.length : Int)] else []
theorem nE_take {d j i : Nat} (hi : i ≤ 42) : nE d j (nL.take i) = if thU d j i = true then [(i : Int)] else [] := by
  have hl : (nL.take i).length = i := by rw [List.length_take, nL_len]; omega
  unfold nE
  rw [hl]
  simp
theorem nE_some {d j : Nat} {s : List UInt8} (h : nE d j s ≠ []) : ∃ i, i ≤ 42 ∧ s = nL.take i ∧ thU d j i = true := by
  unfold nE at h
  by_cases e : thU d j s.length = true ∧ s = nL.take s.length
  · refine ⟨s.length, ?_, e.2, e.1⟩
    have := congrArg List.length e.2
    rw [List.length_take, nL_len] at this
    omega
  · rw [if_neg e] at h
    exact absurd rfl h
theorem nE_mem {d j : Nat} {s : List UInt8} {x : Int} (h : x ∈ nE d j s) : ∃ i : Nat, i ≤ 42 ∧ s = nL.take i ∧ thU d j i = true ∧ x = i := by
  obtain ⟨i, h1, h2, h3⟩ := nE_some (fun e => by rw [e] at h; cases h)
  subst h2
  rw [nE_take h1, if_pos h3] at h
  exact ⟨i, h1, rfl, h3, by simpa using h⟩
theorem nE_0 (d : Nat) : nE d 1 = fun _ => [] := by
  funext s
  unfold nE thU
  rw [if_neg]
  simp only [decide_eq_true_eq]
  omega
theorem nE_skip {d j : Nat} (h : j % d = 0) : nE d (j + 1) = nE d j := by
  funext s
  unfold nE
  have : thU d (j + 1) s.length = thU d j s.length := by
    unfold thU
    rw [Bool.eq_iff_iff]
    simp only [decide_eq_true_eq]
    constructor
    · rintro ⟨h1, h2, h3⟩
      refine ⟨h1, ?_, h3⟩
      rcases Nat.lt_or_ge s.length j with h4 | h4
      · exact h4
      · have : s.length = j := by omega
        rw [this] at h3
        exact absurd h h3
    · rintro ⟨h1, h2, h3⟩; exact ⟨h1, by omega, h3⟩
  rw [this]
theorem nE_put {d j : Nat} (h : ¬ j % d = 0) (h1 : 1 ≤ j) (hj : j ≤ 42) : nE d (j + 1) = updE (nE d j) (nL.take j) (insF (nE d j (nL.take j)) j) ∧ (j : Int) ∉ nE d j (nL.take j) := by
  have h0 : nE d j (nL.take j) = [] := by
    rw [nE_take hj, if_neg]
    simp [thU]
  refine ⟨?_, by rw [h0]; simp⟩
  rw [h0]
  funext s
  by_cases e : s = nL.take j
  · rw [e, updE_same, nE_take hj, if_pos (by simp [thU, h, h1])]
    simp [insF]
  · rw [updE_other _ _ e]
    unfold nE
    have : (thU d (j + 1) s.length = true ∧ s = nL.take s.length) ↔ (thU d j s.length = true ∧ s = nL.take s.length) := by
      unfold thU
      simp only [decide_eq_true_eq]
      constructor
      · rintro ⟨⟨h2, h3, h4⟩, h5⟩
        refine ⟨⟨h2, ?_, h4⟩, h5⟩
        rcases Nat.lt_or_ge s.length j with h6 | h6
        · exact h6
        · have : s.length = j := by omega
          rw [this] at h5
          exact absurd h5 e
      · rintro ⟨⟨h2, h3, h4⟩, h5⟩; exact ⟨⟨h2, by omega, h4⟩, h5⟩
    simp only [this]
theorem nE_chain (d j : Nat) : ∀ s, nE d j s ≠ [] → s <+: nL := fun s h => by
  obtain ⟨i, _, rfl, _⟩ := nE_some h
  exact List.take_prefix ..
/-- How many of them. -/
def cntU (d j : Nat) : Nat := ((List.range j).filter (fun i => thU d j i)).length
theorem thU_up {d j i : Nat} (h : i < j) : thU d (j + 1) i = thU d j i := by
  unfold thU
  rw [Bool.eq_iff_iff]
  simp only [decide_eq_true_eq]
  omega
theorem cntU_step (d j : Nat) : cntU d (j + 1) = cntU d j + (if thU d (j + 1) j = true then 1 else 0) := by
  unfold cntU
  rw [List.range_succ, List.filter_append, List.length_append]
  have : (List.range j).filter (fun i => thU d (j + 1) i) = (List.range j).filter (fun i => thU d j i) := List.filter_congr (fun i hi => thU_up (List.mem_range.1 hi))
  rw [this]
  by_cases h : thU d (j + 1) j = true
  · simp [h]
  · simp [h]
theorem cntU_le (d j : Nat) : cntU d j ≤ j := by
  unfold cntU
  refine Nat.le_trans (List.length_filter_le ..) ?_
  simp
/-- How many from p on. -/
def cntP (d k p j : Nat) : Nat := ((List.range j).filter (fun i => thU d (k + 1) i && decide (p ≤ i))).length
theorem cntP_step (d k p j : Nat) : cntP d k p (j + 1) = cntP d k p j + (if (thU d (k + 1) j && decide (p ≤ j)) = true then 1 else 0) := by
  unfold cntP
  rw [List.range_succ, List.filter_append, List.length_append]
  by_cases h : (thU d (k + 1) j && decide (p ≤ j)) = true
  · simp [h]
  · simp [h]
theorem cntP_le (d k p j : Nat) : cntP d k p j ≤ j := by
  unfold cntP
  refine Nat.le_trans (List.length_filter_le ..) ?_
  simp
theorem take_inj {i j : Nat} (hi : i ≤ 42) (hj : j ≤ 42) (h : nL.take i = nL.take j) : i = j := by
  have := congrArg List.length h
  rw [List.length_take, List.length_take, nL_len] at this
  omega
theorem n_pre {d k p : Nat} (hk : k ≤ 40) (hp : p ≤ k) {L : List SI} (h : EntsP (nE d (k + 1)) (nL.take p) L) : L.length = cntP d k p (k + 1) := by
  have hn : L.Nodup := List.nodup_iff_pairwise_ne.2 (h.ord.imp (fun {a b} hab (e : a = b) => ltSI_irrefl a (by rw [← e] at hab; exact hab)))
  have key : ∀ x, x ∈ L ↔ x ∈ ((List.range (k + 1)).filter (fun i => thU d (k + 1) i && decide (p ≤ i))).map (fun i => ((nL.take i, (i : Int)) : SI)) := fun x => by
    rw [List.mem_map, h.mem x.1 x.2]
    constructor
    · rintro ⟨h1, h2⟩
      obtain ⟨i, h3, h4, h5, h6⟩ := nE_mem h2
      have h7 : p ≤ i := by
        have := h1.length_le
        rw [h4, List.length_take, List.length_take, nL_len] at this
        omega
      have h8 : i < k + 1 := by
        have : decide (1 ≤ i ∧ i < k + 1 ∧ ¬ i % d = 0) = true := h5
        simp only [decide_eq_true_eq] at this
        exact this.2.1
      exact ⟨i, List.mem_filter.2 ⟨List.mem_range.2 h8, by simp [h5, h7]⟩, Prod.ext h4.symm h6.symm⟩
    · rintro ⟨i, h1, rfl⟩
      obtain ⟨h2, h3⟩ := List.mem_filter.1 h1
      simp only [Bool.and_eq_true, decide_eq_true_eq] at h3
      have h4 := List.mem_range.1 h2
      refine ⟨?_, ?_⟩
      · exact List.take_prefix_take_left h3.2
      · rw [nE_take (by omega), if_pos h3.1]
        simp
  have h2 : (((List.range (k + 1)).filter (fun i => thU d (k + 1) i && decide (p ≤ i))).map (fun i => ((nL.take i, (i : Int)) : SI))).Nodup := by
    rw [List.nodup_iff_pairwise_ne, List.pairwise_map]
    have h3 := (List.nodup_range (n := k + 1)).filter (fun i => thU d (k + 1) i && decide (p ≤ i))
    exact h3.imp (fun {a b} hab e => hab (by have := congrArg Prod.snd e; simp only at this; omega))
  have h3 := nodup_le hn (fun x hx => (key x).1 hx)
  have h4 := nodup_le h2 (fun x hx => (key x).2 hx)
  rw [List.length_map] at h3 h4
  unfold cntP
  omega
theorem n_nodes {d j nd : Nat} (hj : j ≤ 41) (h : FewAs (nE d j) nd) : nd ≤ 2 * cntU d j + 1 := by
  obtain ⟨ss, h1, h2, h3⟩ := h
  have h4 := nodup_le (A := ((List.range j).filter (fun i => thU d j i)).map (fun i => nL.take i)) h1 (fun s hs => by
    obtain ⟨i, h5, h6, h7⟩ := nE_some (h2 s hs)
    have h8 : i < j := by
      have : decide (1 ≤ i ∧ i < j ∧ ¬ i % d = 0) = true := h7
      simp only [decide_eq_true_eq] at this
      exact this.2.1
    exact List.mem_map.2 ⟨i, List.mem_filter.2 ⟨List.mem_range.2 h8, h7⟩, h6.symm⟩)
  rw [List.length_map] at h4
  unfold cntU
  omega
/-- The longest of those up to p so far. -/
def WantI (d k p j want : Nat) (some_ : Bool) : Prop :=
  (some_ = false ∧ want = 0 ∧ ∀ i, i < j → ¬ (thU d (k + 1) i = true ∧ i ≤ p)) ∨ (some_ = true ∧ want < j ∧ thU d (k + 1) want = true ∧ want ≤ p ∧ ∀ i, want < i → i < j → ¬ (thU d (k + 1) i = true ∧ i ≤ p))
theorem WantI.yes {d k p j want : Nat} {s : Bool} (h : WantI d k p j want s) (hj : thU d (k + 1) j = true) (hp : j ≤ p) : WantI d k p (j + 1) j true :=
  .inr ⟨rfl, Nat.lt_succ_self j, hj, hp, fun i h1 h2 => by omega⟩
theorem WantI.no {d k p j want : Nat} {s : Bool} (h : WantI d k p j want s) (hn : ¬ (thU d (k + 1) j = true ∧ j ≤ p)) : WantI d k p (j + 1) want s := by
  rcases h with ⟨h1, h2, h3⟩ | ⟨h1, h2, h3, h4, h5⟩
  · refine .inl ⟨h1, h2, fun i hi => ?_⟩
    rcases Nat.lt_succ_iff_lt_or_eq.1 hi with h | rfl
    · exact h3 i h
    · exact hn
  · refine .inr ⟨h1, by omega, h3, h4, fun i h6 h7 => ?_⟩
    rcases Nat.lt_succ_iff_lt_or_eq.1 h7 with h | rfl
    · exact h5 i h6 h
    · exact hn
theorem WantI.le {d k p j want : Nat} {s : Bool} (h : WantI d k p j want s) : want ≤ p := by
  rcases h with ⟨_, h2, _⟩ | ⟨_, _, _, h4, _⟩ <;> omega
theorem n_long {d k p want : Nat} {some_ f : Bool} {t : List UInt8} (hk : k ≤ 40) (hp : p ≤ k) (hW : WantI d k p (k + 1) want some_) (h : LongIs (nE d (k + 1)) (nL.take p) t f) : f = some_ ∧ t = nL.take want := by
  have hlt : ∀ i, i ≤ 42 → (nL.take i).length = i := fun i hi => by rw [List.length_take, nL_len]; omega
  rcases h with ⟨rfl, h1, h2, h3⟩ | ⟨rfl, rfl, h3⟩
  · obtain ⟨i, h4, rfl, h5⟩ := nE_some h2
    have h6 : i ≤ p := by
      have := h1.length_le
      rw [hlt i h4, hlt p (by omega)] at this
      exact this
    have h8 : i < k + 1 := by
      have : decide (1 ≤ i ∧ i < k + 1 ∧ ¬ i % d = 0) = true := h5
      simp only [decide_eq_true_eq] at this
      exact this.2.1
    rcases hW with ⟨_, _, h7⟩ | ⟨h9, h10, h11, h12, h13⟩
    · exact absurd ⟨h5, h6⟩ (h7 i h8)
    · have h14 : i ≤ want := by
        rcases Nat.lt_or_ge want i with h | h
        · exact absurd ⟨h5, h6⟩ (h13 i h h8)
        · exact h
      have h15 := h3 (nL.take want) (List.take_prefix_take_left h12) (by rw [nE_take (by omega), if_pos h11]; simp)
      rw [hlt want (by omega), hlt i h4] at h15
      have : i = want := by omega
      exact ⟨h9.symm, by rw [this]⟩
  · rcases hW with ⟨h9, h10, _⟩ | ⟨h9, h10, h11, h12, h13⟩
    · exact ⟨h9.symm, by rw [h10]; rfl⟩
    · have := h3 (nL.take want) (List.take_prefix_take_left h12)
      rw [nE_take (by omega), if_pos h11] at this
      cases this

end Go.Proofs.Ytmbniakobhaomaa

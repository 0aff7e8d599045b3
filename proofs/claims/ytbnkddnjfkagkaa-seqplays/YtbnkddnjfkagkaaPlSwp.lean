/-
  Two numbers of a list that stand the other way round, each with the other's mark: plain facts, no function of the program.
-/
import Derived.Test.YtbnkddnjfkagkaaSqPln
namespace Go.Proofs.Ytbnkddnjfkagkaa
set_option linter.unusedVariables false

/-- The list with what stands at i and at k the other way round. -/
def swL (xs : List Int) (i k : Nat) : List Int := setL (xs.getD i 0) (setL (xs.getD k 0) xs i) k
/-- Where what stands at j stood. -/
def swN (i k j : Nat) : Nat := if j = k then i else if j = i then k else j
theorem swL_len (xs : List Int) (i k : Nat) : (swL xs i k).length = xs.length := by unfold swL; rw [setL_len, setL_len]
theorem swL_get (xs : List Int) {i k : Nat} (hi : i < xs.length) (hk : k < xs.length) (j : Nat) : (swL xs i k)[j]? = xs[swN i k j]? := by
  unfold swL setL swN
  rw [getD_in xs hi, getD_in xs hk, List.getElem?_set, List.getElem?_set]
  by_cases h1 : j = k
  · subst h1; simp [hk, List.getElem?_eq_getElem hi]
  · rw [if_neg (fun e => h1 e.symm), if_neg h1]
    by_cases h2 : j = i
    · subst h2; simp [hi, List.getElem?_eq_getElem hk]
    · rw [if_neg (fun e => h2 e.symm), if_neg h2]
theorem swN_lt {i k j n : Nat} (hi : i < n) (hk : k < n) : swN i k j < n ↔ j < n := by
  unfold swN
  by_cases h1 : j = k
  · subst h1; rw [if_pos rfl]; omega
  · rw [if_neg h1]
    by_cases h2 : j = i
    · subst h2; rw [if_pos rfl]; omega
    · rw [if_neg h2]
theorem swN_swN (i k j : Nat) : swN i k (swN i k j) = j := by
  unfold swN
  by_cases h1 : j = k
  · subst h1; rw [if_pos rfl]
    by_cases h2 : i = j
    · subst h2; rw [if_pos rfl]
    · rw [if_neg h2, if_pos rfl]
  · rw [if_neg h1]
    by_cases h2 : j = i
    · subst h2; rw [if_pos rfl, if_pos rfl]
    · rw [if_neg h2, if_neg h1, if_neg h2]
theorem swN_inj {i k a b : Nat} (h : swN i k a = swN i k b) : a = b := by
  have := congrArg (swN i k) h
  rwa [swN_swN, swN_swN] at this
theorem swL_back (xs : List Int) {i k : Nat} (hi : i < xs.length) (hk : k < xs.length) : swL (swL xs i k) i k = xs := by
  refine List.ext_getElem? fun j => ?_
  rw [swL_get _ (by rw [swL_len]; exact hi) (by rw [swL_len]; exact hk), swL_get _ hi hk, swN_swN]
theorem swL_self (xs : List Int) {i : Nat} (hi : i < xs.length) : swL xs i i = xs := by
  refine List.ext_getElem? fun j => ?_
  rw [swL_get _ hi hi]
  unfold swN
  by_cases h1 : j = i
  · subst h1; rw [if_pos rfl]
  · rw [if_neg h1, if_neg h1]
theorem swL_mem {xs : List Int} {i k : Nat} (hi : i < xs.length) (hk : k < xs.length) {x : Int} : x ∈ swL xs i k ↔ x ∈ xs := by
  constructor
  · intro h
    obtain ⟨j, hj⟩ := List.getElem?_of_mem h
    rw [swL_get _ hi hk] at hj
    exact List.mem_of_getElem? hj
  · intro h
    obtain ⟨j, hj⟩ := List.getElem?_of_mem h
    refine List.mem_of_getElem? (i := swN i k j) ?_
    rw [swL_get _ hi hk, swN_swN]
    exact hj
theorem swL_nodup {xs : List Int} {i k : Nat} (hi : i < xs.length) (hk : k < xs.length) (h : xs.Nodup) : (swL xs i k).Nodup := by
  refine List.pairwise_iff_getElem.2 fun a b ha hb hab e => ?_
  rw [swL_len] at ha hb
  have e1 : xs[swN i k a]? = xs[swN i k b]? := by
    rw [← swL_get _ hi hk, ← swL_get _ hi hk, List.getElem?_eq_getElem (by rw [swL_len]; exact ha), List.getElem?_eq_getElem (by rw [swL_len]; exact hb), e]
  have h1 := (swN_lt (j := a) hi hk).2 ha
  have h2 := (swN_lt (j := b) hi hk).2 hb
  rw [List.getElem?_eq_getElem h1, List.getElem?_eq_getElem h2] at e1
  injection e1 with e1
  have := swN_inj (nodup_at h e1)
  omega
/-- Marks rise as before. -/
theorem SqOk.swap {xs : List Int} {f : Int → Option Nat} (h : SqOk xs f) {i k : Nat} (hi : i < xs.length) (hk : k < xs.length) (hik : i ≠ k) : SqOk (swL xs i k) (upd (upd f (xs.getD i 0) (some (mkN f xs (k + 1)))) (xs.getD k 0) (some (mkN f xs (i + 1)))) := by
  have hab : xs[i] ≠ xs[k] := fun e => hik (nodup_at h.nd e)
  rw [getD_in xs hi, getD_in xs hk]
  have hmk : ∀ j, mkN (upd (upd f xs[i] (some (mkN f xs (k + 1)))) xs[k] (some (mkN f xs (i + 1)))) (swL xs i k) j = mkN f xs j := by
    intro j
    by_cases h0 : j = 0
    · subst h0; rfl
    · obtain ⟨q, rfl⟩ : ∃ q, j = q + 1 := ⟨j - 1, by omega⟩
      rcases Nat.lt_or_ge q xs.length with hq | hq
      · have hsq := (swN_lt (j := q) hi hk).2 hq
        conv => lhs; unfold mkN
        rw [if_neg h0, Nat.add_sub_cancel, swL_get _ hi hk, List.getElem?_eq_getElem hsq]
        show (upd (upd f xs[i] (some (mkN f xs (k + 1)))) xs[k] (some (mkN f xs (i + 1))) xs[swN i k q]).getD 0 = _
        by_cases h1 : q = k
        · subst h1
          have e1 : swN i q q = i := by unfold swN; rw [if_pos rfl]
          have e2 : xs[swN i q q] = xs[i] := by congr 1
          rw [e2, upd_other _ _ hab, upd_same]; rfl
        · by_cases h2 : q = i
          · subst h2
            have e1 : swN q k q = k := by unfold swN; rw [if_neg h1, if_pos rfl]
            have e2 : xs[swN q k q] = xs[k] := by congr 1
            rw [e2, upd_same]; rfl
          · have e1 : swN i k q = q := by unfold swN; rw [if_neg h1, if_neg h2]
            have e2 : xs[swN i k q] = xs[q] := by congr 1
            rw [e2, upd_other _ _ (fun e => h1 (nodup_at h.nd e)), upd_other _ _ (fun e => h2 (nodup_at h.nd e)), mkN_at f xs hq]
      · rw [mkN_out _ _ (by rw [swL_len]; exact hq), mkN_out _ _ hq]
  refine ⟨swL_nodup hi hk h.nd, fun x hx => h.wf x ((swL_mem hi hk).1 hx), fun x => ?_, fun j hj => ?_⟩
  · rw [swL_mem hi hk]
    by_cases e1 : x = xs[k]
    · subst e1; rw [upd_same]; simp
    · rw [upd_other _ _ e1]
      by_cases e2 : x = xs[i]
      · subst e2; rw [upd_same]; simp
      · rw [upd_other _ _ e2]; exact h.has x
  · rw [swL_len] at hj
    rw [hmk, hmk]
    exact h.rise j hj
end Go.Proofs.Ytbnkddnjfkagkaa

/-
  Rows of pairs that stand in an order: how many stand ahead; plain facts, no function of the program.
-/
import Derived.Test.YtnokokhbcfkifaaGreatDoorKeyErrG
namespace Go.Proofs.YtnokokhbcfkifaaGreatDoor
open Go.ChangeShapes Go.WideShapes Go.ChangeAt Go.RowKit
set_option linter.unusedVariables false

/-- A value and a row's number. -/
abbrev VI := Int × Int
/-- By value, then number. -/
abbrev ltP (a b : VI) : Prop := a.1 < b.1 ∨ (a.1 = b.1 ∧ a.2 < b.2)
theorem ltP_trans {a b c : VI} (h1 : ltP a b) (h2 : ltP b c) : ltP a c := by unfold ltP at *; omega
/-- What holds of a beginning holds of just so many. -/
theorem count_begin {α : Type} (f : α → Bool) : ∀ (A : List α), A.Pairwise (fun a b => f b = true → f a = true) → ∀ j (h : j < A.length), f A[j] = true ↔ j < A.countP f
  | [], _, j, h => absurd h (Nat.not_lt_zero _)
  | a :: A, hp, j, h => by
    obtain ⟨h1, h2⟩ := List.pairwise_cons.1 hp
    have ih := count_begin f A h2
    by_cases ha : f a = true
    · rw [List.countP_cons_of_pos ha]
      cases j with
      | zero => simp [ha]
      | succ j =>
        have := ih j (by simpa using h)
        simp only [List.getElem_cons_succ]
        rw [this]
        omega
    · have hz : A.countP f = 0 := List.countP_eq_zero.2 (fun b hb hf => ha (h1 b hb hf))
      rw [List.countP_cons_of_neg ha, hz]
      refine ⟨fun hf => ?_, fun h => absurd h (Nat.not_lt_zero _)⟩
      cases j with
      | zero => exact absurd hf ha
      | succ j => exact absurd (h1 _ (List.getElem_mem (by simpa using h)) (by simpa using hf)) ha
theorem count_le {A : List VI} (v : Int) : A.countP (fun p => decide (p.1 ≤ v)) = A.countP (fun p => decide (p.1 < v)) + A.countP (fun p => decide (p.1 = v)) := by
  induction A with
  | nil => rfl
  | cons a A ih =>
    simp only [List.countP_cons]
    rw [ih]
    rcases Int.lt_trichotomy a.1 v with h | h | h
    · rw [if_pos (decide_eq_true (show a.1 ≤ v by omega)), if_pos (decide_eq_true h), if_neg (fun e => by have := of_decide_eq_true e; omega)]; omega
    · rw [if_pos (decide_eq_true (show a.1 ≤ v by omega)), if_neg (fun e => by have := of_decide_eq_true e; omega), if_pos (decide_eq_true h)]; omega
    · rw [if_neg (fun e => by have := of_decide_eq_true e; omega), if_neg (fun e => by have := of_decide_eq_true e; omega), if_neg (fun e => by have := of_decide_eq_true e; omega)]; omega
theorem count_lt {A : List VI} (x : VI) : A.countP (fun p => decide (ltP p x)) = A.countP (fun p => decide (p.1 < x.1)) + A.countP (fun p => decide (p.1 = x.1 ∧ p.2 < x.2)) := by
  induction A with
  | nil => rfl
  | cons a A ih =>
    simp only [List.countP_cons]
    rw [ih]
    by_cases h : a.1 < x.1
    · rw [if_pos (decide_eq_true (show ltP a x from .inl h)), if_pos (decide_eq_true h), if_neg (fun e => by have := of_decide_eq_true e; omega)]; omega
    · by_cases h2 : a.1 = x.1 ∧ a.2 < x.2
      · rw [if_pos (decide_eq_true (show ltP a x from .inr h2)), if_neg (fun e => h (of_decide_eq_true e)), if_pos (decide_eq_true h2)]; omega
      · rw [if_neg (fun e => (of_decide_eq_true e).elim h h2), if_neg (fun e => h (of_decide_eq_true e)), if_neg (fun e => h2 (of_decide_eq_true e))]; omega
/-- Put in where it stands, all is in order. -/
theorem sorted_ins {A : List VI} {x : VI} (hs : A.Pairwise ltP) (hne : ∀ a ∈ A, a ≠ x) : (insL x A (A.countP (fun p => decide (ltP p x)))).Pairwise ltP := by
  have hb := count_begin (fun p => decide (ltP p x)) A (hs.imp (fun {a b} h hb => by
    have := of_decide_eq_true hb
    exact decide_eq_true (ltP_trans h this)))
  obtain ⟨r, hr⟩ : ∃ r, r = A.countP (fun p => decide (ltP p x)) := ⟨_, rfl⟩
  rw [← hr] at hb ⊢
  have hrl : r ≤ A.length := by rw [hr]; exact List.countP_le_length
  unfold insL
  have h1 : ∀ a ∈ A.take r, ltP a x := fun a ha => by
    obtain ⟨j, hj, rfl⟩ := List.getElem_of_mem ha
    rw [List.length_take] at hj
    rw [List.getElem_take]
    exact of_decide_eq_true ((hb j (by omega)).2 (by omega))
  have h2 : ∀ a ∈ A.drop r, ltP x a := fun a ha => by
    obtain ⟨j, hj, rfl⟩ := List.getElem_of_mem ha
    rw [List.length_drop] at hj
    rw [List.getElem_drop]
    have h3 : ¬ ltP A[r + j] x := fun h => by
      have := (hb (r + j) (by omega)).1 (decide_eq_true h)
      omega
    have h4 := hne _ (List.getElem_mem (l := A) (n := r + j) (by omega))
    have h5 : ¬ (A[r + j].1 = x.1 ∧ A[r + j].2 = x.2) := fun h => h4 (Prod.ext h.1 h.2)
    unfold ltP at *
    omega
  have h0 := hs
  rw [← List.take_append_drop r A, List.pairwise_append] at h0
  refine List.pairwise_append.2 ⟨h0.1, List.pairwise_cons.2 ⟨h2, h0.2.1⟩, fun a ha b hb' => ?_⟩
  rcases List.mem_cons.1 hb' with rfl | hb'
  · exact h1 a ha
  · exact h0.2.2 a ha b hb'
theorem perm_ins {α : Type} (x : α) (A : List α) (r : Nat) : (insL x A r).Perm (x :: A) := by
  unfold insL
  refine (List.perm_middle).trans (List.Perm.cons _ ?_)
  rw [List.take_append_drop]
/-- The pair of an entry. -/
def vOf (p : EP) : VI := ((p.2.getD 0 zeroT).2.1, p.1.id)
/-- The first so many of a row, with their numbers. -/
def dOf (l : List Int) (i : Nat) : List VI := (List.range i).map (fun k => (l.getD k 0, (k : Int) + 1))
theorem dOf_succ (l : List Int) (i : Nat) : dOf l (i + 1) = dOf l i ++ [(l.getD i 0, (i : Int) + 1)] := by unfold dOf; rw [List.range_succ, List.map_append]; rfl
theorem dOf_mem {l : List Int} {i : Nat} {a : VI} (h : a ∈ dOf l i) : ∃ k, k < i ∧ a = (l.getD k 0, (k : Int) + 1) := by
  unfold dOf at h
  obtain ⟨k, hk, rfl⟩ := List.mem_map.1 h
  exact ⟨k, List.mem_range.1 hk, rfl⟩
/-- What holds of the index when the first so many are in it. -/
structure RkL (l : List Int) (i : Nat) (L : List EP) : Prop where
  one : ∀ p ∈ L, p.2 = [numT (vOf p).1]
  srt : (L.map vOf).Pairwise ltP
  prm : (L.map vOf).Perm (dOf l i)
theorem RkL.len {l : List Int} {i : Nat} {L : List EP} (r : RkL l i L) : L.length = i := by
  have := r.prm.length_eq
  unfold dOf at this
  simpa using this
theorem RkL.cx {l : List Int} {i : Nat} {L : List EP} (r : RkL l i L) {j : Nat} (hj : j < L.length) (v : Int) : cxV ((2 : Nat) : Int) (L.getD j (zeroET, [])).2 [numT v] = cmpI (vOf L[j]).1 v := by
  have e0 : L.getD j (zeroET, []) = L[j] := by rw [List.getD_eq_getElem?_getD, List.getElem?_eq_getElem hj]; rfl
  rw [e0, r.one _ (List.getElem_mem hj)]
  exact cxV_num2 _ _
theorem RkL.spot {l : List Int} {i : Nat} {L : List EP} (r : RkL l i L) (v : Int) : Spot 2 L [numT v] ((dOf l i).countP (fun p => decide (p.1 < v))) ((dOf l i).countP (fun p => decide (p.1 ≤ v))) := by
  have b1 := count_begin (fun p : VI => decide (p.1 < v)) (L.map vOf) (r.srt.imp (fun {a b} h hb => by
    have := of_decide_eq_true hb
    unfold ltP at h
    exact decide_eq_true (by omega)))
  have b2 := count_begin (fun p : VI => decide (p.1 ≤ v)) (L.map vOf) (r.srt.imp (fun {a b} h hb => by
    have := of_decide_eq_true hb
    unfold ltP at h
    exact decide_eq_true (by omega)))
  rw [r.prm.countP_eq] at b1 b2
  have hle : (dOf l i).countP (fun p => decide (p.1 < v)) ≤ (dOf l i).countP (fun p => decide (p.1 ≤ v)) := by rw [count_le]; omega
  have htop : (dOf l i).countP (fun p => decide (p.1 ≤ v)) ≤ L.length := by
    rw [r.len]
    have := List.countP_le_length (p := fun p : VI => decide (p.1 ≤ v)) (l := dOf l i)
    unfold dOf at this ⊢
    simpa using this
  have e : ∀ j (hj : j < L.length), (L.map vOf)[j]'(by simpa using hj) = vOf L[j] := fun j hj => by rw [List.getElem_map]
  have c1 : ∀ j (hj : j < L.length), (vOf L[j]).1 < v ↔ j < (dOf l i).countP (fun p => decide (p.1 < v)) := fun j hj => by
    rw [← b1 j (by simpa using hj), e j hj]; simp
  have c2 : ∀ j (hj : j < L.length), (vOf L[j]).1 ≤ v ↔ j < (dOf l i).countP (fun p => decide (p.1 ≤ v)) := fun j hj => by
    rw [← b2 j (by simpa using hj), e j hj]; simp
  refine ⟨hle, htop, fun j hj => ?_, fun j h1 h2 => ?_, fun j h1 hj => ?_⟩
  · have hl : j < L.length := by omega
    rw [r.cx hl]
    have := (c1 j hl).2 hj
    unfold cmpI
    rw [if_pos this]; decide
  · have hl : j < L.length := by omega
    rw [r.cx hl]
    have h3 := (c2 j hl).2 h2
    have h4 : ¬ (vOf L[j]).1 < v := fun h => by have := (c1 j hl).1 h; omega
    unfold cmpI
    rw [if_neg h4, if_neg (by omega)]
  · rw [r.cx hj]
    have h3 : ¬ (vOf L[j]).1 ≤ v := fun h => by have := (c2 j hj).1 h; omega
    unfold cmpI
    rw [if_neg (by omega), if_pos (by omega)]; decide
/-- The rank of a number that is greater than all. -/
theorem RkL.last {l : List Int} {i : Nat} {L : List EP} (r : RkL l i L) (v : Int) : RankAt L ((dOf l i).countP (fun p => decide (p.1 < v))) ((dOf l i).countP (fun p => decide (p.1 ≤ v))) ((i : Int) + 1) ((dOf l i).countP (fun p => decide (p.1 ≤ v))) := by
  refine ⟨(r.spot v).le, Nat.le_refl _, fun j h1 h2 => ?_, fun j h1 h2 => by omega⟩
  have hl : j < L.length := Nat.lt_of_lt_of_le h2 (r.spot v).top
  have e0 : L.getD j (zeroET, []) = L[j] := by rw [List.getD_eq_getElem?_getD, List.getElem?_eq_getElem hl]; rfl
  have hm : vOf L[j] ∈ dOf l i := r.prm.mem_iff.1 (List.mem_map.2 ⟨_, List.getElem_mem hl, rfl⟩)
  obtain ⟨k, hk, hk2⟩ := dOf_mem hm
  rw [e0]
  have : (vOf L[j]).2 = (k : Int) + 1 := by rw [hk2]
  show (vOf L[j]).2 < _
  omega
/-- One more is put in. -/
theorem RkL.put {l : List Int} {i : Nat} {L : List EP} (r : RkL l i L) (x : ET) (hx : x.id = (i : Int) + 1) : RkL l (i + 1) (insL (x, [numT (l.getD i 0)]) L ((dOf l i).countP (fun p => decide (p.1 ≤ l.getD i 0)))) := by
  have ev : vOf (x, [numT (l.getD i 0)]) = (l.getD i 0, (i : Int) + 1) := by
    unfold vOf; rw [hx]; rfl
  have em : ∀ n, (insL (x, [numT (l.getD i 0)]) L n).map vOf = insL (l.getD i 0, (i : Int) + 1) (L.map vOf) n := fun n => by
    unfold insL
    rw [List.map_append, List.map_cons, List.map_take, List.map_drop, ev]
  have ec : (dOf l i).countP (fun p => decide (p.1 ≤ l.getD i 0)) = (L.map vOf).countP (fun p => decide (ltP p (l.getD i 0, (i : Int) + 1))) := by
    rw [r.prm.countP_eq]
    refine List.countP_congr (fun a ha => ?_)
    obtain ⟨k, hk, rfl⟩ := dOf_mem ha
    refine ⟨fun h => decide_eq_true ?_, fun h => decide_eq_true ?_⟩
    · have h := of_decide_eq_true h
      rcases Int.lt_or_eq_of_le h with h | h
      · exact .inl h
      · exact .inr ⟨h, by show (k : Int) + 1 < (i : Int) + 1; omega⟩
    · have h := of_decide_eq_true h
      rcases h with h | ⟨h, _⟩
      · exact Int.le_of_lt h
      · exact Int.le_of_eq h
  refine ⟨fun p hp => ?_, ?_, ?_⟩
  · rcases mem_insL hp with rfl | hp
    · rfl
    · exact r.one p hp
  · rw [em, ec]
    refine sorted_ins r.srt (fun a ha e => ?_)
    obtain ⟨k, hk, hk2⟩ := dOf_mem (r.prm.mem_iff.1 ha)
    rw [e] at hk2
    have := congrArg Prod.snd hk2
    simp at this
    omega
  · rw [em, dOf_succ]
    refine (perm_ins _ _ _).trans ((r.prm.cons _).trans ?_)
    exact (List.perm_append_singleton _ _).symm
theorem RkL.nil (l : List Int) : RkL l 0 [] := ⟨fun p hp => absurd hp (by simp), List.Pairwise.nil, List.Perm.nil⟩
/-- The rank of one that is in it. -/
theorem RkL.mine {l : List Int} {n : Nat} {L : List EP} (r : RkL l n L) (i : Nat) (hi : i < n) :
    RankAt L ((dOf l n).countP (fun p => decide (p.1 < l.getD i 0))) ((dOf l n).countP (fun p => decide (p.1 ≤ l.getD i 0))) ((i : Int) + 1) ((dOf l n).countP (fun p => decide (p.1 < l.getD i 0)) + (dOf l n).countP (fun p => decide (p.1 = l.getD i 0 ∧ p.2 < (i : Int) + 1)))
    ∧ (dOf l n).countP (fun p => decide (p.1 < l.getD i 0)) + (dOf l n).countP (fun p => decide (p.1 = l.getD i 0 ∧ p.2 < (i : Int) + 1)) < (dOf l n).countP (fun p => decide (p.1 ≤ l.getD i 0))
    ∧ (L.getD ((dOf l n).countP (fun p => decide (p.1 < l.getD i 0)) + (dOf l n).countP (fun p => decide (p.1 = l.getD i 0 ∧ p.2 < (i : Int) + 1))) (zeroET, [])).1.id = (i : Int) + 1 := by
  have hc := count_lt (A := dOf l n) (l.getD i 0, (i : Int) + 1)
  simp only at hc
  rw [← hc]
  obtain ⟨R, hR⟩ : ∃ R, R = (dOf l n).countP (fun p => decide (ltP p (l.getD i 0, (i : Int) + 1))) := ⟨_, rfl⟩
  have b3 := count_begin (fun p : VI => decide (ltP p (l.getD i 0, (i : Int) + 1))) (L.map vOf) (r.srt.imp (fun {a b} h hb => decide_eq_true (ltP_trans h (of_decide_eq_true hb))))
  rw [r.prm.countP_eq, ← hR] at b3
  rw [← hR]
  have e : ∀ j (hj : j < L.length), (L.map vOf)[j]'(by simpa using hj) = vOf L[j] := fun j hj => by rw [List.getElem_map]
  have c3 : ∀ j (hj : j < L.length), ltP (vOf L[j]) (l.getD i 0, (i : Int) + 1) ↔ j < R := fun j hj => by
    rw [← b3 j (by simpa using hj), e j hj]; simp
  have e0 : ∀ j (hj : j < L.length), L.getD j (zeroET, []) = L[j] := fun j hj => by rw [List.getD_eq_getElem?_getD, List.getElem?_eq_getElem hj]; rfl
  have sp := r.spot (l.getD i 0)
  -- where the entry itself stands
  have hmem : (l.getD i 0, (i : Int) + 1) ∈ L.map vOf := r.prm.mem_iff.2 (by unfold dOf; exact List.mem_map.2 ⟨i, List.mem_range.2 hi, rfl⟩)
  obtain ⟨y, hy, hyv⟩ := List.mem_map.1 hmem
  obtain ⟨j0, hj0, rfl⟩ := List.getElem_of_mem hy
  have hns : ∀ a : VI, ¬ ltP a a := fun a h => by unfold ltP at h; omega
  have hjR : R ≤ j0 := by
    rcases Nat.lt_or_ge j0 R with h | h
    · have := (c3 j0 hj0).2 h
      rw [hyv] at this
      exact absurd this (hns _)
    · exact h
  have hjR2 : j0 ≤ R := by
    rcases Nat.lt_or_ge R j0 with h | h
    · have h1 := List.pairwise_iff_getElem.1 r.srt R j0 (by simp; omega) (by simpa using hj0) h
      rw [e R (by omega), e j0 hj0, hyv] at h1
      have := (c3 R (by omega)).1 h1
      omega
    · exact h
  obtain rfl : j0 = R := by omega
  have hRp : (dOf l n).countP (fun p => decide (p.1 < l.getD i 0)) ≤ j0 := by
    rcases Nat.lt_or_ge j0 ((dOf l n).countP (fun p => decide (p.1 < l.getD i 0))) with h | h
    · have h1 := sp.lo j0 h
      rw [r.cx hj0, hyv] at h1
      simp [cmpI] at h1
    · exact h
  have hRp' : j0 < (dOf l n).countP (fun p => decide (p.1 ≤ l.getD i 0)) := by
    rcases Nat.lt_or_ge j0 ((dOf l n).countP (fun p => decide (p.1 ≤ l.getD i 0))) with h | h
    · exact h
    · have h1 := sp.hi j0 h hj0
      rw [r.cx hj0, hyv] at h1
      simp [cmpI] at h1
  have hval : ∀ j (hj : j < L.length), (dOf l n).countP (fun p => decide (p.1 < l.getD i 0)) ≤ j → j < (dOf l n).countP (fun p => decide (p.1 ≤ l.getD i 0)) → (vOf L[j]).1 = l.getD i 0 := fun j hj h1 h2 => by
    have h3 := sp.mid j h1 h2
    rw [r.cx hj] at h3
    rcases cmpI_cases (vOf L[j]).1 (l.getD i 0) with ⟨h, _⟩ | ⟨_, h⟩ | ⟨h, _⟩
    · rw [h] at h3; exact absurd h3 (by decide)
    · exact h
    · rw [h] at h3; exact absurd h3 (by decide)
  refine ⟨⟨hRp, Nat.le_of_lt hRp', fun j h1 h2 => ?_, fun j h1 h2 => ?_⟩, hRp', ?_⟩
  · have hj : j < L.length := by omega
    rw [e0 j hj]
    have h3 := (c3 j hj).2 h2
    have h4 := hval j hj h1 (by omega)
    unfold ltP at h3
    show (vOf L[j]).2 < _
    simp only at h3
    omega
  · have hj : j < L.length := by have := sp.top; omega
    rw [e0 j hj]
    have h3 : ¬ ltP (vOf L[j]) (l.getD i 0, (i : Int) + 1) := fun h => by have := (c3 j hj).1 h; omega
    have h4 := hval j hj (by omega) h2
    unfold ltP at h3
    show _ ≤ (vOf L[j]).2
    simp only at h3
    omega
  · rw [e0 j0 hj0]
    show (vOf L[j0]).2 = _
    rw [hyv]
end Go.Proofs.YtnokokhbcfkifaaGreatDoor

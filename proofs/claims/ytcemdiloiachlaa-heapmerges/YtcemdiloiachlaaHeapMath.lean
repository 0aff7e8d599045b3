/-
  Heaps as lists: two elements change places, one goes down, one goes up, all are put in order, the first is taken; plain facts, no program is named here.
-/
import Derived.Test.YtcemdiloiachlaaUps
namespace Go.Proofs.Ytcemdiloiachlaa

theorem getD_set {α : Type} (z : α) (xs : List α) (i k : Nat) (v : α) (hi : i < xs.length) : (xs.set i v).getD k z = if k = i then v else xs.getD k z := by
  simp only [List.getD_eq_getElem?_getD, List.getElem?_set]
  by_cases h : i = k
  · subst h; simp [hi]
  · rw [if_neg h, if_neg (fun e => h e.symm)]

section
variable {α : Type} (z : α) (ah : α → α → Bool)

/-- Two elements change places. -/
def swapL (xs : List α) (i j : Nat) : List α := (xs.set i (xs.getD j z)).set j (xs.getD i z)
/-- The child that is ahead. -/
def childL (xs : List α) (i n : Nat) : Nat := if decide (2 * i + 2 < n) && ah (xs.getD (2 * i + 2) z) (xs.getD (2 * i + 1) z) then 2 * i + 2 else 2 * i + 1
/-- One element goes down, among the first n. -/
def downL : Nat → List α → Nat → Nat → List α
  | 0, xs, _, _ => xs
  | f + 1, xs, i, n => if decide (2 * i + 1 < n) && ah (xs.getD (childL z ah xs i n) z) (xs.getD i z) then downL f (swapL z xs i (childL z ah xs i n)) (childL z ah xs i n) n else xs
/-- One goes up. -/
def upL : Nat → List α → Nat → List α
  | 0, xs, _ => xs
  | f + 1, xs, j => if decide (0 < j) && ah (xs.getD j z) (xs.getD ((j - 1) / 2) z) then upL f (swapL z xs ((j - 1) / 2) j) ((j - 1) / 2) else xs
def initL : Nat → List α → List α
  | 0, xs => xs
  | i + 1, xs => initL i (downL z ah xs.length xs i xs.length)
def fixL (xs : List α) : List α := downL z ah xs.length xs 0 xs.length
def popL (xs : List α) : List α := (downL z ah (xs.length - 1) (swapL z xs 0 (xs.length - 1)) 0 (xs.length - 1)).take (xs.length - 1)
def pushL (xs : List α) (x : α) : List α := upL z ah xs.length (xs ++ [x]) xs.length

theorem swapL_length (xs : List α) (i j : Nat) : (swapL z xs i j).length = xs.length := by simp [swapL]
theorem swapL_getD {xs : List α} {i j : Nat} (hi : i < xs.length) (hj : j < xs.length) (k : Nat) : (swapL z xs i j).getD k z = if k = j then xs.getD i z else if k = i then xs.getD j z else xs.getD k z := by
  unfold swapL
  rw [getD_set z _ j k _ (by simpa using hj), getD_set z _ i k _ hi]
theorem swapL_perm {xs : List α} {i j : Nat} (hi : i < xs.length) (hj : j < xs.length) : (swapL z xs i j).Perm xs := by
  have e1 : xs.getD j z = xs[j] := by simp [List.getD_eq_getElem?_getD, hj]
  have e2 : xs.getD i z = xs[i] := by simp [List.getD_eq_getElem?_getD, hi]
  unfold swapL
  rw [e1, e2]
  exact List.set_set_perm hi hj
theorem childL_bounds (xs : List α) (i n : Nat) (h : 2 * i + 1 < n) : i < childL z ah xs i n ∧ childL z ah xs i n < n ∧ (childL z ah xs i n - 1) / 2 = i := by
  unfold childL
  split
  · rename_i h'
    simp only [Bool.and_eq_true, decide_eq_true_eq] at h'
    omega
  · omega
theorem downL_length : ∀ (f : Nat) (xs : List α) (i n : Nat), (downL z ah f xs i n).length = xs.length
  | 0, _, _, _ => rfl
  | f + 1, xs, i, n => by
    rw [downL]
    split
    · rw [downL_length, swapL_length]
    · rfl
theorem downL_perm : ∀ (f : Nat) (xs : List α) (i n : Nat), n ≤ xs.length → (downL z ah f xs i n).Perm xs
  | 0, _, _, _, _ => .refl _
  | f + 1, xs, i, n, hn => by
    rw [downL]
    split
    · rename_i h
      simp only [Bool.and_eq_true, decide_eq_true_eq] at h
      have hb := childL_bounds z ah xs i n h.1
      exact (downL_perm f _ _ n (by rw [swapL_length]; exact hn)).trans (swapL_perm z (by omega) (by omega))
    · exact .refl _
theorem downL_out : ∀ (f : Nat) (xs : List α) (i n : Nat), n ≤ xs.length → ∀ k, n ≤ k → (downL z ah f xs i n).getD k z = xs.getD k z
  | 0, _, _, _, _, _, _ => rfl
  | f + 1, xs, i, n, hn, k, hk => by
    rw [downL]
    split
    · rename_i h
      simp only [Bool.and_eq_true, decide_eq_true_eq] at h
      have hb := childL_bounds z ah xs i n h.1
      rw [downL_out f _ _ n (by rw [swapL_length]; exact hn) k hk, swapL_getD z (by omega) (by omega), if_neg (by omega), if_neg (by omega)]
    · rfl
theorem swapL_ok {P : α → Prop} {xs : List α} {i j n : Nat} (hi : i < n) (hj : j < n) (hn : n ≤ xs.length) (h : ∀ k, k < n → P (xs.getD k z)) (k : Nat) (hk : k < n) : P ((swapL z xs i j).getD k z) := by
  rw [swapL_getD z (by omega) (by omega)]
  split
  · exact h i hi
  · split
    · exact h j hj
    · exact h k hk
theorem downL_ok {P : α → Prop} : ∀ (f : Nat) (xs : List α) (i n : Nat), n ≤ xs.length → (∀ k, k < n → P (xs.getD k z)) → ∀ k, k < n → P ((downL z ah f xs i n).getD k z)
  | 0, _, _, _, _, h => h
  | f + 1, xs, i, n, hn, h => by
    rw [downL]
    split
    · rename_i h'
      simp only [Bool.and_eq_true, decide_eq_true_eq] at h'
      have hb := childL_bounds z ah xs i n h'.1
      exact downL_ok f _ _ n (by rw [swapL_length]; exact hn) (swapL_ok z (by omega) (by omega) hn h)
    · exact h
theorem upL_length : ∀ (f : Nat) (xs : List α) (j : Nat), (upL z ah f xs j).length = xs.length
  | 0, _, _ => rfl
  | f + 1, xs, j => by
    rw [upL]
    split
    · rw [upL_length, swapL_length]
    · rfl
theorem upL_perm : ∀ (f : Nat) (xs : List α) (j : Nat), j < xs.length → (upL z ah f xs j).Perm xs
  | 0, _, _, _ => .refl _
  | f + 1, xs, j, hj => by
    rw [upL]
    split
    · exact (upL_perm f _ _ (by rw [swapL_length]; omega)).trans (swapL_perm z (by omega) hj)
    · exact .refl _
theorem initL_length : ∀ (i : Nat) (xs : List α), (initL z ah i xs).length = xs.length
  | 0, _ => rfl
  | i + 1, xs => by rw [initL, initL_length, downL_length]
theorem initL_perm : ∀ (i : Nat) (xs : List α), (initL z ah i xs).Perm xs
  | 0, _ => .refl _
  | i + 1, xs => by rw [initL]; exact (initL_perm i _).trans (downL_perm z ah _ _ _ _ (Nat.le_refl _))

/-- Whatever stands below a parent from i on isn't ahead of it. -/
def HeapFrom (xs : List α) (n i : Nat) : Prop := ∀ k, 0 < k → k < n → i ≤ (k - 1) / 2 → ah (xs.getD k z) (xs.getD ((k - 1) / 2) z) = false
/-- An order: of two one at most is ahead; not being ahead carries on. -/
def Order : Prop := (∀ a b, ah a b = true → ah b a = false) ∧ ∀ a b c, ah b a = false → ah c b = false → ah c a = false

theorem childL_least {xs : List α} {i n k : Nat} (ho : Order ah) (hk : k < n) (h0 : 0 < k) (hp : (k - 1) / 2 = i) : ah (xs.getD k z) (xs.getD (childL z ah xs i n) z) = false := by
  have hr : ∀ a, ah a a = false := fun a => by
    cases h : ah a a with
    | false => rfl
    | true => exact (ho.1 a a h).symm.trans h |>.symm ▸ rfl
  have hk2 : k = 2 * i + 1 ∨ k = 2 * i + 2 := by omega
  unfold childL
  by_cases h2 : decide (2 * i + 2 < n) && ah (xs.getD (2 * i + 2) z) (xs.getD (2 * i + 1) z)
  · rw [if_pos h2]
    simp only [Bool.and_eq_true, decide_eq_true_eq] at h2
    rcases hk2 with rfl | rfl
    · exact ho.1 _ _ h2.2
    · exact hr _
  · rw [if_neg h2]
    rcases hk2 with rfl | rfl
    · exact hr _
    · simp only [hk, decide_true, Bool.true_and] at h2
      exact Bool.eq_false_iff.2 h2

theorem downL_heap (ho : Order ah) (n i0 : Nat) : ∀ (f : Nat) (xs : List α) (i : Nat), n ≤ xs.length → n - i ≤ f → i0 ≤ i →
    (∀ k, 0 < k → k < n → i0 ≤ (k - 1) / 2 → (k - 1) / 2 ≠ i → ah (xs.getD k z) (xs.getD ((k - 1) / 2) z) = false) →
    (0 < i → i0 ≤ (i - 1) / 2 → ∀ k, 0 < k → k < n → (k - 1) / 2 = i → ah (xs.getD k z) (xs.getD ((i - 1) / 2) z) = false) →
    HeapFrom z ah (downL z ah f xs i n) n i0
  | 0, xs, i, _, hf, _, h1, _ => by
    rw [downL]
    intro k h0 hk hp
    exact h1 k h0 hk hp (by omega)
  | f + 1, xs, i, hn, hf, hi, h1, h2 => by
    rw [downL]
    split
    · rename_i h
      simp only [Bool.and_eq_true, decide_eq_true_eq] at h
      have hb := childL_bounds z ah xs i n h.1
      have hl : ∀ k, k < n → 0 < k → (k - 1) / 2 = i → ah (xs.getD k z) (xs.getD (childL z ah xs i n) z) = false := fun k hk h0 hp => childL_least z ah ho hk h0 hp
      generalize childL z ah xs i n = c at h hb hl
      obtain ⟨h3, h4⟩ := h
      obtain ⟨b1, b2, b3⟩ := hb
      have g : ∀ k, (swapL z xs i c).getD k z = if k = c then xs.getD i z else if k = i then xs.getD c z else xs.getD k z := swapL_getD z (by omega) (by omega)
      refine downL_heap ho n i0 f (swapL z xs i c) c (by rw [swapL_length]; exact hn) (by omega) (by omega) ?_ ?_
      · intro k h0 hk hp hne
        rw [g, g, if_neg hne]
        by_cases hpi : (k - 1) / 2 = i
        · rw [if_pos hpi]
          by_cases hkc : k = c
          · rw [if_pos hkc]; exact ho.1 _ _ h4
          · rw [if_neg hkc, if_neg (by omega)]; exact hl k hk h0 hpi
        · rw [if_neg hpi, if_neg (by intro e; subst e; exact hpi b3)]
          by_cases hki : k = i
          · rw [if_pos hki]
            subst hki
            exact h2 h0 hp c (by omega) b2 b3
          · rw [if_neg hki]
            exact h1 k h0 hk hp hpi
      · intro hc0 hcp k h0 hk hkc
        rw [b3, g, g, if_neg (by omega), if_neg (by omega), if_neg (by omega), if_pos rfl]
        have := h1 k h0 hk (by omega) (by omega)
        rw [hkc] at this
        exact this
    · rename_i h
      intro k h0 hk hp
      by_cases hpi : (k - 1) / 2 = i
      · have hc : decide (2 * i + 1 < n) = true := decide_eq_true (by omega)
        rw [hc, Bool.true_and] at h
        rw [hpi]
        exact ho.2 _ _ _ (Bool.eq_false_iff.2 h) (childL_least z ah ho hk h0 hpi)
      · exact h1 k h0 hk hp hpi
/-- What is right behind i is right from i on. -/
theorem downL_from (ho : Order ah) {f n i : Nat} {xs : List α} (hn : n ≤ xs.length) (hf : n - i ≤ f) (h : HeapFrom z ah xs n (i + 1)) : HeapFrom z ah (downL z ah f xs i n) n i :=
  downL_heap z ah ho n i f xs i hn hf (Nat.le_refl _) (fun k h0 hk hp hne => h k h0 hk (by omega)) (fun h0 hp => by omega)
theorem initL_heap (ho : Order ah) : ∀ (i : Nat) (xs : List α), HeapFrom z ah xs xs.length i → HeapFrom z ah (initL z ah i xs) xs.length 0
  | 0, _, h => h
  | i + 1, xs, h => by
    rw [initL]
    have := initL_heap ho i (downL z ah xs.length xs i xs.length) (by rw [downL_length]; exact downL_from z ah ho (Nat.le_refl _) (by omega) h)
    rw [downL_length] at this
    exact this
theorem init_heap (ho : Order ah) (xs : List α) : HeapFrom z ah (initL z ah (xs.length / 2) xs) xs.length 0 :=
  initL_heap z ah ho _ xs (fun k h0 hk hp => by omega)
theorem heap_least (ho : Order ah) {xs : List α} {n : Nat} (h : HeapFrom z ah xs n 0) : ∀ k, k < n → ah (xs.getD k z) (xs.getD 0 z) = false
  | 0, _ => by
    cases h : ah (xs.getD 0 z) (xs.getD 0 z) with
    | false => rfl
    | true => exact (ho.1 _ _ h).symm.trans h |>.symm ▸ rfl
  | k + 1, hk => ho.2 _ _ _ (heap_least ho h ((k + 1 - 1) / 2) (by omega)) (h (k + 1) (by omega) hk (Nat.zero_le _))
theorem upL_heap (ho : Order ah) (n : Nat) : ∀ (f : Nat) (xs : List α) (j : Nat), n = xs.length → j < n → j ≤ f →
    (∀ k, 0 < k → k < n → k ≠ j → ah (xs.getD k z) (xs.getD ((k - 1) / 2) z) = false) →
    (0 < j → ∀ k, 0 < k → k < n → (k - 1) / 2 = j → ah (xs.getD k z) (xs.getD ((j - 1) / 2) z) = false) →
    HeapFrom z ah (upL z ah f xs j) n 0
  | 0, xs, j, _, hj, hf, h1, _ => by
    rw [upL]
    exact fun k h0 hk _ => h1 k h0 hk (by omega)
  | f + 1, xs, j, hn, hj, hf, h1, h2 => by
    rw [upL]
    split
    · rename_i h
      simp only [Bool.and_eq_true, decide_eq_true_eq] at h
      obtain ⟨h3, h4⟩ := h
      obtain ⟨p, hp⟩ : ∃ p, p = (j - 1) / 2 := ⟨_, rfl⟩
      rw [← hp] at h4 h2 ⊢
      have hpj : p < j := by omega
      have g : ∀ k, (swapL z xs p j).getD k z = if k = j then xs.getD p z else if k = p then xs.getD j z else xs.getD k z := swapL_getD z (by omega) (by omega)
      have h5 := ho.1 _ _ h4
      refine upL_heap ho n f (swapL z xs p j) p (by rw [swapL_length]; exact hn) (by omega) (by omega) ?_ ?_
      · intro k h0 hk hne
        rw [g, g]
        by_cases hkj : k = j
        · rw [if_pos hkj, if_neg (by omega), if_pos (by omega)]
          exact h5
        · rw [if_neg hkj, if_neg hne]
          by_cases hq : (k - 1) / 2 = j
          · rw [if_pos hq]
            exact h2 h3 k h0 hk hq
          · rw [if_neg hq]
            by_cases hq2 : (k - 1) / 2 = p
            · rw [if_pos hq2]
              have := h1 k h0 hk hkj
              rw [hq2] at this
              exact ho.2 _ _ _ h5 this
            · rw [if_neg hq2]
              exact h1 k h0 hk hkj
      · intro hp0 k h0 hk hkp
        have hpp := h1 p hp0 (by omega) (by omega)
        rw [g, g, if_neg (show ¬ (p - 1) / 2 = j by omega), if_neg (show ¬ (p - 1) / 2 = p by omega)]
        by_cases hkj : k = j
        · rw [if_pos hkj]
          exact hpp
        · rw [if_neg hkj, if_neg (by omega)]
          have := h1 k h0 hk hkj
          rw [hkp] at this
          exact ho.2 _ _ _ hpp this
    · rename_i h
      intro k h0 hk _
      by_cases hkj : k = j
      · subst hkj
        rw [decide_eq_true h0, Bool.true_and] at h
        exact Bool.eq_false_iff.2 h
      · exact h1 k h0 hk hkj

theorem HeapFrom.congr {xs ys : List α} {n i : Nat} (h : HeapFrom z ah xs n i) (e : ∀ k, k < n → ys.getD k z = xs.getD k z) : HeapFrom z ah ys n i := by
  intro k h0 hk hp
  rw [e k hk, e _ (by omega)]
  exact h k h0 hk hp
theorem getD_take {xs : List α} {n k : Nat} (hk : k < n) : (xs.take n).getD k z = xs.getD k z := by
  simp only [List.getD_eq_getElem?_getD, List.getElem?_take, if_pos hk]
theorem popL_length (xs : List α) : (popL z ah xs).length = xs.length - 1 := by
  unfold popL
  rw [List.length_take, downL_length, swapL_length]
  omega
/-- What is left when the first is taken. -/
theorem popL_perm (x : α) (xs : List α) : (popL z ah (x :: xs)).Perm xs := by
  have hl : (x :: xs).length - 1 = xs.length := by simp
  unfold popL
  rw [hl]
  obtain ⟨D, hD⟩ : ∃ D, D = downL z ah xs.length (swapL z (x :: xs) 0 xs.length) 0 xs.length := ⟨_, rfl⟩
  rw [← hD]
  have h1 : D.length = xs.length + 1 := by rw [hD, downL_length, swapL_length]; simp
  have h2 : D.getD xs.length z = x := by
    rw [hD, downL_out z ah _ _ _ _ (by rw [swapL_length]; simp) _ (Nat.le_refl _), swapL_getD z (by simp) (by simp), if_pos rfl]
    rfl
  have h3 : D.Perm (x :: xs) := by
    rw [hD]
    exact (downL_perm z ah _ _ _ _ (by rw [swapL_length]; simp)).trans (swapL_perm z (by simp) (by simp))
  have h4 : D = D.take xs.length ++ [x] := by
    have e : D.drop xs.length = [x] := by
      have hlt : xs.length < D.length := by omega
      rw [List.drop_eq_getElem_cons hlt, List.drop_eq_nil_of_le (by omega)]
      rw [List.getD_eq_getElem?_getD, List.getElem?_eq_getElem hlt] at h2
      simpa using h2
    conv => lhs; rw [← List.take_append_drop xs.length D, e]
  rw [h4] at h3
  exact List.Perm.cons_inv ((List.perm_append_singleton x _).symm.trans h3)
theorem popL_heap (ho : Order ah) {xs : List α} (h : HeapFrom z ah xs xs.length 1) : HeapFrom z ah (popL z ah xs) (xs.length - 1) 0 := by
  by_cases h0 : xs.length = 0
  · intro k _ hk; omega
  · refine HeapFrom.congr z ah (xs := downL z ah (xs.length - 1) (swapL z xs 0 (xs.length - 1)) 0 (xs.length - 1)) ?_ (fun k hk => getD_take z hk)
    refine downL_from z ah ho (by rw [swapL_length]; omega) (by omega) ?_
    intro k h1 hk hp
    rw [swapL_getD z (by omega) (by omega), swapL_getD z (by omega) (by omega), if_neg (by omega), if_neg (by omega), if_neg (by omega), if_neg (by omega)]
    exact h k h1 (by omega) hp
theorem fixL_heap (ho : Order ah) {xs : List α} (h : HeapFrom z ah xs xs.length 1) : HeapFrom z ah (fixL z ah xs) xs.length 0 :=
  downL_from z ah ho (Nat.le_refl _) (by omega) h
theorem pushL_perm (xs : List α) (x : α) : (pushL z ah xs x).Perm (x :: xs) := (upL_perm z ah _ _ _ (by simp)).trans (List.perm_append_singleton x xs)
theorem pushL_length (xs : List α) (x : α) : (pushL z ah xs x).length = xs.length + 1 := by unfold pushL; rw [upL_length]; simp
theorem pushL_heap (ho : Order ah) {xs : List α} (x : α) (h : HeapFrom z ah xs xs.length 0) : HeapFrom z ah (pushL z ah xs x) (xs.length + 1) 0 := by
  have e : ∀ k, k < xs.length → (xs ++ [x]).getD k z = xs.getD k z := fun k hk => by simp only [List.getD_eq_getElem?_getD, List.getElem?_append_left hk]
  refine upL_heap z ah ho (xs.length + 1) xs.length (xs ++ [x]) xs.length (by simp) (by omega) (Nat.le_refl _) ?_ (fun h0 k hk1 hk2 hk3 => by omega)
  intro k h0 hk hne
  rw [e k (by omega), e _ (by omega)]
  exact h k h0 (by omega) (Nat.zero_le _)
/-- A row whose first alone is another one. -/
theorem heap_first {xs : List α} (x : α) (h : HeapFrom z ah xs xs.length 0) (h0 : 0 < xs.length) : HeapFrom z ah (xs.set 0 x) (xs.set 0 x).length 1 := by
  intro k h1 hk hp
  rw [getD_set z xs 0 _ x h0, getD_set z xs 0 _ x h0, if_neg (by omega), if_neg (by omega)]
  exact h k h1 (by simpa using hk) (Nat.zero_le _)
end

end Go.Proofs.Ytcemdiloiachlaa

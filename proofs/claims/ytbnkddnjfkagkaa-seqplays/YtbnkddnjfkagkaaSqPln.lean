/-
  Marks that rise with places: a list of numbers, a table of their marks; plain facts, no function of the program.
-/
import Derived.Test.YtbnkddnjfkagkaaSqMap
import Derived.Test.YtbnkddnjfkagkaaTrLoc
namespace Go.Proofs.Ytbnkddnjfkagkaa
set_option linter.unusedVariables false

/-- What stands above all marks. -/
def topM : Nat := 18446744073709551615
/-- The mark of the k-th number, from 1 on; nought ahead of all, the greatest behind them. -/
def mkN (f : Int → Option Nat) (xs : List Int) (k : Nat) : Nat := if k = 0 then 0 else match xs[k - 1]? with | some x => (f x).getD 0 | none => topM
theorem mkN_zero (f : Int → Option Nat) (xs : List Int) : mkN f xs 0 = 0 := rfl
theorem mkN_at (f : Int → Option Nat) (xs : List Int) {k : Nat} (h : k < xs.length) : mkN f xs (k + 1) = (f xs[k]).getD 0 := by
  unfold mkN
  rw [if_neg (Nat.succ_ne_zero k), Nat.add_sub_cancel, List.getElem?_eq_getElem h]
theorem mkN_out (f : Int → Option Nat) (xs : List Int) {k : Nat} (h : xs.length ≤ k) : mkN f xs (k + 1) = topM := by
  unfold mkN
  rw [if_neg (Nat.succ_ne_zero k), Nat.add_sub_cancel, List.getElem?_eq_none h]
theorem nodup_at {α : Type} {xs : List α} (h : xs.Nodup) {i j : Nat} {hi : i < xs.length} {hj : j < xs.length} (e : xs[i] = xs[j]) : i = j := by
  have hp := List.pairwise_iff_getElem.1 h
  rcases Nat.lt_trichotomy i j with h1 | h1 | h1
  · exact absurd e (hp i j hi hj h1)
  · exact h1
  · exact absurd e.symm (hp j i hj hi h1)
/-- The numbers stand once each, each has a mark, and marks rise. -/
structure SqOk (xs : List Int) (f : Int → Option Nat) : Prop where
  nd : xs.Nodup
  wf : ∀ x ∈ xs, wf64 x
  has : ∀ x, (f x).isSome = true ↔ x ∈ xs
  rise : ∀ k, k ≤ xs.length → mkN f xs k < mkN f xs (k + 1)
theorem SqOk.nil : SqOk [] (fun _ => none) := by
  refine ⟨List.nodup_nil, (fun x h => absurd h (List.not_mem_nil)), (fun x => by simp), fun k hk => ?_⟩
  obtain rfl : k = 0 := by simpa using hk
  rw [mkN_zero, mkN_out _ _ (by simp)]
  decide
theorem SqOk.lt {xs : List Int} {f : Int → Option Nat} (h : SqOk xs f) {i : Nat} : ∀ {j : Nat}, i < j → j ≤ xs.length + 1 → mkN f xs i < mkN f xs j
  | 0, h1, _ => absurd h1 (Nat.not_lt_zero _)
  | j + 1, h1, h2 => by
    have h3 := h.rise j (by omega)
    by_cases e : i = j
    · subst e; exact h3
    · exact Nat.lt_trans (h.lt (j := j) (by omega) (by omega)) h3
theorem SqOk.le_top {xs : List Int} {f : Int → Option Nat} (h : SqOk xs f) {k : Nat} (hk : k ≤ xs.length + 1) : mkN f xs k ≤ topM := by
  by_cases e : k = xs.length + 1
  · subst e; rw [mkN_out _ _ (Nat.le_refl _)]; exact Nat.le_refl _
  · have := h.lt (i := k) (j := xs.length + 1) (by omega) (Nat.le_refl _)
    rw [mkN_out _ _ (Nat.le_refl _)] at this
    omega
theorem SqOk.tell {xs : List Int} {f : Int → Option Nat} (h : SqOk xs f) {k : Nat} (hk : k < xs.length) : f xs[k] = some (mkN f xs (k + 1)) := by
  have := (h.has xs[k]).2 (List.getElem_mem hk)
  obtain ⟨m, hm⟩ := Option.isSome_iff_exists.1 this
  rw [mkN_at f xs hk, hm]
  rfl
theorem SqOk.untold {xs : List Int} {f : Int → Option Nat} (h : SqOk xs f) {x : Int} (hx : x ∉ xs) : f x = none := by
  cases e : f x with
  | none => rfl
  | some m => exact absurd ((h.has x).1 (by rw [e]; rfl)) hx
theorem mkN_upd (f : Int → Option Nat) (xs : List Int) (x : Int) (v : Option Nat) (k : Nat) (h : ∀ hk : k - 1 < xs.length, k ≠ 0 → xs[k - 1] ≠ x) : mkN (upd f x v) xs k = mkN f xs k := by
  unfold mkN
  by_cases h0 : k = 0
  · rw [if_pos h0, if_pos h0]
  · rw [if_neg h0, if_neg h0]
    rcases Nat.lt_or_ge (k - 1) xs.length with h1 | h1
    · rw [List.getElem?_eq_getElem h1]
      show (upd f x v xs[k - 1]).getD 0 = _
      rw [upd_other _ _ (h h1 h0)]
    · rw [List.getElem?_eq_none h1]
theorem insL_get {α : Type} (v : α) (l : List α) {i : Nat} (hi : i ≤ l.length) (k : Nat) : (insL v l i)[k]? = if k < i then l[k]? else if k = i then some v else l[k - 1]? := by
  unfold insL
  by_cases h1 : k < i
  · rw [if_pos h1, List.getElem?_append_left (by rw [List.length_take]; omega), List.getElem?_take_of_lt h1]
  · rw [if_neg h1, List.getElem?_append_right (by rw [List.length_take]; omega), List.length_take, Nat.min_eq_left hi]
    by_cases h2 : k = i
    · subst h2; rw [if_pos rfl, Nat.sub_self]; rfl
    · rw [if_neg h2, show k - i = (k - 1 - i) + 1 by omega, List.getElem?_cons_succ, List.getElem?_drop]
      congr 1; omega
theorem delL_get {α : Type} (l : List α) {i : Nat} (hi : i < l.length) (k : Nat) : (delL l i)[k]? = if k < i then l[k]? else l[k + 1]? := by
  unfold delL
  by_cases h1 : k < i
  · rw [if_pos h1, List.getElem?_append_left (by rw [List.length_take]; omega), List.getElem?_take_of_lt h1]
  · rw [if_neg h1, List.getElem?_append_right (by rw [List.length_take]; omega), List.length_take, Nat.min_eq_left (by omega), List.getElem?_drop]
    congr 1; omega
theorem insL_mem {α : Type} {v x : α} {l : List α} {i : Nat} : x ∈ insL v l i ↔ x = v ∨ x ∈ l := by
  unfold insL
  rw [List.mem_append, List.mem_cons]
  constructor
  · rintro (h | h | h)
    · exact .inr (List.mem_of_mem_take h)
    · exact .inl h
    · exact .inr (List.mem_of_mem_drop h)
  · rintro (h | h)
    · exact .inr (.inl h)
    · rw [← List.take_append_drop i l, List.mem_append] at h
      exact h.imp id .inr
theorem insL_nodup {α : Type} {v : α} {l : List α} {i : Nat} (h : l.Nodup) (hv : v ∉ l) : (insL v l i).Nodup := by
  unfold insL
  have hp : (l.take i ++ v :: l.drop i).Perm (v :: l) := by
    have := List.perm_middle (a := v) (l₁ := l.take i) (l₂ := l.drop i)
    rw [List.take_append_drop] at this
    exact this
  exact hp.nodup_iff.2 (List.nodup_cons.2 ⟨hv, h⟩)
theorem delL_sub {α : Type} (l : List α) (i : Nat) : (delL l i).Sublist l := by
  unfold delL
  have h := List.Sublist.append (List.Sublist.refl (l.take i)) (List.drop_sublist 1 (l.drop i))
  rw [List.drop_drop, List.take_append_drop] at h
  exact h
theorem delL_mem {α : Type} {l : List α} {i : Nat} (hi : i < l.length) (hn : l.Nodup) {x : α} : x ∈ delL l i ↔ x ∈ l ∧ x ≠ l[i] := by
  have e : l = l.take i ++ (l[i] :: l.drop (i + 1)) := by rw [List.getElem_cons_drop, List.take_append_drop]
  have hp : (l.take i ++ (l[i] :: l.drop (i + 1))).Perm (l[i] :: delL l i) := List.perm_middle
  rw [← e] at hp
  have hn' := hp.nodup_iff.1 hn
  constructor
  · intro h
    exact ⟨hp.mem_iff.2 (List.mem_cons_of_mem _ h), fun e => (List.nodup_cons.1 hn').1 (e ▸ h)⟩
  · rintro ⟨h, hne⟩
    rcases List.mem_cons.1 (hp.mem_iff.1 h) with h | h
    · exact absurd h hne
    · exact h
/-- One more, with a mark between its neighbours'. -/
theorem SqOk.ins {xs : List Int} {f : Int → Option Nat} (h : SqOk xs f) {i m : Nat} {id : Int} (hi : i ≤ xs.length) (hid : id ∉ xs) (hw : wf64 id) (h1 : mkN f xs i < m) (h2 : m < mkN f xs (i + 1)) : SqOk (insL id xs i) (upd f id (some m)) := by
  have hl := insL_len id xs i hi
  have hne : ∀ k (hk : k < xs.length), xs[k] ≠ id := fun k hk e => hid (e ▸ List.getElem_mem hk)
  have hmk : ∀ k, k ≤ xs.length + 2 → mkN (upd f id (some m)) (insL id xs i) k = if k ≤ i then mkN f xs k else if k = i + 1 then m else mkN f xs (k - 1) := by
    intro k hk
    by_cases h0 : k = 0
    · subst h0; rw [if_pos (Nat.zero_le _)]; rfl
    · obtain ⟨j, rfl⟩ : ∃ j, k = j + 1 := ⟨k - 1, by omega⟩
      have hu : ∀ q : Nat, (match xs[q]? with | some x => (upd f id (some m) x).getD 0 | none => topM) = mkN f xs (q + 1) := by
        intro q
        rcases Nat.lt_or_ge q xs.length with hq | hq
        · rw [List.getElem?_eq_getElem hq, mkN_at f xs hq]
          show (upd f id (some m) xs[q]).getD 0 = _
          rw [upd_other _ _ (hne q hq)]
        · rw [List.getElem?_eq_none hq, mkN_out f xs hq]
      conv => lhs; unfold mkN
      rw [if_neg h0, Nat.add_sub_cancel, insL_get id xs hi j]
      by_cases c1 : j < i
      · rw [if_pos c1, if_pos (show j + 1 ≤ i by omega)]; exact hu j
      · rw [if_neg c1, if_neg (show ¬ j + 1 ≤ i by omega)]
        by_cases c2 : j = i
        · rw [if_pos c2, if_pos (show j + 1 = i + 1 by rw [c2])]
          show (upd f id (some m) id).getD 0 = m
          rw [upd_same]; rfl
        · rw [if_neg c2, if_neg (show ¬ j + 1 = i + 1 by omega), hu (j - 1), show j - 1 + 1 = j by omega]
  refine ⟨insL_nodup h.nd hid, fun x hx => ?_, fun x => ?_, fun k hk => ?_⟩
  · rcases insL_mem.1 hx with rfl | hx
    · exact hw
    · exact h.wf x hx
  · rw [insL_mem]
    by_cases e : x = id
    · subst e; rw [upd_same]; simp
    · rw [upd_other _ _ e, h.has x]; simp [e]
  · rw [hl] at hk
    rw [hmk k (by omega), hmk (k + 1) (by omega)]
    by_cases c1 : k + 1 ≤ i
    · rw [if_pos (by omega), if_pos c1]; exact h.rise k (by omega)
    · by_cases c2 : k = i
      · subst c2; rw [if_pos (Nat.le_refl _), if_neg (by omega), if_pos rfl]; exact h1
      · rw [if_neg (by omega), if_neg c1]
        by_cases c3 : k = i + 1
        · subst c3; rw [if_pos rfl, if_neg (by omega)]; exact h2
        · rw [if_neg c3, if_neg (by omega)]
          have := h.rise (k - 1) (by omega)
          rw [show k - 1 + 1 = k + 1 - 1 by omega] at this
          exact this
/-- One less. -/
theorem SqOk.del {xs : List Int} {f : Int → Option Nat} (h : SqOk xs f) {i : Nat} (hi : i < xs.length) : SqOk (delL xs i) (upd f xs[i] none) := by
  have hl := delL_len xs i hi
  have hne : ∀ k (hk : k < xs.length), k ≠ i → xs[k] ≠ xs[i] := fun k hk hki e => hki (nodup_at h.nd e)
  have hmk : ∀ k, k ≤ xs.length → mkN (upd f xs[i] none) (delL xs i) k = if k ≤ i then mkN f xs k else mkN f xs (k + 1) := by
    intro k hk
    by_cases h0 : k = 0
    · subst h0; rw [if_pos (Nat.zero_le _)]; rfl
    · obtain ⟨j, rfl⟩ : ∃ j, k = j + 1 := ⟨k - 1, by omega⟩
      have hu : ∀ q : Nat, q ≠ i → (match xs[q]? with | some x => (upd f xs[i] none x).getD 0 | none => topM) = mkN f xs (q + 1) := by
        intro q hqi
        rcases Nat.lt_or_ge q xs.length with hq | hq
        · rw [List.getElem?_eq_getElem hq, mkN_at f xs hq]
          show (upd f xs[i] none xs[q]).getD 0 = _
          rw [upd_other _ _ (hne q hq hqi)]
        · rw [List.getElem?_eq_none hq, mkN_out f xs hq]
      conv => lhs; unfold mkN
      rw [if_neg h0, Nat.add_sub_cancel, delL_get xs hi j]
      by_cases c1 : j < i
      · rw [if_pos c1, if_pos (show j + 1 ≤ i by omega)]; exact hu j (by omega)
      · rw [if_neg c1, if_neg (show ¬ j + 1 ≤ i by omega)]; exact hu (j + 1) (by omega)
  refine ⟨h.nd.sublist (delL_sub xs i), fun x hx => h.wf x ((delL_sub xs i).mem hx), fun x => ?_, fun k hk => ?_⟩
  · rw [delL_mem hi h.nd]
    by_cases e : x = xs[i]
    · subst e; rw [upd_same]; simp
    · rw [upd_other _ _ e, h.has x]; simp [e]
  · rw [hmk k (by omega), hmk (k + 1) (by omega)]
    by_cases c1 : k + 1 ≤ i
    · rw [if_pos (by omega), if_pos c1]; exact h.rise k (by omega)
    · rw [if_neg c1]
      by_cases c2 : k ≤ i
      · rw [if_pos c2]; exact h.lt (by omega) (by omega)
      · rw [if_neg c2]; exact h.rise (k + 1) (by omega)
/-- The table with new marks for j numbers from one place on. -/
def spF (f : Int → Option Nat) (xs : List Int) (a low d : Nat) : Nat → Int → Option Nat
  | 0 => f
  | j + 1 => upd (spF f xs a low d j) (xs.getD (a + j) 0) (some (low + d * (j + 1)))
theorem getD_in (xs : List Int) {k : Nat} (h : k < xs.length) : xs.getD k 0 = xs[k] := by
  rw [List.getD_eq_getElem?_getD, List.getElem?_eq_getElem h]; rfl
theorem spF_has {xs : List Int} {f : Int → Option Nat} (h : SqOk xs f) (a low d : Nat) : ∀ j, a + j ≤ xs.length → ∀ x, (spF f xs a low d j x).isSome = (f x).isSome
  | 0, _, _ => rfl
  | j + 1, hj, x => by
    have hk : a + j < xs.length := by omega
    show (upd _ _ _ x).isSome = _
    by_cases e : x = xs.getD (a + j) 0
    · rw [← e, upd_same]
      have : x ∈ xs := by rw [e, getD_in xs hk]; exact List.getElem_mem hk
      rw [(h.has x).2 this]; rfl
    · rw [upd_other _ _ e, spF_has h a low d j (by omega) x]
theorem spF_mk {xs : List Int} {f : Int → Option Nat} (h : SqOk xs f) (a low d : Nat) : ∀ j, a + j ≤ xs.length → ∀ k, mkN (spF f xs a low d j) xs k = if a < k ∧ k ≤ a + j then low + d * (k - a) else mkN f xs k
  | 0, _, k => by rw [if_neg (by omega)]; rfl
  | j + 1, hj, k => by
    have hk : a + j < xs.length := by omega
    have ih := spF_mk h a low d j (by omega) k
    by_cases e : k = a + j + 1
    · subst e
      rw [if_pos (by omega), mkN_at _ _ hk]
      show (upd _ _ _ xs[a + j]).getD 0 = _
      rw [getD_in xs hk, upd_same, show a + j + 1 - a = j + 1 by omega]
      rfl
    · have : mkN (spF f xs a low d (j + 1)) xs k = mkN (spF f xs a low d j) xs k := mkN_upd _ _ _ _ _ (fun hk2 h0 e2 => by
        rw [getD_in xs hk] at e2
        have := nodup_at h.nd e2
        omega)
      rw [this, ih]
      by_cases c : a < k ∧ k ≤ a + j
      · rw [if_pos c, if_pos (by omega)]
      · rw [if_neg c, if_neg (by omega)]
/-- New marks for those from a up to b, as far apart as there is room: they rise, and there is room. -/
theorem spF_ok {xs : List Int} {f : Int → Option Nat} (h : SqOk xs f) {a b d : Nat} (hab : a ≤ b) (hb : b ≤ xs.length) (hd : d = (mkN f xs (b + 1) - mkN f xs a) / (b - a + 1)) (hd1 : 1 ≤ d) :
    SqOk xs (spF f xs a (mkN f xs a) d (b - a)) ∧ ∀ k, a ≤ k → k ≤ b → mkN (spF f xs a (mkN f xs a) d (b - a)) xs k + d ≤ mkN (spF f xs a (mkN f xs a) d (b - a)) xs (k + 1) := by
  have hmul : d * (b - a + 1) ≤ mkN f xs (b + 1) - mkN f xs a := by rw [hd]; exact Nat.div_mul_le_self _ _
  have hlt : mkN f xs a < mkN f xs (b + 1) := h.lt (by omega) (by omega)
  have hmk := spF_mk h a (mkN f xs a) d (b - a) (by omega)
  have hgap : ∀ k, a ≤ k → k ≤ b → mkN (spF f xs a (mkN f xs a) d (b - a)) xs k + d ≤ mkN (spF f xs a (mkN f xs a) d (b - a)) xs (k + 1) := by
    intro k h1 h2
    rw [hmk k, hmk (k + 1)]
    have hk : mkN f xs a + d * (k - a) = (if a < k ∧ k ≤ a + (b - a) then mkN f xs a + d * (k - a) else mkN f xs k) := by
      by_cases c : a < k
      · rw [if_pos (by omega)]
      · obtain rfl : a = k := by omega
        rw [if_neg (by omega), Nat.sub_self]; simp
    rw [← hk]
    by_cases c : k = b
    · subst c
      rw [if_neg (by omega)]
      have : d * (k - a + 1) = d * (k - a) + d := Nat.mul_succ _ _
      omega
    · rw [if_pos (by omega)]
      have : d * (k + 1 - a) = d * (k - a) + d := by rw [show k + 1 - a = (k - a) + 1 by omega]; exact Nat.mul_succ _ _
      omega
  refine ⟨⟨h.nd, h.wf, fun x => by rw [spF_has h _ _ _ _ (by omega), h.has x], fun k hk => ?_⟩, hgap⟩
  by_cases c : a ≤ k ∧ k ≤ b
  · have := hgap k c.1 c.2; omega
  · rw [hmk k, hmk (k + 1), if_neg (by omega), if_neg (by omega)]
    exact h.rise k hk
end Go.Proofs.Ytbnkddnjfkagkaa

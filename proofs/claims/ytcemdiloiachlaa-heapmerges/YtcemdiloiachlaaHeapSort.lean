/-
  Rows put in order, those that are alike as they stood; the least of several rows taken again and again; plain facts, no program is named here.
-/
import Derived.Test.YtcemdiloiachlaaHeapMath
namespace Go.Proofs.Ytcemdiloiachlaa

section
variable {E : Type} (rk : E → Int)

/-- One more comes into a row that stands in order. -/
def insS (x : E) : List E → List E
  | [] => [x]
  | y :: ys => if rk x < rk y then x :: y :: ys else y :: insS x ys
def isort (l : List E) : List E := l.foldl (fun out x => insS rk x out) []
def Srt (l : List E) : Prop := l.Pairwise (fun a b => rk a ≤ rk b)
theorem insS_perm (x : E) : ∀ l : List E, (insS rk x l).Perm (x :: l)
  | [] => .refl _
  | y :: ys => by
    rw [insS]
    split
    · exact .refl _
    · exact ((insS_perm x ys).cons y).trans (List.Perm.swap x y ys)
theorem foldl_perm : ∀ (l s : List E), (l.foldl (fun out x => insS rk x out) s).Perm (l ++ s)
  | [], s => .refl _
  | x :: l, s => by
    rw [List.foldl_cons]
    refine (foldl_perm l _).trans ?_
    rw [List.cons_append]
    exact ((insS_perm rk x s).append_left l).trans List.perm_middle
theorem isort_perm (l : List E) : (isort rk l).Perm l := by have := foldl_perm rk l []; rwa [List.append_nil] at this
theorem isort_length (l : List E) : (isort rk l).length = l.length := (isort_perm rk l).length_eq
theorem isort_append (l : List E) (x : E) : isort rk (l ++ [x]) = insS rk x (isort rk l) := by unfold isort; rw [List.foldl_append]; rfl
theorem insS_srt {x : E} : ∀ {l : List E}, Srt rk l → Srt rk (insS rk x l)
  | [], _ => List.pairwise_singleton _ _
  | y :: ys, h => by
    rw [insS]
    have h1 := List.pairwise_cons.1 h
    split
    · rename_i hlt
      refine List.pairwise_cons.2 ⟨fun b hb => ?_, h⟩
      rcases List.mem_cons.1 hb with rfl | hb
      · omega
      · have := h1.1 b hb; omega
    · rename_i hlt
      refine List.pairwise_cons.2 ⟨fun b hb => ?_, insS_srt h1.2⟩
      rcases List.mem_cons.1 ((insS_perm rk x ys).mem_iff.1 hb) with rfl | hb
      · omega
      · exact h1.1 b hb
theorem foldl_srt : ∀ (l s : List E), Srt rk s → Srt rk (l.foldl (fun out x => insS rk x out) s)
  | [], _, h => h
  | x :: l, s, h => by rw [List.foldl_cons]; exact foldl_srt l _ (insS_srt rk h)
theorem isort_srt (l : List E) : Srt rk (isort rk l) := foldl_srt rk l [] List.Pairwise.nil
/-- Those of one rank stand as they stood. -/
theorem insS_filter (r : Int) {x : E} : ∀ {l : List E}, Srt rk l → (insS rk x l).filter (fun e => rk e == r) = l.filter (fun e => rk e == r) ++ [x].filter (fun e => rk e == r)
  | [], _ => rfl
  | y :: ys, h => by
    have h1 := List.pairwise_cons.1 h
    rw [insS]
    split
    · rename_i hlt
      by_cases hx : rk x = r
      · have e : (y :: ys).filter (fun e => rk e == r) = [] := by
          rw [List.filter_eq_nil_iff]
          intro a ha
          rcases List.mem_cons.1 ha with rfl | ha
          · simp; omega
          · have := h1.1 a ha; simp; omega
        rw [List.filter_cons, e]
        simp [hx]
      · rw [List.filter_cons]
        simp [hx]
    · rw [List.filter_cons, insS_filter r h1.2]
      by_cases hy : rk y = r
      · simp [hy]
      · simp [hy]
theorem foldl_filter (r : Int) : ∀ (l s : List E), Srt rk s → (l.foldl (fun out x => insS rk x out) s).filter (fun e => rk e == r) = s.filter (fun e => rk e == r) ++ l.filter (fun e => rk e == r)
  | [], _, _ => by simp
  | x :: l, s, h => by
    rw [List.foldl_cons, foldl_filter r l _ (insS_srt rk h), insS_filter rk r h, List.append_assoc, ← List.filter_append]
    rfl
theorem isort_filter (r : Int) (l : List E) : (isort rk l).filter (fun e => rk e == r) = l.filter (fun e => rk e == r) := by
  have := foldl_filter rk r l [] List.Pairwise.nil
  rw [List.filter_nil, List.nil_append] at this
  exact this
/-- Two rows that stand in order, with the same of each rank, are one. -/
theorem srt_unique : ∀ {s t : List E}, Srt rk s → Srt rk t → (∀ r, s.filter (fun e => rk e == r) = t.filter (fun e => rk e == r)) → s = t
  | [], [], _, _, _ => rfl
  | [], y :: t, _, _, h => by
    have := h (rk y)
    simp at this
  | x :: s, [], _, _, h => by
    have := h (rk x)
    simp at this
  | x :: s, y :: t, hs, ht, h => by
    have hs1 := List.pairwise_cons.1 hs
    have ht1 := List.pairwise_cons.1 ht
    have hxy : rk x = rk y := by
      have hx : x ∈ (y :: t).filter (fun e => rk e == rk x) := by rw [← h]; simp
      have hy : y ∈ (x :: s).filter (fun e => rk e == rk y) := by rw [h]; simp
      have h1 : rk y ≤ rk x := by
        rcases List.mem_cons.1 (List.mem_filter.1 hx).1 with rfl | h2
        · exact Int.le_refl _
        · exact ht1.1 _ h2
      have h2 : rk x ≤ rk y := by
        rcases List.mem_cons.1 (List.mem_filter.1 hy).1 with rfl | h3
        · exact Int.le_refl _
        · exact hs1.1 _ h3
      omega
    have e := h (rk x)
    rw [List.filter_cons, List.filter_cons, if_pos (by simp), if_pos (by simp [hxy])] at e
    have ex : x = y := (List.cons.inj e).1
    subst ex
    congr 1
    refine srt_unique hs1.2 ht1.2 fun r => ?_
    have := h r
    rw [List.filter_cons, List.filter_cons] at this
    split at this
    · exact (List.cons.inj this).2
    · exact this
theorem isort_of {l s : List E} (hs : Srt rk s) (h : ∀ r, s.filter (fun e => rk e == r) = l.filter (fun e => rk e == r)) : isort rk l = s :=
  srt_unique rk (isort_srt rk l) hs (fun r => (isort_filter rk r l).trans (h r).symm)
theorem isort_self {l : List E} (h : Srt rk l) : isort rk l = l := isort_of rk h (fun _ => rfl)
/-- The least one, the first of those that are alike, stands first. -/
theorem isort_first {a b : List E} {x : E} (ha : ∀ y ∈ a, rk x < rk y) (hb : ∀ y ∈ b, rk x ≤ rk y) : isort rk (a ++ x :: b) = x :: isort rk (a ++ b) := by
  refine isort_of rk (List.pairwise_cons.2 ⟨fun y hy => ?_, isort_srt rk _⟩) fun r => ?_
  · rcases List.mem_append.1 ((isort_perm rk (a ++ b)).mem_iff.1 hy) with h | h
    · have := ha y h; omega
    · exact hb y h
  · rw [List.filter_cons, isort_filter, List.filter_append, List.filter_append, List.filter_cons]
    by_cases hr : rk x = r
    · have e : a.filter (fun e => rk e == r) = [] := by
        rw [List.filter_eq_nil_iff]
        intro y hy
        have := ha y hy
        simp; omega
      simp [hr, e]
    · simp [hr]
/-- Halves that are put in order each. -/
theorem isort_halves (a b : List E) : isort rk (isort rk a ++ isort rk b) = isort rk (a ++ b) :=
  isort_of rk (isort_srt rk (a ++ b)) fun r => by rw [isort_filter, List.filter_append, List.filter_append, isort_filter, isort_filter]
/-- There is a least one, the first of those that are alike. -/
theorem least_parts : ∀ {l : List E}, l ≠ [] → ∃ a x b, l = a ++ x :: b ∧ (∀ y ∈ a, rk x < rk y) ∧ ∀ y ∈ b, rk x ≤ rk y
  | [], h => absurd rfl h
  | [x], _ => ⟨[], x, [], rfl, fun _ h => absurd h List.not_mem_nil, fun _ h => absurd h List.not_mem_nil⟩
  | x :: y :: l, _ => by
    obtain ⟨a, u, b, e, h1, h2⟩ := least_parts (l := y :: l) (by simp)
    by_cases h : rk x ≤ rk u
    · refine ⟨[], x, y :: l, rfl, fun _ h => absurd h List.not_mem_nil, fun v hv => ?_⟩
      rw [e] at hv
      rcases List.mem_append.1 hv with h3 | h3
      · have := h1 v h3; omega
      · rcases List.mem_cons.1 h3 with rfl | h3
        · exact h
        · have := h2 v h3; omega
    · refine ⟨x :: a, u, b, by rw [e]; rfl, fun v hv => ?_, h2⟩
      rcases List.mem_cons.1 hv with rfl | hv
      · omega
      · exact h1 v hv
/-- Where one more is put by a look from the end. -/
theorem insS_at {x : E} : ∀ {l : List E} {k : Nat}, k ≤ l.length → (∀ j (h : j < l.length), j < k → rk l[j] ≤ rk x) → (∀ j (h : j < l.length), k ≤ j → rk x < rk l[j]) → l.take k ++ x :: l.drop k = insS rk x l
  | [], 0, _, _, _ => rfl
  | [], k + 1, h, _, _ => by simp at h
  | y :: ys, 0, _, _, h2 => by
    rw [insS, if_pos (show rk x < rk y from h2 0 (by simp) (Nat.le_refl _))]
    rfl
  | y :: ys, k + 1, hk, h1, h2 => by
    rw [insS, if_neg (by have := h1 0 (by simp) (by omega); simp at this; omega), ← insS_at (l := ys) (k := k) (by simpa using hk) (fun j h hj => by have := h1 (j + 1) (by simpa using h) (by omega); simpa using this) (fun j h hj => by have := h2 (j + 1) (by simpa using h) (by omega); simpa using this)]
    rfl
end

/-- What is left of a row: which one it was, and its elements. -/
structure RunM (E : Type) where
  list : Nat
  rest : List E
  blk : Nat
  off : Nat
  cap : Nat

section
variable {E : Type} (rk : E → Int) (z : E)

def headM (r : RunM E) : E := r.rest.getD 0 z
/-- By the first element, then by the row's number. -/
def aheadM (r s : RunM E) : Bool := decide (rk (headM z r) < rk (headM z s) ∨ rk (headM z r) = rk (headM z s) ∧ r.list < s.list)
theorem aheadM_order : Order (aheadM rk z) := by
  constructor
  · intro a b h
    simp only [aheadM, decide_eq_true_eq, decide_eq_false_iff_not] at *
    omega
  · intro a b c h1 h2
    simp only [aheadM, decide_eq_false_iff_not] at *
    omega
/-- The code's own way to ask. -/
theorem aheadM_if (r s : RunM E) : aheadM rk z r s = if r.list < s.list then !decide (rk (headM z s) < rk (headM z r)) else decide (rk (headM z r) < rk (headM z s)) := by
  unfold aheadM
  split
  · rw [Bool.eq_iff_iff]; simp; omega
  · rw [Bool.eq_iff_iff]; simp; omega
def tailM (k : Nat) (r : RunM E) : RunM E := { r with rest := r.rest.tail, off := if r.cap - 1 = 0 then r.off else r.off + k, cap := r.cap - 1 }
def zeroM : RunM E := ⟨0, [], 0, 0, 0⟩
/-- What is left behind one round. -/
def stepM (k : Nat) (rs : List (RunM E)) : List (RunM E) :=
  let rs1 := rs.set 0 (tailM k (rs.getD 0 zeroM))
  if (rs.getD 0 zeroM).rest.tail.length > 0 then fixL zeroM (aheadM rk z) rs1 else popL zeroM (aheadM rk z) rs1
def firstM (k : Nat) : Nat → List (RunM E) → List E
  | 0, _ => []
  | n + 1, rs => headM z (rs.getD 0 zeroM) :: firstM k n (stepM rk z k rs)

/-- The runs are what is left of the rows L. -/
structure Rep (rs : List (RunM E)) (L : List (List E)) : Prop where
  each : ∀ r ∈ rs, r.rest ≠ [] ∧ L[r.list]? = some r.rest
  all : ∀ i l, L[i]? = some l → l ≠ [] → ∃ r ∈ rs, r.list = i
  nodup : (rs.map (·.list)).Nodup
theorem Rep.perm {rs rs' : List (RunM E)} {L : List (List E)} (h : Rep rs L) (p : rs'.Perm rs) : Rep rs' L :=
  ⟨fun r hr => h.each r (p.mem_iff.1 hr), fun i l hl hne => let ⟨r, hr, e⟩ := h.all i l hl hne; ⟨r, p.mem_iff.2 hr, e⟩, (p.map _).nodup_iff.2 h.nodup⟩
theorem flatten_at {L : List (List E)} {i : Nat} {l : List E} (h : L[i]? = some l) (l' : List E) : L.flatten = (L.take i).flatten ++ (l ++ (L.drop (i + 1)).flatten) ∧ (L.set i l').flatten = (L.take i).flatten ++ (l' ++ (L.drop (i + 1)).flatten) := by
  obtain ⟨hi, rfl⟩ := List.getElem?_eq_some_iff.1 h
  constructor
  · conv => lhs; rw [← List.take_append_drop i L, List.flatten_append, List.drop_eq_getElem_cons hi, List.flatten_cons]
  · rw [List.set_eq_take_append_cons_drop, if_pos hi, List.flatten_append, List.flatten_cons]
/-- One round: the head of the first run is taken off its row. -/
theorem rep_step (k : Nat) {r : RunM E} {rs : List (RunM E)} {L : List (List E)} (h : Rep (r :: rs) L) (hh : HeapFrom zeroM (aheadM rk z) (r :: rs) (rs.length + 1) 0) :
    ∃ x l, r.rest = x :: l ∧ Rep (stepM rk z k (r :: rs)) (L.set r.list l) ∧ HeapFrom zeroM (aheadM rk z) (stepM rk z k (r :: rs)) (stepM rk z k (r :: rs)).length 0 := by
  have ho := aheadM_order rk z
  obtain ⟨hne, hl⟩ := h.each r (List.mem_cons_self ..)
  obtain ⟨x, l, e⟩ : ∃ x l, r.rest = x :: l := by
    cases hr : r.rest with
    | nil => exact absurd hr hne
    | cons x l => exact ⟨x, l, rfl⟩
  have hn := List.nodup_cons.1 (show ((r :: rs).map (·.list)).Nodup from h.nodup)
  have hlt : r.list < L.length := (List.getElem?_eq_some_iff.1 hl).1
  have hoth : ∀ s ∈ rs, s.list ≠ r.list := fun s hs e => hn.1 (List.mem_map.2 ⟨s, hs, e⟩)
  have h1 : HeapFrom zeroM (aheadM rk z) (((r :: rs).set 0 (tailM k r))) (((r :: rs).set 0 (tailM k r))).length 1 := heap_first zeroM _ _ hh (by simp)
  refine ⟨x, l, e, ?_⟩
  unfold stepM
  rw [show (r :: rs).getD 0 zeroM = r from rfl]
  have e1 : (r :: rs).set 0 (tailM k r) = tailM k r :: rs := rfl
  rw [e1] at h1 ⊢
  by_cases hz : l = []
  · have e2 : ¬ r.rest.tail.length > 0 := by rw [e, hz]; simp
    simp only [if_neg e2]
    refine ⟨Rep.perm ⟨fun s hs => ?_, fun i m hm hne' => ?_, hn.2⟩ (popL_perm zeroM (aheadM rk z) (tailM k r) rs), ?_⟩
    · obtain ⟨s1, s2⟩ := h.each s (List.mem_cons_of_mem _ hs)
      exact ⟨s1, by rw [List.getElem?_set_ne (fun e => hoth s hs e.symm)]; exact s2⟩
    · by_cases hi : r.list = i
      · subst hi
        rw [List.getElem?_set_self hlt] at hm
        exact absurd (Option.some.inj hm).symm (by rw [hz]; exact hne')
      · rw [List.getElem?_set_ne hi] at hm
        obtain ⟨s, hs, rfl⟩ := h.all i m hm hne'
        rcases List.mem_cons.1 hs with rfl | hs
        · exact absurd rfl hi
        · exact ⟨s, hs, rfl⟩
    · rw [popL_length]
      exact popL_heap zeroM _ ho h1
  · have e2 : r.rest.tail.length > 0 := by rw [e]; exact List.length_pos_iff.2 hz
    simp only [if_pos e2]
    refine ⟨Rep.perm ⟨fun s hs => ?_, fun i m hm hne' => ?_, ?_⟩ (downL_perm zeroM (aheadM rk z) _ _ _ _ (Nat.le_refl _)), ?_⟩
    · rcases List.mem_cons.1 hs with rfl | hs
      · refine ⟨by show r.rest.tail ≠ []; rw [e]; exact hz, ?_⟩
        show (L.set r.list l)[r.list]? = some r.rest.tail
        rw [List.getElem?_set_self hlt, e]
        rfl
      · obtain ⟨s1, s2⟩ := h.each s (List.mem_cons_of_mem _ hs)
        exact ⟨s1, by rw [List.getElem?_set_ne (fun e => hoth s hs e.symm)]; exact s2⟩
    · by_cases hi : r.list = i
      · exact ⟨tailM k r, List.mem_cons_self .., hi⟩
      · rw [List.getElem?_set_ne hi] at hm
        obtain ⟨s, hs, rfl⟩ := h.all i m hm hne'
        rcases List.mem_cons.1 hs with rfl | hs
        · exact absurd rfl hi
        · exact ⟨s, List.mem_cons_of_mem _ hs, rfl⟩
    · exact h.nodup
    · unfold fixL
      rw [downL_length]
      exact fixL_heap zeroM _ ho h1
theorem rep_cons {rs : List (RunM E)} {L : List (List E)} (h : Rep rs L) {n : Nat} (hn : n + 1 ≤ L.flatten.length) : ∃ r rs', rs = r :: rs' := by
  cases rs with
  | cons r rs => exact ⟨r, rs, rfl⟩
  | nil =>
    have : L.flatten = [] := by
      rw [List.flatten_eq_nil_iff]
      intro l hl
      by_cases h0 : l = []
      · exact h0
      · obtain ⟨i, hi, e⟩ := List.mem_iff_getElem.1 hl
        obtain ⟨r, hr, _⟩ := h.all i l (by rw [List.getElem?_eq_getElem hi, e]) h0
        exact absurd hr List.not_mem_nil
    rw [this] at hn
    simp at hn
/-- All that is taken: each as often as it was. -/
theorem firstM_perm (k : Nat) : ∀ (n : Nat) (rs : List (RunM E)) (L : List (List E)), Rep rs L → HeapFrom zeroM (aheadM rk z) rs rs.length 0 → n = L.flatten.length → (firstM rk z k n rs).Perm L.flatten
  | 0, rs, L, _, _, hn => by
    have : L.flatten = [] := List.length_eq_zero_iff.1 hn.symm
    rw [this]
    exact .refl _
  | n + 1, rs, L, h, hh, hn => by
    obtain ⟨r, rs, rfl⟩ := rep_cons h (n := n) (by omega)
    obtain ⟨x, l, e, h1, h2⟩ := rep_step rk z k h hh
    obtain ⟨_, hl⟩ := h.each r (List.mem_cons_self ..)
    obtain ⟨f1, f2⟩ := flatten_at hl l
    rw [e] at f1
    rw [firstM, show headM z ((r :: rs).getD 0 zeroM) = x by show r.rest.getD 0 z = x; rw [e]; rfl, f1]
    have := firstM_perm k n _ _ h1 h2 (by rw [f1] at hn; rw [f2]; simp at hn ⊢; omega)
    rw [f2] at this
    refine (this.cons x).trans ?_
    rw [List.cons_append]
    exact List.perm_middle.symm
/-- The heads of rows that stand in order: all of them in order. -/
theorem firstM_sorts (k : Nat) : ∀ (n : Nat) (rs : List (RunM E)) (L : List (List E)), Rep rs L → HeapFrom zeroM (aheadM rk z) rs rs.length 0 → (∀ l ∈ L, Srt rk l) → n ≤ L.flatten.length → firstM rk z k n rs = (isort rk L.flatten).take n
  | 0, rs, L, _, _, _, hn => by simp [firstM]
  | n + 1, rs, L, h, hh, hs, hn => by
    obtain ⟨r, rs, rfl⟩ := rep_cons h (n := n) (by omega)
    obtain ⟨x, l, e, h1, h2⟩ := rep_step rk z k h hh
    obtain ⟨_, hl⟩ := h.each r (List.mem_cons_self ..)
    obtain ⟨f1, f2⟩ := flatten_at hl l
    have hx : headM z r = x := by show r.rest.getD 0 z = x; rw [e]; rfl
    have hlS : Srt rk (x :: l) := by rw [← e]; exact hs _ (List.mem_of_getElem? hl)
    have hl2 := List.pairwise_cons.1 hlS
    -- each other row's elements
    have hoth : ∀ i m, L[i]? = some m → i ≠ r.list → ∀ y ∈ m, rk x < rk y ∨ rk x = rk y ∧ r.list < i := by
      intro i m hm hi y hy
      have hne : m ≠ [] := fun e => by rw [e] at hy; exact absurd hy List.not_mem_nil
      obtain ⟨s, hsm, rfl⟩ := h.all i m hm hne
      obtain ⟨_, s2⟩ := h.each s hsm
      rw [hm] at s2
      obtain rfl := Option.some.inj s2
      obtain ⟨j, hj, ej⟩ := List.mem_iff_getElem.1 hsm
      have hlow := heap_least zeroM _ (aheadM_order rk z) hh j hj
      rw [List.getD_eq_getElem?_getD, List.getElem?_eq_getElem hj, ej] at hlow
      simp only [Option.getD_some, show (r :: rs).getD 0 zeroM = r from rfl, aheadM, hx, decide_eq_false_iff_not] at hlow
      have hyS : rk (headM z s) ≤ rk y := by
        have hms := hs _ (List.mem_of_getElem? hm)
        unfold headM
        cases hr : s.rest with
        | nil => exact absurd hr hne
        | cons u v =>
          rw [hr] at hy hms
          rcases List.mem_cons.1 hy with rfl | hy
          · exact Int.le_refl _
          · exact (List.pairwise_cons.1 hms).1 y hy
      omega
    have hmem : ∀ i m, L[i]? = some m → m ∈ L := fun i m hm => List.mem_of_getElem? hm
    rw [firstM, show headM z ((r :: rs).getD 0 zeroM) = x from hx]
    have ih := firstM_sorts k n _ _ h1 h2 (fun m hm => by
      rcases List.mem_or_eq_of_mem_set hm with hm | rfl
      · exact hs m hm
      · exact hl2.2) (by rw [f1, e] at hn; rw [f2]; simp at hn ⊢; omega)
    rw [ih, f2, f1, e, List.cons_append, isort_first rk (a := (L.take r.list).flatten) (b := l ++ (L.drop (r.list + 1)).flatten) (x := x) ?_ ?_]
    · rfl
    · intro y hy
      obtain ⟨m, hm, hy⟩ := List.mem_flatten.1 hy
      obtain ⟨i, hi, em⟩ := List.mem_iff_getElem.1 hm
      have hi2 : i < r.list := by simp at hi; omega
      rw [List.getElem_take] at em
      have hL : i < L.length := by simp at hi; omega
      rcases hoth i m (by rw [List.getElem?_eq_getElem hL, em]) (by omega) y hy with h3 | h3 <;> omega
    · intro y hy
      rcases List.mem_append.1 hy with hy | hy
      · exact hl2.1 y hy
      · obtain ⟨m, hm, hy⟩ := List.mem_flatten.1 hy
        obtain ⟨i, hi, em⟩ := List.mem_iff_getElem.1 hm
        rw [List.getElem_drop] at em
        have hL : r.list + 1 + i < L.length := by simp at hi; omega
        rcases hoth (r.list + 1 + i) m (by rw [List.getElem?_eq_getElem hL, em]) (by omega) y hy with h3 | h3 <;> omega
end

end Go.Proofs.Ytcemdiloiachlaa

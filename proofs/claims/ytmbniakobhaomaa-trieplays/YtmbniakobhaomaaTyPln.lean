/-
  TriePlays: the plain row of strings with numbers that a trie is held against.
-/
import Derived.Test.YtmbniakobhaomaaTbGop
namespace Go.Proofs.Ytmbniakobhaomaa
set_option linter.unusedVariables false
set_option maxRecDepth 100000

def pS (p : ByteArray × Int) : SI := (p.1.data.toList, p.2)
def ltP (a b : ByteArray × Int) : Prop := ltSI (pS a) (pS b)
theorem pS_inj {a b : ByteArray × Int} (h : pS a = pS b) : a = b := by
  obtain ⟨h1, h2⟩ := Prod.mk.inj h
  exact Prod.ext (ByteArray.ext (Array.toList_inj.1 h1)) h2
theorem ltS_total : ∀ (s t : List UInt8), s < t ∨ s = t ∨ t < s
  | [], [] => .inr (.inl rfl)
  | [], b :: t => .inl (List.nil_lt_cons _ _)
  | a :: s, [] => .inr (.inr (List.nil_lt_cons _ _))
  | a :: s, b :: t => by
    rcases UInt8.lt_or_lt_of_ne (a := a) (b := b) |> fun h => (Classical.em (a = b)).imp id h with h | h | h
    · subst h
      rcases ltS_total s t with h | h | h
      · exact .inl (List.cons_lt_cons_iff.2 (.inr ⟨rfl, h⟩))
      · exact .inr (.inl (by rw [h]))
      · exact .inr (.inr (List.cons_lt_cons_iff.2 (.inr ⟨rfl, h⟩)))
    · exact .inl (List.cons_lt_cons_iff.2 (.inl h))
    · exact .inr (.inr (List.cons_lt_cons_iff.2 (.inl h)))
theorem ltS_trans : ∀ {s t u : List UInt8}, s < t → t < u → s < u
  | _, _, [], _, h => absurd h (List.not_lt_nil _)
  | _, [], _ :: _, h, _ => absurd h (List.not_lt_nil _)
  | [], _ :: _, _ :: _, _, _ => List.nil_lt_cons _ _
  | a :: s, b :: t, c :: u, h, h' => by
    rcases List.cons_lt_cons_iff.1 h with h1 | ⟨e1, h1⟩ <;> rcases List.cons_lt_cons_iff.1 h' with h2 | ⟨e2, h2⟩
    · exact List.cons_lt_cons_iff.2 (.inl (UInt8.lt_trans h1 h2))
    · exact List.cons_lt_cons_iff.2 (.inl (by rw [← e2]; exact h1))
    · exact List.cons_lt_cons_iff.2 (.inl (by rw [e1]; exact h2))
    · exact List.cons_lt_cons_iff.2 (.inr ⟨e1.trans e2, ltS_trans h1 h2⟩)
theorem ltSI_trans {a b c : SI} (h : ltSI a b) (h' : ltSI b c) : ltSI a c := by
  rcases h with h | ⟨e, h⟩ <;> rcases h' with h' | ⟨e', h'⟩
  · exact .inl (ltS_trans h h')
  · exact .inl (by rw [← e']; exact h)
  · exact .inl (by rw [e]; exact h')
  · exact .inr ⟨e.trans e', by omega⟩
theorem ltP_total (a b : ByteArray × Int) : ltP a b ∨ a = b ∨ ltP b a := by
  rcases ltS_total a.1.data.toList b.1.data.toList with h | h | h
  · exact .inl (.inl h)
  · rcases Int.lt_trichotomy a.2 b.2 with h' | h' | h'
    · exact .inl (.inr ⟨h, h'⟩)
    · exact .inr (.inl (pS_inj (Prod.ext h h')))
    · exact .inr (.inr (.inr ⟨h.symm, h'⟩))
  · exact .inr (.inr (.inl h))
/-- In order, by string, then number. -/
def SrtP (z : SZ) : Prop := z.Pairwise ltP
theorem SrtP.gE_rise {z : SZ} (h : SrtP z) (s : List UInt8) : Rise (gE z s) := by
  unfold gE Rise
  rw [List.pairwise_map]
  have h1 : (z.filter (fun p => decide (p.1.data.toList = s))).Pairwise ltP := h.filter _
  refine h1.imp_of_mem (fun {a b} ha hb hab => ?_)
  have ea : a.1.data.toList = s := by simpa using (List.mem_filter.1 ha).2
  have eb : b.1.data.toList = s := by simpa using (List.mem_filter.1 hb).2
  rcases hab with h | ⟨_, h⟩
  · have h' : a.1.data.toList < b.1.data.toList := h
    rw [ea, eb] at h'
    exact absurd h' (ltS_irrefl _)
  · exact h
/-- Where x would stand. -/
structure Spot (z : SZ) (x : ByteArray × Int) (at_ : Nat) : Prop where
  le : at_ ≤ z.length
  lt : ∀ j (h : j < z.length), j < at_ → ltP z[j] x
  stop : ∀ h : at_ < z.length, ¬ ltP z[at_] x
theorem ltP_irrefl (a : ByteArray × Int) : ¬ ltP a a := ltSI_irrefl _
theorem Spot.rest {z : SZ} {x : ByteArray × Int} {k : Nat} (h : Spot z x k) (hs : SrtP z) : ∀ j (hj : j < z.length), k ≤ j → (j = k ∧ z[j] = x) ∨ ltP x z[j] := by
  intro j hj hkj
  have hk : k < z.length := by omega
  have h0 := h.stop hk
  rcases Nat.lt_or_ge k j with h1 | h1
  · have h2 := List.pairwise_iff_getElem.1 hs k j hk hj h1
    right
    rcases ltP_total z[k] x with h3 | h3 | h3
    · exact absurd h3 h0
    · rw [← h3]; exact h2
    · exact ltSI_trans h3 h2
  · obtain rfl : k = j := by omega
    rcases ltP_total z[k] x with h3 | h3 | h3
    · exact absurd h3 h0
    · exact .inl ⟨rfl, h3⟩
    · exact .inr h3
/-- It is there just where it would stand. -/
theorem Spot.mem {z : SZ} {x : ByteArray × Int} {k : Nat} (h : Spot z x k) (hs : SrtP z) : x ∈ z ↔ ∃ hk : k < z.length, z[k] = x := by
  constructor
  · intro hx
    obtain ⟨j, hj, e⟩ := List.mem_iff_getElem.1 hx
    rcases Nat.lt_or_ge j k with h1 | h1
    · have := h.lt j hj h1
      rw [e] at this
      exact absurd this (ltP_irrefl x)
    · rcases h.rest hs j hj h1 with ⟨rfl, h2⟩ | h2
      · exact ⟨hj, h2⟩
      · rw [e] at h2
        exact absurd h2 (ltP_irrefl x)
  · rintro ⟨hk, e⟩
    rw [← e]
    exact List.getElem_mem hk
theorem gE_memp {z : SZ} {x : ByteArray × Int} : x.2 ∈ gE z x.1.data.toList ↔ x ∈ z := by
  rw [gE_iff]
  constructor
  · rintro ⟨p, hp, h1, h2⟩
    rw [← pS_inj (a := p) (b := x) (Prod.ext h1 h2)]
    exact hp
  · exact fun h => ⟨x, h, rfl, rfl⟩
theorem take_mem_lt {z : SZ} {x : ByteArray × Int} {k : Nat} (h : Spot z x k) : ∀ y ∈ z.take k, ltP y x := by
  intro y hy
  obtain ⟨j, hj, e⟩ := List.mem_iff_getElem.1 hy
  rw [List.length_take] at hj
  rw [List.getElem_take] at e
  rw [← e]
  exact h.lt j (by omega) (by omega)
theorem drop_mem_lt {z : SZ} {x : ByteArray × Int} {k : Nat} (h : Spot z x k) (hs : SrtP z) (m : Nat) (hm : k ≤ m) (hx : x ∉ z ∨ k < m) : ∀ y ∈ z.drop m, ltP x y := by
  intro y hy
  obtain ⟨j, hj, e⟩ := List.mem_iff_getElem.1 hy
  rw [List.length_drop] at hj
  rw [List.getElem_drop] at e
  rw [← e]
  rcases h.rest hs (m + j) (by omega) (by omega) with ⟨h1, h2⟩ | h2
  · rcases hx with hx | hx
    · exact absurd (by rw [← h2]; exact List.getElem_mem _) hx
    · omega
  · exact h2
def insZ (z : SZ) (k : Nat) (x : ByteArray × Int) : SZ := z.take k ++ [x] ++ z.drop k
def delZ (z : SZ) (k : Nat) : SZ := z.take k ++ z.drop (k + 1)
theorem Spot.ins {z : SZ} {x : ByteArray × Int} {k : Nat} (h : Spot z x k) (hs : SrtP z) (hx : x ∉ z) : SrtP (insZ z k x) ∧ gE (insZ z k x) = updE (gE z) x.1.data.toList (insF (gE z x.1.data.toList) x.2) ∧ (insZ z k x).length = z.length + 1 := by
  have hsrt : SrtP (insZ z k x) := by
    unfold SrtP insZ
    rw [List.append_assoc, List.pairwise_append]
    refine ⟨hs.sublist (List.take_sublist ..), ?_, ?_⟩
    · rw [List.singleton_append, List.pairwise_cons]
      exact ⟨drop_mem_lt h hs k (Nat.le_refl _) (.inl hx), hs.sublist (List.drop_sublist ..)⟩
    · intro a ha b hb
      have h1 := take_mem_lt h a ha
      rcases List.mem_append.1 hb with hb | hb
      · rw [List.mem_singleton.1 hb]; exact h1
      · exact ltSI_trans h1 (drop_mem_lt h hs k (Nat.le_refl _) (.inl hx) b hb)
  have hmem : ∀ p, p ∈ insZ z k x ↔ p = x ∨ p ∈ z := fun p => by
    unfold insZ
    conv => rhs; rw [← List.take_append_drop k z]
    simp only [List.mem_append, List.mem_singleton]
    constructor
    · rintro ((h | h) | h)
      · exact .inr (.inl h)
      · exact .inl h
      · exact .inr (.inr h)
    · rintro (h | h | h)
      · exact .inl (.inr h)
      · exact .inl (.inl h)
      · exact .inr h
  refine ⟨hsrt, ?_, by unfold insZ; have := h.le; simp; omega⟩
  funext s
  unfold updE
  by_cases e : s = x.1.data.toList
  · subst e
    rw [if_pos rfl]
    refine rise_unique (hsrt.gE_rise _) (insF_rise (hs.gE_rise _)) (fun y => ?_)
    rw [insF_mem]
    have e1 := gE_memp (z := insZ z k x) (x := (x.1, y))
    have e2 := gE_memp (z := z) (x := (x.1, y))
    simp only at e1 e2
    rw [e1, e2, hmem]
    constructor
    · rintro (h | h)
      · exact .inl (by rw [← h])
      · by_cases hy : y = x.2
        · exact .inl hy
        · exact .inr ⟨h, hy⟩
    · rintro (h | ⟨h, _⟩)
      · exact .inl (by rw [h])
      · exact .inr h
  · rw [if_neg e]
    refine rise_unique (hsrt.gE_rise _) (hs.gE_rise _) (fun y => ?_)
    rw [gE_iff, gE_iff]
    constructor
    · rintro ⟨p, hp, h1, h2⟩
      rcases (hmem p).1 hp with h3 | h3
      · rw [h3] at h1; exact absurd h1.symm e
      · exact ⟨p, h3, h1, h2⟩
    · rintro ⟨p, hp, h1, h2⟩
      exact ⟨p, (hmem p).2 (.inr hp), h1, h2⟩
theorem Spot.del {z : SZ} {x : ByteArray × Int} {k : Nat} (h : Spot z x k) (hs : SrtP z) (hx : x ∈ z) : SrtP (delZ z k) ∧ gE (delZ z k) = updE (gE z) x.1.data.toList (eraF (gE z x.1.data.toList) x.2) ∧ (delZ z k).length + 1 = z.length := by
  obtain ⟨hk, e⟩ := (h.mem hs).1 hx
  have hz : z = z.take k ++ x :: z.drop (k + 1) := by
    conv => lhs; rw [← List.take_append_drop k z, List.drop_eq_getElem_cons hk, e]
  have hmem : ∀ p, p ∈ delZ z k ↔ p ∈ z ∧ p ≠ x := fun p => by
    unfold delZ
    constructor
    · intro hp
      rcases List.mem_append.1 hp with hp | hp
      · exact ⟨List.mem_of_mem_take hp, fun e => ltP_irrefl x (by have := take_mem_lt h p hp; rw [e] at this; exact this)⟩
      · exact ⟨List.mem_of_mem_drop hp, fun e => ltP_irrefl x (by have := drop_mem_lt h hs (k + 1) (by omega) (.inr (by omega)) p hp; rw [e] at this; exact this)⟩
    · rintro ⟨hp, hne⟩
      rw [hz] at hp
      rcases List.mem_append.1 hp with hp | hp
      · exact List.mem_append_left _ hp
      · rcases List.mem_cons.1 hp with hp | hp
        · exact absurd hp hne
        · exact List.mem_append_right _ hp
  have hsrt : SrtP (delZ z k) := by
    have h1 : SrtP (z.take k ++ x :: z.drop (k + 1)) := by rw [← hz]; exact hs
    unfold SrtP at h1 ⊢
    unfold delZ
    rw [List.pairwise_append, List.pairwise_cons] at h1
    rw [List.pairwise_append]
    exact ⟨h1.1, h1.2.1.2, fun a ha b hb => h1.2.2 a ha b (List.mem_cons_of_mem _ hb)⟩
  refine ⟨hsrt, ?_, by unfold delZ; have := h.le; simp; omega⟩
  funext s
  unfold updE
  by_cases e' : s = x.1.data.toList
  · subst e'
    rw [if_pos rfl]
    refine rise_unique (hsrt.gE_rise _) (eraF_rise (hs.gE_rise _)) (fun y => ?_)
    rw [eraF_mem]
    have e1 := gE_memp (z := delZ z k) (x := (x.1, y))
    have e2 := gE_memp (z := z) (x := (x.1, y))
    simp only at e1 e2
    rw [e1, e2, hmem]
    constructor
    · rintro ⟨h1, h2⟩
      exact ⟨h1, fun h3 => h2 (by rw [h3])⟩
    · rintro ⟨h1, h2⟩
      exact ⟨h1, fun h3 => h2 (by rw [← h3])⟩
  · rw [if_neg e']
    refine rise_unique (hsrt.gE_rise _) (hs.gE_rise _) (fun y => ?_)
    rw [gE_iff, gE_iff]
    constructor
    · rintro ⟨p, hp, h1, h2⟩
      exact ⟨p, ((hmem p).1 hp).1, h1, h2⟩
    · rintro ⟨p, hp, h1, h2⟩
      exact ⟨p, (hmem p).2 ⟨hp, fun h3 => by rw [h3] at h1; exact e' h1.symm⟩, h1, h2⟩
/-- What begins with s, of a row. -/
def preZ (z : SZ) (s : List UInt8) : SZ := z.filter (fun p => s.isPrefixOf p.1.data.toList)
theorem SrtP.ents {z : SZ} (h : SrtP z) {s : List UInt8} {L : List SI} (hE : EntsP (gE z) s L) : L = (preZ z s).map pS := by
  refine srt_same hE.ord ?_ (fun x => ?_)
  · rw [List.pairwise_map]
    exact h.filter _
  · have h1 := hE.mem x.1 x.2
    rw [show (x.1, x.2) = x from rfl] at h1
    rw [h1, gE_iff, List.mem_map]
    unfold preZ
    constructor
    · rintro ⟨h1, p, hp, h2, h3⟩
      exact ⟨p, List.mem_filter.2 ⟨hp, by rw [h2]; exact List.isPrefixOf_iff_prefix.2 h1⟩, Prod.ext h2 h3⟩
    · rintro ⟨p, hp, h2⟩
      obtain ⟨h3, h4⟩ := List.mem_filter.1 hp
      rw [← h2]
      exact ⟨List.isPrefixOf_iff_prefix.1 h4, p, h3, rfl, rfl⟩
theorem preZ_nil (z : SZ) : preZ z [] = z := by
  unfold preZ
  exact List.filter_eq_self.2 (fun p _ => by simp)
/-- Strings at the heads of runs. -/
def headsZ (z : SZ) : Nat → List (List UInt8)
  | 0 => []
  | k + 1 => match z[k]? with
    | none => headsZ z k
    | some p => if k = 0 then [p.1.data.toList] else if (z[k - 1]?).map (·.1) = some p.1 then headsZ z k else headsZ z k ++ [p.1.data.toList]
theorem headsZ_mem (z : SZ) : ∀ k, k ≤ z.length → ∀ j (h : j < z.length), j < k → z[j].1.data.toList ∈ headsZ z k
  | 0, _, j, _, h => absurd h (Nat.not_lt_zero _)
  | k + 1, hk, j, hj, hjk => by
    have hkz : k < z.length := by omega
    have ih := headsZ_mem z k (by omega)
    unfold headsZ
    rw [List.getElem?_eq_getElem hkz]
    simp only
    split
    · rename_i h0
      obtain rfl : j = k := by omega
      simp
    · rename_i h0
      split
      · rename_i h1
        by_cases e : j = k
        · subst e
          rw [List.getElem?_eq_getElem (show j - 1 < z.length by omega)] at h1
          simp only [Option.map_some, Option.some.injEq] at h1
          rw [← h1]
          exact ih (j - 1) (by omega) (by omega)
        · exact ih j hj (by omega)
      · rw [List.mem_append]
        by_cases e : j = k
        · subst e; right; simp
        · exact .inl (ih j hj (by omega))
theorem few_heads {z : SZ} {nd : Nat} (h : FewAs (gE z) nd) : nd ≤ 2 * (headsZ z z.length).length + 1 := by
  obtain ⟨ss, h1, h2, h3⟩ := h
  have := nodup_le h1 (A := headsZ z z.length) (fun s hs => by
    obtain ⟨i, hi⟩ := List.exists_mem_of_ne_nil _ (h2 s hs)
    obtain ⟨p, hp, h4, _⟩ := gE_iff.1 hi
    obtain ⟨j, hj, e⟩ := List.mem_iff_getElem.1 hp
    rw [← h4, ← e]
    exact headsZ_mem z _ (Nat.le_refl _) j hj hj)
  omega
/-- The longest so far. -/
def longZ (s : ByteArray) (z : SZ) : ByteArray × Bool :=
  z.foldl (fun a p => if p.1.data.toList.isPrefixOf s.data.toList && (!a.2 || decide (a.1.size < p.1.size)) then (p.1, true) else a) (⟨#[]⟩, false)
def LongAs (s : ByteArray) (z : SZ) (a : ByteArray × Bool) : Prop :=
  (a.2 = true ∧ a.1.data.toList <+: s.data.toList ∧ (∃ p ∈ z, p.1 = a.1) ∧ ∀ p ∈ z, p.1.data.toList <+: s.data.toList → p.1.size ≤ a.1.size) ∨ (a.2 = false ∧ a.1 = ⟨#[]⟩ ∧ ∀ p ∈ z, ¬ p.1.data.toList <+: s.data.toList)
theorem longZ_snoc (s : ByteArray) (z : SZ) (p : ByteArray × Int) : longZ s (z ++ [p]) = if p.1.data.toList.isPrefixOf s.data.toList && (!(longZ s z).2 || decide ((longZ s z).1.size < p.1.size)) then (p.1, true) else longZ s z := by
  unfold longZ
  rw [List.foldl_append]
  rfl
theorem longZ_as (s : ByteArray) (z : SZ) : LongAs s z (longZ s z) := by
  suffices h : ∀ k, k ≤ z.length → LongAs s (z.take k) (longZ s (z.take k)) by
    have := h z.length (Nat.le_refl _)
    rwa [List.take_length] at this
  intro k
  induction k with
  | zero => exact fun _ => .inr ⟨rfl, rfl, fun p hp => by simp at hp⟩
  | succ k ih0 =>
    intro hk
    have ih := ih0 (by omega)
    have e0 : z.take (k + 1) = z.take k ++ [z[k]'(by omega)] := by rw [List.take_add_one, List.getElem?_eq_getElem (by omega)]; rfl
    rw [e0]
    generalize z[k]'(by omega) = p
    generalize z.take k = z at ih ⊢
    rw [longZ_snoc]
    by_cases h1 : p.1.data.toList <+: s.data.toList
    · have h1' : p.1.data.toList.isPrefixOf s.data.toList = true := List.isPrefixOf_iff_prefix.2 h1
      rw [h1', Bool.true_and]
      rcases ih with ⟨a1, a2, ⟨q, hq, a3⟩, a4⟩ | ⟨a1, a2, a3⟩
      · rw [a1]
        by_cases h2 : (longZ s z).1.size < p.1.size
        · rw [decide_eq_true h2, Bool.or_true, if_pos rfl]
          refine .inl ⟨rfl, h1, ⟨p, by simp, rfl⟩, fun r hr hp => ?_⟩
          rcases List.mem_append.1 hr with hr | hr
          · have := a4 r hr hp; show r.1.size ≤ p.1.size; omega
          · rw [List.mem_singleton.1 hr]; exact Nat.le_refl _
        · rw [decide_eq_false h2]
          simp only [Bool.not_true, Bool.or_self, Bool.false_eq_true, if_false]
          refine .inl ⟨a1, a2, ⟨q, List.mem_append_left _ hq, a3⟩, fun r hr hp => ?_⟩
          rcases List.mem_append.1 hr with hr | hr
          · exact a4 r hr hp
          · rw [List.mem_singleton.1 hr]; omega
      · rw [a1]
        simp only [Bool.not_false, Bool.true_or, if_true]
        refine .inl ⟨rfl, h1, ⟨p, by simp, rfl⟩, fun r hr hp => ?_⟩
        rcases List.mem_append.1 hr with hr | hr
        · exact absurd hp (a3 r hr)
        · rw [List.mem_singleton.1 hr]; exact Nat.le_refl _
    · have h1' : p.1.data.toList.isPrefixOf s.data.toList = false := by
        rw [Bool.eq_false_iff]; exact fun e => h1 (List.isPrefixOf_iff_prefix.1 e)
      rw [h1', Bool.false_and]
      simp only [Bool.false_eq_true, if_false]
      rcases ih with ⟨a1, a2, ⟨q, hq, a3⟩, a4⟩ | ⟨a1, a2, a3⟩
      · refine .inl ⟨a1, a2, ⟨q, List.mem_append_left _ hq, a3⟩, fun r hr hp => ?_⟩
        rcases List.mem_append.1 hr with hr | hr
        · exact a4 r hr hp
        · rw [List.mem_singleton.1 hr] at hp; exact absurd hp h1
      · refine .inr ⟨a1, a2, fun r hr hp => ?_⟩
        rcases List.mem_append.1 hr with hr | hr
        · exact a3 r hr hp
        · rw [List.mem_singleton.1 hr] at hp; exact absurd hp h1
theorem long_same {s : ByteArray} {z : SZ} {t : ByteArray} {f : Bool} (h : LongIs (gE z) s.data.toList t.data.toList f) : (t, f) = longZ s z := by
  have h2 := longZ_as s z
  have ne : ∀ u : List UInt8, gE z u ≠ [] ↔ ∃ p ∈ z, p.1.data.toList = u := fun u => by
    constructor
    · intro hu
      obtain ⟨i, hi⟩ := List.exists_mem_of_ne_nil _ hu
      obtain ⟨p, hp, h4, _⟩ := gE_iff.1 hi
      exact ⟨p, hp, h4⟩
    · rintro ⟨p, hp, h4⟩ e
      have : p.2 ∈ gE z u := gE_iff.2 ⟨p, hp, h4, rfl⟩
      rw [e] at this
      cases this
  rcases h with ⟨rfl, h3, h4, h5⟩ | ⟨rfl, h3, h4⟩
  · obtain ⟨p, hp, e⟩ := (ne _).1 h4
    rcases h2 with ⟨a1, a2, ⟨q, hq, a3⟩, a4⟩ | ⟨a1, a2, a3⟩
    · have l1 := h5 _ a2 ((ne _).2 ⟨q, hq, by rw [a3]⟩)
      have l2 := a4 p hp (by rw [e]; exact h3)
      have l3 : p.1 = t := ByteArray.ext (Array.toList_inj.1 e)
      rw [l3] at l2
      have l4 : t.data.toList.length = (longZ s z).1.data.toList.length := by
        have e1 : t.data.toList.length = t.size := Array.length_toList
        have e2 : (longZ s z).1.data.toList.length = (longZ s z).1.size := Array.length_toList
        omega
      have l5 : t.data.toList = (longZ s z).1.data.toList := by
        rw [List.prefix_iff_eq_take.1 h3, List.prefix_iff_eq_take.1 a2, l4]
      exact Prod.ext (ByteArray.ext (Array.toList_inj.1 l5)) a1.symm
    · exact absurd (by rw [e]; exact h3) (a3 p hp)
  · rcases h2 with ⟨a1, a2, ⟨q, hq, a3⟩, a4⟩ | ⟨a1, a2, a3⟩
    · exact absurd (h4 _ a2) ((ne _).2 ⟨q, hq, by rw [a3]⟩)
    · refine Prod.ext ?_ a1.symm
      show t = (longZ s z).1
      rw [a2]
      exact ByteArray.ext (Array.toList_inj.1 h3)
/-- From one of a row on to the next. -/
theorem take_snoc {z : SZ} {k : Nat} (hk : k < z.length) : z.take (k + 1) = z.take k ++ [z[k]] := by rw [List.take_add_one, List.getElem?_eq_getElem hk]; rfl
theorem gE_snocZ (z : SZ) (p : ByteArray × Int) (s : List UInt8) : gE (z ++ [p]) s = if p.1.data.toList = s then gE z s ++ [p.2] else gE z s := by
  rw [gE_app]
  split
  · rename_i h; simp [gE, h]
  · rename_i h; simp [gE, h]
theorem preZ_snoc (z : SZ) (p : ByteArray × Int) (s : List UInt8) : preZ (z ++ [p]) s = if s <+: p.1.data.toList then preZ z s ++ [p] else preZ z s := by
  unfold preZ
  rw [List.filter_append]
  split
  · rename_i h
    have e : s.isPrefixOf p.1.data.toList = true := List.isPrefixOf_iff_prefix.2 h
    simp only [List.filter_cons, e, if_true, List.filter_nil]
  · rename_i h
    have e : s.isPrefixOf p.1.data.toList = false := Bool.eq_false_iff.2 (fun e => h (List.isPrefixOf_iff_prefix.1 e))
    simp only [List.filter_cons, e, Bool.false_eq_true, if_false, List.filter_nil, List.append_nil]
end Go.Proofs.Ytmbniakobhaomaa

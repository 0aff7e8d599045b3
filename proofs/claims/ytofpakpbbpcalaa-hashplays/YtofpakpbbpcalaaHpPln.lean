/-
  Entries in their order, told plainly: one put in, one taken out; what stands with each key.
-/
import Derived.Test.YtofpakpbbpcalaaHpFnd
import Derived.Test.YtofpakpbbpcalaaGrAll
import Derived.Test.YtofpakpbbpcalaaHaDel
namespace Go.Proofs.Ytofpakpbbpcalaa
open Go.RowKit
set_option linter.unusedVariables false

/-- By key, then number. -/
def ltE (e d : EN) : Prop := rowsV e.1 d.1 < 0 ∨ (e.1 = d.1 ∧ e.2 < d.2)
theorem ltE_asymm {e d : EN} (h : ltE e d) (k : ltE d e) : False := by
  obtain ⟨e1, e2⟩ := e
  obtain ⟨d1, d2⟩ := d
  simp only [ltE] at h k
  have t := rowsV_turn e1 d1
  rcases h with h | ⟨rfl, h⟩
  · rcases k with k | ⟨rfl, k⟩
    · omega
    · rw [rowsV_self] at h; omega
  · rcases k with k | ⟨_, k⟩
    · rw [rowsV_self] at k; omega
    · omega
theorem ltE_trans {e d c : EN} (he : GoodK e.1) (hd : GoodK d.1) (hc : GoodK c.1) (h : ltE e d) (k : ltE d c) : ltE e c := by
  obtain ⟨e1, e2⟩ := e
  obtain ⟨d1, d2⟩ := d
  obtain ⟨c1, c2⟩ := c
  simp only [ltE] at *
  rcases h with h | ⟨rfl, h⟩
  · rcases k with k | ⟨rfl, k⟩
    · refine .inl ?_
      have l1 := rowsV_le e1 d1 c1 (good_fits he) (good_fits hd) (good_fits hc) (by omega) (by omega)
      rcases Int.lt_or_eq_of_le l1 with q | q
      · exact q
      · have := rowsV_zero _ _ (good_fits he) (good_fits hc) q
        subst this
        have := rowsV_turn e1 d1
        omega
    · exact .inl h
  · rcases k with k | ⟨rfl, k⟩
    · exact .inl k
    · exact .inr ⟨rfl, by omega⟩
theorem ltE_total {e x : EN} (he : GoodK e.1) (hx : GoodK x.1) (h : ¬ ltE e x) (hn : e ≠ x) : ltE x e := by
  obtain ⟨e1, e2⟩ := e
  obtain ⟨x1, x2⟩ := x
  simp only [ltE] at *
  have t := rowsV_turn e1 x1
  by_cases h0 : rowsV e1 x1 = 0
  · have := rowsV_zero _ _ (good_fits he) (good_fits hx) h0
    subst this
    refine .inr ⟨rfl, ?_⟩
    have h1 : ¬ e2 < x2 := fun q => h (.inr ⟨rfl, q⟩)
    have h2 : e2 ≠ x2 := fun q => hn (by rw [q])
    omega
  · have h1 : ¬ rowsV e1 x1 < 0 := fun q => h (.inl q)
    exact .inl (by omega)
theorem ltE_unique : ∀ (l m : List EN), l.Pairwise ltE → m.Pairwise ltE → (∀ y, y ∈ l ↔ y ∈ m) → l = m
  | [], [], _, _, _ => rfl
  | [], y :: m, _, _, h => absurd ((h y).2 (by simp)) (by simp)
  | x :: l, [], _, _, h => absurd ((h x).1 (by simp)) (by simp)
  | x :: l, y :: m, hl, hm, h => by
    have hl' := List.pairwise_cons.1 hl
    have hm' := List.pairwise_cons.1 hm
    have hxy : x = y := by
      rcases List.mem_cons.1 ((h x).1 (by simp)) with e | e
      · exact e
      · rcases List.mem_cons.1 ((h y).2 (by simp)) with e' | e'
        · exact e'.symm
        · exact (ltE_asymm (hm'.1 x e) (hl'.1 y e')).elim
    subst hxy
    congr 1
    refine ltE_unique l m hl'.2 hm'.2 fun z => ?_
    have hz := h z
    constructor
    · intro k
      rcases List.mem_cons.1 (hz.1 (List.mem_cons_of_mem _ k)) with e | e
      · subst e; exact (ltE_asymm (hl'.1 z k) (hl'.1 z k)).elim
      · exact e
    · intro k
      rcases List.mem_cons.1 (hz.2 (List.mem_cons_of_mem _ k)) with e | e
      · subst e; exact (ltE_asymm (hm'.1 z k) (hm'.1 z k)).elim
      · exact e
/-- Entries in order, their keys good. -/
structure Ent (es : List EN) : Prop where
  ord : es.Pairwise ltE
  good : ∀ e ∈ es, GoodK e.1
theorem mem_idsF {es : List EN} {key : List VT} {i : Int} : i ∈ idsF es key ↔ (key, i) ∈ es := by
  unfold idsF
  rw [List.mem_map]
  constructor
  · rintro ⟨⟨a, b⟩, h, rfl⟩
    obtain ⟨h1, h2⟩ := List.mem_filter.1 h
    have : a = key := of_decide_eq_true h2
    subst this
    exact h1
  · intro h
    exact ⟨(key, i), List.mem_filter.2 ⟨h, decide_eq_true rfl⟩, rfl⟩
theorem idsF_rise {es : List EN} (h : Ent es) (key : List VT) : Rise (idsF es key) := by
  unfold idsF Rise
  rw [List.pairwise_map]
  refine List.Pairwise.imp_of_mem (fun {a b} ha hb hab => ?_) (h.ord.filter _)
  have h1 : a.1 = key := of_decide_eq_true (List.mem_filter.1 ha).2
  have h2 : b.1 = key := of_decide_eq_true (List.mem_filter.1 hb).2
  rcases hab with k | k
  · rw [h1, h2, rowsV_self] at k; omega
  · exact k.2
theorem ent_nil : Ent [] := ⟨List.Pairwise.nil, fun e h => absurd h (by simp)⟩
/-- The entries that All tells are these. -/
theorem entsOf_eq {es : List EN} (h : Ent es) {ms : List (List VT)} (hp : ms.Pairwise (fun a b => rowsV a b < 0)) (hm : ∀ m, m ∈ ms ↔ idsF es m ≠ []) : entsOf (idsF es) ms = es := by
  refine ltE_unique _ _ ?_ h.ord fun y => ?_
  · unfold entsOf
    rw [List.pairwise_flatMap]
    refine ⟨fun m _ => ?_, hp.imp (fun {a b} hab x hx y hy => ?_)⟩
    · rw [List.pairwise_map]
      exact (idsF_rise h m).imp (fun {a b} hab => .inr ⟨rfl, hab⟩)
    · obtain ⟨i, _, rfl⟩ := List.mem_map.1 hx
      obtain ⟨j, _, rfl⟩ := List.mem_map.1 hy
      exact .inl hab
  · unfold entsOf
    rw [List.mem_flatMap]
    constructor
    · rintro ⟨m, _, hy⟩
      obtain ⟨i, hi, rfl⟩ := List.mem_map.1 hy
      exact mem_idsF.1 hi
    · intro hy
      obtain ⟨m, i⟩ := y
      have := mem_idsF.2 hy
      exact ⟨m, (hm m).2 (List.ne_nil_of_mem this), List.mem_map.2 ⟨i, this, rfl⟩⟩
/-- One put in. -/
def insE (es : List EN) (k : Nat) (x : EN) : List EN := es.take k ++ x :: es.drop k
theorem mem_insE {es : List EN} {k : Nat} {x y : EN} : y ∈ insE es k x ↔ y = x ∨ y ∈ es := by
  unfold insE
  rw [List.mem_append, List.mem_cons]
  constructor
  · rintro (h | h | h)
    · exact .inr (List.mem_of_mem_take h)
    · exact .inl h
    · exact .inr (List.mem_of_mem_drop h)
  · rintro (h | h)
    · exact .inr (.inl h)
    · rw [← List.take_append_drop k es] at h
      rcases List.mem_append.1 h with h | h
      · exact .inl h
      · exact .inr (.inr h)
theorem insE_ent {es : List EN} (h : Ent es) {k : Nat} {x : EN} (hx : GoodK x.1) (hn : x ∉ es) (hlo : ∀ i e, i < k → es[i]? = some e → ltE e x) (hhi : k ≤ es.length) (hat : ∀ e, es[k]? = some e → ¬ ltE e x) : Ent (insE es k x) := by
  have hlo' : ∀ e ∈ es.take k, ltE e x := fun e he => by
    obtain ⟨i, hi, rfl⟩ := List.getElem_of_mem he
    have hi' : i < k ∧ i < es.length := by simp at hi; omega
    refine hlo i _ hi'.1 ?_
    rw [List.getElem_take]
    exact List.getElem?_eq_getElem hi'.2
  have hhi' : ∀ e ∈ es.drop k, ltE x e := fun e he => by
    obtain ⟨i, hi, rfl⟩ := List.getElem_of_mem he
    have hi' : k + i < es.length := by simp at hi; omega
    rw [List.getElem_drop]
    have hk : k < es.length := by omega
    have g1 := h.good _ (List.getElem_mem hk)
    have g2 := h.good _ (List.getElem_mem hi')
    have h1 : ltE x es[k] := ltE_total g1 hx (hat _ (List.getElem?_eq_getElem hk)) (fun e => hn (by rw [← e]; exact List.getElem_mem hk))
    by_cases h0 : i = 0
    · subst h0; exact h1
    · exact ltE_trans hx g1 g2 h1 (List.pairwise_iff_getElem.1 h.ord k (k + i) hk hi' (by omega))
  refine ⟨?_, fun e he => ?_⟩
  · unfold insE
    rw [List.pairwise_append]
    refine ⟨h.ord.sublist (List.take_sublist _ _), List.pairwise_cons.2 ⟨hhi', h.ord.sublist (List.drop_sublist _ _)⟩, fun a ha b hb => ?_⟩
    rcases List.mem_cons.1 hb with rfl | hb
    · exact hlo' a ha
    · have hp := h.ord
      rw [← List.take_append_drop k es] at hp
      exact (List.pairwise_append.1 hp).2.2 a ha b hb
  · rcases mem_insE.1 he with rfl | he
    · exact hx
    · exact h.good e he
theorem idsF_ins {es : List EN} (h : Ent es) {k : Nat} {key : List VT} {id : Int} (h2 : Ent (insE es k (key, id))) (hn : (key, id) ∉ es) : setT (idsF es) key (insF (idsF es key) id) = idsF (insE es k (key, id)) := by
  funext m
  by_cases hm : m = key
  · subst hm
    rw [setT_same]
    refine rise_unique (insF_rise (idsF_rise h m)) (idsF_rise h2 m) fun y => ?_
    rw [insF_mem, mem_idsF, mem_idsF, mem_insE]
    constructor
    · rintro (rfl | ⟨h1, _⟩)
      · exact .inl rfl
      · exact .inr h1
    · rintro (h1 | h1)
      · exact .inl (congrArg Prod.snd h1)
      · exact .inr ⟨h1, fun e => hn (by rw [← e]; exact h1)⟩
  · rw [setT_other _ _ hm]
    refine rise_unique (idsF_rise h m) (idsF_rise h2 m) fun y => ?_
    rw [mem_idsF, mem_idsF, mem_insE]
    exact ⟨.inr, fun q => q.elim (fun e => absurd (congrArg Prod.fst e) hm) (fun q => q)⟩
/-- One taken out. -/
def delE (es : List EN) (k : Nat) : List EN := es.take k ++ es.drop (k + 1)
theorem delE_sub (es : List EN) (k : Nat) : (delE es k).Sublist es := by
  unfold delE
  conv => rhs; rw [← List.take_append_drop k es]
  exact List.Sublist.append (List.Sublist.refl _) (by rw [show es.drop (k + 1) = (es.drop k).drop 1 by rw [List.drop_drop]]; exact List.drop_sublist _ _)
theorem delE_ent {es : List EN} (h : Ent es) (k : Nat) : Ent (delE es k) := ⟨h.ord.sublist (delE_sub es k), fun e he => h.good e ((delE_sub es k).subset he)⟩
theorem mem_delE {es : List EN} (h : Ent es) {k : Nat} {x : EN} (hx : es[k]? = some x) (y : EN) : y ∈ delE es k ↔ y ∈ es ∧ y ≠ x := by
  obtain ⟨hk, hxk⟩ := List.getElem?_eq_some_iff.1 hx
  have hsp : es = es.take k ++ x :: es.drop (k + 1) := by
    conv => lhs; rw [← List.take_append_drop k es]
    rw [← hxk, ← List.drop_eq_getElem_cons hk]
  have hp := h.ord
  rw [hsp, List.pairwise_append, List.pairwise_cons] at hp
  unfold delE
  constructor
  · intro hy
    refine ⟨(delE_sub es k).subset hy, fun e => ?_⟩
    subst e
    rcases List.mem_append.1 hy with q | q
    · have := hp.2.2 y q y (by simp)
      exact ltE_asymm this this
    · have := hp.2.1.1 y q
      exact ltE_asymm this this
  · rintro ⟨hy, hne⟩
    rw [hsp] at hy
    rw [List.mem_append]
    rcases List.mem_append.1 hy with q | q
    · exact .inl q
    · rcases List.mem_cons.1 q with q | q
      · exact absurd q hne
      · exact .inr q
theorem idsF_del {es : List EN} (h : Ent es) {k : Nat} {key : List VT} {id : Int} (hx : es[k]? = some (key, id)) : setT (idsF es) key (eraF (idsF es key) id) = idsF (delE es k) := by
  have h2 := delE_ent h k
  funext m
  by_cases hm : m = key
  · subst hm
    rw [setT_same]
    refine rise_unique (eraF_rise (idsF_rise h m)) (idsF_rise h2 m) fun y => ?_
    rw [eraF_mem, mem_idsF, mem_idsF, mem_delE h hx]
    constructor
    · rintro ⟨h1, h3⟩
      exact ⟨h1, fun e => h3 (congrArg Prod.snd e)⟩
    · rintro ⟨h1, h3⟩
      exact ⟨h1, fun e => h3 (by rw [e])⟩
  · rw [setT_other _ _ hm]
    refine rise_unique (idsF_rise h m) (idsF_rise h2 m) fun y => ?_
    rw [mem_idsF, mem_idsF, mem_delE h hx]
    exact ⟨fun q => ⟨q, fun e => hm (congrArg Prod.fst e)⟩, fun q => q.1⟩
theorem atN_spec (es : List EN) (key : List VT) (id : Int) : ∀ n, n ≤ es.length → (atN es key id n = -1 ∧ ∀ i, i < n → es[i]? ≠ some (key, id)) ∨ ∃ i : Nat, i < n ∧ atN es key id n = (i : Int) ∧ es[i]? = some (key, id)
  | 0, _ => .inl ⟨rfl, fun i h => absurd h (Nat.not_lt_zero i)⟩
  | n + 1, h => by
    by_cases hq : es[n]? = some (key, id)
    · exact .inr ⟨n, by omega, by rw [atN, if_pos hq], hq⟩
    · rcases atN_spec es key id n (by omega) with ⟨h1, h2⟩ | ⟨i, h1, h2, h3⟩
      · refine .inl ⟨by rw [atN, if_neg hq, h1], fun i hi => ?_⟩
        by_cases e : i = n
        · subst e; exact hq
        · exact h2 i (by omega)
      · exact .inr ⟨i, by omega, by rw [atN, if_neg hq, h2], h3⟩
theorem at_cases (es : List EN) (key : List VT) (id : Int) : (atN es key id es.length = -1 ∧ (key, id) ∉ es) ∨ ∃ i : Nat, i < es.length ∧ atN es key id es.length = (i : Int) ∧ es[i]? = some (key, id) := by
  rcases atN_spec es key id es.length (Nat.le_refl _) with ⟨h1, h2⟩ | h
  · refine .inl ⟨h1, fun hm => ?_⟩
    obtain ⟨i, hi, e⟩ := List.getElem_of_mem hm
    exact h2 i hi (by rw [List.getElem?_eq_getElem hi, e])
  · exact .inr h

end Go.Proofs.Ytofpakpbbpcalaa

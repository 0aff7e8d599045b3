/-
  TrieBytes: what came from All and Prefix, as the statement reads it.
-/
import Derived.Test.YtmbniakobhaomaaTbGop
import Derived.Test.YtmbniakobhaomaaTeKnw
namespace Go.Proofs.Ytmbniakobhaomaa
open Go.ChangeShapes Go.WideShapes Go.ChangeAt Go.RowKit
set_option linter.unusedVariables false
set_option maxRecDepth 100000

/-- Numbers of entries, where they lie. -/
structure NumsAt (w : World) (v : Value) (ids : List Int) : Prop where
  get : ∃ a c, v = .slice a ids.length c ∧ ∀ i (h : i < ids.length), ∃ g, a = some ⟨g, 0, none⟩ ∧ w.cell? ⟨g, i * 2 + 1, none⟩ = some (.int .i64 ids[i])
theorem NumsAt.up {w w' : World} {v : Value} {ids : List Int} (h : NumsAt w v ids) (hu : Up w w') : NumsAt w' v ids := by
  obtain ⟨a, c, e, h1⟩ := h.get
  exact ⟨a, c, e, fun i hi => by
    obtain ⟨g, h2, h3⟩ := h1 i hi
    exact ⟨g, h2, hu.cell h3⟩⟩
theorem OwnX.nums {w : World} {v : Value} {lx : List EX} (h : OwnX w 0 v lx) : NumsAt w v (lx.map (·.id)) := by
  have h0 := h
  rcases h.2 with ⟨rfl, hn⟩ | ⟨g, cap, cur, rfl, hb, hg, hc, hm, hs, ht⟩
  · have : lx = [] := List.length_eq_zero_iff.1 (by simpa using hn)
    subst this
    exact ⟨none, 0, rfl, fun i hi => absurd hi (by simp)⟩
  · refine ⟨some ⟨g, 0, none⟩, cap, by rw [List.length_map], fun i hi => ⟨g, rfl, ?_⟩⟩
    rw [List.length_map] at hi
    rw [World.ownsRow.cellAt h0 (i * 2 + 1) (by omega), flatG_get (cs := eX) (k := 2) (fun _ => rfl) ⟨0, ByteArray.empty, 0⟩ lx i 1 hi (by decide), List.getElem_map]
    simp [eX, List.getD_eq_getElem?_getD, List.getElem?_eq_getElem hi]
/-- What All hands back, as numbers: each stands for a string of the row, and they stand in order. -/
structure AllN (l : List ByteArray) (ids : List Int) : Prop where
  len : ids.length = l.length
  at' : ∀ i (h : i < ids.length), ∃ j : Nat, j < l.length ∧ ids[i] = ((j + 1 : Nat) : Int)
  ord : ∀ i j k, ∀ (h0 : i + 1 < ids.length) (hj : j < l.length) (hk : k < l.length), ids[i] = ((j + 1 : Nat) : Int) → ids[i + 1] = ((k + 1 : Nat) : Int) → l[j].data.toList < l[k].data.toList ∨ (l[j] = l[k] ∧ j < k)
theorem all_nums {l : List ByteArray} {w : World} {e : Ending} {w' : World} (h : PreOut w (gE (zB l l.length)) [] e w') : ∃ v ids, e = .returned v ∧ NumsAt w' v ids ∧ AllN l ids ∧ Up w w' := by
  obtain ⟨v, lx, he, hv, _, hE, _, _, hu⟩ := h
  obtain ⟨h1, h2⟩ := ents_row hE
  rw [List.length_map] at h1
  have hat : ∀ i (hi : i < lx.length), ∃ j, ∃ hj : j < l.length, lx[i].s.data.toList = l[j].data.toList ∧ lx[i].id = ((j + 1 : Nat) : Int) := fun i hi => by
    obtain ⟨j, hj, e⟩ := h2 (prX lx[i]) (List.mem_map.2 ⟨_, List.getElem_mem hi, rfl⟩)
    exact ⟨j, hj, (Prod.mk.inj e).1, (Prod.mk.inj e).2⟩
  refine ⟨v, _, he, OwnX.nums hv, ⟨by rw [List.length_map]; exact h1, fun i hi => ?_, fun i j k h0 hj hk ej ek => ?_⟩, hu⟩
  · rw [List.length_map] at hi
    obtain ⟨j, hj, _, e⟩ := hat i hi
    exact ⟨j, hj, by rw [List.getElem_map]; exact e⟩
  · rw [List.length_map] at h0
    rw [List.getElem_map] at ej ek
    obtain ⟨j', hj', s1, n1⟩ := hat i (by omega)
    obtain ⟨k', hk', s2, n2⟩ := hat (i + 1) h0
    obtain rfl : j' = j := by rw [ej] at n1; omega
    obtain rfl : k' = k := by rw [ek] at n2; omega
    have ho := List.pairwise_iff_getElem.1 hE.ord i (i + 1) (by rw [List.length_map]; omega) (by rw [List.length_map]; exact h0) (by omega)
    rw [List.getElem_map, List.getElem_map] at ho
    rcases ho with ho | ⟨ho1, ho2⟩
    · left
      have ho' : lx[i].s.data.toList < lx[i + 1].s.data.toList := ho
      rw [s1, s2] at ho'
      exact ho'
    · right
      have ho1' : lx[i].s.data.toList = lx[i + 1].s.data.toList := ho1
      have ho2' : lx[i].id < lx[i + 1].id := ho2
      rw [s1, s2] at ho1'
      rw [n1, n2] at ho2'
      exact ⟨ByteArray.ext (Array.toList_inj.1 ho1'), by omega⟩
/-- What begins with a string of the row. -/
theorem pre_nums {l : List ByteArray} {i : Nat} (hi : i < l.length) {w : World} {e : Ending} {w' : World} (h : PreOut w (gE (zB l l.length)) l[i].data.toList e w') :
    ∃ v ids, e = .returned v ∧ NumsAt w' v ids ∧ (∃ M, ids = gE (zB l l.length) l[i].data.toList ++ M) ∧ Up w w' := by
  obtain ⟨v, lx, he, hv, _, hE, _, _, hu⟩ := h
  obtain ⟨M, hM⟩ := ents_own hE (gE_rise (zB_rise l l.length) _)
  refine ⟨v, _, he, OwnX.nums hv, ⟨M.map (·.2), ?_⟩, hu⟩
  have h1 : (lx.map prX).map (·.2) = lx.map (·.id) := by rw [List.map_map]; rfl
  rw [← h1, hM, List.map_append, List.map_map]
  simp [Function.comp_def]
end Go.Proofs.Ytmbniakobhaomaa

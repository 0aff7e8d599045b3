/-
  Rows of entries that stand by their values downward: plain facts, no function of the program.
-/
import Derived.Test.YtnokokhbcfkifaaGreatDoorOxRnk
namespace Go.Proofs.YtnokokhbcfkifaaGreatDoor
open Go.ChangeShapes Go.WideShapes Go.ChangeAt Go.RowKit
set_option linter.unusedVariables false

/-- What holds of the index when the first so many are in it: by value downward, numbers of at most so many. -/
structure FaL (i : Nat) (L : List EP) : Prop where
  one : ∀ p ∈ L, p.2 = [numT (vOf p).1]
  srt : (L.map vOf).Pairwise (fun a b => b.1 ≤ a.1)
  ids : ∀ p ∈ L, (vOf p).2 ≤ (i : Int)
  len : L.length = i
theorem FaL.nil : FaL 0 [] := ⟨fun p hp => absurd hp (by simp), List.Pairwise.nil, fun p hp => absurd hp (by simp), rfl⟩
/-- How many have a greater value, and how many none that is less. -/
def gtC (L : List EP) (v : Int) : Nat := (L.map vOf).countP (fun p => decide (v < p.1))
def geC (L : List EP) (v : Int) : Nat := (L.map vOf).countP (fun p => decide (v ≤ p.1))
theorem geC_le (L : List EP) (v : Int) : geC L v ≤ L.length := by
  have := List.countP_le_length (p := fun p : VI => decide (v ≤ p.1)) (l := L.map vOf)
  unfold geC
  simpa using this
theorem gtC_le (L : List EP) (v : Int) : gtC L v ≤ geC L v := by
  unfold gtC geC
  exact List.countP_mono_left (fun a _ h => by have := of_decide_eq_true h; exact decide_eq_true (by omega))
theorem FaL.gt {i : Nat} {L : List EP} (r : FaL i L) (v : Int) (j : Nat) (hj : j < L.length) : v < (vOf L[j]).1 ↔ j < gtC L v := by
  have b := count_begin (fun p : VI => decide (v < p.1)) (L.map vOf) (r.srt.imp (fun {a b} h hb => by
    have := of_decide_eq_true hb
    exact decide_eq_true (by omega)))
  have := b j (by simpa using hj)
  rw [List.getElem_map] at this
  unfold gtC
  rw [← this]
  simp
theorem FaL.ge {i : Nat} {L : List EP} (r : FaL i L) (v : Int) (j : Nat) (hj : j < L.length) : v ≤ (vOf L[j]).1 ↔ j < geC L v := by
  have b := count_begin (fun p : VI => decide (v ≤ p.1)) (L.map vOf) (r.srt.imp (fun {a b} h hb => by
    have := of_decide_eq_true hb
    exact decide_eq_true (by omega)))
  have := b j (by simpa using hj)
  rw [List.getElem_map] at this
  unfold geC
  rw [← this]
  simp
theorem FaL.cx {i : Nat} {L : List EP} (r : FaL i L) {j : Nat} (hj : j < L.length) (v : Int) : cxV ((0 : Nat) : Int) (L.getD j (zeroET, [])).2 [numT v] = cmpI v (vOf L[j]).1 := by
  have e0 : L.getD j (zeroET, []) = L[j] := by rw [List.getD_eq_getElem?_getD, List.getElem?_eq_getElem hj]; rfl
  rw [e0, r.one _ (List.getElem_mem hj)]
  exact cxV_num0 _ _
theorem FaL.spot {i : Nat} {L : List EP} (r : FaL i L) (v : Int) : Spot 0 L [numT v] (gtC L v) (geC L v) := by
  have hg := geC_le L v
  have hl := gtC_le L v
  refine ⟨hl, hg, fun j hj => ?_, fun j h1 h2 => ?_, fun j h1 hj => ?_⟩
  · have hl : j < L.length := by omega
    rw [r.cx hl]
    have := (r.gt v j hl).2 hj
    unfold cmpI
    rw [if_pos this]; decide
  · have hl : j < L.length := by omega
    rw [r.cx hl]
    have h3 := (r.ge v j hl).2 h2
    have h4 : ¬ v < (vOf L[j]).1 := fun h => by have := (r.gt v j hl).1 h; omega
    unfold cmpI
    rw [if_neg h4, if_neg (by omega)]
  · rw [r.cx hj]
    have h3 : ¬ v ≤ (vOf L[j]).1 := fun h => by have := (r.ge v j hj).1 h; omega
    unfold cmpI
    rw [if_neg (by omega), if_pos (by omega)]; decide
/-- The rank of a number that is greater than all. -/
theorem FaL.last {i : Nat} {L : List EP} (r : FaL i L) (v id : Int) (hid : (i : Int) < id) : RankAt L (gtC L v) (geC L v) id (geC L v) := by
  refine ⟨gtC_le L v, Nat.le_refl _, fun j h1 h2 => ?_, fun j h1 h2 => by omega⟩
  have hl : j < L.length := Nat.lt_of_lt_of_le h2 (geC_le L v)
  have e0 : L.getD j (zeroET, []) = L[j] := by rw [List.getD_eq_getElem?_getD, List.getElem?_eq_getElem hl]; rfl
  rw [e0]
  have := r.ids _ (List.getElem_mem hl)
  show (vOf L[j]).2 < _
  omega
/-- One more is put in. -/
theorem FaL.put {i : Nat} {L : List EP} (r : FaL i L) (x : ET) (v : Int) (hx : x.id = (i : Int) + 1) : FaL (i + 1) (insL (x, [numT v]) L (geC L v)) := by
  have ev : vOf (x, [numT v]) = (v, (i : Int) + 1) := by unfold vOf; rw [hx]; rfl
  refine ⟨fun p hp => ?_, ?_, fun p hp => ?_, ?_⟩
  · rcases mem_insL hp with rfl | hp
    · rfl
    · exact r.one p hp
  · unfold insL
    rw [List.map_append, List.map_cons, ev]
    have h0 := r.srt
    rw [← List.take_append_drop (geC L v) L, List.map_append, List.pairwise_append] at h0
    have h1 : ∀ a ∈ (L.take (geC L v)).map vOf, v ≤ a.1 := fun a ha => by
      obtain ⟨p, hp, rfl⟩ := List.mem_map.1 ha
      obtain ⟨j, hj, rfl⟩ := List.getElem_of_mem hp
      rw [List.length_take] at hj
      rw [List.getElem_take]
      exact (r.ge v j (by omega)).2 (by omega)
    have h2 : ∀ a ∈ (L.drop (geC L v)).map vOf, a.1 ≤ v := fun a ha => by
      obtain ⟨p, hp, rfl⟩ := List.mem_map.1 ha
      obtain ⟨j, hj, rfl⟩ := List.getElem_of_mem hp
      rw [List.length_drop] at hj
      rw [List.getElem_drop]
      have h3 : ¬ v ≤ (vOf L[geC L v + j]).1 := fun h => by
        have := (r.ge v _ (by omega)).1 h
        omega
      omega
    refine List.pairwise_append.2 ⟨h0.1, List.pairwise_cons.2 ⟨h2, h0.2.1⟩, fun a ha b hb' => ?_⟩
    rcases List.mem_cons.1 hb' with rfl | hb'
    · exact h1 a ha
    · exact h0.2.2 a ha b hb'
  · rcases mem_insL hp with rfl | hp
    · rw [ev]; show (i : Int) + 1 ≤ ((i + 1 : Nat) : Int); omega
    · have := r.ids p hp; omega
  · rw [(perm_ins _ _ _).length_eq, List.length_cons, r.len]
/-- Put in and taken out again. -/
theorem del_ins {α : Type} (x : α) (L : List α) (j : Nat) (hj : j ≤ L.length) : delL (insL x L j) j = L := by
  unfold delL insL
  have hl : (L.take j).length = j := by rw [List.length_take]; omega
  rw [List.take_append_of_le_length (by omega), List.take_of_length_le (by omega), List.drop_append, List.drop_of_length_le (by omega), List.nil_append, hl, show j + 1 - j = 1 by omega, List.drop_one, List.tail_cons, List.take_append_drop]
end Go.Proofs.YtnokokhbcfkifaaGreatDoor

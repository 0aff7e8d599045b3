/-
  Rows of entries with unlike first values, in their order: plain facts, no function of the program.
-/
import Derived.Test.YtnokokhbcfkifaaGreatDoorOxRnk
namespace Go.Proofs.YtnokokhbcfkifaaGreatDoor
open Go.ChangeShapes Go.WideShapes Go.ChangeAt Go.RowKit
set_option linter.unusedVariables false

/-- Entries stand by their first values, which are all unlike. -/
structure UqL (L : List EP) : Prop where
  one : ∀ p ∈ L, ∃ rest, p.2 = numT (vOf p).1 :: rest
  srt : (L.map vOf).Pairwise (fun a b => a.1 < b.1)
theorem UqL.nil : UqL [] := ⟨fun p hp => absurd hp (by simp), List.Pairwise.nil⟩
theorem cxV_first (a b : Int) (l m : List VT) : cxV ((1 : Nat) : Int) (numT a :: l) (numT b :: m) = cmpI a b := by
  unfold cxV
  rw [if_neg (by decide), if_pos (by rfl)]
  exact rowsV_num a b
theorem UqL.cx {L : List EP} (r : UqL L) {j : Nat} (hj : j < L.length) (v : Int) (m : List VT) : cxV ((1 : Nat) : Int) (L.getD j (zeroET, [])).2 (numT v :: m) = cmpI (vOf L[j]).1 v := by
  have e0 : L.getD j (zeroET, []) = L[j] := by rw [List.getD_eq_getElem?_getD, List.getElem?_eq_getElem hj]; rfl
  obtain ⟨rest, hr⟩ := r.one _ (List.getElem_mem hj)
  rw [e0, hr]
  exact cxV_first _ _ _ _
/-- How many have a lesser value. -/
def ltC (L : List EP) (v : Int) : Nat := (L.map vOf).countP (fun p => decide (p.1 < v))
theorem UqL.lt {L : List EP} (r : UqL L) (v : Int) (j : Nat) (hj : j < L.length) : (vOf L[j]).1 < v ↔ j < ltC L v := by
  have b := count_begin (fun p : VI => decide (p.1 < v)) (L.map vOf) (r.srt.imp (fun {a b} h hb => by
    have := of_decide_eq_true hb
    exact decide_eq_true (by omega)))
  have := b j (by simpa using hj)
  rw [List.getElem_map] at this
  unfold ltC
  rw [← this]
  simp
theorem ltC_le (L : List EP) (v : Int) : ltC L v ≤ L.length := by
  have := List.countP_le_length (p := fun p : VI => decide (p.1 < v)) (l := L.map vOf)
  unfold ltC
  simpa using this
theorem UqL.inc {L : List EP} (r : UqL L) {i j : Nat} (hi : i < j) (hj : j < L.length) : (vOf L[i]).1 < (vOf L[j]).1 := by
  have := List.pairwise_iff_getElem.1 r.srt i j (by simp; omega) (by simpa using hj) hi
  rw [List.getElem_map, List.getElem_map] at this
  exact this
/-- Where it isn't there. -/
theorem UqL.spot_no {L : List EP} (r : UqL L) (v : Int) (m : List VT) (hno : ∀ p ∈ L, (vOf p).1 ≠ v) : Spot 1 L (numT v :: m) (ltC L v) (ltC L v) := by
  refine ⟨Nat.le_refl _, ltC_le L v, fun j hj => ?_, fun j h1 h2 => by omega, fun j h1 hj => ?_⟩
  · have hl : j < L.length := Nat.lt_of_lt_of_le hj (ltC_le L v)
    rw [r.cx hl]
    have := (r.lt v j hl).2 hj
    unfold cmpI
    rw [if_pos this]; decide
  · rw [r.cx hj]
    have h3 : ¬ (vOf L[j]).1 < v := fun h => by have := (r.lt v j hj).1 h; omega
    have h4 := hno _ (List.getElem_mem hj)
    unfold cmpI
    rw [if_neg h3, if_pos (by omega)]; decide
/-- Where it is there. -/
theorem UqL.spot_yes {L : List EP} (r : UqL L) (v : Int) (m : List VT) (j0 : Nat) (hj0 : j0 < L.length) (hv : (vOf L[j0]).1 = v) : Spot 1 L (numT v :: m) j0 (j0 + 1) := by
  refine ⟨by omega, hj0, fun j hj => ?_, fun j h1 h2 => ?_, fun j h1 hj => ?_⟩
  · rw [r.cx (by omega : j < L.length)]
    have := r.inc hj hj0
    unfold cmpI
    rw [if_pos (by omega)]; decide
  · obtain rfl : j = j0 := by omega
    rw [r.cx hj0, hv]
    simp [cmpI]
  · rw [r.cx hj]
    have := r.inc (show j0 < j by omega) hj
    unfold cmpI
    rw [if_neg (by omega), if_pos (by omega)]; decide
theorem UqL.put {L : List EP} (r : UqL L) (x : ET) (v : Int) (m : List VT) (hno : ∀ p ∈ L, (vOf p).1 ≠ v) : UqL (insL (x, numT v :: m) L (ltC L v)) := by
  have ev : vOf (x, numT v :: m) = (v, x.id) := rfl
  refine ⟨fun p hp => ?_, ?_⟩
  · rcases mem_insL hp with rfl | hp
    · exact ⟨m, rfl⟩
    · exact r.one p hp
  · unfold insL
    rw [List.map_append, List.map_cons, List.map_take, List.map_drop, ev]
    have h0 := r.srt
    rw [← List.take_append_drop (ltC L v) (L.map vOf), List.pairwise_append] at h0
    have h1 : ∀ a ∈ (L.map vOf).take (ltC L v), a.1 < v := fun a ha => by
      obtain ⟨j, hj, rfl⟩ := List.getElem_of_mem ha
      rw [List.length_take] at hj
      rw [List.getElem_take, List.getElem_map]
      exact (r.lt v j (by simp at hj; omega)).2 (by omega)
    have h2 : ∀ a ∈ (L.map vOf).drop (ltC L v), v < a.1 := fun a ha => by
      obtain ⟨j, hj, rfl⟩ := List.getElem_of_mem ha
      rw [List.length_drop] at hj
      rw [List.getElem_drop, List.getElem_map]
      have hl : ltC L v + j < L.length := by simp at hj; omega
      have h3 : ¬ (vOf L[ltC L v + j]).1 < v := fun h => by have := (r.lt v _ hl).1 h; omega
      have h4 := hno _ (List.getElem_mem hl)
      omega
    refine List.pairwise_append.2 ⟨h0.1, List.pairwise_cons.2 ⟨h2, h0.2.1⟩, fun a ha b hb' => ?_⟩
    rcases List.mem_cons.1 hb' with rfl | hb'
    · exact h1 a ha
    · exact h0.2.2 a ha b hb'
/-- A number of eight bits without its sign. -/
def u8 (v : Int) : Nat := (v % 256).toNat
theorem u8_lt (v : Int) : u8 v < 256 := by unfold u8; omega
theorem u8_inj {v v' : Int} (h : -128 ≤ v ∧ v ≤ 127) (h' : -128 ≤ v' ∧ v' ≤ 127) (e : u8 v = u8 v') : v = v' := by unfold u8 at e; omega
/-- What the table of names says of the index. -/
structure WhoL (L : List EP) (wf : Nat → Int) (i : Nat) : Prop where
  ids : ∀ p ∈ L, 1 ≤ (vOf p).2 ∧ (vOf p).2 ≤ (i : Int)
  rng : ∀ p ∈ L, -128 ≤ (vOf p).1 ∧ (vOf p).1 ≤ 127
  has : ∀ p ∈ L, wf (u8 (vOf p).1) = (vOf p).2
  non : ∀ v, -128 ≤ v ∧ v ≤ 127 → wf (u8 v) ≠ 0 → ∃ p ∈ L, (vOf p).1 = v
theorem WhoL.nil : WhoL [] (fun _ => 0) 0 := ⟨fun p hp => absurd hp (by simp), fun p hp => absurd hp (by simp), fun p hp => absurd hp (by simp), fun v _ h => absurd rfl h⟩
theorem WhoL.more {L : List EP} {wf : Nat → Int} {i : Nat} (w : WhoL L wf i) : WhoL L wf (i + 1) := ⟨fun p hp => by have := w.ids p hp; omega, w.rng, w.has, w.non⟩
theorem WhoL.put {L : List EP} {wf : Nat → Int} {i : Nat} (w : WhoL L wf i) (x : ET) (v : Int) (m : List VT) (r : Nat) (hv : -128 ≤ v ∧ v ≤ 127) (hno : ∀ p ∈ L, (vOf p).1 ≠ v) (hx : x.id = (i : Int) + 1) :
    WhoL (insL (x, numT v :: m) L r) (fun b => if b = u8 v then (i : Int) + 1 else wf b) (i + 1) := by
  have ev : vOf (x, numT v :: m) = (v, (i : Int) + 1) := by unfold vOf; rw [hx]; rfl
  refine ⟨fun p hp => ?_, fun p hp => ?_, fun p hp => ?_, fun v' hv' hne => ?_⟩
  · rcases mem_insL hp with rfl | hp
    · rw [ev]; exact ⟨by show 1 ≤ (i : Int) + 1; omega, by show (i : Int) + 1 ≤ _; omega⟩
    · have := w.ids p hp; omega
  · rcases mem_insL hp with rfl | hp
    · rw [ev]; exact hv
    · exact w.rng p hp
  · rcases mem_insL hp with rfl | hp
    · rw [ev]; simp
    · have h1 : ¬ u8 (vOf p).1 = u8 v := fun e => hno p hp (u8_inj (w.rng p hp) hv e)
      simp only [h1, if_false]
      exact w.has p hp
  · by_cases e : u8 v' = u8 v
    · obtain rfl := u8_inj hv' hv e
      refine ⟨(x, numT v' :: m), ?_, by rw [ev]⟩
      unfold insL
      simp
    · simp only [e, if_false] at hne
      obtain ⟨p, hp, h1⟩ := w.non v' hv' hne
      refine ⟨p, ?_, h1⟩
      unfold insL
      rw [← List.take_append_drop r L] at hp
      rcases List.mem_append.1 hp with hp | hp
      · exact List.mem_append.2 (.inl hp)
      · exact List.mem_append.2 (.inr (List.mem_cons_of_mem _ hp))
end Go.Proofs.YtnokokhbcfkifaaGreatDoor

/-
  HeapMerges: what holds from round to round of the law's own loop over its rows.
-/
import Derived.Test.YtcemdiloiachlaaHeapMmq
namespace Go.Proofs.Ytcemdiloiachlaa
open Go.ChangeShapes Go.WideShapes Go.ChangeAt Go.RowKit
set_option linter.unusedVariables false

def flM (rows : List SlV) : List ETI := (rows.map (·.rest)).flatten
theorem flM_add (rows : List SlV) (r : SlV) : flM (rows ++ [r]) = flM rows ++ r.rest := by
  unfold flM
  rw [List.map_append, List.flatten_append]
  show _ ++ (r.rest ++ []) = _
  rw [List.append_nil]
theorem flM_le : ∀ (rows : List SlV), (∀ r ∈ rows, r.rest.length ≤ 40) → (flM rows).length ≤ 40 * rows.length
  | [], _ => Nat.le_refl _
  | r :: rows, h => by
    have h1 := flM_le rows (fun x hx => h x (List.mem_cons_of_mem _ hx))
    have h2 := h r (List.mem_cons_self ..)
    have e : flM (r :: rows) = r.rest ++ flM rows := rfl
    rw [e, List.length_append, List.length_cons]
    omega
theorem getD_addSl {rows : List SlV} {r : SlV} {i : Nat} (hi : i < (rows ++ [r]).length) : (i < rows.length ∧ (rows ++ [r]).getD i zeroSl = rows.getD i zeroSl) ∨ (i = rows.length ∧ (rows ++ [r]).getD i zeroSl = r) := by
  rw [List.length_append, List.length_singleton] at hi
  by_cases h : i < rows.length
  · left
    refine ⟨h, ?_⟩
    rw [List.getD_eq_getElem?_getD, List.getElem?_append_left h, List.getD_eq_getElem?_getD]
  · have e : i = rows.length := by omega
    subst e
    right
    refine ⟨rfl, ?_⟩
    rw [List.getD_eq_getElem?_getD, List.getElem?_append_right (Nat.le_refl _)]
    simp
/-- From round to round. -/
structure MInv (w wr : World) (v5 v6 : Value) (rows : List SlV) (messy : Bool) : Prop where
  up : Up w wr
  o5 : OwnSl wr w.heap.size v5 rows
  o6 : OwnEI wr w.heap.size v6 (flM rows)
  ap : ∀ g, v5.ownBlock = some g → v6.ownBlock = some g → False
  rin : ∀ i, i < rows.length → InEI wr (rows.getD i zeroSl).a (rows.getD i zeroSl).rest.length (rows.getD i zeroSl).cap (rows.getD i zeroSl).rest
  rap : ∀ i, i < rows.length → ∀ x, (rows.getD i zeroSl).a = some x → x.block < wr.heap.size ∧ v5.ownBlock ≠ some x.block ∧ v6.ownBlock ≠ some x.block
  ids : IdsOk (flM rows)
  srt : messy = false → ∀ r ∈ rows, Srt rkI r.rest
  lens : ∀ r ∈ rows, r.rest.length ≤ 40
theorem MInv.nil (w : World) (messy : Bool) : MInv w w (.slice none 0 0) (.slice none 0 0) [] messy :=
  ⟨Up.refl _, OwnG.nil _ _ _ _ _, OwnG.nil _ _ _ _ _, fun g h => (by cases h), fun i hi => absurd hi (Nat.not_lt_zero _), fun i hi => absurd hi (Nat.not_lt_zero _), fun k hk => absurd hk (Nat.not_lt_zero _), fun _ r hr => (by cases hr), fun r hr => (by cases hr)⟩
/-- Behind the first append all but its row is as it was. -/
theorem MInv.mid6 {w W0 w1 w2 w3 : World} {v5 v6 : Value} {rows : List SlV} {messy : Bool} (h : MInv w W0 v5 v6 rows messy) (hu : Up W0 w2) (g3 : w2.grownBy w3 v5.ownBlock) : OwnEI w3 w.heap.size v6 (flM rows) :=
  OwnG.keepC (h.o6.up hu) (chg_grow g3) (fun g hg h5 => h.ap g h5 hg)
theorem MInv.mid9 {w W0 w1 w2 w3 : World} {v5 v6 v9 : Value} {rows : List SlV} {messy : Bool} {r : List ETI} (h : MInv w W0 v5 v6 rows messy) (o9 : OwnEI w2 W0.heap.size v9 r) (g3 : w2.grownBy w3 v5.ownBlock) : OwnEI w3 W0.heap.size v9 r :=
  OwnG.keepC o9 (chg_grow g3) (fun g hg h5 => by have h1 := (o9.lt g hg).1; have h2 := (h.o5.lt g h5).2; omega)
theorem MInv.add {w W0 w2 w3 w4 : World} {v5 v6 v5' v6' : Value} {rows : List SlV} {messy : Bool} {a9 : Option Addr} {c9 : Nat} {q : List ETI} (h : MInv w W0 v5 v6 rows messy) (hu : Up W0 w2)
    (o9 : OwnEI w2 W0.heap.size (.slice a9 q.length c9) (idsUpto q (flM rows).length q.length)) (g3 : w2.grownBy w3 v5.ownBlock) (o5' : OwnSl w3 w.heap.size v5' (rows ++ [⟨a9, c9, idsUpto q (flM rows).length q.length⟩])) (b5 : v5'.ownBlock = v5.ownBlock ∨ v5'.ownBlock = some w2.heap.size)
    (g4 : w3.grownBy w4 v6.ownBlock) (o6' : OwnEI w4 w.heap.size v6' (flM rows ++ idsUpto q (flM rows).length q.length)) (b6 : v6'.ownBlock = v6.ownBlock ∨ v6'.ownBlock = some w3.heap.size)
    (hs : messy = false → Srt rkI q) (hr : q.length ≤ 40) : MInv w w4 v5' v6' (rows ++ [⟨a9, c9, idsUpto q (flM rows).length q.length⟩]) messy := by
  have s1 := h.up.size
  have s2 := hu.size
  have s3 := g3.size
  have s4 := g4.size
  have o93 := h.mid9 (w1 := w2) o9 g3
  have c34 := chg_grow g4
  have c23 := chg_grow g3
  have hne : ∀ g, v5'.ownBlock = some g → v6.ownBlock = some g → False := fun g h1 h2 => by
    rcases b5 with e | e
    · rw [e] at h1; exact h.ap g h1 h2
    · rw [e] at h1
      have := (h.o6.lt g h2).2
      have := Option.some.inj h1
      omega
  refine ⟨?_, ?_, ?_, ?_, ?_, ?_, ?_, ?_, ?_⟩
  · have u3 : Up w w3 := OwnG.below (h.up.trans hu) (by omega) (h.o5.up hu) g3
    exact OwnG.below u3 (by omega) (h.mid6 (w1 := w2) hu g3) g4
  · exact OwnG.keepC o5' c34 (fun g h1 h2 => hne g h1 h2)
  · rw [flM_add]; exact o6'
  · intro g h1 h2
    rcases b6 with e | e
    · rw [e] at h2; exact hne g h1 h2
    · rw [e] at h2
      have := (o5'.lt g h1).2
      have := Option.some.inj h2
      omega
  · intro i hi
    rcases getD_addSl hi with ⟨h1, h2⟩ | ⟨h1, h2⟩
    · rw [h2]
      refine InG.chg (InG.chg ((h.rin i h1).up hu) c23 (fun x hx h5 => (h.rap i h1 x hx).2.1 h5)) c34 (fun x hx h6 => (h.rap i h1 x hx).2.2 h6)
    · rw [h2]
      obtain ⟨a, c, e, hin, hbd⟩ := OwnG.inG (z := eZeroI) o93 (fun _ => rfl)
      injection e with e1 e2 e3
      subst e1 e3
      refine InG.chg hin c34 (fun x hx h6 => ?_)
      have := (hbd x hx).1
      have := (h.o6.lt x.block h6).2
      omega
  · intro i hi x hx
    rcases getD_addSl hi with ⟨h1, h2⟩ | ⟨h1, h2⟩
    · rw [h2] at hx
      obtain ⟨p1, p2, p3⟩ := h.rap i h1 x hx
      refine ⟨by omega, ?_, ?_⟩
      · rcases b5 with e | e
        · rw [e]; exact p2
        · rw [e]; intro e2; have := Option.some.inj e2; omega
      · rcases b6 with e | e
        · rw [e]; exact p3
        · rw [e]; intro e2; have := Option.some.inj e2; omega
    · rw [h2] at hx
      simp only at hx
      obtain ⟨p1, p2⟩ := o9.lt x.block (by rw [hx]; rfl)
      refine ⟨by omega, ?_, ?_⟩
      · rcases b5 with e | e
        · rw [e]; intro e2; have := (h.o5.lt _ e2).2; omega
        · rw [e]; intro e2; have := Option.some.inj e2; omega
      · rcases b6 with e | e
        · rw [e]; intro e2; have := (h.o6.lt _ e2).2; omega
        · rw [e]; intro e2; have := Option.some.inj e2; omega
  · rw [flM_add]
    exact idsOk_add h.ids
  · intro hm r hr'
    rcases List.mem_append.1 hr' with h1 | h1
    · exact h.srt hm r h1
    · rw [List.mem_singleton.1 h1]
      exact srt_ids (hs hm)
  · intro r hr'
    rcases List.mem_append.1 hr' with h1 | h1
    · exact h.lens r h1
    · rw [List.mem_singleton.1 h1]
      show (idsUpto _ _ _).length ≤ 40
      rw [idsUpto_length]
      exact hr
theorem flat_set1b : ∀ (l : List ETI) (k : Nat) (y : Int), k < l.length → (l.flatMap eCellsI).set (k * 2 + 1) (.int .i64 y) = (l.set k ((l.getD k eZeroI).1, y)).flatMap eCellsI
  | [], k, y, h => absurd h (Nat.not_lt_zero _)
  | x :: l, 0, y, h => by simp [eCellsI]
  | x :: l, k + 1, y, h => by
    have e1 : (k + 1) * 2 + 1 = k * 2 + 1 + 1 + 1 := by omega
    rw [e1]
    have h1 := flat_set1b l k y (by simpa using h)
    simp only [List.flatMap_cons, List.set_cons_succ, List.getD_cons_succ]
    rw [← h1]
    simp [eCellsI]
/-- One item's number is written into a row that a call owns. -/
theorem own_setId {w : World} {base g cap : Nat} {n : Nat} {q : List ETI} {F k : Nat} (h : OwnEI w base (.slice (some ⟨g, 0, none⟩) q.length cap) (idsUpto q F k)) (hk : k < q.length) (y : Int) (hy : y = ((F + k : Nat) : Int)) :
    OwnEI (w.setCell ⟨g, k * 2 + 1, none⟩ (.int .i64 y)) base (.slice (some ⟨g, 0, none⟩) q.length cap) (idsUpto q F (k + 1)) := by
  subst hy
  have hl := idsUpto_length q F k
  have h' := h
  rw [← hl] at h'
  have h1 := (World.ownsRow.stored h' (k * 2 + 1) (.int .i64 ((F + k : Nat) : Int))).1
  rw [flat_set1b _ _ _ (by rw [hl]; exact hk), idsUpto_getD q F k k hk (Nat.le_refl _), idsUpto_succ q F k hk, hl] at h1
  unfold OwnEI OwnG
  rw [idsUpto_length]
  exact h1
theorem zItems_take (l : List Int) {i : Nat} (hi : i < l.length) : zItems (l.take (i + 1)) = zItems (l.take i) ++ [((l.getD i 0).tdiv 8, (0 : Int))] := by
  have e : l.take (i + 1) = l.take i ++ [l.getD i 0] := by
    rw [List.take_add_one, List.getElem?_eq_getElem hi, List.getD_eq_getElem?_getD, List.getElem?_eq_getElem hi]
    rfl
  rw [e, zItems, List.map_append]
  rfl
theorem zItems_length (l : List Int) : (zItems l).length = l.length := by simp [zItems]
/-- Which of the numbers were seen. -/
def SeenTo (m : List ETI) (i : Nat) (V : List Bool) : Prop := ∀ k, k < V.length → (V.getD k true = true ↔ ((k : Nat) : Int) ∈ (m.take i).map (·.2))
theorem seen_zero (m : List ETI) (n : Nat) : SeenTo m 0 (List.replicate n false) := fun k hk => by
  rw [List.length_replicate] at hk
  rw [List.getD_eq_getElem?_getD, List.getElem?_replicate]
  simp [hk]
theorem seen_succ {m : List ETI} {i : Nat} {V : List Bool} (h : SeenTo m i V) (hi : i < m.length) {k : Nat} (hk : (m.getD i eZeroI).2 = k) : SeenTo m (i + 1) (V.set k true) := fun j hj => by
  rw [List.length_set] at hj
  have e : m.take (i + 1) = m.take i ++ [m.getD i eZeroI] := by
    rw [List.take_add_one, List.getElem?_eq_getElem hi, List.getD_eq_getElem?_getD, List.getElem?_eq_getElem hi]
    rfl
  rw [e, List.map_append, List.mem_append, List.map_singleton, List.mem_singleton, hk]
  by_cases ej : k = j
  · subst ej
    rw [List.getD_eq_getElem?_getD, List.getElem?_set_self hj]
    simp
  · rw [List.getD_eq_getElem?_getD, List.getElem?_set_ne ej, ← List.getD_eq_getElem?_getD, h j hj]
    constructor
    · exact .inl
    · rintro (h1 | h1)
      · exact h1
      · exact absurd (by omega) ej

end Go.Proofs.Ytcemdiloiachlaa

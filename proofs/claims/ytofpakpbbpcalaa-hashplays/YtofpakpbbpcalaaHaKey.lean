/-
  A key spelled field by field, and its bytes: unlike keys have unlike bytes. Plain facts, no function of the program.
-/
import Derived.Test.YtofpakpbbpcalaaCodeLess
import Derived.Test.YtofpakpbbpcalaaOwnApp
namespace Go.Proofs.Ytofpakpbbpcalaa
open Go.RowKit Go.Lib

/-- A text in pieces of sixty bytes. -/
def pcs : Nat → List UInt8 → List (List UInt8)
  | 0, _ => []
  | k + 1, l => if l = [] then [] else l.take 60 :: pcs k (l.drop 60)
theorem pcs_nil (k : Nat) : pcs k [] = [] := by cases k <;> simp [pcs]
theorem pcs_step {k : Nat} {l : List UInt8} (h : l ≠ []) (hk : l.length ≤ k) : ∃ j, k = j + 1 ∧ pcs k l = l.take 60 :: pcs j (l.drop 60) ∧ (l.drop 60).length ≤ j := by
  have hp : 0 < l.length := List.length_pos_iff.2 h
  cases k with
  | zero => omega
  | succ j => exact ⟨j, rfl, by simp [pcs, h], by rw [List.length_drop]; omega⟩
theorem pcs_flat : ∀ (k : Nat) (l : List UInt8), l.length ≤ k → (pcs k l).flatten = l
  | 0, l, h => by rw [List.length_eq_zero_iff.1 (Nat.le_zero.1 h)]; rfl
  | k + 1, l, h => by
    by_cases h0 : l = []
    · subst h0; simp [pcs]
    · simp only [pcs, h0, if_false, List.flatten_cons]
      rw [pcs_flat k _ (by rw [List.length_drop]; have := List.length_pos_iff.2 h0; omega), List.take_append_drop]
theorem pcs_small : ∀ (k : Nat) (l : List UInt8), ∀ p ∈ pcs k l, p.length ≤ 60
  | 0, l, p, h => by simp [pcs] at h
  | k + 1, l, p, h => by
    by_cases h0 : l = []
    · simp [pcs, h0] at h
    · simp only [pcs, h0, if_false, List.mem_cons] at h
      rcases h with rfl | h
      · rw [List.length_take]; omega
      · exact pcs_small k _ p h
theorem pcs_many : ∀ (k : Nat) (l : List UInt8), (pcs k l).length * 60 ≤ l.length + 59
  | 0, l => by simp [pcs]
  | k + 1, l => by
    by_cases h0 : l = []
    · simp [pcs, h0]
    · simp only [pcs, h0, if_false, List.length_cons]
      have h1 := pcs_many k (l.drop 60)
      have h2 := List.length_pos_iff.2 h0
      rw [List.length_drop] at h1
      by_cases h3 : (pcs k (l.drop 60)).length = 0
      · omega
      · have : l.drop 60 ≠ [] := by
          intro e
          rw [e, pcs_nil] at h3
          exact h3 rfl
        have := List.length_pos_iff.2 this
        rw [List.length_drop] at this
        omega
/-- A piece as a value of its own. -/
def pieceT (p : List UInt8) : VT := (4, 0, ⟨p.toArray⟩, 0)
def intT (n : Int) : VT := (1, n, ⟨#[]⟩, 0)
def fltT (f : Nat) : VT := (5, 0, ⟨#[]⟩, f)
def spellV (v : VT) : List VT := intT v.1 :: intT v.2.1 :: ((pcs v.2.2.1.size v.2.2.1.data.toList).map pieceT ++ [fltT v.2.2.2])
def spellL : List VT → List VT
  | [] => []
  | v :: l => spellV v ++ spellL l
theorem spellL_append (l m : List VT) : spellL (l ++ m) = spellL l ++ spellL m := by
  induction l with
  | nil => rfl
  | cons v l ih => simp [spellL, ih]
theorem spellL_take (l : List VT) (k : Nat) (h : k < l.length) : spellL (l.take (k + 1)) = spellL (l.take k) ++ spellV (l.getD k zeroT) := by
  rw [List.take_add_one, spellL_append, List.getElem?_eq_getElem h, List.getD_eq_getElem?_getD, List.getElem?_eq_getElem h]
  simp [spellL]
theorem spellV_length (v : VT) (h : v.2.2.1.size ≤ 200) : (spellV v).length ≤ 7 := by
  have := pcs_many v.2.2.1.size v.2.2.1.data.toList
  have e : v.2.2.1.data.toList.length = v.2.2.1.size := by simp
  rw [e] at this
  simp only [spellV, List.length_cons, List.length_append, List.length_map, List.length_nil]
  omega
theorem spellL_length (l : List VT) (h : ∀ i, (l.getD i zeroT).2.2.1.size ≤ 200) : (spellL l).length ≤ 7 * l.length := by
  induction l with
  | nil => simp [spellL]
  | cons v l ih =>
    have h0 := spellV_length v (h 0)
    have h1 := ih fun i => by simpa using h (i + 1)
    simp only [spellL, List.length_append, List.length_cons]
    omega
theorem isB_piece {p : List UInt8} (h : p.length ≤ 60) : isB (pieceT p) = true := by
  have : (ByteArray.mk p.toArray).size = p.length := by simp [ByteArray.size]
  simp [isB, pieceT, this]; omega
theorem isB_int (n : Int) : isB (intT n) = true := by simp [isB, intT]
theorem isB_flt (f : Nat) : isB (fltT f) = true := by simp [isB, fltT]
theorem in64 : (IntKind.i64.min ≤ (0 : Int) ∧ (0 : Int) ≤ IntKind.i64.max) ∧ (IntKind.i64.min ≤ (1 : Int) ∧ (1 : Int) ≤ IntKind.i64.max) ∧ (IntKind.i64.min ≤ (4 : Int) ∧ (4 : Int) ≤ IntKind.i64.max) ∧ (IntKind.i64.min ≤ (5 : Int) ∧ (5 : Int) ≤ IntKind.i64.max) ∧ 0 < whole := by
  refine ⟨?_, ?_, ?_, ?_, ?_⟩ <;> decide +kernel
theorem fits_piece {p : List UInt8} (h : p.length ≤ 60) : Fits (pieceT p) := by
  have e : (ByteArray.mk p.toArray).size = p.length := by simp [ByteArray.size]
  refine ⟨in64.2.2.1.1, in64.2.2.1.2, in64.1.1, in64.1.2, ?_, in64.2.2.2.2⟩
  show (ByteArray.mk p.toArray).size ≤ maxLen
  rw [e]; unfold maxLen; omega
theorem fits_int {n : Int} (h : IntKind.i64.min ≤ n ∧ n ≤ IntKind.i64.max) : Fits (intT n) := ⟨in64.2.1.1, in64.2.1.2, h.1, h.2, by simp [intT, maxLen, ByteArray.size], in64.2.2.2.2⟩
theorem fits_flt {f : Nat} (h : f < whole) : Fits (fltT f) := ⟨in64.2.2.2.1.1, in64.2.2.2.1.2, in64.1.1, in64.1.2, by simp [fltT, maxLen, ByteArray.size], h⟩
/-- All that spells a key are values. -/
theorem spellV_good {v : VT} (hv : Fits v) : ∀ x ∈ spellV v, isB x = true ∧ Fits x := by
  intro x hx
  simp only [spellV, List.mem_cons, List.mem_append, List.mem_map, List.not_mem_nil, or_false] at hx
  rcases hx with rfl | rfl | ⟨p, hp, rfl⟩ | rfl
  · exact ⟨isB_int _, fits_int ⟨hv.1, hv.2.1⟩⟩
  · exact ⟨isB_int _, fits_int ⟨hv.2.2.1, hv.2.2.2.1⟩⟩
  · exact ⟨isB_piece (pcs_small _ _ p hp), fits_piece (pcs_small _ _ p hp)⟩
  · exact ⟨isB_flt _, fits_flt hv.2.2.2.2.2⟩
theorem spellL_good {l : List VT} (hl : ∀ i, Fits (l.getD i zeroT)) : ∀ x ∈ spellL l, isB x = true ∧ Fits x := by
  induction l with
  | nil => intro x hx; simp [spellL] at hx
  | cons v l ih =>
    intro x hx
    simp only [spellL, List.mem_append] at hx
    rcases hx with hx | hx
    · exact spellV_good (hl 0) x hx
    · exact ih (fun i => by simpa using hl (i + 1)) x hx
theorem getD_all {l : List VT} {ok : VT → Prop} (h : ∀ x ∈ l, ok x) (hz : ok zeroT) (i : Nat) : ok (l.getD i zeroT) := by
  rw [List.getD_eq_getElem?_getD]
  by_cases hi : i < l.length
  · rw [List.getElem?_eq_getElem hi]; exact h _ (List.getElem_mem hi)
  · rw [List.getElem?_eq_none (by omega)]; exact hz
theorem mem_getD {l : List VT} {ok : VT → Prop} (h : ∀ i, ok (l.getD i zeroT)) {x : VT} (hx : x ∈ l) : ok x := by
  obtain ⟨k, hk, rfl⟩ := List.getElem_of_mem hx
  have := h k
  rwa [List.getD_eq_getElem?_getD, List.getElem?_eq_getElem hk] at this
theorem spell_pieces : ∀ (A B : List (List UInt8)) (f g : Nat) (r q : List VT), A.map pieceT ++ fltT f :: r = B.map pieceT ++ fltT g :: q → A = B ∧ f = g ∧ r = q
  | [], [], f, g, r, q, h => by
    simp only [List.map_nil, List.nil_append, List.cons.injEq, fltT, Prod.mk.injEq, true_and] at h
    exact ⟨rfl, h.1, h.2⟩
  | [], b :: B, f, g, r, q, h => by
    simp only [List.map_nil, List.nil_append, List.map_cons, List.cons_append, List.cons.injEq, fltT, pieceT, Prod.mk.injEq] at h
    exact absurd h.1.1 (by decide)
  | a :: A, [], f, g, r, q, h => by
    simp only [List.map_nil, List.nil_append, List.map_cons, List.cons_append, List.cons.injEq, fltT, pieceT, Prod.mk.injEq] at h
    exact absurd h.1.1 (by decide)
  | a :: A, b :: B, f, g, r, q, h => by
    simp only [List.map_cons, List.cons_append, List.cons.injEq, pieceT, Prod.mk.injEq, true_and] at h
    have e : a = b := by
      have := h.1.1
      injection this with this
      exact Array.ext' (xs := a.toArray) (ys := b.toArray) (by rw [this]) |> fun x => by simpa using congrArg Array.toList x
    obtain ⟨h1, h2, h3⟩ := spell_pieces A B f g r q h.2
    exact ⟨by rw [e, h1], h2, h3⟩
theorem spellV_inj {v u : VT} {r q : List VT} (h : spellV v ++ r = spellV u ++ q) : v = u ∧ r = q := by
  simp only [spellV, List.cons_append, List.append_assoc, List.cons.injEq, intT, Prod.mk.injEq, true_and, and_true, List.nil_append] at h
  obtain ⟨h1, h2, h3⟩ := h
  obtain ⟨h4, h5, h6⟩ := spell_pieces _ _ _ _ _ _ h3
  refine ⟨?_, h6⟩
  have e : v.2.2.1.data.toList = u.2.2.1.data.toList := by
    have e1 := pcs_flat v.2.2.1.size v.2.2.1.data.toList (by simp)
    have e2 := pcs_flat u.2.2.1.size u.2.2.1.data.toList (by simp)
    rw [← e1, ← e2, h4]
  have e3 : v.2.2.1 = u.2.2.1 := by
    have := Array.toList_inj.1 e
    generalize v.2.2.1 = s at *
    generalize u.2.2.1 = t at *
    cases s; cases t; simp_all
  exact Prod.ext h1 (Prod.ext h2 (Prod.ext e3 h5))
theorem spellL_inj : ∀ (a b : List VT), spellL a = spellL b → a = b
  | [], [], _ => rfl
  | [], u :: b, h => by simp [spellL, spellV] at h
  | v :: a, [], h => by simp [spellL, spellV] at h
  | v :: a, u :: b, h => by
    obtain ⟨h1, h2⟩ := spellV_inj (show spellV v ++ spellL a = spellV u ++ spellL b from h)
    rw [h1, spellL_inj a b h2]

theorem putV_inj {u v : VT} (hu : isB u = true) (hv : isB v = true) (fu : Fits u) (fv : Fits v) {r q : List UInt8} (h : putV u ++ r = putV v ++ q) : u = v ∧ r = q := by
  have hself : compareBytes (putV u ++ r) (putV v ++ q) = 0 := by rw [h]; exact cmpB_self _
  have hself' : compareBytes (putV v ++ q) (putV u ++ r) = 0 := by rw [h]; exact cmpB_self _
  have e : u = v := by
    rcases cmpV_cases u v with ⟨h1, _⟩ | ⟨h1, _⟩ | ⟨_, h1⟩
    · have := putV_less u v hu hv fu fv h1 r q; omega
    · exact cmpV_same fu fv h1
    · have := putV_less v u hv hu fv fu h1 q r; omega
  subst e
  exact ⟨rfl, List.append_cancel_left h⟩
theorem putL_inj : ∀ (a b : List VT), (∀ x ∈ a, isB x = true ∧ Fits x) → (∀ x ∈ b, isB x = true ∧ Fits x) → putL a = putL b → a = b
  | [], [], _, _, _ => rfl
  | [], u :: b, _, _, h => by simp [putL, putV] at h
  | v :: a, [], _, _, h => by simp [putL, putV] at h
  | v :: a, u :: b, ha, hb, h => by
    have h1 := ha v (by simp)
    have h2 := hb u (by simp)
    obtain ⟨e1, e2⟩ := putV_inj h1.1 h2.1 h1.2 h2.2 (show putV v ++ putL a = putV u ++ putL b from h)
    rw [e1, putL_inj a b (fun x hx => ha x (by simp [hx])) (fun x hx => hb x (by simp [hx])) e2]

/-- A key of few values, of few bytes each. -/
def GoodK (m : List VT) : Prop := m.length ≤ 12 ∧ (∀ i, (m.getD i zeroT).2.2.1.size ≤ 200) ∧ ∀ i, Fits (m.getD i zeroT)
/-- A key's bytes. -/
def keyB (m : List VT) : ByteArray := ⟨(putL (spellL m)).toArray⟩
theorem keyB_inj {a b : List VT} (ha : GoodK a) (hb : GoodK b) (h : keyB a = keyB b) : a = b := by
  have e : putL (spellL a) = putL (spellL b) := by
    unfold keyB at h
    injection h with h
    simpa using congrArg Array.toList h
  exact spellL_inj _ _ (putL_inj _ _ (spellL_good ha.2.2) (spellL_good hb.2.2) e)
theorem keyB_size {m : List VT} (h : GoodK m) : (keyB m).size ≤ 20000 := by
  have h1 := spellL_length m h.2.1
  have h2 := putL_length (spellL m) (fun j hj => by
    rw [List.getD_eq_getElem?_getD, List.getElem?_eq_getElem hj]
    exact (spellL_good h.2.2 _ (List.getElem_mem hj)).1)
  have : (keyB m).size = (putL (spellL m)).length := by simp [keyB, ByteArray.size]
  have := h.1
  omega

end Go.Proofs.Ytofpakpbbpcalaa

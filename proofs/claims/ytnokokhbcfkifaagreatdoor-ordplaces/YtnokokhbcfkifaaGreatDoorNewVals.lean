/-
  Rows of values in a block of their own, as a literal lays them; how values and rows stand: plain facts of the order.
-/
import Derived.Test.YtnokokhbcfkifaaGreatDoorValCmpG
namespace Go.Proofs.YtnokokhbcfkifaaGreatDoor
open Go.RowKit

theorem vals_new1 (w : World) (k n : Int) (s : ByteArray) (f : Nat) (t : TypeId) (h : Fits (k, n, s, f)) :
    Vals (w.alloc (.cells #[.int .i64 k, .int .i64 n, .string s, .float .f64 f] t)) (some ⟨w.heap.size, 0, none⟩) 1 [(k, n, s, f)] := by
  refine ⟨rfl, fun i => ?_, .inr ⟨_, _, rfl, fun i hi => ?_⟩⟩
  · match i with
    | 0 => exact h
    | i + 1 => exact fits_zero
  · match i, hi with
    | 0, _ => exact ⟨by simp, by simp, by simp, by simp⟩

theorem vals_new2 (w : World) (k n k' n' : Int) (s s' : ByteArray) (f f' : Nat) (t : TypeId) (h : Fits (k, n, s, f)) (h' : Fits (k', n', s', f')) :
    Vals (w.alloc (.cells #[.int .i64 k, .int .i64 n, .string s, .float .f64 f, .int .i64 k', .int .i64 n', .string s', .float .f64 f'] t)) (some ⟨w.heap.size, 0, none⟩) 2 [(k, n, s, f), (k', n', s', f')] := by
  refine ⟨rfl, fun i => ?_, .inr ⟨_, _, rfl, fun i hi => ?_⟩⟩
  · match i with
    | 0 => exact h
    | 1 => exact h'
    | i + 2 => exact fits_zero
  · match i, hi with
    | 0, _ => exact ⟨by simp, by simp, by simp, by simp⟩
    | 1, _ => exact ⟨by simp, by simp, by simp, by simp⟩

theorem vals_new3 (w : World) (k n k' n' k'' n'' : Int) (s s' s'' : ByteArray) (f f' f'' : Nat) (t : TypeId) (h : Fits (k, n, s, f)) (h' : Fits (k', n', s', f')) (h'' : Fits (k'', n'', s'', f'')) :
    Vals (w.alloc (.cells #[.int .i64 k, .int .i64 n, .string s, .float .f64 f, .int .i64 k', .int .i64 n', .string s', .float .f64 f', .int .i64 k'', .int .i64 n'', .string s'', .float .f64 f''] t)) (some ⟨w.heap.size, 0, none⟩) 3
      [(k, n, s, f), (k', n', s', f'), (k'', n'', s'', f'')] := by
  refine ⟨rfl, fun i => ?_, .inr ⟨_, _, rfl, fun i hi => ?_⟩⟩
  · match i with
    | 0 => exact h
    | 1 => exact h'
    | 2 => exact h''
    | i + 3 => exact fits_zero
  · match i, hi with
    | 0, _ => exact ⟨by simp, by simp, by simp, by simp⟩
    | 1, _ => exact ⟨by simp, by simp, by simp, by simp⟩
    | 2, _ => exact ⟨by simp, by simp, by simp, by simp⟩

theorem vals_of1 {w : World} {b : Nat} {k n : Int} {s : ByteArray} {f : Nat} (c0 : w.cell? ⟨b, 0, none⟩ = some (.int .i64 k)) (c1 : w.cell? ⟨b, 1, none⟩ = some (.int .i64 n)) (c2 : w.cell? ⟨b, 2, none⟩ = some (.string s))
    (c3 : w.cell? ⟨b, 3, none⟩ = some (.float .f64 f)) (h : Fits (k, n, s, f)) : Vals w (some ⟨b, 0, none⟩) 1 [(k, n, s, f)] := by
  refine ⟨rfl, fun i => ?_, .inr ⟨_, _, rfl, fun i hi => ?_⟩⟩
  · match i with
    | 0 => exact h
    | i + 1 => exact fits_zero
  · match i, hi with
    | 0, _ => exact ⟨c0, c1, c2, c3⟩

theorem vals_of2 {w : World} {b : Nat} {k n k' n' : Int} {s s' : ByteArray} {f f' : Nat} (c0 : w.cell? ⟨b, 0, none⟩ = some (.int .i64 k)) (c1 : w.cell? ⟨b, 1, none⟩ = some (.int .i64 n)) (c2 : w.cell? ⟨b, 2, none⟩ = some (.string s))
    (c3 : w.cell? ⟨b, 3, none⟩ = some (.float .f64 f)) (c4 : w.cell? ⟨b, 4, none⟩ = some (.int .i64 k')) (c5 : w.cell? ⟨b, 5, none⟩ = some (.int .i64 n')) (c6 : w.cell? ⟨b, 6, none⟩ = some (.string s'))
    (c7 : w.cell? ⟨b, 7, none⟩ = some (.float .f64 f')) (h : Fits (k, n, s, f)) (h' : Fits (k', n', s', f')) : Vals w (some ⟨b, 0, none⟩) 2 [(k, n, s, f), (k', n', s', f')] := by
  refine ⟨rfl, fun i => ?_, .inr ⟨_, _, rfl, fun i hi => ?_⟩⟩
  · match i with
    | 0 => exact h
    | 1 => exact h'
    | i + 2 => exact fits_zero
  · match i, hi with
    | 0, _ => exact ⟨c0, c1, c2, c3⟩
    | 1, _ => exact ⟨c4, c5, c6, c7⟩

/-- Two rows of two, each in a new block. -/
theorem two_new (w : World) (k n k' n' : Int) (s s' : ByteArray) (f f' : Nat) (h : Fits (k, n, s, f)) (h' : Fits (k', n', s', f')) (p m p' m' : Int) (r r' : ByteArray) (g g' : Nat) (i : Fits (p, m, r, g)) (i' : Fits (p', m', r', g')) (t : TypeId) :
    Vals ((w.alloc (.cells #[.int .i64 k, .int .i64 n, .string s, .float .f64 f, .int .i64 k', .int .i64 n', .string s', .float .f64 f'] t)).alloc (.cells #[.int .i64 p, .int .i64 m, .string r, .float .f64 g, .int .i64 p', .int .i64 m', .string r', .float .f64 g'] t)).drew
      (some ⟨w.heap.size, 0, none⟩) 2 [(k, n, s, f), (k', n', s', f')] ∧
    Vals ((w.alloc (.cells #[.int .i64 k, .int .i64 n, .string s, .float .f64 f, .int .i64 k', .int .i64 n', .string s', .float .f64 f'] t)).alloc (.cells #[.int .i64 p, .int .i64 m, .string r, .float .f64 g, .int .i64 p', .int .i64 m', .string r', .float .f64 g'] t)).drew
      (some ⟨w.heap.size + 1, 0, none⟩) 2 [(p, m, r, g), (p', m', r', g')] ∧
    Up w ((w.alloc (.cells #[.int .i64 k, .int .i64 n, .string s, .float .f64 f, .int .i64 k', .int .i64 n', .string s', .float .f64 f'] t)).alloc (.cells #[.int .i64 p, .int .i64 m, .string r, .float .f64 g, .int .i64 p', .int .i64 m', .string r', .float .f64 g'] t)).drew := by
  refine ⟨(vals_new2 w k n k' n' s s' f f' t h h').up ((Up.refl _).alloc _).drew, ?_, (((Up.refl _).alloc _).alloc _).drew⟩
  have := (vals_new2 (w.alloc (.cells #[.int .i64 k, .int .i64 n, .string s, .float .f64 f, .int .i64 k', .int .i64 n', .string s', .float .f64 f'] t)) p m p' m' r r' g g' t i i').up (Up.refl _).drew
  simpa using this

/-- A row's beginning. -/
theorem Vals.take {w : World} {a : Option Addr} {n : Nat} {l : List VT} (h : Vals w a n l) (m : Nat) (hm : m ≤ n) : Vals w a m (l.take m) := by
  obtain ⟨hl, hg, hx⟩ := h
  have e : ∀ i, i < m → (l.take m).getD i zeroT = l.getD i zeroT := fun i hi => by
    rw [List.getD_eq_getElem?_getD, List.getElem?_take, if_pos hi, List.getD_eq_getElem?_getD]
  refine ⟨by rw [List.length_take, hl]; omega, fun i => ?_, ?_⟩
  · by_cases hi : i < m
    · rw [e i hi]; exact hg i
    · rw [List.getD_eq_getElem?_getD, List.getElem?_eq_none (by rw [List.length_take]; omega)]
      exact fits_zero
  · rcases hx with h0 | ⟨b, off, ha, hx⟩
    · exact .inl (by omega)
    · exact .inr ⟨b, off, ha, fun i hi => by rw [e i hi]; exact hx i (by omega)⟩

/-! How values stand. -/

theorem cmpI_cases (x y : Int) : (cmpI x y = -1 ∧ x < y) ∨ (cmpI x y = 0 ∧ x = y) ∨ (cmpI x y = 1 ∧ y < x) := by
  unfold cmpI
  by_cases h1 : x < y
  · exact .inl ⟨if_pos h1, h1⟩
  · by_cases h2 : y < x
    · exact .inr (.inr ⟨by rw [if_neg h1, if_pos h2], h2⟩)
    · exact .inr (.inl ⟨by rw [if_neg h1, if_neg h2], by omega⟩)
theorem cmpI_self (x : Int) : cmpI x x = 0 := by rcases cmpI_cases x x with h | h | h <;> omega
theorem cmpN_eq (a b : Nat) : cmpN a b = cmpI (ordN a) (ordN b) := by
  unfold cmpN cmpI
  by_cases h1 : ordN a < ordN b
  · rw [if_pos h1, if_pos (by omega)]
  · by_cases h2 : ordN b < ordN a
    · rw [if_neg h1, if_pos h2, if_neg (by omega), if_pos (by omega)]
    · rw [if_neg h1, if_neg h2, if_neg (by omega), if_neg (by omega)]

open Go.Lib in
theorem cmpB_cases : ∀ (s t : List UInt8), (compareBytes s t = -1 ∧ compareBytes t s = 1) ∨ (compareBytes s t = 0 ∧ s = t) ∨ (compareBytes s t = 1 ∧ compareBytes t s = -1)
  | [], [] => .inr (.inl ⟨rfl, rfl⟩)
  | [], _ :: _ => .inl ⟨rfl, rfl⟩
  | _ :: _, [] => .inr (.inr ⟨rfl, rfl⟩)
  | a :: s, b :: t => by
    unfold compareBytes
    by_cases h1 : a < b
    · exact .inl ⟨if_pos h1, by rw [if_neg (UInt8.lt_asymm h1), if_pos h1]⟩
    · by_cases h2 : b < a
      · exact .inr (.inr ⟨by rw [if_neg h1, if_pos h2], if_pos h2⟩)
      · have e : a = b := UInt8.le_antisymm (UInt8.not_lt.1 h2) (UInt8.not_lt.1 h1)
        rw [if_neg h1, if_neg h2, if_neg h2, if_neg h1]
        rcases cmpB_cases s t with ⟨x, y⟩ | ⟨x, y⟩ | ⟨x, y⟩
        · exact .inl ⟨x, y⟩
        · exact .inr (.inl ⟨x, by rw [e, y]⟩)
        · exact .inr (.inr ⟨x, y⟩)

open Go.Lib in
theorem cmpB_less : ∀ (s t : List UInt8), Op.bytesLess s t = decide (compareBytes s t = -1)
  | [], [] => by simp [Op.bytesLess, compareBytes]
  | [], _ :: _ => by simp [Op.bytesLess, compareBytes]
  | _ :: _, [] => by simp [Op.bytesLess, compareBytes]
  | a :: s, b :: t => by
    unfold compareBytes
    rw [Op.bytesLess, cmpB_less s t]
    by_cases h1 : a < b
    · simp [h1]
    · by_cases h2 : b < a
      · have : (a == b) = false := by simp; intro e; subst e; exact h1 h2
        simp [h1, h2, this]
      · have e : a = b := UInt8.le_antisymm (UInt8.not_lt.1 h2) (UInt8.not_lt.1 h1)
        subst e
        simp [h1]

open Go.Lib in
theorem cmpB_trans : ∀ (s t u : List UInt8), compareBytes s t = -1 → compareBytes t u = -1 → compareBytes s u = -1
  | [], [], _ => by simp [compareBytes]
  | [], _ :: _, [] => by simp [compareBytes]
  | [], _ :: _, _ :: _ => by simp [compareBytes]
  | _ :: _, [], _ => by simp [compareBytes]
  | _ :: _, _ :: _, [] => by simp [compareBytes]
  | a :: s, b :: t, c :: u => by
    intro h1 h2
    unfold compareBytes at h1 h2 ⊢
    by_cases ab : a < b
    · by_cases bc : b < c
      · rw [if_pos (UInt8.lt_trans ab bc)]
      · rw [if_neg bc] at h2
        by_cases cb : c < b
        · rw [if_pos cb] at h2; omega
        · have e : b = c := UInt8.le_antisymm (UInt8.not_lt.1 cb) (UInt8.not_lt.1 bc)
          subst e
          rw [if_pos ab]
    · rw [if_neg ab] at h1
      by_cases ba : b < a
      · rw [if_pos ba] at h1; omega
      · rw [if_neg ba] at h1
        have e : a = b := UInt8.le_antisymm (UInt8.not_lt.1 ba) (UInt8.not_lt.1 ab)
        subst e
        by_cases bc : a < c
        · rw [if_pos bc]
        · rw [if_neg bc] at h2 ⊢
          by_cases cb : c < a
          · rw [if_pos cb] at h2; omega
          · rw [if_neg cb] at h2 ⊢
            exact cmpB_trans s t u h1 h2

theorem cmpS_cases (s t : ByteArray) : (cmpS s t = -1 ∧ cmpS t s = 1) ∨ (cmpS s t = 0 ∧ s = t) ∨ (cmpS s t = 1 ∧ cmpS t s = -1) := by
  rcases cmpB_cases s.data.toList t.data.toList with h | ⟨h, e⟩ | h
  · exact .inl h
  · refine .inr (.inl ⟨h, ?_⟩)
    have : s.data = t.data := Array.toList_inj.1 e
    cases s; cases t; simp_all
  · exact .inr (.inr h)
theorem cmpS_self (s : ByteArray) : cmpS s s = 0 := by rcases cmpS_cases s s with ⟨h, h'⟩ | h | ⟨h, h'⟩ <;> omega
theorem cmpS_trans {s t u : ByteArray} (h : cmpS s t = -1) (h' : cmpS t u = -1) : cmpS s u = -1 := cmpB_trans _ _ _ h h'

theorem cmpI_neg {x y : Int} : cmpI x y = -1 ↔ x < y := by rcases cmpI_cases x y with h | h | h <;> omega
theorem cmpI_zero {x y : Int} : cmpI x y = 0 ↔ x = y := by rcases cmpI_cases x y with h | h | h <;> omega
theorem cmpI_pos {x y : Int} : cmpI x y = 1 ↔ y < x := by rcases cmpI_cases x y with h | h | h <;> omega
theorem cmpS_zero {s t : ByteArray} : cmpS s t = 0 ↔ s = t := by
  constructor
  · intro h; rcases cmpS_cases s t with ⟨h', _⟩ | ⟨_, e⟩ | ⟨h', _⟩
    · omega
    · exact e
    · omega
  · rintro rfl; exact cmpS_self s

theorem orI_neg {a b c d : Int} : orI a b c d = -1 ↔ a = -1 ∨ (a = 0 ∧ (b = -1 ∨ (b = 0 ∧ (c = -1 ∨ (c = 0 ∧ d = -1))))) := by
  unfold orI
  by_cases h0 : a = 0
  · by_cases h1 : b = 0
    · by_cases h2 : c = 0
      · rw [if_pos h0, if_pos h1, if_pos h2]; omega
      · rw [if_pos h0, if_pos h1, if_neg h2]; omega
    · rw [if_pos h0, if_neg h1]; omega
  · rw [if_neg h0]; omega
theorem orI_zero {a b c d : Int} : orI a b c d = 0 ↔ a = 0 ∧ b = 0 ∧ c = 0 ∧ d = 0 := by
  unfold orI
  by_cases h0 : a = 0
  · by_cases h1 : b = 0
    · by_cases h2 : c = 0
      · rw [if_pos h0, if_pos h1, if_pos h2]; omega
      · rw [if_pos h0, if_pos h1, if_neg h2]; omega
    · rw [if_pos h0, if_neg h1]; omega
  · rw [if_neg h0]; omega
theorem orI_pos {a b c d : Int} : orI a b c d = 1 ↔ a = 1 ∨ (a = 0 ∧ (b = 1 ∨ (b = 0 ∧ (c = 1 ∨ (c = 0 ∧ d = 1))))) := by
  unfold orI
  by_cases h0 : a = 0
  · by_cases h1 : b = 0
    · by_cases h2 : c = 0
      · rw [if_pos h0, if_pos h1, if_pos h2]; omega
      · rw [if_pos h0, if_pos h1, if_neg h2]; omega
    · rw [if_pos h0, if_neg h1]; omega
  · rw [if_neg h0]; omega

theorem cmpV_neg {a b : VT} : cmpV a b = -1 ↔ a.1 < b.1 ∨ (a.1 = b.1 ∧ (a.2.1 < b.2.1 ∨ (a.2.1 = b.2.1 ∧ (cmpS a.2.2.1 b.2.2.1 = -1 ∨ (a.2.2.1 = b.2.2.1 ∧ ordN a.2.2.2 < ordN b.2.2.2))))) := by
  unfold cmpV
  rw [orI_neg, cmpI_neg, cmpI_zero, cmpI_neg, cmpI_zero, cmpS_zero, cmpN_eq, cmpI_neg]
  simp only [Int.ofNat_lt]
theorem cmpV_zero {a b : VT} : cmpV a b = 0 ↔ a.1 = b.1 ∧ a.2.1 = b.2.1 ∧ a.2.2.1 = b.2.2.1 ∧ ordN a.2.2.2 = ordN b.2.2.2 := by
  unfold cmpV
  rw [orI_zero, cmpI_zero, cmpI_zero, cmpS_zero, cmpN_eq, cmpI_zero]
  simp only [Int.ofNat_inj]
theorem cmpV_self (a : VT) : cmpV a a = 0 := cmpV_zero.2 ⟨rfl, rfl, rfl, rfl⟩
theorem cmpV_same {a b : VT} (ha : Fits a) (hb : Fits b) (h : cmpV a b = 0) : a = b := by
  obtain ⟨h0, h1, h2, h3⟩ := cmpV_zero.1 h
  have := ordN_inj ha.2.2.2.2.2 hb.2.2.2.2.2 h3
  obtain ⟨a0, a1, a2, a3⟩ := a
  obtain ⟨b0, b1, b2, b3⟩ := b
  simp_all

/-- Either way round. -/
def Tri (x y : Int) : Prop := (x = -1 ∧ y = 1) ∨ (x = 0 ∧ y = 0) ∨ (x = 1 ∧ y = -1)
theorem orI_tri {a a' b b' c c' d d' : Int} (h0 : Tri a a') (h1 : Tri b b') (h2 : Tri c c') (h3 : Tri d d') : Tri (orI a b c d) (orI a' b' c' d') := by
  rcases h0 with ⟨rfl, rfl⟩ | ⟨rfl, rfl⟩ | ⟨rfl, rfl⟩
  · exact .inl ⟨rfl, rfl⟩
  · rcases h1 with ⟨rfl, rfl⟩ | ⟨rfl, rfl⟩ | ⟨rfl, rfl⟩
    · exact .inl ⟨rfl, rfl⟩
    · rcases h2 with ⟨rfl, rfl⟩ | ⟨rfl, rfl⟩ | ⟨rfl, rfl⟩
      · exact .inl ⟨rfl, rfl⟩
      · exact h3
      · exact .inr (.inr ⟨rfl, rfl⟩)
    · exact .inr (.inr ⟨rfl, rfl⟩)
  · exact .inr (.inr ⟨rfl, rfl⟩)
theorem cmpI_tri (x y : Int) : Tri (cmpI x y) (cmpI y x) := by
  rcases cmpI_cases x y with ⟨h, l⟩ | ⟨h, l⟩ | ⟨h, l⟩
  · exact .inl ⟨h, cmpI_pos.2 l⟩
  · exact .inr (.inl ⟨h, cmpI_zero.2 l.symm⟩)
  · exact .inr (.inr ⟨h, cmpI_neg.2 l⟩)
theorem cmpS_tri (s t : ByteArray) : Tri (cmpS s t) (cmpS t s) := by
  rcases cmpS_cases s t with h | ⟨h, l⟩ | h
  · exact .inl h
  · exact .inr (.inl ⟨h, cmpS_zero.2 l.symm⟩)
  · exact .inr (.inr h)
theorem cmpV_cases (a b : VT) : (cmpV a b = -1 ∧ cmpV b a = 1) ∨ (cmpV a b = 0 ∧ cmpV b a = 0) ∨ (cmpV a b = 1 ∧ cmpV b a = -1) := by
  refine orI_tri (cmpI_tri _ _) (cmpI_tri _ _) (cmpS_tri _ _) ?_
  rw [cmpN_eq, cmpN_eq]
  exact cmpI_tri _ _

theorem cmpV_turn (a b : VT) : cmpV a b = - cmpV b a := by rcases cmpV_cases a b with h | h | h <;> omega
theorem cmpV_least (a b : VT) : -1 ≤ cmpV a b ∧ cmpV a b ≤ 1 := by rcases cmpV_cases a b with h | h | h <;> omega

theorem cmpV_trans {a b c : VT} (h : cmpV a b = -1) (h' : cmpV b c = -1) : cmpV a c = -1 := by
  rw [cmpV_neg] at h h' ⊢
  rcases h with h | ⟨h, h1 | ⟨h1, h2 | ⟨h2, h3⟩⟩⟩
  · rcases h' with h' | ⟨h', _⟩
    · exact .inl (by omega)
    · exact .inl (by omega)
  · rcases h' with h' | ⟨h', k1 | ⟨k1, _⟩⟩
    · exact .inl (by omega)
    · exact .inr ⟨by omega, .inl (by omega)⟩
    · exact .inr ⟨by omega, .inl (by omega)⟩
  · rcases h' with h' | ⟨h', k1 | ⟨k1, k2 | ⟨k2, _⟩⟩⟩
    · exact .inl (by omega)
    · exact .inr ⟨by omega, .inl (by omega)⟩
    · exact .inr ⟨by omega, .inr ⟨by omega, .inl (cmpS_trans h2 k2)⟩⟩
    · exact .inr ⟨by omega, .inr ⟨by omega, .inl (by rw [← k2]; exact h2)⟩⟩
  · rcases h' with h' | ⟨h', k1 | ⟨k1, k2 | ⟨k2, k3⟩⟩⟩
    · exact .inl (by omega)
    · exact .inr ⟨by omega, .inl (by omega)⟩
    · exact .inr ⟨by omega, .inr ⟨by omega, .inl (by rw [h2]; exact k2)⟩⟩
    · exact .inr ⟨by omega, .inr ⟨by omega, .inr ⟨h2.trans k2, by omega⟩⟩⟩

/-- Where a isn't behind b, nor b behind c, a isn't behind c. -/
theorem cmpV_le {a b c : VT} (ha : Fits a) (hb : Fits b) (hc : Fits c) (h : cmpV a b ≤ 0) (h' : cmpV b c ≤ 0) : cmpV a c ≤ 0 := by
  rcases cmpV_cases a b with ⟨x, _⟩ | ⟨x, _⟩ | ⟨x, _⟩
  · rcases cmpV_cases b c with ⟨y, _⟩ | ⟨y, _⟩ | ⟨y, _⟩
    · have := cmpV_trans x y; omega
    · rw [← cmpV_same hb hc y]; omega
    · omega
  · rw [cmpV_same ha hb x]; exact h'
  · omega

end Go.Proofs.YtnokokhbcfkifaaGreatDoor

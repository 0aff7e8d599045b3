/-
  Names and shapes, plainly: what is a name, which field has one, what is a shape; no function of the program.
-/
import Derived.Test.YteigjboelhcaiaaSlcs
import Derived.Test.YteigjboelhcaiaaValIs
import Derived.Lib.Strings
namespace Go.Proofs.Yteigjboelhcaiaa
open Go.RowKit

theorem str_yes {s t : ByteArray} (h : s = t) : (s.toList == t.toList) = true := by rw [h]; simp
theorem str_no {s t : ByteArray} (h : ¬ s = t) : (s.toList == t.toList) = false := by
  rw [beq_eq_false_iff_ne]
  intro e
  rw [Lib.toList_data, Lib.toList_data] at e
  exact h (ByteArray.ext (Array.toList_inj.1 e))

/-- A sign that a name may have. -/
def nameC (c : UInt8) : Bool := (decide (97 ≤ c.toNat) && decide (c.toNat ≤ 122)) || (decide (48 ≤ c.toNat) && decide (c.toNat ≤ 57)) || decide (c.toNat = 95)
/-- A name. -/
def nameB (s : ByteArray) : Bool := s.data.toList.all nameC && decide (1 ≤ s.size) && decide (s.size ≤ 20)
theorem nameB_short {s : ByteArray} (h : s.size < 1) : nameB s = false := by
  unfold nameB
  rw [decide_eq_false (by omega : ¬ 1 ≤ s.size)]; simp
theorem nameB_long {s : ByteArray} (h : 20 < s.size) : nameB s = false := by
  unfold nameB
  rw [decide_eq_false (by omega : ¬ s.size ≤ 20)]; simp
theorem nameB_bad {s : ByteArray} {k : Nat} (hk : k < s.size) (h : nameC s[k] = false) : nameB s = false := by
  have : s.data.toList.all nameC = false := by
    rw [List.all_eq_false]
    exact ⟨s[k], by rw [Array.mem_toList_iff]; exact Array.getElem_mem hk, by simpa using h⟩
  unfold nameB
  rw [this]; simp
theorem nameB_good {s : ByteArray} (h1 : 1 ≤ s.size) (h2 : s.size ≤ 20) (h : ∀ j (hj : j < s.size), nameC s[j] = true) : nameB s = true := by
  have : s.data.toList.all nameC = true := by
    rw [List.all_eq_true]
    intro c hc
    obtain ⟨k, hk, rfl⟩ := List.getElem_of_mem hc
    exact h k (by simpa using hk)
  unfold nameB
  rw [this, decide_eq_true h1, decide_eq_true h2]; rfl

/-- The first field of a name. -/
def fieldI : List FT → ByteArray → Option Nat
  | [], _ => none
  | f :: l, s => if f.1 = s then some 0 else (fieldI l s).map (· + 1)
theorem fieldI_hit (l : List FT) (s : ByteArray) (k : Nat) (hk : k < l.length) (he : ∀ j, j < k → ¬ (l.getD j zeroF).1 = s) (h : (l.getD k zeroF).1 = s) : fieldI l s = some k := by
  induction l generalizing k with
  | nil => simp at hk
  | cons f l ih =>
    cases k with
    | zero =>
      simp only [List.getD_cons_zero] at h
      rw [fieldI, if_pos h]
    | succ k =>
      have h0 := he 0 (by omega)
      simp only [List.getD_cons_zero] at h0
      simp only [List.getD_cons_succ] at h
      rw [fieldI, if_neg h0, ih k (by simpa using hk) (fun j hj => by simpa only [List.getD_cons_succ] using he (j + 1) (by omega)) h]
      rfl
theorem fieldI_miss (l : List FT) (s : ByteArray) (he : ∀ j, j < l.length → ¬ (l.getD j zeroF).1 = s) : fieldI l s = none := by
  induction l with
  | nil => rfl
  | cons f l ih =>
    have h0 := he 0 (by simp)
    simp only [List.getD_cons_zero] at h0
    rw [fieldI, if_neg h0, ih (fun j hj => by simpa only [List.getD_cons_succ] using he (j + 1) (by simpa using hj))]
    rfl
/-- What Field answers. -/
def fieldN (l : List FT) (s : ByteArray) : Int := match fieldI l s with
  | some k => k
  | none => 0
def fieldB (l : List FT) (s : ByteArray) : Bool := (fieldI l s).isSome

/-- One field of a shape: a name, a kind, no field ahead of it of that name. -/
def goodF (l : List FT) (i : Nat) : Bool := nameB (l.getD i zeroF).1 && decide (1 ≤ (l.getD i zeroF).2) && decide ((l.getD i zeroF).2 ≤ 5) && (List.range i).all fun j => decide (¬ (l.getD j zeroF).1 = (l.getD i zeroF).1)
/-- A shape. -/
def isF (l : List FT) : Bool := ((List.range l.length).all fun i => goodF l i) && decide (1 ≤ l.length) && decide (l.length ≤ 8)
theorem goodF_name {l : List FT} {i : Nat} (h : nameB (l.getD i zeroF).1 = false) : goodF l i = false := by unfold goodF; rw [h]; rfl
theorem goodF_low {l : List FT} {i : Nat} (h : (l.getD i zeroF).2 < 1) : goodF l i = false := by
  unfold goodF; rw [decide_eq_false (by omega : ¬ 1 ≤ (l.getD i zeroF).2)]; simp
theorem goodF_high {l : List FT} {i : Nat} (h : 5 < (l.getD i zeroF).2) : goodF l i = false := by
  unfold goodF; rw [decide_eq_false (by omega : ¬ (l.getD i zeroF).2 ≤ 5)]; simp
theorem goodF_twice {l : List FT} {i j : Nat} (hj : j < i) (h : (l.getD j zeroF).1 = (l.getD i zeroF).1) : goodF l i = false := by
  have : ((List.range i).all fun j => decide (¬ (l.getD j zeroF).1 = (l.getD i zeroF).1)) = false := by
    rw [List.all_eq_false]
    exact ⟨j, List.mem_range.2 hj, by simpa using h⟩
  unfold goodF; rw [this]; simp
theorem goodF_all {l : List FT} {i : Nat} (hn : nameB (l.getD i zeroF).1 = true) (h1 : 1 ≤ (l.getD i zeroF).2) (h2 : (l.getD i zeroF).2 ≤ 5) (h : ∀ j, j < i → ¬ (l.getD j zeroF).1 = (l.getD i zeroF).1) : goodF l i = true := by
  have : ((List.range i).all fun j => decide (¬ (l.getD j zeroF).1 = (l.getD i zeroF).1)) = true := by
    rw [List.all_eq_true]
    exact fun j hj => by simpa using h j (List.mem_range.1 hj)
  unfold goodF; rw [this, hn, decide_eq_true h1, decide_eq_true h2]; rfl
theorem isF_bad {l : List FT} {i : Nat} (hi : i < l.length) (h : goodF l i = false) : isF l = false := by
  have : ((List.range l.length).all fun i => goodF l i) = false := by
    rw [List.all_eq_false]
    exact ⟨i, List.mem_range.2 hi, by simpa using h⟩
  unfold isF; rw [this]; rfl
theorem isF_none {l : List FT} (h : l.length < 1) : isF l = false := by
  unfold isF; rw [decide_eq_false (by omega : ¬ 1 ≤ l.length)]; simp
theorem isF_many {l : List FT} (h : 8 < l.length) : isF l = false := by
  unfold isF; rw [decide_eq_false (by omega : ¬ l.length ≤ 8)]; simp
theorem isF_all {l : List FT} (h : ∀ i, i < l.length → goodF l i = true) : isF l = (decide (1 ≤ l.length) && decide (l.length ≤ 8)) := by
  have : ((List.range l.length).all fun i => goodF l i) = true := by
    rw [List.all_eq_true]
    exact fun i hi => h i (List.mem_range.1 hi)
  unfold isF; rw [this]; simp

/-- What Check answers. -/
def checkN (l : List FT) (m : List VT) : Int :=
  if isF l = true then
    if m.length = l.length then
      if ((List.range l.length).all fun i => isB (m.getD i zeroT) && decide ((m.getD i zeroT).1 = (l.getD i zeroF).2)) = true then 0 else 41
    else 41
  else 40
theorem checkN_schema {l : List FT} {m : List VT} (h : isF l = false) : checkN l m = 40 := by unfold checkN; rw [h]; rfl
theorem checkN_len {l : List FT} {m : List VT} (h : isF l = true) (hm : ¬ m.length = l.length) : checkN l m = 41 := by unfold checkN; rw [if_pos h, if_neg hm]
theorem checkN_bad {l : List FT} {m : List VT} (h : isF l = true) {i : Nat} (hi : i < l.length) (hb : (isB (m.getD i zeroT) && decide ((m.getD i zeroT).1 = (l.getD i zeroF).2)) = false) : checkN l m = 41 := by
  have : ((List.range l.length).all fun i => isB (m.getD i zeroT) && decide ((m.getD i zeroT).1 = (l.getD i zeroF).2)) = false := by
    rw [List.all_eq_false]
    exact ⟨i, List.mem_range.2 hi, by simpa using hb⟩
  unfold checkN
  rw [if_pos h, this]
  split <;> rfl
theorem checkN_good {l : List FT} {m : List VT} (h : isF l = true) (hm : m.length = l.length) (hb : ∀ i, i < l.length → (isB (m.getD i zeroT) && decide ((m.getD i zeroT).1 = (l.getD i zeroF).2)) = true) : checkN l m = 0 := by
  have : ((List.range l.length).all fun i => isB (m.getD i zeroT) && decide ((m.getD i zeroT).1 = (l.getD i zeroF).2)) = true := by
    rw [List.all_eq_true]
    exact fun i hi => hb i (List.mem_range.1 hi)
  unfold checkN
  rw [if_pos h, if_pos hm, if_pos this]

end Go.Proofs.Yteigjboelhcaiaa

/-
  Plain facts of quoted texts, and what strconv.index and strconv.contains answer.
-/
import Derived.Test.YtjnnmghehoodhaaGreatDoorTextUnqC
import Derived.Test.YtjnnmghehoodhaaGreatDoorShelf2
import Derived.Lib.IndexLaws
import Derived.Lib.RuneBytes
import Derived.Lib.Bytealg
namespace Go.Proofs.YtjnnmghehoodhaaGreatDoor
open Go.ChangeShapes Go.WideShapes Go.ChangeAt Go.RowKit
attribute [local go_sem ↓] Go.wp_at_zero Go.wp_at_succ
set_option linter.unusedVariables false
set_option maxRecDepth 100000

theorem sindex_calls (s : ByteArray) (c : UInt8) (w : World) : Calls Tryz.prog 80 #[.string s, .int .u8 (c.toNat : Int)] w fun e w' => e = .returned (.int .i64 (Go.Lib.indexByte s.data.toList c)) ∧ w' = w := by
  have hc : ((c.toNat : Int)).toNat.toUInt8 = c := by simp
  go_enter Tryz.func80, Tryz.ntmps80
  go_wp2
  rw [run_callFunc_extern Tryz.func88 (by kernel_rfl) (by kernel_rfl) (by kernel_rfl) (e := Extern.BytealgIndexByte.indexByte) (by kernel_rfl), Go.Lib.run_indexByteString]
  simp only [Result.andThen]
  rw [Oper.upon_value, hc]
  go_wp2
  go_ret
  exact ⟨rfl, rfl⟩
theorem scontains_calls (s : ByteArray) (z : Int) (c : UInt8) (hz : z = (c.toNat : Int)) (w : World) : Calls Tryz.prog 81 #[.string s, .int .u8 z] w fun e w' => e = .returned (.bool (Go.Lib.indexByte s.data.toList c != -1)) ∧ w' = w := by
  subst hz
  obtain ⟨x, hx⟩ : ∃ x, Go.Lib.indexByte s.data.toList c = x := ⟨_, rfl⟩
  have hI := sindex_calls s c w
  rw [hx] at hI ⊢
  clear hx
  go_enter Tryz.func81, Tryz.ntmps81
  go_wp2_with fail
  go_at_call 80
  refine hI.mono ?_
  rintro _ w1 ⟨rfl, hw1⟩
  obtain rfl : w = w1 := hw1.symm
  go_wp2
  go_ret
  exact ⟨rfl, rfl⟩

/-- Where the first such sign stands. -/
theorem idx_cases (l : List UInt8) (c : UInt8) : Go.Lib.indexByte l c = -1 ∨ ∃ k : Nat, Go.Lib.indexByte l c = (k : Int) ∧ k < l.length := by
  rcases Int.lt_or_le (Go.Lib.indexByte l c) 0 with h | h
  · have := Go.Lib.indexByte_ge l c
    exact .inl (by omega)
  · obtain ⟨k, hk⟩ : ∃ k : Nat, Go.Lib.indexByte l c = (k : Int) := ⟨(Go.Lib.indexByte l c).toNat, by omega⟩
    refine .inr ⟨k, hk, ?_⟩
    have h1 := (Go.Lib.indexByte_some hk).1
    rcases Nat.lt_or_ge k l.length with h2 | h2
    · exact h2
    · rw [List.getElem?_eq_none h2] at h1; cases h1
theorem idx_in {l : List UInt8} {c : UInt8} (h : c ∈ l) : Go.Lib.indexByte l c ≠ -1 := by
  intro e
  obtain ⟨k, hk, rfl⟩ := List.getElem_of_mem h
  exact Go.Lib.indexByte_none e k (List.getElem?_eq_getElem hk)

/-- A quoted text without a backslash ahead of the first quote is the text itself. -/
theorem quo_plain : ∀ (l : List UInt8) (k : Nat), (quoL l ++ [34])[k]? = some 34 → (∀ j, j < k → (quoL l ++ [34])[j]? ≠ some 34) → (∀ j, j ≤ k → (quoL l ++ [34])[j]? ≠ some 92) → quoL l = l ∧ k = l.length
  | [], k, h1, _, _ => by
    cases k with
    | zero => exact ⟨rfl, rfl⟩
    | succ k => simp [quoL] at h1
  | c :: l, k, h1, h2, h3 => by
    by_cases hc : c = 34 ∨ c = 92
    · have e : quoC c = [92, c] := by unfold quoC; exact if_pos hc
      have := h3 0 (Nat.zero_le _)
      simp [quoL, e] at this
    · by_cases hp : 32 ≤ c.toNat ∧ c.toNat ≤ 126
      · have e : quoC c = [c] := by unfold quoC; rw [if_neg hc, if_pos hp]
        have eq : quoL (c :: l) ++ [34] = c :: (quoL l ++ [34]) := by simp [quoL, e]
        rw [eq] at h1 h2 h3
        cases k with
        | zero =>
          exfalso
          simp at h1
          exact hc (.inl h1)
        | succ k =>
          obtain ⟨i1, i2⟩ := quo_plain l k (by simpa using h1) (fun j hj => by simpa using h2 (j + 1) (by omega)) (fun j hj => by simpa using h3 (j + 1) (by omega))
          refine ⟨by simp [quoL, e, i1], by simp [i2]⟩
      · have e : quoC c = [92, 120, hexHi c, hexLo c] := by unfold quoC; rw [if_neg hc, if_neg hp]
        have := h3 0 (Nat.zero_le _)
        simp [quoL, e] at this
/-- The first sign of a printed byte: a quote and a line's end are none. -/
theorem quoC_head (c : UInt8) : ∃ d r, quoC c = d :: r ∧ d ≠ 34 ∧ d ≠ 10 := by
  unfold quoC
  by_cases hc : c = 34 ∨ c = 92
  · rw [if_pos hc]; exact ⟨_, _, rfl, by decide, by decide⟩
  · rw [if_neg hc]
    by_cases hp : 32 ≤ c.toNat ∧ c.toNat ≤ 126
    · rw [if_pos hp]
      refine ⟨_, _, rfl, fun e => hc (.inl e), ?_⟩
      rintro rfl
      exact absurd hp (by decide)
    · rw [if_neg hp]; exact ⟨_, _, rfl, by decide, by decide⟩
/-- What is left of a quoted text. -/
def LeftT (l : List UInt8) (done : List UInt8) (T : ByteArray) : Prop := ∃ m, T.data.toList = quoL m ++ [34] ∧ done ++ m = l
theorem LeftT.ne {l d : List UInt8} {T : ByteArray} (h : LeftT l d T) : T.size ≠ 0 := by
  obtain ⟨m, hm, _⟩ := h
  rw [size_list, hm]; simp
theorem LeftT.last {l d : List UInt8} {T : ByteArray} (h : LeftT l d T) (h0 : 0 < T.size) (hq : T[0] = 34) : d = l ∧ (T.extract 1 T.size).size = 0 := by
  obtain ⟨m, hm, hd⟩ := h
  cases m with
  | nil =>
    refine ⟨by simpa using hd, ?_⟩
    rw [ext_size, size_list, hm]; rfl
  | cons c m =>
    exfalso
    obtain ⟨x, r, hx, hn, _⟩ := quoC_head c
    have : T[0] = x := at_list (l := []) (r := r ++ quoL m ++ [34]) (by rw [hm, quoL, hx]; simp) h0
    exact hn (this.symm.trans hq)
theorem LeftT.next {l d : List UInt8} {T tail : ByteArray} (h : LeftT l d T) (h0 : 0 < T.size) (hq : T[0] ≠ 34) {c : UInt8} {r : List UInt8} (ht : T.data.toList = quoC c ++ r) (hr : tail.data = r.toArray) : LeftT l (d ++ [c]) tail := by
  obtain ⟨m, hm, hd⟩ := h
  cases m with
  | nil =>
    exfalso
    exact hq (at_list (l := []) (r := []) (by rw [hm]; rfl) h0)
  | cons b m =>
    rw [hm, quoL, List.append_assoc] at ht
    obtain ⟨rfl, rfl⟩ := quoC_inj ht
    exact ⟨m, by rw [hr], by simpa using hd⟩
theorem LeftT.some {l d : List UInt8} {T : ByteArray} (h : LeftT l d T) (h0 : 0 < T.size) (hq : T[0] ≠ 34) : ∃ c r, T.data.toList = quoC c ++ r := by
  obtain ⟨m, hm, hd⟩ := h
  cases m with
  | nil => exact absurd (at_list (l := []) (r := []) (by rw [hm]; rfl) h0) hq
  | cons b m => exact ⟨b, quoL m ++ [34], by rw [hm, quoL, List.append_assoc]⟩
theorem LeftT.start {l : List UInt8} {s : ByteArray} (h : s.data.toList = quoS l) : LeftT l [] (s.extract 1 s.size) := ⟨l, by rw [drop_list, h]; rfl, rfl⟩

end Go.Proofs.YtjnnmghehoodhaaGreatDoor

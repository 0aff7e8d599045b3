/-
  The law BitsLeast walked, for every row of one to two hundred words: the row is copied into floats, and the least of these stands at no other's back and is among them.
-/
import Derived.Test.YtfabhfllobjbkaaLeast
namespace Go.Proofs.Ytfabhfllobjbkaa
open Go.ChangeShapes Go.WideShapes Go.ChangeAt Go.RowKit

theorem info_float : (Try.prog.info? 24).map (fun i => (i.zero, i.size, i.bytes)) = some (some (.float .f64 0), 1, 8) := by kernel_rfl

/-- Whether x is among the first k. -/
def thereAt (bs : List Nat) (x : Nat) : Nat → Bool
  | 0 => false
  | k + 1 => thereAt bs x k || ((bs.getD k 0 : Int) == (x : Int))

theorem thereAt_of (bs : List Nat) (x j k : Nat) (hj : j < k) (h : x = bs.getD j 0) : thereAt bs x k = true := by
  induction k with
  | zero => omega
  | succ k ih =>
    unfold thereAt
    by_cases e : j = k
    · subst e; rw [← h, beq_self_eq_true, Bool.or_true]
    · rw [ih (by omega), Bool.true_or]

theorem take_next (bs : List Nat) (k : Nat) (hk : k < bs.length) : bs.take (k + 1) = bs.take k ++ [bs.getD k 0] := by
  rw [List.take_add_one, List.getElem?_eq_getElem hk, List.getD_eq_getElem?_getD, List.getElem?_eq_getElem hk]; rfl

/-- The copy so far, behind one append more. -/
theorem copy_next {B k : Nat} {bs : List Nat} {w wr w1 : World} {v v' : Value} {o : Obj} (hk : k < bs.length) (hB : B ≤ wr.heap.size)
    (hown : wr.ownsRow B 24 1 v k ((bs.map (Value.float .f64)).take k)) (hnx : Below B w wr)
    (hown' : w1.ownsRow B 24 1 v' (k + 1) ((bs.map (Value.float .f64)).take k ++ [.float .f64 (bs.getD k 0)])) (hgrow : (wr.alloc o).grownBy w1 v.ownBlock) :
    w1.ownsRow B 24 1 v' (k + 1) ((bs.map (Value.float .f64)).take (k + 1)) ∧ Below B w w1 := by
  refine ⟨?_, (hnx.alloc hB o).grown hgrow (by simp; omega) (fun j hj => (hown.lt j hj).1)⟩
  rw [← List.map_take, take_next bs k hk, List.map_append, List.map_take]
  exact hown'

/-- A copy that is not empty: where it lies, and its cells. -/
theorem copy_cells {B n : Nat} {bs : List Nat} {wr : World} {v : Value} (h1 : 1 ≤ n) (hl : bs.length = n)
    (hown : wr.ownsRow B 24 1 v n ((bs.map (Value.float .f64)).take n)) :
    ∃ g cap, v = .slice (some ⟨g, 0, none⟩) n cap ∧ n ≤ cap ∧ ∀ j, j < n → wr.cell? ⟨g, j, none⟩ = some (.float .f64 (bs.getD j 0)) := by
  have h2 := hown.2
  rcases h2 with ⟨_, h⟩ | ⟨g, cap, cur, rfl, _, _, hc, _⟩
  · omega
  · refine ⟨g, cap, rfl, hc, fun j hj => ?_⟩
    rw [hown.cellAt j (by omega), List.take_of_length_le (by simp; omega), List.getElem?_map, List.getD_eq_getElem?_getD, List.getElem?_eq_getElem (by omega)]
    rfl

set_option maxHeartbeats 4000000 in
set_option maxRecDepth 100000 in
theorem bitsLeast_core (b off m cap : Nat) (bs : List Nat) (w : World) (hm : m + 1 ≤ 200) (hl : bs.length = m + 1)
    (hw : ∀ j, bs.getD j 0 < whole) (hc : ∀ j, j < m + 1 → w.cell? ⟨b, off + j, none⟩ = some (.int .u64 (bs.getD j 0 : Int))) :
    Calls Try.prog 6 #[.slice (some ⟨b, off, none⟩) (m + 1) cap] w fun e w' => e = .returned (.bool true) ∧ Below w.heap.size w w' := by
  obtain ⟨i0, hi, hz0, hz1, hz2⟩ := info_parts info_float
  have hrf := run_from
  have hbB : b < w.heap.size := World.block_lt_of_cell? w _ (hc 0 (by omega))
  have H := hide hc
  have HW := hide hw
  have HL := hide hl
  clear hc hw hl
  go_enter Try.func6, Try.ntmps6
  go_wp2_with (go_at_call 9; refine (known_calls _).mono ?_; rintro _ w1 ⟨rfl, hw1⟩; obtain rfl : w = w1 := hw1.symm)
  go_loopw [3, 4] (fun v i wr => ∃ k : Nat, k ≤ m + 1 ∧ i = .int .i64 k ∧ wr.ownsRow w.heap.size 24 1 v k ((bs.map (Value.float .f64)).take k) ∧ Below w.heap.size w wr)
    (fun _ i _ => m + 1 - (intOf i).toNat)
  case atStart => exact ⟨0, Nat.zero_le _, rfl, World.ownsRow_nil _ _ _ _, Below.refl _ _⟩
  case round =>
    obtain ⟨k, hk, rfl, hown, hnx⟩ := hrel
    by_cases hlt : k < m + 1
    · have hcx : wr.cell? ⟨b, off + k, none⟩ = some (.int .u64 (bs.getD k 0 : Int)) := (hnx.cell (by exact hbB)).trans (H.out k hlt)
      obtain ⟨x, hx⟩ : ∃ x, x = bs.getD k 0 := ⟨_, rfl⟩
      rw [← hx] at hcx
      have HX := hide hx
      clear hx
      go_wp2_with (at_builtin; refine wpList_append_own _ rfl _ _ 36 rfl w.heap.size 24 i0 (.float .f64 0) 1 8 Try.underlying36 hi hz0 hz1 hz2 rfl (by decide) _ _ _ rfl (hown.alloc _) ⟨wr.heap.size, 0, none⟩ 1 1 [.float .f64 x] rfl rfl ?c1 ?c2 ?c3 ?c4 ?c5 ?_)
      case c1 =>
        intro j u hj
        match j, hj with
        | 0, hj => simp at hj; subst hj; simp [Addr.add]
      case c2 => intro u hu; simp at hu; subst hu; rfl
      case c3 => unfold maxLen; omega
      case c4 => omega
      case c5 => have := hnx.size; simp; omega
      intro v' w1 hown' hgrow _
      rw [HX.out] at hown' hgrow
      have R := copy_next (by rw [HL.out]; exact hlt) hnx.size hown hnx hown' hgrow
      clear hown' hgrow hown hcx
      go_wp2
      go_roundw
      case rel => exact ⟨k + 1, by omega, by go_num, R.1, R.2⟩
      case measure => simp [intOf]; omega
    · obtain rfl : k = m + 1 := by omega
      obtain ⟨g, cap2, rfl, hcap2, hcell⟩ := copy_cells (by omega) HL.out hown
      have hx := leastAt_lt bs HW.out m
      have HT := hide (show thereAt bs (leastAt bs m) (m + 1) = true by
        obtain ⟨j, hj, he⟩ := leastAt_mem bs m
        exact thereAt_of bs _ j (m + 1) (by omega) he)
      have HLE := hide (fun j (hj : j ≤ m) => not_cmp_of_ord (leastAt_le bs m j hj))
      have hLS := least_calls g m cap2 bs hm hcap2 wr HW.out hcell
      have HC := hide hcell
      have HLS := hide hLS
      clear hcell hown hLS
      have hz : ((m : Int) + 1 == 0) = false := beq_eq_false_iff_ne.2 (by omega)
      obtain ⟨x, hxe⟩ : ∃ x, x = leastAt bs m := ⟨_, rfl⟩
      rw [← hxe] at hx HT HLE HLS
      clear hxe
      go_wp2_with (go_at_call 23; refine HLS.out.mono ?_; rintro _ w1 ⟨rfl, hw1⟩; obtain rfl : wr = w1 := hw1.symm)
      go_loop [7, 8] (fun t i => ∃ j : Nat, j ≤ m + 1 ∧ i = .int .i64 j ∧ t = .bool (thereAt bs x j)) (fun _ i => m + 1 - (intOf i).toNat)
      case atStart => exact ⟨0, Nat.zero_le _, rfl, rfl⟩
      case round =>
        obtain ⟨j, hj, rfl, rfl⟩ := hrel
        by_cases hlt2 : j < m + 1
        · have hcj := HC.out j hlt2
          have hly : bs.getD j 0 < whole := HW.out j
          have hno := HLE.out j (by omega)
          have hst : thereAt bs x (j + 1) = (thereAt bs x j || ((bs.getD j 0 : Int) == (x : Int))) := rfl
          obtain ⟨y, hy⟩ : ∃ y, y = bs.getD j 0 := ⟨_, rfl⟩
          rw [← hy] at hcj hly hno hst
          have HST := hide hst
          clear hst hy
          cases ht : thereAt bs x j
          all_goals go_wp2_with (first
            | (go_at_call 18; refine (compare_calls _ _ (by with_reducible assumption) (by with_reducible assumption) _).mono ?_; rintro _ w1 ⟨rfl, hw1⟩; obtain rfl : wr = w1 := hw1.symm)
            | (go_at_call 15; refine (same_calls _ _ _).mono ?_; rintro _ w1 ⟨rfl, hw1⟩; obtain rfl : wr = w1 := hw1.symm))
          all_goals refine ⟨⟨j + 1, by omega, by go_num, ?_⟩, by simp [intOf]; omega⟩
          · rw [HST.out, ht, Bool.false_or]
          · rw [HST.out, ht, Bool.true_or]
        · obtain rfl : j = m + 1 := by omega
          have ht := HT.out
          go_wp2
          go_ret
          exact ⟨rfl, hnx⟩

/-- Of an empty row, wherever it lies. -/
theorem bitsLeast_none (ao : Option Addr) (cap : Nat) (w : World) :
    Calls Try.prog 6 #[.slice ao 0 cap] w fun e w' => e = .returned (.bool true) ∧ Below w.heap.size w w' := by
  go_enter Try.func6, Try.ntmps6
  go_wp2_with (go_at_call 9; refine (known_calls _).mono ?_; rintro _ w1 ⟨rfl, hw1⟩; obtain rfl : w = w1 := hw1.symm)
  refine wp_loop_rounds 1 ?_
  rw [rounds_succ]
  go_wp2_with (first
    | (go_at_call 23; refine (least_none _ _ _).mono ?_; rintro _ w1 ⟨rfl, hw1⟩; obtain rfl : w = w1 := hw1.symm)
    | (go_at_call 15; refine (same_calls _ _ _).mono ?_; rintro _ w1 ⟨rfl, hw1⟩; obtain rfl : w = w1 := hw1.symm))
  go_ret
  exact ⟨rfl, Below.refl _ _⟩

/-- Of more than two hundred. -/
theorem bitsLeast_many (ao : Option Addr) (len cap : Nat) (w : World) (h : 200 < len) (hm : len ≤ maxLen) :
    Calls Try.prog 6 #[.slice ao len cap] w fun e w' => e = .returned (.bool true) ∧ Below w.heap.size w w' := by
  unfold maxLen at hm
  go_enter Try.func6, Try.ntmps6
  go_wp2_with (go_at_call 9; refine (known_calls _).mono ?_; rintro _ w1 ⟨rfl, hw1⟩; obtain rfl : w = w1 := hw1.symm)
  go_ret
  exact ⟨rfl, Below.refl _ _⟩
end Go.Proofs.Ytfabhfllobjbkaa

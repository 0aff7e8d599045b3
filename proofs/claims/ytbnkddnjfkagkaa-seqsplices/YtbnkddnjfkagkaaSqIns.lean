/-
  Ids of rialtohelp at two equal rows, as its text runs; an index as a law sees it, plain.
-/
import Derived.Test.YtbnkddnjfkagkaaSqIx
namespace Go.Proofs.Ytbnkddnjfkagkaa
open Go.ChangeShapes Go.WideShapes Go.ChangeAt Go.RowKit
set_option linter.unusedVariables false
set_option maxRecDepth 100000
attribute [local go_sem ↓] Go.wp_at_zero Go.wp_at_succ

set_option maxHeartbeats 4000000 in
theorem ids_same (X Y : Nat → Prop) (v u : Value) (l : List Int) (w : World) (h1 : Rd (Value.int .i64) X w v l) (h2 : Rd (Value.int .i64) Y w u l) (hl : l.length ≤ 1000000) :
    Calls Try.prog 22 #[v, u] w fun e w' => e = .returned (.bool true) ∧ Up w w' := by
  obtain ⟨a1, n1, c1, rfl, hn1, -⟩ := h1.sliceN
  obtain ⟨a2, n2, c2, rfl, hn2, -⟩ := h2.sliceN
  obtain rfl : n1 = n2 := by rw [hn1.out, hn2.out]
  have H1 := hide h1
  have H2 := hide h2
  have hn6 : n1 ≤ 1000000 := by rw [hn1.out]; exact hl
  have HN : Hid (n1 = l.length) := hn1
  clear h1 h2 hl hn1 hn2
  go_enter Try.func22, Try.ntmps22
  go_wp2_with fail
  go_loopw [5] (fun iv wr => ∃ i : Nat, i ≤ n1 ∧ iv = .int .i64 i ∧ Hid (Up w wr)) (fun iv _ => n1 - (intOf iv).toNat)
  case atStart => exact ⟨0, Nat.zero_le _, rfl, Up.refl _⟩
  case round =>
    obtain ⟨i, hi, rfl, hu⟩ := hrel
    by_cases hlt : i < n1
    · have hlt' : (i : Int) < (n1 : Int) := by omega
      have i0 : (0 : Int) ≤ (i : Int) := by omega
      have hil : i < l.length := by rw [← HN.out]; exact hlt
      obtain ⟨g1, o1, rfl, hg1⟩ := (H1.out.up hu.out).get (i := i) hil
      obtain ⟨g2, o2, rfl, hg2⟩ := (H2.out.up hu.out).get (i := i) hil
      obtain ⟨x, hx, c1', c2'⟩ : ∃ x, x = l[i] ∧ wr.cell? ⟨g1, o1 + i, none⟩ = some (.int .i64 x) ∧ wr.cell? ⟨g2, o2 + i, none⟩ = some (.int .i64 x) := ⟨l[i], rfl, hg1, hg2⟩
      have e1 : IntKind.i64.wrap ((i : Int) + 1) = (i : Int) + 1 := by rw [IntKind.wrap_i64]; omega
      clear hg1 hg2 hx hil
      go_wp2_with fail
      go_quiet (fail)
      have HU5 := hide (hu.out.drewN nq)
      generalize wr.drewN nq = W5 at *
      go_wp2
      go_roundw
      case rel => exact ⟨i + 1, by omega, by first | rfl | congr 1, HU5⟩
      case measure => simp [intOf]; omega
    · obtain rfl : n1 = i := by omega
      have hlt' : ¬ (n1 : Int) < (n1 : Int) := by omega
      go_wp2
      go_ret
      exact ⟨rfl, hu.out⟩
theorem up_of_tm {w w1 w2 : World} {T M : Nat} (hu : Up w w1) (hT : w.heap.size ≤ T) (hM : w.heap.size ≤ M) (hc : Chg (TM T M) w1 w2) : Up w w2 :=
  ((Chg.of_up (C := TM T M) hu).trans hc (fun _ _ h => h)).up (fun x hx e => by rcases e with e | e <;> omega)
/-- A sequence that was made since w, with at most N nodes written. -/
def SqIn (w : World) (p T M : Nat) (xs : List Int) (N : Nat) (wr : World) : Prop := ∃ h n f, SqIx (fun _ => False) p T M xs h n f wr ∧ n ≤ N ∧ Up w wr
theorem SqIn.up {w wr w' : World} {p T M N : Nat} {xs : List Int} (i : SqIn w p T M xs N wr) (hu : Up wr w') : SqIn w p T M xs N w' := by
  obtain ⟨h, n, f, i, hn, h0⟩ := i
  exact ⟨h, n, f, i.up hu, hn, h0.trans hu⟩
theorem SqIn.of {w wr w' : World} {p T M n K N : Nat} {zs : List Int} (hT : w.heap.size ≤ T) (hM : w.heap.size ≤ M) (hu : Up w wr) (d : SqDone (fun _ => False) p T M zs n K wr w') (hN : n + K ≤ N) : SqIn w p T M zs N w' := by
  obtain ⟨h', k, f', i, hk, hc⟩ := d
  exact ⟨h', n + k, f', i, by omega, up_of_tm hu hT hM hc⟩
theorem wf64_small {x : Int} (h : -1000000 ≤ x ∧ x ≤ 1000000) : wf64 x := wf64_of (by omega) (by omega)
theorem SqIn.lts {w wr : World} {p T M N : Nat} {xs : List Int} (i : SqIn w p T M xs N wr) : T < wr.heap.size ∧ M < wr.heap.size := by
  obtain ⟨_, _, _, ix, _, _⟩ := i
  exact ⟨ix.ltT, ix.ltM⟩
/-- A row that a call told. -/
def Told (w : World) (l : List Int) (v : Value) (w' : World) : Prop := Own 2 (Value.int .i64) w' w.heap.size v l
theorem Told.rd {w wr w' : World} {p T M N : Nat} {xs l : List Int} {v : Value} (o : Told wr l v w') (i : SqIn w p T M xs N wr) : Rd (Value.int .i64) (TM T M) w' v l :=
  Own.rd o (fun g hg e => by
    have := (Own.lt o g hg).1
    have := i.lts
    rcases e with e | e <;> omega)
/-- The numbers from 1 on. -/
def ups (i : Nat) : List Int := (List.range i).map (fun (j : Nat) => (j : Int) + 1)
theorem ups_len (i : Nat) : (ups i).length = i := by unfold ups; simp
theorem ups_succ (i : Nat) : ups i ++ [(i : Int) + 1] = ups (i + 1) := by
  unfold ups
  rw [List.range_succ, List.map_append]
  rfl
theorem ups_mem (i : Nat) (v : Int) : v ∈ ups i ↔ 1 ≤ v ∧ v ≤ i := by
  unfold ups
  rw [List.mem_map]
  constructor
  · rintro ⟨j, hj, rfl⟩
    have := List.mem_range.1 hj
    omega
  · rintro ⟨h1, h2⟩
    exact ⟨(v - 1).toNat, List.mem_range.2 (by omega), by omega⟩
/-- Just the numbers from 1 to k, in whatever order. -/
def AllIn (k : Nat) (xs : List Int) : Prop := xs.length = k ∧ ∀ v : Int, v ∈ xs ↔ 1 ≤ v ∧ v ≤ k
theorem ins_back {xs : List Int} {a : Nat} (ha : a < xs.length) : insL (xs.getD a 0) (delL xs a) a = xs := by
  apply List.ext_getElem?
  intro k
  have hl := delL_len xs a ha
  rw [insL_get _ _ (by omega)]
  by_cases h1 : k < a
  · rw [if_pos h1, delL_get xs ha, if_pos h1]
  · rw [if_neg h1]
    by_cases h2 : k = a
    · subst h2; rw [if_pos rfl, getD_in xs ha, List.getElem?_eq_getElem ha]
    · rw [if_neg h2, delL_get xs ha, if_neg (by omega), show k - 1 + 1 = k by omega]
end Go.Proofs.Ytbnkddnjfkagkaa

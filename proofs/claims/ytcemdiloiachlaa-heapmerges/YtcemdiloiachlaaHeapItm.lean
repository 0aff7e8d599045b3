/-
  The statements' own helps on items: the order less, same, items (package rialtolaw8); as their text runs.
-/
import Derived.Test.YtcemdiloiachlaaHeapLstI
namespace Go.Proofs.Ytcemdiloiachlaa
open Go.ChangeShapes Go.WideShapes Go.ChangeAt Go.RowKit
set_option linter.unusedVariables false

/-- An item's rank: its number. -/
def rkI (e : ETI) : Int := e.1
theorem before_less : BeforeI 13 rkI where
  enter _ _ := by kernel_rfl
  asks a b w := by
    obtain ⟨a0, a1⟩ := a
    obtain ⟨b0, b1⟩ := b
    unfold askB rkI eValI
    go_enter Try.func13, Try.ntmps13
    go_wp2
    go_ret
    exact ⟨rfl, ((Up.refl _).alloc _).alloc _⟩

theorem retB {b c : Bool} (h : b = c) : Ending.returned (Value.bool c) = Ending.returned (Value.bool b) := by rw [h]
/-- Two items held against one another. -/
theorem run_neq_item (w : World) (a b c d : Int) : (binOp .neq 30 (.agg #[.int .i64 a, .int .i64 b]) (.agg #[.int .i64 c, .int .i64 d])).run Try.prog w = .ok (.bool (!((a == c) && (b == d)))) w := by
  rw [run_neq_struct]
  go_simp
  by_cases h : a = c <;> by_cases h' : b = d <;> simp [h, h']

set_option maxRecDepth 20000 in
set_option maxHeartbeats 4000000 in
theorem same_calls (a a' : Option Addr) (n c n' c' : Nat) (l m : List ETI) (w : World) (hn : n ≤ 1000000) (h : InEI w a n c l) (h' : InEI w a' n' c' m) :
    Calls Try.prog 11 #[.slice a n c, .slice a' n' c'] w fun e w' => e = .returned (.bool (decide (l = m))) ∧ Up w w' := by
  obtain ⟨h1, h2, h3, blk, off, h4, h5⟩ := h
  obtain ⟨k1, k2, k3, blk', off', k4, k5⟩ := h'
  by_cases hnn : n = n'
  · subst hnn
    have H5 := hide h5
    have K5 := hide k5
    have H1 := hide h1
    have K1 := hide k1
    have H4 := hide h4
    have K4 := hide k4
    clear h5 k5 h1 k1 h4 k4
    go_enter Try.func11, Try.ntmps11
    go_wp2_with fail
    go_loopw [5] (fun u wr => ∃ i : Nat, i ≤ n ∧ u = .int .i64 i ∧ Up w wr ∧ ∀ j, j < i → l.getD j eZeroI = m.getD j eZeroI) (fun u _ => n - (intOf u).toNat)
    case atStart => exact ⟨0, Nat.zero_le _, rfl, Up.refl _, fun j hj => absurd hj (Nat.not_lt_zero j)⟩
    case round =>
      obtain ⟨i, hi, rfl, hu, he⟩ := hrel
      by_cases hlt : i < n
      · have t1 : decide ((i : Int) < n) = true := decide_eq_true (by omega)
        obtain rfl := H4.out (by omega)
        obtain rfl := K4.out (by omega)
        have x0 := hu.cell (H5.out i hlt 0 _ rfl)
        have x1 := hu.cell (H5.out i hlt 1 _ rfl)
        have y0 := hu.cell (K5.out i hlt 0 _ rfl)
        have y1 := hu.cell (K5.out i hlt 1 _ rfl)
        obtain ⟨⟨p, q⟩, hx⟩ : ∃ x, x = l.getD i eZeroI := ⟨_, rfl⟩
        obtain ⟨⟨r, s⟩, hy⟩ : ∃ x, x = m.getD i eZeroI := ⟨_, rfl⟩
        rw [← hx] at x0 x1
        rw [← hy] at y0 y1
        simp only [Nat.add_zero] at x0 x1 y0 y1
        have HX := hide hx
        have HY := hide hy
        have HU := hide hu
        have HE := hide he
        clear hx hy hu he
        have hneq := run_neq_item
        by_cases heq : p = r ∧ q = s
        · have t2 : (!((p == r) && (q == s))) = false := by simp [heq.1, heq.2]
          go_wp2_with fail
          go_quiet (fail)
          go_wp2
          go_roundw
          case rel =>
            refine ⟨i + 1, by omega, by go_num, HU.out.trans ((Up.refl _).drewN _), fun j hj => ?_⟩
            rcases Nat.lt_succ_iff_lt_or_eq.1 hj with hj | rfl
            · exact HE.out j hj
            · rw [← HX.out, ← HY.out, heq.1, heq.2]
          case measure => simp [intOf]; omega
        · have t2 : (!((p == r) && (q == s))) = true := by simp; omega
          have hfin : Hid (decide (l = m) = false) := decide_eq_false (fun e => heq (by have h := HX.out; rw [e, ← HY.out] at h; cases h; exact ⟨rfl, rfl⟩))
          go_wp2_with fail
          go_quiet (fail)
          go_wp2
          go_ret
          exact ⟨retB hfin.out, HU.out.trans ((Up.refl _).drewN _)⟩
      · have t1 : decide ((i : Int) < n) = false := decide_eq_false (by omega)
        have hfin : Hid (decide (l = m) = true) := decide_eq_true (by
          refine List.ext_getElem (by rw [H1.out, K1.out]) (fun j hj hj' => ?_)
          have := he j (by rw [H1.out] at hj; omega)
          rwa [List.getD_eq_getElem?_getD, List.getD_eq_getElem?_getD, List.getElem?_eq_getElem hj, List.getElem?_eq_getElem hj'] at this)
        have HU := hide hu
        clear hu he
        go_wp2
        go_ret
        exact ⟨retB hfin.out, HU.out⟩
  · have t1 : ((n : Int) != n') = true := by rw [bne_iff_ne]; omega
    have hfin : Hid (decide (l = m) = false) := decide_eq_false (fun e => hnn (by rw [← h1, ← k1, e]))
    clear h1 k1 h5 k5 h4 k4
    go_enter Try.func11, Try.ntmps11
    go_wp2
    go_ret
    exact ⟨retB hfin.out, Up.refl _⟩

/-- What items makes of numbers. -/
def itemsL (l : List Int) : List ETI := l.mapIdx (fun i x => (x.tdiv 8, (i : Int)))
theorem itemsL_length (l : List Int) : (itemsL l).length = l.length := by simp [itemsL]
theorem itemsL_take (l : List Int) {i : Nat} (hi : i < l.length) : itemsL (l.take (i + 1)) = itemsL (l.take i) ++ [((l.getD i 0).tdiv 8, (i : Int))] := by
  have e : l.take (i + 1) = l.take i ++ [l.getD i 0] := by
    rw [List.take_add_one, List.getElem?_eq_getElem hi, List.getD_eq_getElem?_getD, List.getElem?_eq_getElem hi]
    rfl
  rw [e, itemsL, List.mapIdx_append, itemsL]
  have hl : (l.take i).length = i := by rw [List.length_take]; omega
  simp [hl]
def cells8 (x : Int) : List Value := [.int .i8 x]
abbrev In8 := InG (E := Int) 1 cells8 0

set_option maxRecDepth 20000 in
set_option maxHeartbeats 4000000 in
theorem items_calls (a : Option Addr) (n c : Nat) (l : List Int) (w : World) (hn : n ≤ 100000) (h : In8 w a n c l) (hr : ∀ i, -128 ≤ l.getD i 0 ∧ l.getD i 0 ≤ 127) :
    Calls Try.prog 9 #[.slice a n c] w fun e w' => ∃ v, e = .returned v ∧ OwnEI w' w.heap.size v (itemsL l) ∧ Up w w' := by
  obtain ⟨h1, h2, h3, blk, off, h4, h5⟩ := h
  have H5 := hide h5
  have H1 := hide h1
  have H4 := hide h4
  have HR := hide hr
  clear h5 h1 h4 hr
  go_enter Try.func9, Try.ntmps9
  go_wp2_with fail
  go_loopw [3, 4] (fun v u wr => ∃ i : Nat, i ≤ n ∧ u = .int .i64 i ∧ OwnEI wr w.heap.size v (itemsL (l.take i)) ∧ Up w wr) (fun _ u _ => n - (intOf u).toNat)
  case atStart => exact ⟨0, Nat.zero_le _, rfl, OwnG.nil _ _ _ _ _, Up.refl _⟩
  case round =>
    obtain ⟨i, hi, rfl, ho, hu⟩ := hrel
    by_cases hlt : i < n
    · have t1 : decide ((i : Int) < n) = true := decide_eq_true (by omega)
      obtain rfl := H4.out (by omega)
      have x0 := hu.cell (H5.out i hlt 0 _ rfl)
      have hrx := HR.out i
      have hnew := itemsL_take l (i := i) (by rw [H1.out]; exact hlt)
      obtain ⟨x, hx⟩ : ∃ x, x = l.getD i 0 := ⟨_, rfl⟩
      rw [← hx] at x0 hrx hnew
      simp only [Nat.add_zero, Nat.mul_one] at x0
      have hol : (itemsL (l.take i)).length = i := by rw [itemsL_length, List.length_take, H1.out]; omega
      have HNEW := hide hnew
      have HO := hide ho
      have HU := hide hu
      have hsz := hu.size
      clear hnew ho hu hx
      obtain ⟨r1, r2⟩ := hrx
      go_wp2_with (at_builtin; refine append_eI rfl _ _ rfl w.heap.size _ (itemsL (l.take i)) rfl (OwnG.alloc HO.out _) _ _ (x.tdiv 8, (i : Int)) rfl (eI_new (x.tdiv 8, (i : Int))) (by omega) (by simp; omega) ?_)
      intro v3 w3 ho3 hg3
      have hu3 : Hid (Up w w3) := OwnG.below ((HU.out.alloc _).below) (by simp; omega) (OwnG.alloc HO.out _) hg3
      rw [← HNEW.out] at ho3
      replace ho3 := hide ho3
      clear hg3
      go_wp2
      go_roundw
      case rel => exact ⟨i + 1, by omega, by go_num, ho3.out, hu3.out⟩
      case measure => simp [intOf]; omega
    · have t1 : decide ((i : Int) < n) = false := decide_eq_false (by omega)
      have hfin : l.take i = l := List.take_of_length_le (by rw [H1.out]; omega)
      rw [hfin] at ho
      replace ho := hide ho
      replace hu := hide hu
      go_wp2
      go_ret
      exact ⟨_, rfl, ho.out, hu.out⟩

end Go.Proofs.Ytcemdiloiachlaa

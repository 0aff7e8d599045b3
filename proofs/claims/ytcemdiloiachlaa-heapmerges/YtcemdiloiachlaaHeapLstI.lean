/-
  What the landed Least and Sort answer of items, as their text runs.
-/
import Derived.Test.YtcemdiloiachlaaHeapFstI
import Derived.Test.YtcemdiloiachlaaHeapLay
namespace Go.Proofs.Ytcemdiloiachlaa
open Go.ChangeShapes Go.WideShapes Go.ChangeAt Go.RowKit
set_option linter.unusedVariables false
attribute [local go_sem] run_store_func

theorem info_runI : (Try.prog.info? 60).map (fun i => (i.zero, i.size, i.bytes)) = some (some (.agg #[.slice none 0 0, .int .i64 0, .nilFunc]), 3, 40) := by kernel_rfl
theorem make_runI {w : World} {ops : Array Oper} {rest : List Oper} {o : Oper} {a : Act} {Q : Exit → Act → World → Prop} (hgd : o.guard = none) (x y : Operand) (ho : o.op = Op.makeSlice 58 x y) (C D : Int) (n : Nat) (hx : a.eval x = .int .i64 C) (hy : a.eval y = .int .i64 D) (hC : C = (n : Int)) (hD : D = (n : Int)) (hn : n ≤ 1000000)
    (h : ∀ w', Up w w' → (∀ o, o < n * 3 → ∃ v, w'.cell? ⟨w.heap.size, o, none⟩ = some v) → (∀ o, w'.frozen? ⟨w.heap.size, o, none⟩ = false) → w.heap.size < w'.heap.size → wpList Try.prog ops Q rest (a.put o.dst (.slice (some ⟨w.heap.size, 0, none⟩) n n)) w') : wpList Try.prog ops Q (o :: rest) a w := by
  obtain ⟨i0, hi, hz0, hz1, hz2⟩ := info_parts info_runI
  refine wpList_make_full w hgd x y 58 ho w.heap.size 60 i0 (.agg #[.slice none 0 0, .int .i64 0, .nilFunc]) 3 Try.underlying58 hi hz0 hz1 .i64 .i64 C D n hx hy hC hD (by rw [hz2]; omega) (by unfold maxLen; omega) (Nat.le_refl _) fun w' h1 h2 => h w' ?_ (fun o ho => ?_) (fun o => h1.frozenAt o) (h1.lt _ rfl).2
  · exact Below.grown (Below.refl _ _) h2 (Nat.le_refl _) (fun g hg => by cases hg)
  · have hl := h1.1
    rw [h1.cellAt o ho]
    exact ⟨_, List.getElem?_eq_getElem (by rw [hl]; exact ho)⟩

set_option maxRecDepth 20000 in
set_option maxHeartbeats 16000000 in
theorem leastI_some (fb : FuncId) (rk : ETI → Int) (hB : BeforeI fb rk) (a : Option Addr) (blk off len c : Nat) (n : Int) (l : List ETI) (w : World) (hl : l.length = len) (hlen : len < 100000) (hc : len ≤ c) (hc2 : c ≤ maxLen) (ha : 0 < len → a = some ⟨blk, off, none⟩) (hx : ∀ i, i < len → ∀ j v, (eCellsI (l.getD i eZeroI))[j]? = some v → w.cell? ⟨blk, off + i * 2 + j, none⟩ = some v) :
    Calls Try.prog 14 #[.slice a len c, .int .i64 n, .func (.func fb) #[] #[]] w fun e w' => ∃ v, e = .returned v ∧ OwnEI w' w.heap.size v ((isort rk l).take (clampN n len)) ∧ Up w w' := by
  have HX := hide hx
  have HB := hide hB
  have HL := hide hl
  have HA := hide ha
  have hcl := clampN_int n len
  have hcle := clampN_le n len
  clear hx hB hl ha
  go_enter Try.func14, Try.ntmps14
  go_wp2_with (at_make; refine make_runI rfl _ _ rfl _ _ len rfl rfl (by first | rfl | simp) (by first | rfl | simp) (by omega) ?_)
  intro w1 hu1 hs1 hf1 hz1
  have HU1 := hide hu1
  have HS1 := hide hs1
  have HF1 := hide hf1
  clear hu1 hs1 hf1
  go_wp2_with fail
  go_loopw [14] (fun u wr => ∃ i : Nat, i ≤ len ∧ u = .int .i64 i ∧ Up w wr ∧ w.heap.size < wr.heap.size ∧ (∀ o, o < len * 3 → ∃ v, wr.cell? ⟨w.heap.size, o, none⟩ = some v) ∧ (∀ o, wr.frozen? ⟨w.heap.size, o, none⟩ = false) ∧ ∀ k, k < i → RunAt fb wr w.heap.size k (oneM 2 eZeroI l blk off c k)) (fun u _ => len - (intOf u).toNat)
  case atStart => exact ⟨0, Nat.zero_le _, rfl, HU1.out, hz1, HS1.out, HF1.out, fun k hk => absurd hk (Nat.not_lt_zero k)⟩
  case round =>
    clear HU1 HS1 HF1
    obtain ⟨i, hi, rfl, hu, hz, hs, hf, hr⟩ := hrel
    by_cases hlt : i < len
    · have t1 : decide ((i : Int) < len) = true := decide_eq_true (by omega)
      obtain rfl := HA.out (by omega)
      obtain ⟨u0, s0⟩ := hs (i * 3) (by omega)
      obtain ⟨u1, s1⟩ := hs (i * 3 + 1) (by omega)
      obtain ⟨u2, s2⟩ := hs (i * 3 + 2) (by omega)
      have g0 := hf (i * 3)
      have g1 := hf (i * 3 + 1)
      have g2 := hf (i * 3 + 2)
      have hne : ¬ c = i := by omega
      obtain ⟨W, hW⟩ : ∃ W, W = set3 wr w.heap.size (i * 3) (.slice (some ⟨blk, off + i * 2, none⟩) 1 (c - i)) (.int .i64 (i : Nat)) (.func (.func fb) #[] #[]) := ⟨_, rfl⟩
      have HU : Hid (Up w W) := by rw [hW]; exact up_set3 hu (Nat.le_refl _)
      have HZ : Hid (w.heap.size < W.heap.size) := Nat.lt_of_lt_of_le hz (by rw [hW]; exact (chg_set3 (C := fun _ => True) (Chg.refl _ wr) trivial).size)
      have HS : Hid (∀ o, o < len * 3 → ∃ v, W.cell? ⟨w.heap.size, o, none⟩ = some v) := fun o ho => by rw [hW]; exact some_set3 (hs o ho)
      have HF : Hid (∀ o, W.frozen? ⟨w.heap.size, o, none⟩ = false) := fun o => by rw [hW, frozen_set3]; exact hf o
      have HR : Hid (∀ k, k < i + 1 → RunAt fb W w.heap.size k (oneM 2 eZeroI l blk off c k)) := fun k hk => by
        rw [hW]
        by_cases e : k = i
        · subst e
          have h9 := RunAt.laid (fb := fb) (w := wr) (b := w.heap.size) (i := k) (fun t ht => hs _ (by omega)) (oneM 2 eZeroI l blk off c k)
          have e9 : restV (oneM 2 eZeroI l blk off c k) = .slice (some ⟨blk, off + k * 2, none⟩) 1 (c - k) := by
            show Value.slice (some ⟨blk, off + k * 2, none⟩) 1 (c - k) = _
            rfl
          rw [e9] at h9
          exact h9
        · exact (hr k (by omega)).other e
      have hW' := hW.symm
      unfold set3 at hW'
      clear hW hu hz hs hf hr
      go_wp2
      go_roundw
      case rel =>
        exact ⟨i + 1, by omega, by go_num, HU.out, HZ.out, HS.out, HF.out, HR.out⟩
      case measure => simp [intOf]; omega
    · have t1 : decide ((i : Int) < len) = false := decide_eq_false (by omega)
      obtain rfl : i = len := by omega
      replace hu := hide hu
      replace hs := hide hs
      replace hf := hide hf
      replace hr := hide hr
      have HCALL : ∀ X : Int, X = (clampN n i : Int) → Hid (Calls Try.prog 26 #[.slice (some ⟨w.heap.size, 0, none⟩) i i, .int .i64 X] wr fun e w' => ∃ v, e = .returned v ∧ OwnEI w' wr.heap.size v ((isort rk l).take (clampN n i)) ∧ Chg (fun x => x = w.heap.size) wr w') := by
        intro X hX
        rw [hX]
        have hxl : (onesM 2 eZeroI l blk off c).length = i := by rw [onesM_length]; exact HL.out
        have := firstI_calls fb rk HB.out (some ⟨w.heap.size, 0, none⟩) w.heap.size i (clampN n i) (onesM 2 eZeroI l blk off c) (l.map (fun e => [e])) wr (by omega) (onesM_rep _ _ _ _ _ _) (by rw [ones_flatten, HL.out]; exact hcle) (fun _ => rfl) (by omega) (by omega) (by unfold maxLen; omega) (fun _ => hf.out)
          (fun q hq => by rw [onesM_getD _ _ _ _ _ _ (by rw [HL.out]; omega)]; exact hr.out q (by omega))
          (fun q hq => by
            rw [onesM_getD _ _ _ _ _ _ (by rw [HL.out]; omega)]
            refine ⟨⟨?_, ?_, ?_⟩, ?_⟩
            · show 1 ≤ c - q
              omega
            · show c - q ≤ maxLen
              omega
            · intro t ht j v hv
              obtain rfl : t = 0 := by have : t < 1 := ht; omega
              have h2 := hu.out.cell (HX.out q (by omega) j v hv)
              show wr.cell? ⟨blk, off + q * 2 + 0 * 2 + j, none⟩ = some v
              rw [Nat.zero_mul, Nat.add_zero]
              exact h2
            · show blk ≠ w.heap.size
              have h2 := World.block_lt_of_cell? w ⟨_, _, none⟩ (HX.out q (by omega) 0 _ rfl)
              exact Nat.ne_of_lt h2)
        rw [ones_first rk 2 eZeroI l blk off c (clampN n i) (by rw [HL.out]; exact hcle), hxl] at this
        exact this
      rcases (show ((i : Int) < n ∧ 0 < i) ∨ ((i : Int) < n ∧ i = 0) ∨ (¬ (i : Int) < n ∧ 0 < n) ∨ (¬ (i : Int) < n ∧ ¬ 0 < n) by omega) with ⟨q1, q2⟩ | ⟨q1, q2⟩ | ⟨q1, q2⟩ | ⟨q1, q2⟩
      all_goals
        replace HCALL := hide HCALL
        have hcl' := hcl
        try subst q2
        clear hcl
        go_wp2_with fail
        go_at_call 26
        refine (HCALL.out _ (by omega)).out.mono ?_
        rintro _ w5 ⟨v, rfl, ho5, hc5⟩
        have HO5 : Hid (OwnEI w5 w.heap.size v _) := ho5.mono hu.out.size
        have HU5 : Hid (Up w w5) := (Chg.up ((Chg.of_up (C := fun x => w.heap.size ≤ x) hu.out).trans hc5 (fun x hx h => by omega)) (fun x hx h => by omega))
        clear ho5 hc5
        go_wp2
        go_ret
        exact ⟨_, rfl, HO5.out, HU5.out⟩

abbrev InEI := InG (E := ETI) 2 eCellsI eZeroI
theorem leastI_calls (fb : FuncId) (rk : ETI → Int) (hB : BeforeI fb rk) (a : Option Addr) (len c : Nat) (n : Int) (l : List ETI) (w : World) (hlen : len < 100000) (h : InEI w a len c l) :
    Calls Try.prog 14 #[.slice a len c, .int .i64 n, .func (.func fb) #[] #[]] w fun e w' => ∃ v, e = .returned v ∧ OwnEI w' w.heap.size v ((isort rk l).take (clampN n len)) ∧ Up w w' := by
  obtain ⟨h1, h2, h3, blk, off, h4, h5⟩ := h
  exact leastI_some fb rk hB a blk off len c n l w h1 hlen h2 h3 h4 h5

set_option maxRecDepth 20000 in
set_option maxHeartbeats 4000000 in
theorem sortI_calls (fb : FuncId) (rk : ETI → Int) (hB : BeforeI fb rk) (a : Option Addr) (len c : Nat) (l : List ETI) (w : World) (hlen : len < 100000) (h : InEI w a len c l) :
    Calls Try.prog 12 #[.slice a len c, .func (.func fb) #[] #[]] w fun e w' => ∃ v, e = .returned v ∧ OwnEI w' w.heap.size v (isort rk l) ∧ Up w w' := by
  have H := hide h
  have hl := h.1
  clear h
  go_enter Try.func12, Try.ntmps12
  go_wp2_with fail
  go_at_call 14
  refine (leastI_calls fb rk hB a len c len l w hlen H.out).mono ?_
  rintro _ w1 ⟨v, rfl, ho, hu⟩
  rw [clampN_full, List.take_of_length_le (by rw [isort_length]; omega)] at ho
  replace ho := hide ho
  replace hu := hide hu
  go_wp2
  go_ret
  exact ⟨_, rfl, ho.out, hu.out⟩

end Go.Proofs.Ytcemdiloiachlaa

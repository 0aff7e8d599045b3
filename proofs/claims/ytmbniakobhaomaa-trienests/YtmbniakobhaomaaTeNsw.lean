/-
  TrieNests: the statement's text runs to true.
-/
import Derived.Test.YtmbniakobhaomaaTeNsp
namespace Go.Proofs.Ytmbniakobhaomaa
open Go.ChangeShapes Go.WideShapes Go.ChangeAt Go.RowKit
set_option linter.unusedVariables false
set_option maxRecDepth 100000
attribute [local go_sem ↓] Go.wp_at_zero Go.wp_at_succ

/-- An array of what is there. -/
def ArrN (w : World) (A : Nat) (th : Nat → Bool) : Prop := (∀ i, i < 41 → w.cell? ⟨A, i, none⟩ = some (.bool (th i))) ∧ ∀ i, w.frozen? ⟨A, i, none⟩ = false
theorem ArrN.lt {w : World} {A : Nat} {th : Nat → Bool} (h : ArrN w A th) : A < w.heap.size := World.block_lt_of_cell? w ⟨A, 0, none⟩ (h.1 0 (by decide))
theorem ArrN.chg {C : Nat → Prop} {w w' : World} {A : Nat} {th : Nat → Bool} (h : ArrN w A th) (hc : Chg C w w') (hA : ¬ C A) : ArrN w' A th :=
  ⟨fun i hi => hc.cell (h.1 i hi) hA, fun i => (hc.frozen (p := ⟨A, i, none⟩) h.lt hA).trans (h.2 i)⟩
theorem ArrN.set {w : World} {A b : Nat} {th th' : Nat → Bool} (h : ArrN w A th) (hb : b < 41) (h1 : th' b = true) (h2 : ∀ i, i < 41 → i ≠ b → th' i = th i) : ArrN (w.setCell ⟨A, b, none⟩ (.bool true)) A th' := by
  refine ⟨fun i hi => ?_, fun i => by rw [World.frozen?_setCell]; exact h.2 i⟩
  by_cases e : i = b
  · subst e
    rw [h1]
    exact World.cell?_setCell_same _ _ _ (h.1 i hi)
  · rw [h2 i hi e, World.cell?_setCell_other _ _ _ _ (fun q => e (by cases q; rfl))]
    exact h.1 i hi
/-- The statement's trie and array. -/
structure NS (w0 w : World) (T A d j : Nat) : Prop where
  tr : ∃ O kk, TrI w T O (nE d j) (cntU d j) kk ∧ kk ≤ 2 * j ∧ (∀ y, O y → w0.heap.size ≤ y) ∧ ¬ O A
  arr : ArrN w A (thU d j)
  up : Up w0 w
  ge : w0.heap.size ≤ A
theorem NS.upw {w0 w w' : World} {T A d j : Nat} (h : NS w0 w T A d j) (hu : Up w w') : NS w0 w' T A d j := by
  obtain ⟨O, kk, h1, h2, h3, h4⟩ := h.tr
  exact ⟨⟨O, kk, h1.up hu, h2, h3, h4⟩, h.arr.chg (Chg.of_up (C := fun _ => False) hu) (fun h => h), h.up.trans hu, h.ge⟩
theorem tail_dec (w : World) : True := trivial
theorem take_ba (j : Nat) : (nAll.extract 0 j).data.toList = nL.take j := topS_list nAll j
/-- One is put in, and marked. -/
theorem ns_put {w0 w : World} {T A d j : Nat} (h : NS w0 w T A d j) (hd : ¬ j % d = 0) (h1 : 1 ≤ j) (hj : j ≤ 40) :
    Calls Try.prog 9 #[.pointer (some ⟨T, 0, none⟩), .string (nAll.extract 0 j), .int .i64 j] w fun e w' => e = .returned (.int .i64 0) ∧ ArrN w' A (thU d j) ∧ (ArrN (w'.setCell ⟨A, j, none⟩ (.bool true)) A (thU d (j + 1)) → NS w0 (w'.setCell ⟨A, j, none⟩ (.bool true)) T A d (j + 1)) := by
  obtain ⟨O, kk, q1, q2, q3, q4⟩ := h.tr
  obtain ⟨e1, e2⟩ := nE_put hd h1 (show j ≤ 42 by omega)
  refine (insert_calls T O (nE d j) (cntU d j) kk (nAll.extract 0 j) j w q1 ?_ (by omega) ⟨by omega, by have := cntU_le d j; omega⟩).mono ?_
  · rw [ByteArray.size_extract]; have : nAll.size = 42 := rfl; omega
  · intro e w' ho
    unfold InsOut at ho
    rw [take_ba, if_neg e2, ← e1] at ho
    obtain ⟨he, O', r1, r2, r3⟩ := ho
    have hlt := h.arr.lt
    have ha := h.arr.chg r2 q4
    refine ⟨he, ha, fun ha2 => ?_⟩
    have hnA : ¬ O' A := fun e => by
      rcases r3 A e with h5 | h5
      · exact q4 h5
      · omega
    have hc := chg_set w' ⟨A, j, none⟩ (.bool true)
    have hcnt : ((cntU d (j + 1) : Nat) : Int) = (cntU d j : Int) + 1 := by
      rw [cntU_step, if_pos (by simp [thU, h1, hd])]
      omega
    have hs := h.up.size
    refine ⟨⟨O', kk + 2, ?_, by omega, fun y hy => ?_, hnA⟩, ha2, ?_, h.ge⟩
    · rw [hcnt]
      exact r1.chg hc (fun y hy (e : y = A) => hnA (by rw [← e]; exact hy))
    · rcases r3 y hy with h5 | h5
      · exact q3 y h5
      · omega
    · exact (((Chg.of_up (C := fun y => O y ∨ y = A) h.up).trans r2 (fun y _ h => .inl h)).trans hc (fun y _ h => .inr h)).up (fun x hx e => by
        rcases e with e | e
        · have := q3 x e; omega
        · have := h.ge; omega)

theorem meas_k (k j : Nat) (h : j ≤ k) : k + 2 - (intOf (.int .i64 ((j : Int) + 1))).toNat < k + 2 - (intOf (.int .i64 (j : Int))).toNat := by
  show k + 2 - ((j : Int) + 1).toNat < k + 2 - (j : Int).toNat
  omega
theorem thU_put {d j : Nat} (h1 : 1 ≤ j) (hd : ¬ j % d = 0) : thU d (j + 1) j = true := decide_eq_true ⟨h1, Nat.lt_succ_self j, hd⟩
theorem thU_not {d j i : Nat} (hne : i ≠ j) : thU d (j + 1) i = thU d j i := by
  unfold thU
  rw [Bool.eq_iff_iff]
  simp only [decide_eq_true_eq]
  constructor
  · rintro ⟨h1, h2, h3⟩; exact ⟨h1, by omega, h3⟩
  · rintro ⟨h1, h2, h3⟩; exact ⟨h1, by omega, h3⟩
theorem wrap_cnt (d j : Nat) (h : j ≤ 40) : wrap64 ((cntU d j : Int) + 1) = ((cntU d j + 1 : Nat) : Int) := by
  have := cntU_le d j
  rw [wrap64]
  omega
theorem want0 (d k p : Nat) : WantI d k p 1 0 false := .inl ⟨rfl, rfl, fun i hi h => by
  obtain rfl : i = 0 := by omega
  simp [thU] at h⟩
theorem cntP_1 (d k p : Nat) : cntP d k p 1 = 0 := by
  rw [cntP_step]
  simp [cntP, thU]
theorem wrap_j (j : Nat) (h : j ≤ 40) : wrap64 ((j : Int) + 1) = (j : Int) + 1 := by rw [wrap64]; omega
theorem wrap_cp (d k p j : Nat) (h : j ≤ 40) : wrap64 ((cntP d k p j : Int) + 1) = ((cntP d k p j + 1 : Nat) : Int) := by
  have := cntP_le d k p j
  rw [wrap64]
  omega
theorem cntP_yes {d k p j : Nat} (h : thU d (k + 1) j = true) (hp : p ≤ j) : cntP d k p (j + 1) = cntP d k p j + 1 := by rw [cntP_step, h]; simp [hp]
theorem cntP_no {d k p j : Nat} (h : thU d (k + 1) j = false ∨ ¬ p ≤ j) : cntP d k p (j + 1) = cntP d k p j := by
  rw [cntP_step]
  rcases h with h | h
  · rw [h]; simp
  · simp [h]
theorem p_of (P k : Nat) : ∃ p : Nat, p ≤ k ∧ (P : Int) % ((k : Int) + 1) = (p : Int) :=
  ⟨P % (k + 1), Nat.le_of_lt_succ (Nat.mod_lt P (Nat.succ_pos k)), rfl⟩
theorem ns_skip {w0 w : World} {T A d j : Nat} (h : NS w0 w T A d j) (hd : j % d = 0) : NS w0 w T A d (j + 1) ∧ cntU d (j + 1) = cntU d j := by
  obtain ⟨⟨O', kk, q1, q2, q3, q4⟩, q5, q6, q7⟩ := h
  have hz : cntU d (j + 1) = cntU d j := by
    have hne : ¬ thU d (j + 1) j = true := fun h => (of_decide_eq_true (p := 1 ≤ j ∧ j < j + 1 ∧ ¬ j % d = 0) h).2.2 hd
    rw [cntU_step, if_neg hne]
    rfl
  have hth : ∀ i, thU d (j + 1) i = thU d j i := fun i => by
    unfold thU
    rw [Bool.eq_iff_iff]
    simp only [decide_eq_true_eq]
    constructor
    · rintro ⟨h1, h2, h3⟩
      refine ⟨h1, ?_, h3⟩
      rcases Nat.lt_succ_iff_lt_or_eq.1 h2 with h4 | h4
      · exact h4
      · rw [h4] at h3
        exact absurd hd h3
    · rintro ⟨h1, h2, h3⟩; exact ⟨h1, Nat.lt_succ_of_lt h2, h3⟩
  exact ⟨⟨⟨O', kk, by rw [nE_skip hd, hz]; exact q1, by omega, q3, q4⟩, ⟨fun i hi => by rw [hth]; exact q5.1 i hi, q5.2⟩, q6, q7⟩, hz⟩
set_option maxHeartbeats 16000000 in
theorem trieNests_few (a0 a1 a2 : Int) (w : World) (h0 : 0 ≤ a0 ∧ a0 ≤ 255) (h1 : 0 ≤ a1 ∧ a1 ≤ 255) (h2 : 0 ≤ a2 ∧ a2 ≤ 255) :
    Calls Try.prog 5 #[.int .u8 a0, .int .u8 a1, .int .u8 a2] w fun e w' => e = .returned (.bool true) ∧ Up w w' := by
  obtain ⟨N, rfl⟩ : ∃ k : Nat, a0 = (k : Int) := ⟨a0.toNat, by omega⟩
  obtain ⟨M, rfl⟩ : ∃ k : Nat, a1 = (k : Int) := ⟨a1.toNat, by omega⟩
  obtain ⟨P, rfl⟩ : ∃ k : Nat, a2 = (k : Int) := ⟨a2.toNat, by omega⟩
  obtain ⟨k, hk⟩ : ∃ k : Nat, k = N % 40 + 1 := ⟨_, rfl⟩
  obtain ⟨d, hd⟩ : ∃ d : Nat, d = M % 5 + 2 := ⟨_, rfl⟩
  have ek1 : (N : Int) % 40 = (k : Int) - 1 := by omega
  have ek2 : IntKind.i64.wrap ((k : Int) - 1) = (k : Int) - 1 := by rw [IntKind.wrap_i64]; omega
  have ek3 : IntKind.i64.wrap ((k : Int) - 1 + 1) = (k : Int) := by rw [IntKind.wrap_i64]; omega
  have ek4 : (k : Int) - 1 + 1 = (k : Int) := by omega
  have hk1 : 1 ≤ k := by omega
  have hk2 : k ≤ 40 := by omega
  have HD := hide (⟨hk, hd⟩ : _ ∧ _)
  have HP := hide h2
  have HM := hide h1
  clear h0 h1 h2 hk hd
  go_enter Try.func5, Try.ntmps5
  go_wp2_with fail
  refine (known15_calls w).mono ?_
  rintro _ wk ⟨rfl, huk⟩
  replace huk := hide huk
  dsimp only
  go_wp2_with fail
  refine (trnew_calls wk).mono ?_
  rintro _ w1 ⟨T, O, rfl, hT, htr, hO, hu⟩
  have HT := hide (⟨htr, hO, hu⟩ : _ ∧ _ ∧ _)
  clear htr hO hu hT
  dsimp only
  go_wp2_with fail
  rw [show (⟨#[97, 98, 97, 98, 97, 98, 98, 97, 98, 97, 97, 98, 97, 98, 97, 98, 98, 97, 97, 98, 98, 97, 98, 97, 98, 97, 98, 97, 97, 98, 98, 98, 97, 98, 97, 98, 97, 98, 97, 97, 98, 98]⟩ : ByteArray) = nAll from rfl]
  obtain ⟨A, hA⟩ : ∃ A, A = w1.heap.size := ⟨_, rfl⟩
  obtain ⟨W2, hW2⟩ : ∃ W2, W2 = w1.alloc (.cells #[.bool false, .bool false, .bool false, .bool false, .bool false, .bool false, .bool false, .bool false, .bool false, .bool false, .bool false, .bool false, .bool false, .bool false, .bool false, .bool false, .bool false, .bool false, .bool false, .bool false, .bool false, .bool false, .bool false, .bool false, .bool false, .bool false, .bool false, .bool false, .bool false, .bool false, .bool false, .bool false, .bool false, .bool false, .bool false, .bool false, .bool false, .bool false, .bool false, .bool false, .bool false] 50) := ⟨_, rfl⟩
  have HN1 : Hid (NS w W2 T A d 1) := by
    obtain ⟨htr, hO, hu⟩ := HT.out
    have hu2 : Up w1 W2 := by rw [hW2]; exact (Up.refl _).alloc _
    obtain ⟨cs, hb, h41⟩ : ∃ cs : Array Value, W2.heap[A]? = some (.cells cs 50 (0, 0)) ∧ ∀ i, i < 41 → cs[i]? = some (.bool false) := by
      rw [hW2, hA]
      refine ⟨_, heap_alloc_new _ _, ?_⟩
      intro i hi
      match i, hi with
      | 0, _ | 1, _ | 2, _ | 3, _ | 4, _ | 5, _ | 6, _ | 7, _ | 8, _ | 9, _ | 10, _ | 11, _ | 12, _ | 13, _ | 14, _ | 15, _ | 16, _ | 17, _ | 18, _ | 19, _ | 20, _ | 21, _ | 22, _ | 23, _ | 24, _ | 25, _ | 26, _ | 27, _ | 28, _ | 29, _ | 30, _ | 31, _ | 32, _ | 33, _ | 34, _ | 35, _ | 36, _ | 37, _ | 38, _ | 39, _ | 40, _ => rfl
      | i + 41, h => omega
    have hs := huk.out.size
    have hs1 := hu.size
    refine hide ⟨⟨O, 0, ?_, by omega, fun y hy => by have := hO y hy; omega, fun e => by have := htr.lt A e; omega⟩, ⟨fun i hi => ?_, fun i => ?_⟩, huk.out.trans (hu.trans hu2), by omega⟩
    · have : cntU d 1 = 0 := by
        rw [cntU_step]
        simp [cntU, thU]
      rw [nE_0, this]
      exact htr.up hu2
    · rw [cell_of hb]
      have : thU d 1 i = false := by simp only [thU, decide_eq_false_iff_not]; omega
      rw [this]
      exact h41 i hi
    · simp only [World.frozen?, hb]; simp
  rw [← hA, ← hW2]
  replace hA := hide hA
  replace hW2 := hide hW2
  have e1 : (M : Int) % 5 = (d : Int) - 2 := by have := HD.out.2; omega
  have e2 : IntKind.i64.wrap ((d : Int) - 2) = (d : Int) - 2 := by rw [IntKind.wrap_i64]; have := HD.out.2; omega
  have e3 : IntKind.i64.wrap ((d : Int) - 2 + 2) = (d : Int) := by rw [IntKind.wrap_i64]; have := HD.out.2; omega
  have e4 : (d : Int) - 2 + 2 = (d : Int) := by omega
  have d0 : ¬ (d : Int) = 0 := by have := HD.out.2; omega
  have d2 : 2 ≤ d ∧ d ≤ 6 := by have := HD.out.2; omega
  clear HT ek1 ek2 ek3 ek4
  go_loopw [11, 12] (fun v11 v12 wr => ∃ j : Nat, 1 ≤ j ∧ j ≤ k + 1 ∧ v11 = .int .i64 (cntU d j) ∧ v12 = .int .i64 j ∧ Hid (NS w wr T A d j)) (fun _ v12 _ => k + 2 - (intOf v12).toNat)
  case atStart => exact ⟨1, Nat.le_refl _, by omega, by rw [show cntU d 1 = 0 by rw [cntU_step]; simp [cntU, thU]]; rfl, rfl, HN1⟩
  case round =>
    obtain ⟨j, hj1, hjk, rfl, rfl, hNS⟩ := hrel
    by_cases hlt : j ≤ k
    · have t1 : decide ((j : Int) ≤ (k : Int)) = true := decide_eq_true (by omega)
      have z0 : (0 : Int) ≤ (j : Int) := by omega
      have z1 : (j : Int) ≤ (nAll.size : Int) := by have : nAll.size = 42 := rfl; omega
      have hj40 : j ≤ 40 := Nat.le_trans hlt hk2
      have z2 : (j : Int) < 41 := by omega
      have hw1 : wrap64 ((j : Int) + 1) = (j : Int) + 1 := by rw [wrap64]; omega
      obtain ⟨r, hr⟩ : ∃ r, r = j % d := ⟨_, rfl⟩
      have em : (j : Int) % (d : Int) = (r : Int) := by rw [hr]; rfl
      have HR := hide hr
      clear hr
      by_cases hr0 : r = 0
      · subst hr0
        go_wp2_with fail
        obtain ⟨s1, s2⟩ := ns_skip hNS.out HR.out.symm
        have s2' : (Value.int .i64 ((cntU d j : Nat) : Int)) = .int .i64 ((cntU d (j + 1) : Nat) : Int) := by rw [s2]
        exact ⟨⟨j + 1, Nat.le_succ_of_le hj1, Nat.succ_le_succ hlt, s2', rfl, hide s1⟩, meas_k k j hlt⟩
      · have hri : ¬ (r : Int) = 0 := fun h => hr0 (Int.ofNat.inj h)
        have hnd : ¬ j % d = 0 := by rw [← HR.out]; exact hr0
        have HPT := hide (ns_put hNS.out hnd hj1 hj40)
        have HND := hide hnd
        clear hnd
        go_wp2_with fail
        refine HPT.out.mono ?_
        rintro _ w3 ⟨rfl, har, hfin⟩
        have y1 := har.1 j (Nat.lt_succ_of_le hj40)
        have y2 := har.2 j
        have HF := hide (hfin (har.set (Nat.lt_succ_of_le hj40) (thU_put hj1 HND.out) (fun i hi hne => thU_not hne)))
        have hlA := har.lt
        have hcw := wrap_cnt d j hj40
        have hc2 : cntU d (j + 1) = cntU d j + 1 := by rw [cntU_step, if_pos (thU_put hj1 HND.out)]
        have HC2 := hide hc2
        clear har hfin HPT hc2
        dsimp only
        go_wp2
        go_roundw
        case rel => exact ⟨j + 1, Nat.le_succ_of_le hj1, Nat.succ_le_succ hlt, by rw [HC2.out, hcw], rfl, HF⟩
        case measure => exact meas_k k j hlt
    · obtain rfl : j = k + 1 := by omega
      have t1 : ¬ (((k + 1 : Nat) : Int) ≤ (k : Int)) := by omega
      have ep0 : IntKind.i64.wrap (P : Int) = (P : Int) := by rw [IntKind.wrap_i64]; have := HP.out; omega
      have ep1 : IntKind.i64.wrap ((k : Int) + 1) = (k : Int) + 1 := by rw [IntKind.wrap_i64]; omega
      have hw1 : wrap64 ((k : Int) + 1) = (k : Int) + 1 := by rw [wrap64]; omega
      have k0 : ¬ ((k : Int) + 1 = 0) := by omega
      clear hlt hjk
      obtain ⟨p, hpk, ep2⟩ := p_of P k
      obtain ⟨W4, hW4⟩ : ∃ W4, W4 = wr := ⟨_, rfl⟩
      rw [← hW4] at hNS ⊢
      clear hW4
      have hst := hide (want0 d k p)
      have HC10 := hide (cntP_1 d k p)
      have HE2 := hide ep2
      go_wp2_with fail
      clear ep2 e1 e2 e3 e4 d0 d2 ep0 ep1 k0 hw1 t1
      go_loopw [14, 15, 16, 17] (fun v14 v15 v16 v17 wr => ∃ (j want : Nat) (sm : Bool), 1 ≤ j ∧ j ≤ k + 1 ∧ v14 = .int .i64 want ∧ v15 = .bool sm ∧ v16 = .int .i64 (cntP d k p j) ∧ v17 = .int .i64 j ∧ Hid (WantI d k p j want sm) ∧ Hid (NS w wr T A d (k + 1))) (fun _ _ _ v17 _ => k + 2 - (intOf v17).toNat)
      case atStart => exact ⟨1, 0, false, Nat.le_refl _, by omega, rfl, rfl, by rw [HC10.out]; rfl, rfl, hst, hNS⟩
      case round =>
        obtain ⟨j, want, sm, hj1, hjk, rfl, rfl, rfl, rfl, hWI, hN2⟩ := hrel
        have z0 : (0 : Int) ≤ (j : Int) := by omega
        by_cases hlt : j ≤ k
        · have t1 : (j : Int) ≤ (k : Int) := by omega
          have z1 : (j : Int) < 41 := by omega
          have hj40 : j ≤ 40 := Nat.le_trans hlt hk2
          have hw1 := wrap_j j hj40
          have y1 := hN2.out.arr.1 j (Nat.lt_succ_of_le hj40)
          have hcw := wrap_cp d k p j hj40
          obtain ⟨b, hb⟩ : ∃ b, thU d (k + 1) j = b := ⟨_, rfl⟩
          rw [hb] at y1
          have HBB := hide hb
          clear hb
          cases b with
          | true =>
            by_cases hjp : j ≤ p
            · have t2 : (j : Int) ≤ (p : Int) := by omega
              have hWW := hide (hWI.out.yes HBB.out hjp)
              by_cases hpj : p ≤ j
              · have t3 : (j : Int) ≥ (p : Int) := by omega
                have hcs := hide (cntP_yes HBB.out hpj)
                clear hjp hpj hWI
                go_wp2
                go_roundw
                case rel => exact ⟨j + 1, j, true, Nat.le_succ_of_le hj1, Nat.succ_le_succ hlt, rfl, rfl, by rw [hcs.out, hcw], rfl, hWW, hN2⟩
                case measure => exact meas_k k j hlt
              · have t3 : ¬ ((j : Int) ≥ (p : Int)) := by omega
                have hcs := hide (cntP_no (d := d) (k := k) (.inr hpj))
                clear hjp hWI
                go_wp2
                go_roundw
                case rel => exact ⟨j + 1, j, true, Nat.le_succ_of_le hj1, Nat.succ_le_succ hlt, rfl, rfl, by rw [hcs.out], rfl, hWW, hN2⟩
                case measure => exact meas_k k j hlt
            · have t2 : ¬ ((j : Int) ≤ (p : Int)) := by omega
              have t3 : (j : Int) ≥ (p : Int) := by omega
              have hWW := hide (hWI.out.no (fun h => hjp h.2))
              have hcs := hide (cntP_yes HBB.out (show p ≤ j by omega))
              clear hWI
              go_wp2
              go_roundw
              case rel => exact ⟨j + 1, want, sm, Nat.le_succ_of_le hj1, Nat.succ_le_succ hlt, rfl, rfl, by rw [hcs.out, hcw], rfl, hWW, hN2⟩
              case measure => exact meas_k k j hlt
          | false =>
            have hWW := hide (hWI.out.no (fun h => by rw [HBB.out] at h; exact absurd h.1 (by decide)))
            have hcs := hide (cntP_no (d := d) (k := k) (p := p) (.inl HBB.out))
            clear hWI
            go_wp2
            go_roundw
            case rel => exact ⟨j + 1, want, sm, Nat.le_succ_of_le hj1, Nat.succ_le_succ hlt, rfl, rfl, by rw [hcs.out], rfl, hWW, hN2⟩
            case measure => exact meas_k k j hlt
        · obtain rfl : j = k + 1 := by omega
          have t1 : ¬ (((k + 1 : Nat) : Int) ≤ (k : Int)) := by omega
          have hwp := hWI.out.le
          have y0 : (0 : Int) ≤ (p : Int) := by omega
          have y1 : (p : Int) ≤ (nAll.size : Int) := by have : nAll.size = 42 := rfl; omega
          have y2 : (0 : Int) ≤ (want : Int) := by omega
          have y3 : (want : Int) ≤ (nAll.size : Int) := by have : nAll.size = 42 := rfl; omega
          obtain ⟨O', kk, q1, q2, q3, q4⟩ := hN2.out.tr
          have Q1 := hide q1
          have Q2 := hide q2
          have hps : (nAll.extract 0 p).size ≤ 1000 := by rw [ByteArray.size_extract]; have : nAll.size = 42 := rfl; omega
          have HPS := hide hps
          obtain ⟨W5, hW5⟩ : ∃ W5, W5 = wr := ⟨_, rfl⟩
          rw [← hW5] at Q1 hN2 ⊢
          clear hW5 q1 q2 q3 q4 hlt hjk hps
          go_wp2_with fail
          refine (longest_calls T O' _ _ kk (nAll.extract 0 p) W5 Q1.out (by have := HPS.out; omega)).mono ?_
          rintro _ w6 ⟨t, f, rfl, hl, hu6⟩
          rw [take_ba] at hl
          obtain ⟨rfl, ht⟩ := n_long hk2 hpk hWI.out hl
          obtain rfl : t = nAll.extract 0 want := ByteArray.ext (Array.toList_inj.1 (by rw [ht, ← take_ba]))
          have HU6 := hide hu6
          clear ht hl hu6
          dsimp only
          go_wp2_with fail
          refine (prefix_calls 12 T O' _ _ kk (nAll.extract 0 p) w6 sort_few (Q1.out.up HU6.out) (by have := Q2.out; omega) HPS.out ((kids_of_chain nL (nE_chain d (k + 1))).mono (by decide))).mono ?_
          rintro _ w7 ⟨v, l, rfl, hv, hk7, hE, _, _, hu7⟩
          rw [take_ba] at hE
          have hln := n_pre hk2 hpk hE
          rw [List.length_map] at hln
          obtain ⟨va, vc, rfl⟩ : ∃ a c, v = .slice a (cntP d k p (k + 1)) c := by
            rw [← hln]
            rcases hv.2 with ⟨rfl, h0⟩ | ⟨g', cap, cur, rfl, _⟩
            · rw [h0]; exact ⟨_, _, rfl⟩
            · exact ⟨_, _, rfl⟩
          have Q7 := hide (Q1.out.up (HU6.out.trans hu7))
          have HU7 := hide (HU6.out.trans hu7)
          clear hv hk7 hE hu7 hln HU6
          dsimp only
          go_wp2_with fail
          refine (trlen_calls T O' _ _ kk w7 Q7.out).mono ?_
          rintro _ w9 ⟨rfl, hw9⟩
          obtain rfl : w7 = w9 := hw9.symm
          dsimp only
          go_wp2_with fail
          refine (trnodes_calls T O' _ _ kk w7 Q7.out).mono ?_
          rintro _ w9 ⟨nd, hfw, _, rfl, hw9⟩
          obtain rfl : w7 = w9 := hw9.symm
          have hnd := n_nodes (show k + 1 ≤ 41 by omega) hfw
          have hcu := cntU_le d (k + 1)
          have ew1 : wrap64 (2 * (cntU d (k + 1) : Int)) = 2 * (cntU d (k + 1) : Int) := by rw [wrap64]; omega
          have ew2 : wrap64 (2 * (cntU d (k + 1) : Int) + 1) = 2 * (cntU d (k + 1) : Int) + 1 := by rw [wrap64]; omega
          have t9 : (nd : Int) ≤ 2 * (cntU d (k + 1) : Int) + 1 := by omega
          have HN2 := hide hN2
          clear hfw hnd hcu
          dsimp only
          go_wp2
          go_ret
          exact ⟨rfl, hN2.out.up.trans HU7.out⟩

end Go.Proofs.Ytmbniakobhaomaa

/-
  RowBack, walked.
-/
import Derived.Test.YtaodekbpjkcpeaaRowKnw
namespace Go.Proofs.Ytaodekbpjkcpeaa
open Go.ChangeShapes Go.WideShapes Go.ChangeAt Go.RowKit
set_option linter.unusedVariables false
attribute [local go_sem ↓] Go.wp_at_zero Go.wp_at_succ
attribute [local go_sem] run_store_float

/-- A store whose rows are those from 1 on, below its next number: ten times one less each. -/
def BackR (p : Nat) (w wr : World) (R : Int → Option RD) (nx wrt : Int) (cnt : Nat) : Prop :=
  ∃ O, Sto p O wr 100 nx wrt R cnt ∧ Up w wr ∧ ∀ x, O x → w.heap.size ≤ x
theorem BackR.up {p cnt : Nat} {w wr w' : World} {R : Int → Option RD} {nx wrt : Int} (h : BackR p w wr R nx wrt cnt) (hu : Up wr w') : BackR p w w' R nx wrt cnt := by
  obtain ⟨O, h1, h4, h5⟩ := h
  exact ⟨O, h1.up hu, h4.trans hu, h5⟩
theorem BackR.step {p cnt cnt' : Nat} {w wr w' : World} {R R' : Int → Option RD} {nx nx' wrt wrt' : Int} {O O' : Nat → Prop} (h4 : Up w wr) (h5 : ∀ x, O x → w.heap.size ≤ x) (hs : Sto p O' w' 100 nx' wrt' R' cnt') (hc : Chg O wr w') (ho : ∀ y, O' y → O y ∨ wr.heap.size ≤ y) : BackR p w w' R' nx' wrt' cnt' :=
  ⟨O', hs, h4.thenChg hc (fun x hx e => by have := h5 x e; omega), fun x hx => (ho x hx).elim (h5 x) (fun h => Nat.le_trans h4.size h)⟩
/-- The rows of k insertions. -/
def tens (k : Int) : Int → Option RD := fun x => if 1 ≤ x ∧ x ≤ k then some (1, [numV (10 * (x - 1))]) else none
theorem tens_upd (k : Int) (hk : 0 ≤ k) : upd (tens k) (k + 1) (some (1, [numV (10 * k)])) = tens (k + 1) := by
  funext x
  unfold upd tens
  by_cases e : x = k + 1
  · subst e
    rw [if_pos rfl, if_pos (by omega)]
    rw [show k + 1 - 1 = k by omega]
  · rw [if_neg e]
    by_cases h : 1 ≤ x ∧ x ≤ k
    · rw [if_pos h, if_pos (by omega)]
    · rw [if_neg h, if_neg (by omega)]
theorem tens_back (k x : Int) (h : 1 ≤ x ∧ x ≤ k) : upd (upd (tens k) x none) x (some (1, [numV (10 * (x - 1))])) = tens k := by
  funext y
  by_cases e : y = x
  · subst e; rw [upd_same]; unfold tens; rw [if_pos h]
  · rw [upd_other _ _ e, upd_other _ _ e]
theorem tens_in {k x : Int} (h : 1 ≤ x ∧ x ≤ k) : tens k x = some (1, [numV (10 * (x - 1))]) := if_pos h
theorem tens_out {k x : Int} (h : k < x) : tens k x = none := if_neg (by omega)

/-- A row that a store told is none of its own, also behind another call. -/
theorem NewRow.behind {B n : Nat} {O O' : Nat → Prop} {w w' : World} {a : Option Addr} {m : List VT} (h : NewRow B w a n m) (hO : ∀ x, O x → x < B) (hc : Chg O w w') (ho : ∀ y, O' y → O y ∨ w.heap.size ≤ y) : ValsO (fun g => ¬ O' g) w' a n m := by
  have h2 := h.chg hc (fun x hx e => by have := hO x e; omega)
  exact ⟨h2.1, h.2.imp id (fun ⟨G, e, h1, h3, _⟩ => ⟨G, 0, e, fun hg => (ho G hg).elim (fun q => by have := hO G q; omega) (fun q => by omega)⟩)⟩

set_option maxRecDepth 20000 in
set_option maxHeartbeats 16000000 in
theorem rowBack_all (a b : Nat) (w : World) (ha : a < 256) (hb : b < 256) : Calls Try.prog 7 #[.int .u8 a, .int .u8 b] w fun e w' => e = .returned (.bool true) ∧ Up w w' := by
  obtain ⟨k, hk⟩ : ∃ k : Nat, k = a % 20 + 1 := ⟨_, rfl⟩
  have hk1 : 1 ≤ k ∧ k ≤ 20 := by omega
  have ek : (a : Int) % 20 + 1 = k := by omega
  clear hk
  go_enter Try.func7, Try.ntmps7
  go_wp2_with fail
  go_at_call 8
  refine (known_calls _).mono ?_
  rintro _ w1 ⟨rfl, hu1⟩
  go_wp2_with fail
  go_at_call 10
  refine (new_calls 100 w1).mono ?_
  rintro _ w2 ⟨p, O, rfl, hp, hs2, hu2, ho2⟩
  have hr0 : Hid (BackR p w w2 (tens 0) 1 0 0) := by
    refine ⟨O, ?_, hu1.trans hu2, fun x hx => Nat.le_trans hu1.size (ho2 x hx)⟩
    have e : tens 0 = fun _ => none := by funext x; exact if_neg (by omega)
    rw [e]
    exact hs2
  clear hs2 hu2 ho2 hu1 hp
  go_wp2_with fail
  go_loopw [7] (fun i wr => ∃ j : Nat, j ≤ k ∧ i = .int .i64 j ∧ BackR p w wr (tens j) (j + 1) j j) (fun i _ => k - (intOf i).toNat)
  case atStart => exact ⟨0, Nat.zero_le _, rfl, hr0.out⟩
  case round =>
    clear hr0
    obtain ⟨j, hj, rfl, hr⟩ := hrel
    by_cases hlt : j < k
    · have t3 : decide ((j : Int) < k) = true := decide_eq_true (by omega)
      obtain ⟨O, q1, q4, q5⟩ := hr
      replace q1 := hide q1
      replace q4 := hide q4
      replace q5 := hide q5
      go_wp2_with fail
      go_at_call 32
      refine (num_calls (10 * j) wr (by omega) (by omega)).mono ?_
      rintro _ w3 ⟨a3, rfl, hn3, hu3⟩
      have hs3 := hide (q1.out.up hu3)
      have hv3 := hide (hn3.valsO q1.out.olt)
      have HU3 := hide hu3
      clear hn3 hu3
      go_wp2_with fail
      go_at_call 12
      refine (insert_ok p 100 1 1 j O (j + 1) j (tens j) a3 [numV (10 * j)] w3 hs3.out (by omega) (by omega) (by omega) hv3.out (small_num _)).mono ?_
      rintro _ w4 ⟨rfl, O4, hs4, hc4, ho4⟩
      rw [tens_upd j (by omega)] at hs4
      have hr4 := hide (BackR.step (R := tens j) (wrt := j) (nx := j) (cnt := j) (q4.out.trans HU3.out) q5.out hs4 hc4 ho4)
      clear q1 q4 q5 hs3 hv3 HU3 hs4 hc4 ho4
      go_wp2
      go_roundw
      case rel => exact ⟨j + 1, by omega, by go_num, by simpa using hr4.out⟩
      case measure => simp [intOf]; omega
    · obtain rfl : j = k := by omega
      have t3 : decide ((j : Int) < j) = false := decide_eq_false (by omega)
      obtain ⟨x, hx⟩ : ∃ x : Nat, x = b % j + 1 := ⟨_, rfl⟩
      have hx1 : 1 ≤ x ∧ x ≤ j := by have := Nat.mod_lt b (show j > 0 by omega); omega
      have ex : (b : Int) % j + 1 = x := by rw [hx]; simp
      clear hx
      obtain ⟨O, q1, q4, q5⟩ := hr
      replace q1 := hide q1
      replace q4 := hide q4
      replace q5 := hide q5
      have hj0 : ¬ (j : Int) = 0 := by omega
      have hjz : ((j : Int) == 0) = false := by rw [beq_eq_false_iff_ne]; exact hj0
      go_wp2_with fail
      go_at_call 13
      have hg : tens j x = some (1, [numV (10 * ((x : Int) - 1))]) := tens_in (by omega)
      refine (get_some p 100 j O (j + 1) j x _ (tens j) wr q1.out (wf64_of (by omega) (by omega)) hg).mono ?_
      rintro _ w3 ⟨a3, rfl, hn3, hu3⟩
      replace hn3 : Hid (NewRow wr.heap.size w3 a3 1 [numV (10 * ((x : Int) - 1))]) := hn3
      have hs3 := hide (q1.out.up hu3)
      have hO := hide q1.out.olt
      replace q4 := hide (q4.out.trans hu3)
      have hsz3 := hide hu3.size
      clear q1 hu3
      dsimp only [List.length_cons, List.length_nil, Nat.zero_add]
      go_wp2_with fail
      go_at_call 23
      obtain ⟨m, hm⟩ : ∃ m, m = [numV (10 * ((x : Int) - 1))] := ⟨_, rfl⟩
      have hu4 : Up w3 (w3.alloc (Obj.cells #[.int .i64 x, .int .i64 1, .slice a3 1 1] 35)) := (Up.refl _).alloc _
      have r0 : (w3.alloc (Obj.cells #[.int .i64 x, .int .i64 1, .slice a3 1 1] 35)).cell? ⟨w3.heap.size, 0, none⟩ = some (.int .i64 x) := by go_simp
      have r1 : (w3.alloc (Obj.cells #[.int .i64 x, .int .i64 1, .slice a3 1 1] 35)).cell? ⟨w3.heap.size, 1, none⟩ = some (.int .i64 1) := by go_simp
      have r2 : (w3.alloc (Obj.cells #[.int .i64 x, .int .i64 1, .slice a3 1 1] 35)).cell? ⟨w3.heap.size, 2, none⟩ = some (.slice a3 1 1) := by go_simp
      have hs4 := hs3.out.up hu4
      have hn4 := hn3.out.up hu4
      have q44 := q4.out.trans hu4
      have hlt4 : w3.heap.size < (w3.alloc (Obj.cells #[.int .i64 x, .int .i64 1, .slice a3 1 1] 35)).heap.size := by simp
      rw [← hm] at hn4
      have HM := hide hm
      clear hs3 hn3 q4 hu4
      generalize w3.alloc (Obj.cells #[.int .i64 x, .int .i64 1, .slice a3 1 1] 35) = w4 at *
      have hB : wr.heap.size ≤ w3.heap.size := hsz3.out
      generalize hBB : w3.heap.size = B at *
      clear hBB
      refine (put_in p 100 j 1 1 O (j + 1) j x 1 _ (tens j) a3 w4 hs4 (wf64_of (by omega) (by omega)) hg).mono ?_
      rintro _ w5 ⟨rfl, hu5⟩
      replace r0 := hu5.cell r0
      replace r1 := hu5.cell r1
      replace r2 := hu5.cell r2
      have hlt5 : B < w5.heap.size := Nat.lt_of_lt_of_le hlt4 hu5.size
      have S5 := hide (hs4.up hu5)
      have N5 := hide (hn4.up hu5)
      have U5 := hide (q44.trans hu5)
      have HG := hide hg
      clear hs4 hn4 q44 hu5 hlt4 hg hm
      go_wp2_with fail
      go_at_call 21
      refine (erase_ok p 100 j O (j + 1) j x _ (tens j) w5 S5.out (wf64_of (by omega) (by omega)) HG.out (by omega)).mono ?_
      rintro _ w6 ⟨rfl, _, O6, hs6, hc6, ho6⟩
      have hnB : ¬ O B := fun e => by have := hO.out B e; omega
      replace r0 := hc6.cell r0 hnB
      replace r1 := hc6.cell r1 hnB
      replace r2 := hc6.cell r2 hnB
      have hv6 := hide (N5.out.behind hO.out hc6 ho6)
      have hnB6 : ¬ O6 B := fun e => (ho6 B e).elim hnB (fun h => by omega)
      have BR6 := BackR.step (R := tens j) (wrt := j) (nx := j) (cnt := j) U5.out q5.out hs6 hc6 ho6
      have S6 := hide hs6
      have U6 := hide (U5.out.thenChg hc6 (fun x hx e => by have := q5.out x e; omega))
      have Q6 : Hid (∀ x, O6 x → w.heap.size ≤ x) := fun x hx => (ho6 x hx).elim (q5.out x) (fun h => Nat.le_trans U5.out.size h)
      clear S5 N5 U5 hs6 hc6 ho6 BR6 hO q5 hnB
      go_wp2_with fail
      go_at_call 23
      have hsm : Small m := by rw [HM.out]; exact small_num _
      refine (put_ok p 100 1 1 (j - 1) O6 (j + 1) (j + 1) x 1 _ a3 m w6 S6.out (by omega) (upd_same _ _ _) (by omega) (by omega) (by omega) hv6.out hsm).mono ?_
      rintro _ w7 ⟨rfl, O7, hs7, hc7, ho7⟩
      rw [HM.out, tens_back j x (by omega), show j - 1 + 1 = j by omega] at hs7
      replace r0 := hc7.cell r0 hnB6
      replace r1 := hc7.cell r1 hnB6
      replace r2 := hc7.cell r2 hnB6
      have S7 := hide hs7
      have U7 := hide (U6.out.thenChg hc7 (fun x hx e => by have := Q6.out x e; omega))
      have Q7 : Hid (∀ x, O7 x → w.heap.size ≤ x) := fun x hx => (ho7 x hx).elim (Q6.out x) (fun h => Nat.le_trans U6.out.size h)
      clear S6 U6 Q6 hs7 hc7 ho7 hnB6 hv6 hsm
      go_wp2_with fail
      go_at_call 23
      refine (put_out p 100 j 0 0 O7 (j + 1) _ (j + 1) 0 (tens j) none w7 S7.out (wf64_of (by omega) (by omega)) (.inr (by omega))).mono ?_
      rintro _ w8 ⟨rfl, hu8⟩
      replace r1 := hu8.cell r1
      have S8 := hide (S7.out.up hu8)
      have U8 := hide (U7.out.trans hu8)
      clear S7 U7 hu8 r0 r2
      go_wp2_with fail
      go_at_call 13
      refine (get_some p 100 j O7 (j + 1) _ x _ (tens j) w8 S8.out (wf64_of (by omega) (by omega)) HG.out).mono ?_
      rintro _ w9 ⟨a9, rfl, hn9, hu9⟩
      replace hn9 : NewRow w8.heap.size w9 a9 1 [numV (10 * ((x : Int) - 1))] := hn9
      replace r1 := hu9.cell r1
      have S9 := S8.out.up hu9
      have U9 := U8.out.trans hu9
      obtain ⟨G, o9, rfl, hat⟩ : ∃ G o, a9 = some ⟨G, o, none⟩ ∧ w9.cell? ⟨G, o + 1, none⟩ = some (.int .i64 (10 * ((x : Int) - 1))) := by
        rcases hn9.1.2.2 with h | ⟨G, o, e, hx⟩
        · cases h
        · exact ⟨G, o, e, (hx 0 (by decide)).2.1⟩
      clear S8 U8 hn9 hu9 HM
      dsimp only [List.length_cons, List.length_nil, Nat.zero_add]
      have hu10 : Up w9 (w9.alloc (Obj.cells #[.int .i64 x, .int .i64 1, .slice (some ⟨G, o9, none⟩) 1 1] 35)) := (Up.refl _).alloc _
      have r1' := hu10.cell r1
      have hat' := hu10.cell hat
      have S10 := hide (S9.up hu10)
      have U10 := hide (U9.trans hu10)
      have z1 : (w9.alloc (Obj.cells #[.int .i64 x, .int .i64 1, .slice (some ⟨G, o9, none⟩) 1 1] 35)).cell? ⟨w9.heap.size, 1, none⟩ = some (.int .i64 1) := by go_simp
      have z2 : (w9.alloc (Obj.cells #[.int .i64 x, .int .i64 1, .slice (some ⟨G, o9, none⟩) 1 1] 35)).cell? ⟨w9.heap.size, 2, none⟩ = some (.slice (some ⟨G, o9, none⟩) 1 1) := by go_simp
      clear S9 U9 hu10
      generalize hW10 : w9.alloc (Obj.cells #[.int .i64 x, .int .i64 1, .slice (some ⟨G, o9, none⟩) 1 1] 35) = w10 at *
      have e1 : ((1 : Int) != 1) = false := by decide
      have e2 : ((10 * ((x : Int) - 1)) != (10 * ((x : Int) - 1))) = false := by simp
      go_wp2_with fail
      go_at_call 25
      refine (setNext_out p 100 j O7 (j + 1) _ j (tens j) w10 S10.out (.inr (.inr ⟨j, _, tens_in (by omega), by omega⟩))).mono ?_
      rintro _ w11 ⟨rfl, hu11⟩
      have S11 := hide (S10.out.up hu11)
      have U11 := hide (U10.out.trans hu11)
      clear S10 U10 hu11 r1 r1' hat hat' z1 z2 hW10
      go_wp2_with fail
      go_at_call 21
      refine (erase_ok p 100 j O7 (j + 1) _ j _ (tens j) w11 S11.out (wf64_of (by omega) (by omega)) (tens_in (by omega)) (by omega)).mono ?_
      rintro _ w12 ⟨rfl, _, O12, hs12, hc12, ho12⟩
      have S12 := hide hs12
      have U12 := hide (U11.out.thenChg hc12 (fun x hx e => by have := Q7.out x e; omega))
      have Q12 : Hid (∀ x, O12 x → w.heap.size ≤ x) := fun x hx => (ho12 x hx).elim (Q7.out x) (fun h => Nat.le_trans U11.out.size h)
      clear S11 U11 Q7 hs12 hc12 ho12
      go_wp2_with fail
      go_at_call 25
      refine (setNext_ok p 100 (j - 1) O12 (j + 1) _ j _ w12 S12.out (by omega) (by omega) (fun y d hy => ?_)).mono ?_
      · by_cases e : y = j
        · subst e; rw [upd_same] at hy; cases hy
        · rw [upd_other _ _ e] at hy
          unfold tens at hy
          by_cases q : 1 ≤ y ∧ y ≤ j
          · omega
          · rw [if_neg q] at hy; cases hy
      rintro _ w13 ⟨rfl, hs13, hc13⟩
      have S13 := hide hs13
      have U13 := hide (U12.out.thenChg hc13 (fun x hx e => by have := Q12.out x e; omega))
      clear S12 U12 hs13 hc13
      go_wp2_with fail
      go_at_call 32
      refine (num_calls 1 w13 (by omega) (by omega)).mono ?_
      rintro _ w14 ⟨a14, rfl, hn14, hu14⟩
      have S14 := hide (S13.out.up hu14)
      have V14 := hide (hn14.valsO S13.out.olt)
      have U14 := hide (U13.out.trans hu14)
      clear S13 U13 hn14 hu14
      go_wp2_with fail
      go_at_call 12
      refine (insert_ok p 100 1 1 (j - 1) O12 j _ _ a14 [numV 1] w14 S14.out (by omega) (by omega) (by omega) V14.out (small_num _)).mono ?_
      rintro _ w15 ⟨rfl, O15, hs15, hc15, ho15⟩
      have U15 := hide (U14.out.thenChg hc15 (fun x hx e => by have := Q12.out x e; omega))
      clear S14 V14 U14 Q12 hs15 hc15 ho15
      go_wp2
      go_ret
      exact ⟨by simp, U15.out⟩

end Go.Proofs.Ytaodekbpjkcpeaa
